/- What was read is read so with more bytes behind it; so a part of what was written is none. -/
import Derived.Test.YteikbpkjikacmaaGreatDoorCD10
namespace Go.Proofs.YteikbpkjikacmaaGreatDoor
open Go.RowKit

theorem rdAt_more (l m : List Int) (s k : Nat) (h : s ≤ l.length) : rdAt (l ++ m) s k = rdAt l s k := by
  unfold rdAt; rw [List.take_append_of_le_length h]
theorem getR_more (l m : List Int) (h : (getR l).2.2 = 0) : getR (l ++ m) = getR l := by
  have h0 : l ≠ [] := by intro e; subst e; cases h
  have hl : 0 < l.length := List.length_pos_iff.2 h0
  have h0' : l ++ m ≠ [] := by simp [h0]
  have hd : (l ++ m).getD 0 0 = l.getD 0 0 := by
    rw [List.getD_eq_getElem?_getD, List.getD_eq_getElem?_getD, List.getElem?_append_left hl]
  by_cases h1 : spanN (l.getD 0 0) = 1
  · rw [getR_one h0 h1, getR_one h0' (by rw [hd]; exact h1), hd]
  · obtain ⟨s, hs, hs1⟩ : ∃ s : Nat, spanN (l.getD 0 0) = s ∧ s ≠ 1 := by
      rcases spanN_cases (l.getD 0 0) with ⟨_, h2⟩ | ⟨_, h2⟩ | ⟨_, h2⟩ | ⟨_, _, _, h2⟩
      · exact ⟨3, h2, by omega⟩
      · exact ⟨5, h2, by omega⟩
      · exact ⟨9, h2, by omega⟩
      · exact absurd h2 h1
    by_cases hlt : l.length < s
    · rw [getR_short h0 hs hs1 hlt] at h; cases h
    · rw [getR_long h0 hs hs1 (by omega), getR_long h0' (by rw [hd]; exact hs) hs1 (by rw [List.length_append]; omega), rdAt_more l m s 1 (by omega)]
/-- A reader that read all that it asked for reads the same with more behind it. -/
def Ext {α : Type} (f : RS → α × RS) : Prop := ∀ x b y v r, f (x, b) = (v, (r, false)) → b = false ∧ f (x ++ y, b) = (v, (r ++ y, false))
theorem rN_ext : Ext rN := fun x b y v r h => by
  have hr := getR_ok _ (bytes_Y x)
  unfold rN at h ⊢
  simp only at h ⊢
  rcases hr with ⟨h0, u, h1, _, h3, _, _⟩ | hbad
  · rw [if_pos h0] at h
    have e := getR_more (x.map Y) (y.map Y) h0
    rw [List.map_append, e, if_pos h0]
    injection h with ha hb
    injection hb with hb hc
    refine ⟨hc, ?_⟩
    rw [List.length_map] at h3
    rw [ha, ← hb, hc, h1, Int.toNat_natCast, List.drop_append_of_le_length h3]
  · rw [hbad] at h
    cases h
theorem rC_ext (m : Int) : Ext (rC · m) := fun x b y v r h => by
  simp only at h ⊢
  unfold rC at h
  split at h
  · rename_i hm
    obtain ⟨hb, e⟩ := rN_ext x b y v r h
    rw [h] at hm
    exact ⟨hb, by unfold rC; rw [e, if_pos hm]⟩
  · cases h
theorem rT_ext (n : Int) (hn : 0 ≤ n) : Ext (rT · n) := fun x b y v r h => by
  simp only at h ⊢
  unfold rT at h ⊢
  simp only at h ⊢
  split at h
  · rename_i hm
    injection h with ha hb
    injection hb with hb hc
    refine ⟨hc, ?_⟩
    have hl : n.toNat ≤ x.length := by omega
    rw [if_pos (by rw [List.length_append]; omega), List.take_append_of_le_length hl, List.drop_append_of_le_length hl, ha, hb, hc]
  · cases h
theorem rH_ext : Ext rH := fun x b y v r h => by
  unfold rH at h
  injection h with ha hb
  simp only at ha
  obtain ⟨e0, e⟩ := rT_ext 32 (by omega) x b y (rT (x, b) 32).1 r (Prod.ext rfl hb)
  refine ⟨e0, ?_⟩
  have hl : 32 ≤ x.length := by
    by_cases hl : 32 ≤ x.length
    · exact hl
    · unfold rT at hb; rw [if_neg (by simp only; omega)] at hb; cases hb
  unfold rH
  simp only at e ⊢
  rw [e, if_pos (by rw [List.length_append]; omega), List.take_append_of_le_length hl]
  rw [if_pos hl] at ha
  rw [ha]
end Go.Proofs.YteikbpkjikacmaaGreatDoor
