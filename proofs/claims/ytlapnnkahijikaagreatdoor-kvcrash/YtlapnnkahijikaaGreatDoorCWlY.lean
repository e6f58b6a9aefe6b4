/- wal: a crash within a turn, and one within the Open that follows: what the log's file holds (TornF, Ends), with power or without. -/
import Derived.Test.YtlapnnkahijikaaGreatDoorZW7
namespace Go.Proofs.YtlapnnkahijikaaGreatDoor
open Go.ChangeShapes Go.WideShapes Go.ChangeAt Go.RowKit Go.Lib

/-- What a crash leaves of a log's file: whole records and perhaps the beginning of one more, all of it safe. -/
def TornF (A : Abs) (nm : ByteArray) (X : List (List (BitVec 8))) : Prop := ∃ t, firstR t = none ∧ (frs X ++ t).length ≤ 16777216 ∧ alook nm A.L = some ⟨frs X ++ t, (frs X ++ t).length⟩
/-- A crash here leaves the ones or the others. -/
def Ends (A : Abs) (nm : ByteArray) (X Z : List (List (BitVec 8))) : Prop := ∀ m ps, Good A m → TornF (A.crash ps) nm X ∨ TornF (A.crash ps) nm Z
section
variable {A : Abs} {m : Nat} {nm : ByteArray} {X Z : List (List (BitVec 8))} {r : List (BitVec 8)}
theorem LogF.torn (h : LogF A nm X) (hb : (frs X).length ≤ 16777216) : TornF A nm X := ⟨[], firstR_nil, by rw [List.append_nil]; exact hb, by rw [List.append_nil]; exact h.1⟩
theorem torn_crash (hT : TornF A nm X) (h : Good A m) (ps : List Int) : TornF (A.crash ps) nm X := by
  obtain ⟨t, h1, h2, h3⟩ := hT
  obtain ⟨k, e, k1, k2⟩ := (crash_out h ps).2.2 nm _ h3
  have hk : k = (frs X ++ t).length := by
    have a1 : (frs X ++ t).length ≤ k := k1
    have a2 : k ≤ (frs X ++ t).length := k2 (Nat.le_refl _)
    omega
  refine ⟨t, h1, h2, ?_⟩
  rw [e, hk]
  show some (Fl.mk ((frs X ++ t).take (frs X ++ t).length) _) = _
  rw [List.take_length]
theorem TornF.ends (hT : TornF A nm X) : Ends A nm X Z := fun _ ps h => .inl (torn_crash hT h ps)
/-- Append died: none of it, all of it or a part of it stands there. -/
theorem cut_ends {t : List (BitVec 8)} {s : Nat} (hf : alook nm A.L = some ⟨frs X ++ t, s⟩) (h1 : (frs X).length ≤ s) (h2 : s ≤ (frs X ++ t).length) (ht : t = [] ∨ t = frB r) (hr : r.length ≤ 1048576) (hb : (frs X ++ frB r).length ≤ 16777216) : Ends A nm X (X ++ [r]) := fun m ps h => by
  obtain ⟨k, e, k1, k2⟩ := (crash_out h ps).2.2 nm _ hf
  have a1 : s ≤ k := k1
  have a2 : k ≤ (frs X ++ t).length := k2 h2
  have e : alook nm (A.crash ps).L = some ⟨(frs X ++ t).take k, k⟩ := e
  rw [List.length_append] at hb
  rcases ht with ht | ht
  · subst ht
    rw [List.append_nil] at e a2
    have hk : k = (frs X).length := by omega
    rw [hk, List.take_length] at e
    exact .inl ⟨[], firstR_nil, by rw [List.append_nil]; omega, by rw [List.append_nil]; exact e⟩
  · subst ht
    rw [List.length_append] at a2
    have hl : ((frB r).take (k - (frs X).length)).length = k - (frs X).length := by rw [List.length_take]; omega
    by_cases hk : k = (frs X).length + (frB r).length
    · right
      refine ⟨[], firstR_nil, by rw [List.append_nil, frs_append, frs_one, List.length_append]; omega, ?_⟩
      rw [List.append_nil, frs_append, frs_one, e, hk, ← List.length_append, List.take_length]
    · left
      refine ⟨(frB r).take (k - (frs X).length), firstR_cut r _ hr (by omega), by rw [List.length_append, hl]; omega, ?_⟩
      rw [e, List.take_append, List.take_of_length_le (by omega : (frs X).length ≤ k), List.length_append, hl]
      have : k = (frs X).length + (k - (frs X).length) := by omega
      rw [← this]
theorem torn_mend (h : Good A m) (hn : nameOK nm = true) (hn2 : nameOK (bes nm) = true) (hX : ∀ r ∈ X, r.length ≤ 1048576) (hT : TornF A nm X) : Good (mend A nm).2.1 (m + 4) ∧ TornF (mend A nm).2.1 nm X := by
  obtain ⟨t, h1, h2, h3⟩ := hT
  have hb : (frs X).length ≤ 16777216 := by rw [List.length_append] at h2; omega
  obtain ⟨g1, _, _, g4⟩ := mend_out h hn hn2 hX h1 (s := (frs X ++ t).length) (by rw [h3]; rfl) h2
  refine ⟨g1, ?_⟩
  rcases g4 with ⟨_, _, lf⟩ | ⟨_, _, e | e | e⟩
  · exact lf.torn hb
  · exact ⟨t, h1, h2, e.trans h3⟩
  · exact ⟨t, h1, h2, e⟩
  · refine ⟨[], firstR_nil, by rw [List.append_nil]; exact hb, ?_⟩
    rw [List.append_nil, e]
    have : min (frs X ++ t).length (frs X).length = (frs X).length := by rw [List.length_append]; omega
    rw [this]
theorem good_cut (h : Good A m) (n : Int) (h0 : 0 ≤ n) (h1 : n ≤ 9223372036854775807) : Good { A with counted := true, left := n } m := ⟨h.nodup, h.small, h.len, by
  obtain ⟨o1, o2, o3, o4⟩ := h.ok
  exact ⟨o1, o2, by show (-9223372036854775808 : Int) ≤ n; omega, h1⟩⟩
theorem torn_cut {n : Int} (h : TornF A nm X) : TornF { A with counted := true, left := n } nm X := h
/-- A turn, with power or without. -/
theorem now_out (h : Good A m) (hn : NameL nm) (hX : LogF A nm X) (hXl : X.length ≤ 1000) (hXs : ∀ r ∈ X, r.length ≤ 399) (kind n z : Int) :
    Good (nowA A false nm kind n z) (m + 3) ∧
    ((nowE A false nm kind n z = 0 ∧ nowD A false nm kind n z = false ∧ nowZ A (frs X).length false nm kind n z = (frs (thenR X kind n z)).length ∧ LogF (nowA A false nm kind n z) nm (thenR X kind n z)) ∨
     (nowE A false nm kind n z = 7 ∧ nowD A false nm kind n z = true ∧ Ends (nowA A false nm kind n z) nm X (thenR X kind n z))) := by
  have hfX : (frs X).length ≤ 440 * 1000 := by
    have h1 := frs_bound hXs
    have h2 : (399 + 41) * X.length ≤ 440 * 1000 := Nat.mul_le_mul_left _ hXl
    omega
  by_cases h1 : kind = 1
  · subst h1
    have hsl := saidB_length n z
    have hfb := frB_le (saidB n z)
    have e1 : nowE A false nm 1 n z = apE A false nm (saidB n z) := rfl
    have e2 : nowA A false nm 1 n z = apA A false nm (saidB n z) := rfl
    have e3 : nowZ A (frs X).length false nm 1 n z = apZ A (frs X).length false nm (saidB n z) := rfl
    have e4 : nowD A false nm 1 n z = apD A false nm (saidB n z) := rfl
    have e5 : thenR X 1 n z = X ++ [saidB n z] := rfl
    rw [e1, e2, e3, e4, e5]
    obtain ⟨g1, _, _, g4⟩ := apnd_out h hn.ok.1 hX (r := saidB n z) (by omega) (by omega)
    refine ⟨g1.mono (by omega), ?_⟩
    rcases g4 with ⟨e, d, zz, lf⟩ | ⟨e, d, _, t, s, k1, k2, k3, k4⟩
    · exact .inl ⟨e, d, by rw [zz, frs_append, frs_one, List.length_append], lf⟩
    · exact .inr ⟨e, d, cut_ends k1 k2 k3 k4 (by omega) (by rw [List.length_append]; omega)⟩
  · by_cases h2 : kind = 2
    · subst h2
      have hsm := then2_small n z
      have e1 : nowE A false nm 2 n z = rsE A false nm (thenR [] 2 n z) := rfl
      have e2 : nowA A false nm 2 n z = rsA A false nm (thenR [] 2 n z) := rfl
      have e3 : nowZ A (frs X).length false nm 2 n z = rsZ A (frs X).length false nm (thenR [] 2 n z) := rfl
      have e4 : nowD A false nm 2 n z = rsD A false nm (thenR [] 2 n z) := rfl
      rw [e1, e2, e3, e4, thenR_two]
      have hr : ∀ r ∈ thenR [] 2 n z, r.length ≤ 1048576 := fun r hr => by have := hsm.2.2 r hr; omega
      obtain ⟨g1, _, _, g4⟩ := rset_out h hn.ok.1 hn.ok.2 hX hr (by omega)
      refine ⟨g1, ?_⟩
      rcases g4 with ⟨e, d, zz, lf⟩ | ⟨e, d, _, k1⟩
      · exact .inl ⟨e, d, zz _, lf⟩
      · exact .inr ⟨e, d, TornF.ends ⟨[], firstR_nil, by rw [List.append_nil]; omega, by rw [List.append_nil]; exact k1⟩⟩
    · have e1 : nowE A false nm kind n z = 0 := by unfold nowE; rw [if_neg h1, if_neg h2]
      have e2 : nowA A false nm kind n z = A := by unfold nowA; rw [if_neg h1, if_neg h2]
      have e3 : nowZ A (frs X).length false nm kind n z = (frs X).length := by unfold nowZ; rw [if_neg h1, if_neg h2]
      have e4 : nowD A false nm kind n z = false := by unfold nowD; rw [if_neg h1, if_neg h2]
      have e5 : thenR X kind n z = X := by unfold thenR; rw [if_neg h1, if_neg h2]
      rw [e1, e2, e3, e4, e5]
      exact ⟨h.mono (by omega), .inl ⟨rfl, rfl, rfl, hX⟩⟩
end
end Go.Proofs.YtlapnnkahijikaaGreatDoor
