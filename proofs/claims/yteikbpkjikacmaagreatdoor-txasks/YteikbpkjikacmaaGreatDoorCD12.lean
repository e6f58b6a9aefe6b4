/- A part of what was written is none: plain mathematics. -/
import Derived.Test.YteikbpkjikacmaaGreatDoorCD11
namespace Go.Proofs.YteikbpkjikacmaaGreatDoor
open Go.RowKit

theorem rP_ext : Ext rP := fun x b y v r h => by
  obtain ⟨a, r1, b1, e1⟩ : ∃ a r1 b1, rH (x, b) = (a, (r1, b1)) := ⟨_, _, _, rfl⟩
  obtain ⟨n, r2, b2, e2⟩ : ∃ a r1' b1', rN (r1, b1) = (a, (r1', b1')) := ⟨_, _, _, rfl⟩
  have hv : v = (rP (x, b)).1 := by rw [h]
  have h2 : (rP (x, b)).2 = (r, false) := by rw [h]
  simp only [rP, e1, e2] at h2
  injection h2 with h2 h3
  subst h2; subst h3
  obtain ⟨rfl, f2⟩ := rN_ext _ _ y _ _ e2
  obtain ⟨hb, f1⟩ := rH_ext _ _ y _ _ e1
  refine ⟨hb, Prod.ext ?_ ?_⟩
  · rw [hv]
    apply Pt.ext
    · simp only [rP, e1, f1]
    · simp only [rP, e1, f1, e2, f2]
  · simp only [rP, f1, f2]
theorem rS_ext : Ext rS := fun x b y v r h => by
  obtain ⟨a1, r1, b1, e1⟩ : ∃ a r1 b1, rN (x, b) = (a, (r1, b1)) := ⟨_, _, _, rfl⟩
  obtain ⟨a2, r2, b2, e2⟩ : ∃ a r b, rN (r1, b1) = (a, (r, b)) := ⟨_, _, _, rfl⟩
  obtain ⟨a3, r3, b3, e3⟩ : ∃ a r b, rN (r2, b2) = (a, (r, b)) := ⟨_, _, _, rfl⟩
  obtain ⟨a4, r4, b4, e4⟩ : ∃ a r b, rN (r3, b3) = (a, (r, b)) := ⟨_, _, _, rfl⟩
  obtain ⟨a5, r5, b5, e5⟩ : ∃ a r b, rN (r4, b4) = (a, (r, b)) := ⟨_, _, _, rfl⟩
  obtain ⟨a6, r6, b6, e6⟩ : ∃ a r b, rN (r5, b5) = (a, (r, b)) := ⟨_, _, _, rfl⟩
  obtain ⟨a7, r7, b7, e7⟩ : ∃ a r b, rH (r6, b6) = (a, (r, b)) := ⟨_, _, _, rfl⟩
  have hv : v = (rS (x, b)).1 := by rw [h]
  have h2 : (rS (x, b)).2 = (r, false) := by rw [h]
  simp only [rS, e1, e2, e3, e4, e5, e6, e7] at h2
  injection h2 with h2 h3
  subst h2; subst h3
  obtain ⟨rfl, f7⟩ := rH_ext _ _ y _ _ e7
  obtain ⟨rfl, f6⟩ := rN_ext _ _ y _ _ e6
  obtain ⟨rfl, f5⟩ := rN_ext _ _ y _ _ e5
  obtain ⟨rfl, f4⟩ := rN_ext _ _ y _ _ e4
  obtain ⟨rfl, f3⟩ := rN_ext _ _ y _ _ e3
  obtain ⟨rfl, f2⟩ := rN_ext _ _ y _ _ e2
  obtain ⟨hb, f1⟩ := rN_ext _ _ y _ _ e1
  refine ⟨hb, Prod.ext ?_ ?_⟩
  · rw [hv]
    apply Scr.ext <;> simp only [rS, e1, e2, e3, e4, e5, e6, e7, f1, f2, f3, f4, f5, f6, f7]
  · simp only [rS, f1, f2, f3, f4, f5, f6, f7]
theorem rX_ext : Ext rX := fun x b y v r h => by
  obtain ⟨n, r1, b1, e1⟩ : ∃ a r1 b1, rN (x, b) = (a, (r1, b1)) := ⟨_, _, _, rfl⟩
  have hn : 0 ≤ n := by have := (rN_range (x, b)).1; rwa [e1] at this
  obtain ⟨t, r2, b2, e2⟩ : ∃ a r b, rT (r1, b1) n = (a, (r, b)) := ⟨_, _, _, rfl⟩
  have hv : v = (rX (x, b)).1 := by rw [h]
  have h2 : (rX (x, b)).2 = (r, false) := by rw [h]
  simp only [rX, e1, e2] at h2 hv
  injection h2 with h2 h3
  subst h2; subst h3
  obtain ⟨rfl, f2⟩ := rT_ext n hn _ _ y _ _ e2
  obtain ⟨hb, f1⟩ := rN_ext _ _ y _ _ e1
  simp only at f2
  exact ⟨hb, by simp only [rX, f1, f2, hv]⟩
theorem rIn_ext : Ext rIn := fun x b y v r h => by
  obtain ⟨p, r1, b1, e1⟩ : ∃ a r1 b1, rP (x, b) = (a, (r1, b1)) := ⟨_, _, _, rfl⟩
  obtain ⟨n, r2, b2, e2⟩ : ∃ a r b, rN (r1, b1) = (a, (r, b)) := ⟨_, _, _, rfl⟩
  have hv : v = (rIn (x, b)).1 := by rw [h]
  have h2 : (rIn (x, b)).2 = (r, false) := by rw [h]
  simp only [rIn, e1, e2] at h2 hv
  injection h2 with h2 h3
  subst h2; subst h3
  obtain ⟨rfl, f2⟩ := rN_ext _ _ y _ _ e2
  obtain ⟨hb, f1⟩ := rP_ext _ _ y _ _ e1
  exact ⟨hb, by simp only [rIn, f1, f2, hv]⟩
theorem rOut_ext : Ext rOut := fun x b y v r h => by
  obtain ⟨p, r1, b1, e1⟩ : ∃ a r1 b1, rN (x, b) = (a, (r1, b1)) := ⟨_, _, _, rfl⟩
  obtain ⟨n, r2, b2, e2⟩ : ∃ a r b, rS (r1, b1) = (a, (r, b)) := ⟨_, _, _, rfl⟩
  have hv : v = (rOut (x, b)).1 := by rw [h]
  have h2 : (rOut (x, b)).2 = (r, false) := by rw [h]
  simp only [rOut, e1, e2] at h2 hv
  injection h2 with h2 h3
  subst h2; subst h3
  obtain ⟨rfl, f2⟩ := rS_ext _ _ y _ _ e2
  obtain ⟨hb, f1⟩ := rN_ext _ _ y _ _ e1
  exact ⟨hb, by simp only [rOut, f1, f2, hv]⟩
theorem rWit_ext : Ext rWit := fun x b y v r h => by
  obtain ⟨p, r1, b1, e1⟩ : ∃ a r1 b1, rN (x, b) = (a, (r1, b1)) := ⟨_, _, _, rfl⟩
  obtain ⟨n, r2, b2, e2⟩ : ∃ a r b, rN (r1, b1) = (a, (r, b)) := ⟨_, _, _, rfl⟩
  obtain ⟨t, r3, b3, e3⟩ : ∃ a r b, rX (r2, b2) = (a, (r, b)) := ⟨_, _, _, rfl⟩
  have hv : v = (rWit (x, b)).1 := by rw [h]
  have h2 : (rWit (x, b)).2 = (r, false) := by rw [h]
  simp only [rWit, e1, e2, e3] at h2 hv
  injection h2 with h2 h3
  subst h2; subst h3
  obtain ⟨rfl, f3⟩ := rX_ext _ _ y _ _ e3
  obtain ⟨rfl, f2⟩ := rN_ext _ _ y _ _ e2
  obtain ⟨hb, f1⟩ := rN_ext _ _ y _ _ e1
  exact ⟨hb, by simp only [rWit, f1, f2, f3, hv]⟩
theorem rMany_ext {α : Type} {f : RS → α × RS} (hf : Ext f) (k : Nat) : Ext (rMany f k) := by
  induction k with
  | zero =>
    intro x b y v r h
    rw [rMany] at h ⊢
    injection h with h1 h2
    injection h2 with h2 h3
    exact ⟨h3, by rw [h1, h2, h3]⟩
  | succ k ih =>
    intro x b y v r h
    obtain ⟨L, r1, b1, e1⟩ : ∃ a r1 b1, rMany f k (x, b) = (a, (r1, b1)) := ⟨_, _, _, rfl⟩
    obtain ⟨n, r2, b2, e2⟩ : ∃ a r b, f (r1, b1) = (a, (r, b)) := ⟨_, _, _, rfl⟩
    rw [rMany] at h ⊢
    simp only [e1, e2] at h
    injection h with hv h2
    injection h2 with h2 h3
    subst h2; subst h3
    obtain ⟨rfl, f2⟩ := hf _ _ y _ _ e2
    obtain ⟨hb, f1⟩ := ih _ _ y _ _ e1
    exact ⟨hb, by simp only [f1, f2, hv]⟩
theorem rTx_ext : Ext rTx := fun x b y v r h => by
  obtain ⟨n, r1, b1, e1⟩ : ∃ a r1 b1, rC (x, b) 100 = (a, (r1, b1)) := ⟨_, _, _, rfl⟩
  obtain ⟨I, r2, b2, e2⟩ : ∃ a r b, rMany rIn n.toNat (r1, b1) = (a, (r, b)) := ⟨_, _, _, rfl⟩
  obtain ⟨m, r3, b3, e3⟩ : ∃ a r b, rC (r2, b2) 100 = (a, (r, b)) := ⟨_, _, _, rfl⟩
  obtain ⟨O, r4, b4, e4⟩ : ∃ a r b, rMany rOut m.toNat (r3, b3) = (a, (r, b)) := ⟨_, _, _, rfl⟩
  obtain ⟨l, r5, b5, e5⟩ : ∃ a r b, rN (r4, b4) = (a, (r, b)) := ⟨_, _, _, rfl⟩
  obtain ⟨W, r6, b6, e6⟩ : ∃ a r b, rMany rWit n.toNat (r5, b5) = (a, (r, b)) := ⟨_, _, _, rfl⟩
  simp only [rTx, e1, e2, e3, e4, e5, e6] at h
  injection h with hv h2
  injection h2 with h2 h3
  subst h2; subst h3
  obtain ⟨rfl, f6⟩ := rMany_ext rWit_ext _ _ _ y _ _ e6
  obtain ⟨rfl, f5⟩ := rN_ext _ _ y _ _ e5
  obtain ⟨rfl, f4⟩ := rMany_ext rOut_ext _ _ _ y _ _ e4
  obtain ⟨rfl, f3⟩ := rC_ext 100 _ _ y _ _ e3
  obtain ⟨rfl, f2⟩ := rMany_ext rIn_ext _ _ _ y _ _ e2
  obtain ⟨hb, f1⟩ := rC_ext 100 _ _ y _ _ e1
  simp only at f1 f3
  exact ⟨hb, by simp only [rTx, f1, f2, f3, f4, f5, f6, hv]⟩
/-- With bytes less, it is none. -/
theorem dec_cut (t : TxD) (h : chkE t = 0) (k : Nat) (hk : k < (encB t).length) : (decT ((encB t).take k)).2 = 2 := by
  unfold decT
  by_cases hc : rD (rTx ((encB t).take k, false)).2 = true ∧ chkE (rTx ((encB t).take k, false)).1 = 0
  · exfalso
    have hd := hc.1
    obtain ⟨v, r, b, e⟩ : ∃ v r b, rTx ((encB t).take k, false) = (v, (r, b)) := ⟨_, _, _, rfl⟩
    rw [e] at hd
    unfold rD at hd
    simp only [Bool.and_eq_true, Bool.not_eq_true', List.isEmpty_iff] at hd
    obtain ⟨rfl, rfl⟩ := hd
    have f := (rTx_ext _ _ ((encB t).drop k) _ _ e).2
    rw [List.take_append_drop] at f
    have g : rTx (encB t, false) = (t, ([], false)) := by
      have := rTx_enc t h [] false
      rw [List.append_nil] at this
      unfold encB
      rw [if_pos h]; exact this
    rw [g] at f
    injection f with _ f
    injection f with f _
    have := congrArg List.length f
    rw [List.nil_append, List.length_drop] at this
    simp at this
    omega
  · rw [if_neg hc]
end Go.Proofs.YteikbpkjikacmaaGreatDoor
