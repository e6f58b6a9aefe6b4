/- Contracts of amount.Valid, Add, Sub and of the document's own Money, Add: whatever the numbers; the world stays as it was. No conditions. -/
import Derived.Test.YtpnjfgdccggafaaRows
import Derived.Test.YtpnjfgdccggafaaHops
import Derived.WalkKit
import Derived.ProofKit
import Derived.OpenShut
import Derived.Handy
import Derived.WalkSpells
import Derived.Deep.RegionWith
namespace Go.Proofs.Ytpnjfgdccggafaa
open Go.ChangeShapes Go.WideShapes Go.ChangeAt Go.RowKit

/-- An amount: 0 to the most money. -/
def Amt (a : Int) : Prop := 0 ≤ a ∧ a ≤ 2100000000000000
instance (a : Int) : Decidable (Amt a) := inferInstanceAs (Decidable (_ ∧ _))

theorem avalid_yes (a : Int) (w : World) (h : Amt a) :
    Calls Try.prog 14 #[.int .i64 a] w fun e w' => e = .returned (.bool true) ∧ w = w' := by
  obtain ⟨h0, h1⟩ := h
  go_enter Try.func14, Try.ntmps14
  go_wp2
  go_ret
  exact ⟨rfl, rfl⟩

theorem avalid_no (a : Int) (w : World) (h : ¬ Amt a) :
    Calls Try.prog 14 #[.int .i64 a] w fun e w' => e = .returned (.bool false) ∧ w = w' := by
  unfold Amt at h
  by_cases h0 : 0 ≤ a
  · have h1 : ¬ a ≤ 2100000000000000 := by omega
    clear h
    go_enter Try.func14, Try.ntmps14
    go_wp2
    go_ret
    exact ⟨rfl, rfl⟩
  · clear h
    go_enter Try.func14, Try.ntmps14
    go_wp2
    go_ret
    exact ⟨rfl, rfl⟩

/-- Valid, whatever the number. -/
theorem avalid_any (a : Int) (w : World) :
    Calls Try.prog 14 #[.int .i64 a] w fun e w' => e = .returned (.bool (decide (Amt a))) ∧ w = w' := by
  by_cases h : Amt a
  · rw [decide_eq_true h]; exact avalid_yes a w h
  · rw [decide_eq_false h]; exact avalid_no a w h

theorem money_yes (a : Int) (w : World) (h : Amt a) :
    Calls Try.prog 13 #[.int .i64 a] w fun e w' => e = .returned (.bool true) ∧ w = w' := by
  obtain ⟨h0, h1⟩ := h
  go_enter Try.func13, Try.ntmps13
  go_wp2
  go_ret
  exact ⟨rfl, rfl⟩

theorem money_no (a : Int) (w : World) (h : ¬ Amt a) :
    Calls Try.prog 13 #[.int .i64 a] w fun e w' => e = .returned (.bool false) ∧ w = w' := by
  unfold Amt at h
  by_cases h0 : 0 ≤ a
  · have h1 : ¬ a ≤ 2100000000000000 := by omega
    clear h
    go_enter Try.func13, Try.ntmps13
    go_wp2
    go_ret
    exact ⟨rfl, rfl⟩
  · clear h
    go_enter Try.func13, Try.ntmps13
    go_wp2
    go_ret
    exact ⟨rfl, rfl⟩

/-- Money, whatever the number. -/
theorem money_any (a : Int) (w : World) :
    Calls Try.prog 13 #[.int .i64 a] w fun e w' => e = .returned (.bool (decide (Amt a))) ∧ w = w' := by
  by_cases h : Amt a
  · rw [decide_eq_true h]; exact money_yes a w h
  · rw [decide_eq_false h]; exact money_no a w h

/-- What Add answers: the sum, and 0; or 0, and ErrOver. -/
def addN (a b : Int) : Int := if Amt a ∧ Amt b ∧ Amt (a + b) then a + b else 0
def addE (a b : Int) : Int := if Amt a ∧ Amt b ∧ Amt (a + b) then 0 else 11

set_option maxHeartbeats 400000 in
theorem aadd_ok (a b : Int) (w : World) (ha : Amt a) (hb : Amt b) (hs : Amt (a + b)) :
    Calls Try.prog 8 #[.int .i64 a, .int .i64 b] w fun e w' => e = .returned (.tuple #[.int .i64 (a + b), .int .i64 0]) ∧ w = w' := by
  have HA : Hid (Amt a) := ha
  have HB : Hid (Amt b) := hb
  have HS : Hid (Amt (a + b)) := hs
  obtain ⟨a0, a1⟩ := ha
  obtain ⟨b0, b1⟩ := hb
  clear hs
  go_enter Try.func8, Try.ntmps8
  go_wp2
  refine wp_scope_hops 0 ?_
  go_hide hQ
  go_wp2_with (first
    | (go_at_call_of 14 (Value.int IntKind.i64 a); refine (avalid_yes a _ HA.out).mono ?_; rintro e w' ⟨rfl, rfl⟩)
    | (go_at_call_of 14 (Value.int IntKind.i64 b); refine (avalid_yes b _ HB.out).mono ?_; rintro e w' ⟨rfl, rfl⟩)
    | (go_at_call_of 14 (Value.int IntKind.i64 (a + b)); refine (avalid_yes (a + b) _ HS.out).mono ?_; rintro e w' ⟨rfl, rfl⟩))
  subst hQ
  rw [hops_ret]
  go_ret2
  exact ⟨rfl, rfl⟩

set_option maxHeartbeats 400000 in
theorem aadd_over (a b : Int) (w : World) (h : ¬ (Amt a ∧ Amt b ∧ Amt (a + b))) :
    Calls Try.prog 8 #[.int .i64 a, .int .i64 b] w fun e w' => e = .returned (.tuple #[.int .i64 0, .int .i64 11]) ∧ w = w' := by
  have H : Hid (¬ (Amt a ∧ Amt b ∧ Amt (a + b))) := h
  clear h
  by_cases ha : Amt a
  · by_cases hb : Amt b
    · have HA : Hid (Amt a) := ha
      have HB : Hid (Amt b) := hb
      have HS : Hid (¬ Amt (a + b)) := fun h => H.out ⟨ha, hb, h⟩
      obtain ⟨a0, a1⟩ := ha
      obtain ⟨b0, b1⟩ := hb
      go_enter Try.func8, Try.ntmps8
      go_wp2
      refine wp_scope_hops 1 ?_
      go_hide hQ
      go_wp2_with (first
        | (go_at_call_of 14 (Value.int IntKind.i64 a); refine (avalid_yes a _ HA.out).mono ?_; rintro e w' ⟨rfl, rfl⟩)
        | (go_at_call_of 14 (Value.int IntKind.i64 b); refine (avalid_yes b _ HB.out).mono ?_; rintro e w' ⟨rfl, rfl⟩)
        | (go_at_call_of 14 (Value.int IntKind.i64 (a + b)); refine (avalid_no (a + b) _ HS.out).mono ?_; rintro e w' ⟨rfl, rfl⟩))
      go_step3
      simp only [Exit.then]
      subst hQ
      rw [hops_goto]
      refine ⟨_, rfl, ?_⟩
      go_hide hQ
      go_wp2
      subst hQ
      rw [hops_ret]
      go_ret2
      exact ⟨rfl, rfl⟩
    · have HA : Hid (Amt a) := ha
      have HB : Hid (¬ Amt b) := hb
      clear ha hb
      go_enter Try.func8, Try.ntmps8
      go_wp2
      refine wp_scope_hops 1 ?_
      go_hide hQ
      go_wp2_with fail
      refine (avalid_yes a _ HA.out).mono ?_
      rintro e w' ⟨rfl, rfl⟩
      go_wp2_with fail
      refine (avalid_no b _ HB.out).mono ?_
      rintro e w' ⟨rfl, rfl⟩
      go_wp2
      go_step3
      simp only [Exit.then]
      subst hQ
      rw [hops_goto]
      refine ⟨_, rfl, ?_⟩
      go_hide hQ
      go_wp2
      subst hQ
      rw [hops_ret]
      go_ret2
      exact ⟨rfl, rfl⟩
  · have HA : Hid (¬ Amt a) := ha
    clear ha
    go_enter Try.func8, Try.ntmps8
    go_wp2
    refine wp_scope_hops 1 ?_
    go_hide hQ
    go_wp2_with fail
    refine (avalid_no a _ HA.out).mono ?_
    rintro e w' ⟨rfl, rfl⟩
    go_wp2
    go_step3
    simp only [Exit.then]
    subst hQ
    rw [hops_goto]
    refine ⟨_, rfl, ?_⟩
    go_hide hQ
    go_wp2
    subst hQ
    rw [hops_ret]
    go_ret2
    exact ⟨rfl, rfl⟩

/-- Add, whatever the numbers. -/
theorem aadd_any (a b : Int) (w : World) :
    Calls Try.prog 8 #[.int .i64 a, .int .i64 b] w fun e w' => e = .returned (.tuple #[.int .i64 (addN a b), .int .i64 (addE a b)]) ∧ w = w' := by
  by_cases h : Amt a ∧ Amt b ∧ Amt (a + b)
  · unfold addN addE; rw [if_pos h, if_pos h]; exact aadd_ok a b w h.1 h.2.1 h.2.2
  · unfold addN addE; rw [if_neg h, if_neg h]; exact aadd_over a b w h
/-- What Sub answers: the difference, and 0; or 0, and ErrOver. -/
def subN (a b : Int) : Int := if Amt a ∧ Amt b ∧ Amt (a - b) then a - b else 0
def subE (a b : Int) : Int := if Amt a ∧ Amt b ∧ Amt (a - b) then 0 else 11

set_option maxHeartbeats 400000 in
theorem asub_ok (a b : Int) (w : World) (ha : Amt a) (hb : Amt b) (hs : Amt (a - b)) :
    Calls Try.prog 10 #[.int .i64 a, .int .i64 b] w fun e w' => e = .returned (.tuple #[.int .i64 (a - b), .int .i64 0]) ∧ w = w' := by
  have HA : Hid (Amt a) := ha
  have HB : Hid (Amt b) := hb
  have HS : Hid (Amt (a - b)) := hs
  obtain ⟨a0, a1⟩ := ha
  obtain ⟨b0, b1⟩ := hb
  clear hs
  go_enter Try.func10, Try.ntmps10
  go_wp2
  refine wp_scope_hops 0 ?_
  go_hide hQ
  go_wp2_with (first
    | (go_at_call_of 14 (Value.int IntKind.i64 a); refine (avalid_yes a _ HA.out).mono ?_; rintro e w' ⟨rfl, rfl⟩)
    | (go_at_call_of 14 (Value.int IntKind.i64 b); refine (avalid_yes b _ HB.out).mono ?_; rintro e w' ⟨rfl, rfl⟩)
    | (go_at_call_of 14 (Value.int IntKind.i64 (a - b)); refine (avalid_yes (a - b) _ HS.out).mono ?_; rintro e w' ⟨rfl, rfl⟩))
  subst hQ
  rw [hops_ret]
  go_ret2
  exact ⟨rfl, rfl⟩

set_option maxHeartbeats 400000 in
theorem asub_over (a b : Int) (w : World) (h : ¬ (Amt a ∧ Amt b ∧ Amt (a - b))) :
    Calls Try.prog 10 #[.int .i64 a, .int .i64 b] w fun e w' => e = .returned (.tuple #[.int .i64 0, .int .i64 11]) ∧ w = w' := by
  have H : Hid (¬ (Amt a ∧ Amt b ∧ Amt (a - b))) := h
  clear h
  by_cases ha : Amt a
  · by_cases hb : Amt b
    · have HA : Hid (Amt a) := ha
      have HB : Hid (Amt b) := hb
      have HS : Hid (¬ Amt (a - b)) := fun h => H.out ⟨ha, hb, h⟩
      obtain ⟨a0, a1⟩ := ha
      obtain ⟨b0, b1⟩ := hb
      go_enter Try.func10, Try.ntmps10
      go_wp2
      refine wp_scope_hops 1 ?_
      go_hide hQ
      go_wp2_with (first
        | (go_at_call_of 14 (Value.int IntKind.i64 a); refine (avalid_yes a _ HA.out).mono ?_; rintro e w' ⟨rfl, rfl⟩)
        | (go_at_call_of 14 (Value.int IntKind.i64 b); refine (avalid_yes b _ HB.out).mono ?_; rintro e w' ⟨rfl, rfl⟩)
        | (go_at_call_of 14 (Value.int IntKind.i64 (a - b)); refine (avalid_no (a - b) _ HS.out).mono ?_; rintro e w' ⟨rfl, rfl⟩))
      go_step3
      simp only [Exit.then]
      subst hQ
      rw [hops_goto]
      refine ⟨_, rfl, ?_⟩
      go_hide hQ
      go_wp2
      subst hQ
      rw [hops_ret]
      go_ret2
      exact ⟨rfl, rfl⟩
    · have HA : Hid (Amt a) := ha
      have HB : Hid (¬ Amt b) := hb
      clear ha hb
      go_enter Try.func10, Try.ntmps10
      go_wp2
      refine wp_scope_hops 1 ?_
      go_hide hQ
      go_wp2_with fail
      refine (avalid_yes a _ HA.out).mono ?_
      rintro e w' ⟨rfl, rfl⟩
      go_wp2_with fail
      refine (avalid_no b _ HB.out).mono ?_
      rintro e w' ⟨rfl, rfl⟩
      go_wp2
      go_step3
      simp only [Exit.then]
      subst hQ
      rw [hops_goto]
      refine ⟨_, rfl, ?_⟩
      go_hide hQ
      go_wp2
      subst hQ
      rw [hops_ret]
      go_ret2
      exact ⟨rfl, rfl⟩
  · have HA : Hid (¬ Amt a) := ha
    clear ha
    go_enter Try.func10, Try.ntmps10
    go_wp2
    refine wp_scope_hops 1 ?_
    go_hide hQ
    go_wp2_with fail
    refine (avalid_no a _ HA.out).mono ?_
    rintro e w' ⟨rfl, rfl⟩
    go_wp2
    go_step3
    simp only [Exit.then]
    subst hQ
    rw [hops_goto]
    refine ⟨_, rfl, ?_⟩
    go_hide hQ
    go_wp2
    subst hQ
    rw [hops_ret]
    go_ret2
    exact ⟨rfl, rfl⟩

/-- Sub, whatever the numbers. -/
theorem asub_any (a b : Int) (w : World) :
    Calls Try.prog 10 #[.int .i64 a, .int .i64 b] w fun e w' => e = .returned (.tuple #[.int .i64 (subN a b), .int .i64 (subE a b)]) ∧ w = w' := by
  by_cases h : Amt a ∧ Amt b ∧ Amt (a - b)
  · unfold subN subE; rw [if_pos h, if_pos h]; exact asub_ok a b w h.1 h.2.1 h.2.2
  · unfold subN subE; rw [if_neg h, if_neg h]; exact asub_over a b w h
end Go.Proofs.Ytpnjfgdccggafaa
