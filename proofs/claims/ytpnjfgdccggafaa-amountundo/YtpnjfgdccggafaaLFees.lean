/- AmountFees: whatever the numbers, the law returns true. No conditions. The walk. -/
import Derived.Test.YtpnjfgdccggafaaAmC
import Derived.ShutString
import Derived.ChangeOld
import Derived.Below
namespace Go.Proofs.Ytpnjfgdccggafaa
open Go.ChangeShapes Go.WideShapes Go.ChangeAt Go.RowKit

set_option maxHeartbeats 1000000 in
/-- What the document fixes holds. -/
theorem awake_any (w : World) : Calls Try.prog 7 #[] w fun e w' => e = .returned (.bool true) ∧ w = w' := by
  go_enter Try.func7, Try.ntmps7
  go_wp2_with fail
  refine (afee_ok 1001 1000 _ (by decide) (by decide)).mono ?_
  rintro e w' ⟨rfl, rfl⟩
  rw [show costN 1001 1000 = 1001 by decide]
  go_wp2_with fail
  refine (afee_ok 1 1 _ (by decide) (by decide)).mono ?_
  rintro e w' ⟨rfl, rfl⟩
  rw [show costN 1 1 = 1 by decide]
  go_wp2_with fail
  refine (aadd_over _ _ _ (by decide)).mono ?_
  rintro e w' ⟨rfl, rfl⟩
  go_wp2_with fail
  refine (atotal_any none 0 0 [] _ (.inl rfl) rfl (Nat.le_refl _) (Nat.zero_le _)).mono ?_
  rintro e w' ⟨rfl, rfl⟩
  rw [show totN [] = 0 by decide, show totE [] = 0 by decide]
  go_wp2_with fail
  refine (avalid_yes _ _ (by decide)).mono ?_
  rintro e w' ⟨rfl, rfl⟩
  go_wp2_with fail
  refine (avalid_no _ _ (by decide)).mono ?_
  rintro e w' ⟨rfl, rfl⟩
  go_wp2_with fail
  go_ret
  exact ⟨rfl, rfl⟩

theorem feeE_range (x y : Int) : 0 ≤ feeE x y ∧ feeE x y ≤ 11 := by unfold feeE; split <;> decide
theorem rateE_range (x y : Int) : 0 ≤ rateE x y ∧ rateE x y ≤ 11 := by unfold rateE; split <;> decide
theorem addE_range (x y : Int) : 0 ≤ addE x y ∧ addE x y ≤ 11 := by unfold addE; split <;> decide
theorem totE_range (Z : List Int) : 0 ≤ totE Z ∧ totE Z ≤ 11 := by unfold totE; split <;> decide

set_option maxHeartbeats 1000000 in
theorem fees_any (x y f : Int) (w : World) :
    Calls Try.prog 4 #[.int .i64 x, .int .i64 y, .int .i64 f] w fun e w' => e = .returned (.bool true) ∧ Below w.heap.size w w' := by
  have H1 := afee_any x y w
  have H2 := rfee_any x y w
  have H3 := arate_any f x w
  have H4 := rrate_any f x w
  obtain ⟨q0, q1⟩ := feeE_range x y
  obtain ⟨s0, s1⟩ := rateE_range f x
  generalize feeN x y = p at *
  generalize feeE x y = q at *
  generalize rateN f x = r at *
  generalize rateE f x = s at *
  have G1 : Hid _ := H1
  have G2 : Hid _ := H2
  have G3 : Hid _ := H3
  have G4 : Hid _ := H4
  clear H1 H2 H3 H4
  go_enter Try.func4, Try.ntmps4
  go_wp2_with fail
  refine Calls.mono G1.out ?_
  rintro e w' ⟨rfl, rfl⟩
  go_wp2_with fail
  refine Calls.mono G2.out ?_
  rintro e w' ⟨rfl, rfl⟩
  go_wp2_with fail
  refine Calls.mono G3.out ?_
  rintro e w' ⟨rfl, rfl⟩
  go_wp2_with fail
  refine Calls.mono G4.out ?_
  rintro e w' ⟨rfl, rfl⟩
  have e1 : (p == p) = true := by simp
  have e2 : (q == q) = true := by simp
  have e3 : (r == r) = true := by simp
  have e4 : (s == s) = true := by simp
  go_wp2_with (go_at_call 7; refine (awake_any _).mono ?_; rintro e w' ⟨rfl, rfl⟩)
  go_ret
  exact ⟨rfl, Below.refl _ _⟩
end Go.Proofs.Ytpnjfgdccggafaa
