/- AmountBack: whatever the numbers, the law returns true. No conditions. The walk. -/
import Derived.Test.YtpnjfgdccggafaaLFees
namespace Go.Proofs.Ytpnjfgdccggafaa
open Go.ChangeShapes Go.WideShapes Go.ChangeAt Go.RowKit

theorem back_out (x f : Int) (w : World) (h : x < 1 ∨ (1 ≤ x ∧ 4000000 < x) ∨ (1 ≤ x ∧ x ≤ 4000000 ∧ f < 0) ∨ (1 ≤ x ∧ x ≤ 4000000 ∧ 0 ≤ f ∧ 1099511627776 < f)) :
    Calls Try.prog 5 #[.int .i64 x, .int .i64 f] w fun e w' => e = .returned (.bool true) ∧ Below w.heap.size w w' := by
  rcases h with h1 | ⟨h1, h2⟩ | ⟨h1, h2, h3⟩ | ⟨h1, h2, h3, h4⟩
  all_goals
    go_enter Try.func5, Try.ntmps5
    go_wp2_with (go_at_call 7; refine (awake_any _).mono ?_; rintro e w' ⟨rfl, rfl⟩)
    go_ret
    exact ⟨rfl, Below.refl _ _⟩

/-- What the rate of a fee costs is at most the fee; one more of rate costs more than it. -/
theorem pays_le {x f r : Int} (hx : 1 ≤ x) (hr : r ≤ f * 1000 / x) : costN x r ≤ f := by
  have h1 : x * (f * 1000 / x) ≤ f * 1000 := Int.mul_ediv_self_le (by omega)
  have h2 : x * r ≤ x * (f * 1000 / x) := Int.mul_le_mul_of_nonneg_left hr (by omega)
  unfold costN; omega
theorem pays_gt {x f r : Int} (hx : 1 ≤ x) (hr : f * 1000 / x < r) : f < costN x r := by
  have h1 : f * 1000 < x * (f * 1000 / x + 1) := by
    have h3 := Int.lt_mul_ediv_self_add (x := f * 1000) (k := x) (by omega)
    rw [Int.mul_add]; omega
  have h2 : x * (f * 1000 / x + 1) ≤ x * r := Int.mul_le_mul_of_nonneg_left (by omega) (by omega)
  unfold costN; omega
theorem pays_next {x f : Int} (hx : 1 ≤ x) (hx2 : x ≤ 4000000) : costN x (f * 1000 / x + 1) ≤ f + 4001 := by
  have h1 : x * (f * 1000 / x) ≤ f * 1000 := Int.mul_ediv_self_le (by omega)
  unfold costN; rw [Int.mul_add]; omega
theorem cost_nonneg {x r : Int} (hx : 0 ≤ x) (hr : 0 ≤ r) : 0 ≤ costN x r := by
  have := Int.mul_nonneg hx hr
  unfold costN; omega

set_option maxHeartbeats 1000000 in
theorem back_in (x f : Int) (w : World) (hx0 : 1 ≤ x) (hx1 : x ≤ 4000000) (hf0 : 0 ≤ f) (hf1 : f ≤ 1099511627776) :
    Calls Try.prog 5 #[.int .i64 x, .int .i64 f] w fun e w' => e = .returned (.bool true) ∧ Below w.heap.size w w' := by
  have hd : 0 ≤ f * 1000 / x := Int.ediv_nonneg (by omega) (by omega)
  have G1 : Hid (RateIn f x) := ⟨⟨hf0, by omega⟩, hx0, hx1⟩
  by_cases hr : f * 1000 / x < 1000000000
  · have HR : Hid (paysN f x = f * 1000 / x) := show _ = _ by unfold paysN; omega
    have G2 : Hid (FeeIn x (f * 1000 / x)) := ⟨by omega, hx1, hd, by omega⟩
    have G3 : Hid (FeeIn x (f * 1000 / x + 1)) := ⟨by omega, hx1, by omega, by omega⟩
    have c0 := cost_nonneg (x := x) (r := f * 1000 / x) (by omega) hd
    have c1 := pays_le (x := x) (f := f) (r := f * 1000 / x) hx0 (Int.le_refl _)
    have d0 := pays_gt (x := x) (f := f) (r := f * 1000 / x + 1) hx0 (by omega)
    have d1 := pays_next (x := x) (f := f) hx0 hx1
    generalize f * 1000 / x = r at *
    have K1 : Hid (Amt (costN x r)) := ⟨c0, by omega⟩
    have K2 : Hid (Amt (costN x (r + 1))) := ⟨by omega, by omega⟩
    have H2 : Hid (∀ w, Calls Try.prog 15 #[.int .i64 x, .int .i64 r] w fun e w' => e = .returned (.tuple #[.int .i64 (costN x r), .int .i64 0]) ∧ w = w') := fun w => afee_ok x r w G2.out K1.out
    have H3 : Hid (∀ w, Calls Try.prog 15 #[.int .i64 x, .int .i64 (r + 1)] w fun e w' => e = .returned (.tuple #[.int .i64 (costN x (r + 1)), .int .i64 0]) ∧ w = w') := fun w => afee_ok x (r + 1) w G3.out K2.out
    clear G2 G3 K1 K2
    generalize costN x r = c at *
    generalize costN x (r + 1) = d at *
    have er : (r == 1000000000) = false := beq_eq_false_iff_ne.2 (by omega)
    go_enter Try.func5, Try.ntmps5
    go_wp2_with fail
    refine (arate_ok f x _ G1.out).mono ?_
    rintro e w' ⟨rfl, rfl⟩
    rw [HR.out]
    go_wp2_with fail
    refine Calls.mono (H2.out _) ?_
    rintro e w' ⟨rfl, rfl⟩
    go_wp2_with fail
    refine Calls.mono (H3.out _) ?_
    rintro e w' ⟨rfl, rfl⟩
    go_wp2_with (go_at_call 7; refine (awake_any _).mono ?_; rintro e w' ⟨rfl, rfl⟩)
    go_ret
    exact ⟨rfl, Below.refl _ _⟩
  · have HR : Hid (paysN f x = 1000000000) := show _ = _ by unfold paysN; omega
    have G2 : Hid (FeeIn x 1000000000) := ⟨by omega, hx1, by omega, by omega⟩
    have c0 := cost_nonneg (x := x) (r := 1000000000) (by omega) (by omega)
    have c1 := pays_le (x := x) (f := f) (r := 1000000000) hx0 (by omega)
    have K1 : Hid (Amt (costN x 1000000000)) := ⟨c0, by omega⟩
    have H2 : Hid (∀ w, Calls Try.prog 15 #[.int .i64 x, .int .i64 1000000000] w fun e w' => e = .returned (.tuple #[.int .i64 (costN x 1000000000), .int .i64 0]) ∧ w = w') := fun w => afee_ok x _ w G2.out K1.out
    clear G2 K1
    generalize costN x 1000000000 = c at *
    clear hr hd
    go_enter Try.func5, Try.ntmps5
    go_wp2_with fail
    refine (arate_ok f x _ G1.out).mono ?_
    rintro e w' ⟨rfl, rfl⟩
    rw [HR.out]
    go_wp2_with fail
    refine Calls.mono (H2.out _) ?_
    rintro e w' ⟨rfl, rfl⟩
    go_wp2_with (go_at_call 7; refine (awake_any _).mono ?_; rintro e w' ⟨rfl, rfl⟩)
    go_ret
    exact ⟨rfl, Below.refl _ _⟩

theorem back_any (x f : Int) (w : World) :
    Calls Try.prog 5 #[.int .i64 x, .int .i64 f] w fun e w' => e = .returned (.bool true) ∧ Below w.heap.size w w' := by
  by_cases h : 1 ≤ x ∧ x ≤ 4000000 ∧ 0 ≤ f ∧ f ≤ 1099511627776
  · exact back_in x f w h.1 h.2.1 h.2.2.1 h.2.2.2
  · exact back_out x f w (by omega)
end Go.Proofs.Ytpnjfgdccggafaa
