/- Contracts of the small functions of package num and of the document's own answer: Size, lead, span, fits, Round: no conditions but the arguments' ranges. -/
import Derived.Test.YtchfjbhhcdfobaaRows
import Derived.Test.YtchfjbhhcdfobaaHops
import Derived.Test.YtchfjbhhcdfobaaMath
import Derived.WalkKit
import Derived.ProofKit
import Derived.OpenShut
import Derived.Handy
import Derived.WalkSpells
namespace Go.Proofs.Ytchfjbhhcdfobaa
open Go.ChangeShapes Go.WideShapes Go.ChangeAt Go.RowKit

theorem ret_int {k : IntKind} {a b : Int} (h : a = b) : Ending.returned (.int k a) = .returned (.int k b) := by rw [h]

set_option maxHeartbeats 400000 in
theorem size_none (n : Int) (w : World) (h : n < 0 ∨ 4611686018427387904 < n) :
    Calls Try.prog 8 #[.int .i64 n] w fun e w' => e = .returned (.int .i64 0) ∧ w = w' := by
  by_cases h0 : n < 0
  all_goals
    have h1 : n < 0 ∨ 4611686018427387904 < n := h
    clear h
    try (have h2 : 4611686018427387904 < n := by omega)
    clear h1
    go_enter Try.func8, Try.ntmps8
    go_wp2
    refine wp_scope_hops 1 ?_
    go_hide hQ
    go_wp2
    go_step3
    simp only [Exit.then]
    subst hQ
    rw [hops_goto]
    refine ⟨_, rfl, ?_⟩
    go_hide hQ
    go_wp2
    subst hQ
    rw [hops_ret]
    go_ret
    exact ⟨rfl, rfl⟩

set_option maxHeartbeats 400000 in
theorem size_some (n : Int) (w : World) (h0 : 0 ≤ n) (h1 : n ≤ 4611686018427387904) :
    Calls Try.prog 8 #[.int .i64 n] w fun e w' => e = .returned (.int .i64 (sizeN n)) ∧ w = w' := by
  go_enter Try.func8, Try.ntmps8
  go_wp2
  refine wp_scope_hops 0 ?_
  go_hide hQ
  go_wp2
  all_goals
    go_step3
    go_wp2
    subst hQ
    rw [hops_ret]
    go_ret
  · exact ⟨ret_int (sizeN_1 h0 ‹_›).symm, rfl⟩
  · exact ⟨ret_int (sizeN_3 ‹_› ‹_›).symm, rfl⟩
  · exact ⟨ret_int (sizeN_5 ‹_› ‹_›).symm, rfl⟩
  · exact ⟨ret_int (sizeN_9 ‹_› ‹_›).symm, rfl⟩

/-- Size, whatever the number. -/
theorem size_any (n : Int) (w : World) :
    Calls Try.prog 8 #[.int .i64 n] w fun e w' => e = .returned (.int .i64 (sizeN n)) ∧ w = w' := by
  by_cases h : n < 0 ∨ 4611686018427387904 < n
  · rw [sizeN_none h]; exact size_none n w h
  · exact size_some n w (by omega) (by omega)

/-- Size, where it is known. -/
theorem size_is (n k : Int) (w : World) (h : sizeN n = k) :
    Calls Try.prog 8 #[.int .i64 n] w fun e w' => e = .returned (.int .i64 k) ∧ w = w' := by
  rw [← h]; exact size_any n w

theorem fits_any (n : Int) (w : World) :
    Calls Try.prog 15 #[.int .i64 n] w fun e w' => e = .returned (.bool (decide (0 ≤ n ∧ n ≤ 4611686018427387904))) ∧ w = w' := by
  by_cases h0 : 0 ≤ n
  · by_cases h1 : n ≤ 4611686018427387904
    · rw [decide_eq_true (show 0 ≤ n ∧ n ≤ 4611686018427387904 from ⟨h0, h1⟩)]
      go_enter Try.func15, Try.ntmps15
      go_wp2
      go_ret
      exact ⟨rfl, rfl⟩
    · rw [decide_eq_false (show ¬ (0 ≤ n ∧ n ≤ 4611686018427387904) from fun h => h1 h.2)]
      go_enter Try.func15, Try.ntmps15
      go_wp2
      go_ret
      exact ⟨rfl, rfl⟩
  · rw [decide_eq_false (show ¬ (0 ≤ n ∧ n ≤ 4611686018427387904) from fun h => h0 h.1)]
    go_enter Try.func15, Try.ntmps15
    go_wp2
    go_ret
    exact ⟨rfl, rfl⟩

theorem span_any (b : Int) (w : World) :
    Calls Try.prog 16 #[.int .u8 b] w fun e w' => e = .returned (.int .i64 (spanN b)) ∧ w = w' := by
  by_cases h3 : b = 253
  · subst h3
    go_enter Try.func16, Try.ntmps16
    go_wp2
    go_ret
    exact ⟨rfl, rfl⟩
  · by_cases h5 : b = 254
    · subst h5
      go_enter Try.func16, Try.ntmps16
      go_wp2
      go_ret
      exact ⟨rfl, rfl⟩
    · by_cases h9 : b = 255
      · subst h9
        go_enter Try.func16, Try.ntmps16
        go_wp2
        go_ret
        exact ⟨rfl, rfl⟩
      · have hs : spanN b = 1 := by unfold spanN; rw [if_neg h3, if_neg h5, if_neg h9]
        rw [hs]; clear hs
        have e3 : (b == 253) = false := beq_eq_false_iff_ne.2 h3
        have e5 : (b == 254) = false := beq_eq_false_iff_ne.2 h5
        have e9 : (b == 255) = false := beq_eq_false_iff_ne.2 h9
        clear h3 h5 h9
        go_enter Try.func16, Try.ntmps16
        go_wp2
        go_ret
        exact ⟨rfl, rfl⟩

theorem lead_3 (w : World) : Calls Try.prog 14 #[.int .i64 3] w fun e w' => e = .returned (.int .u8 253) ∧ w = w' := by
  go_enter Try.func14, Try.ntmps14
  go_wp2
  go_ret
  exact ⟨rfl, rfl⟩

theorem lead_5 (w : World) : Calls Try.prog 14 #[.int .i64 5] w fun e w' => e = .returned (.int .u8 254) ∧ w = w' := by
  go_enter Try.func14, Try.ntmps14
  go_wp2
  go_ret
  exact ⟨rfl, rfl⟩

theorem lead_9 (w : World) : Calls Try.prog 14 #[.int .i64 9] w fun e w' => e = .returned (.int .u8 255) ∧ w = w' := by
  go_enter Try.func14, Try.ntmps14
  go_wp2
  go_ret
  exact ⟨rfl, rfl⟩

theorem round_any (k n : Int) (w : World) (hk : 0 ≤ k) (hk2 : k ≤ 255) (hn : 1 ≤ n) (hn2 : n ≤ 65536) :
    Calls Try.prog 13 #[.int .i64 k, .int .i64 n] w fun e w' => e = .returned (.int .i64 ((k % n + n) % n)) ∧ w = w' := by
  have hm := Int.emod_nonneg k (show n ≠ 0 by omega)
  have hm2 := Int.emod_lt_of_pos k (show 0 < n by omega)
  go_enter Try.func13, Try.ntmps13
  go_wp2
  go_ret
  exact ⟨rfl, rfl⟩
end Go.Proofs.Ytchfjbhhcdfobaa
