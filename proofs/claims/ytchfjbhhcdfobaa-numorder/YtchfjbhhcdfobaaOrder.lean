/- NumOrder: whatever the two numbers, the law returns true. No conditions. The other two ways, and the row. -/
import Derived.Test.YtchfjbhhcdfobaaOrdA
import Derived.ShutString
import Derived.ChangeOld
import Derived.Below
namespace Go.Proofs.Ytchfjbhhcdfobaa
open Go.ChangeShapes Go.WideShapes Go.ChangeAt Go.RowKit
open Go.ChangeMaps (open_string shut_string)
set_option linter.unusedVariables false

set_option maxHeartbeats 2000000 in
theorem order_down (a b : Int) (w : World) (ha0 : 0 ≤ a) (hb0 : 0 ≤ b) (ha1 : a ≤ 4611686018427387904) (hb1 : b ≤ 4611686018427387904) (h : b < a) :
    Calls Try.prog 6 #[.int .i64 a, .int .i64 b] w fun e w' => e = .returned (.bool true) ∧ Below w.heap.size w w' := by
  have hm := sizeN_mono hb0 ha1 (show b ≤ a by omega)
  have hs : ((strOfNums (bytesN b)).toList == (strOfNums (bytesN a)).toList) = false := str_ne hb0 hb1 ha0 ha1 (by omega)
  have he : (b == a) = false := beq_eq_false_iff_ne.2 (by omega)
  go_enter Try.func6, Try.ntmps6
  go_wp2
  go_region_with (first
    | (go_at_call 8; refine (size_any _ _).mono ?_; rintro e w' ⟨rfl, rfl⟩)
    | (go_at_call_of 7 (Value.int IntKind.i64 b); refine (put_any b _).mono ?_; rintro e wA ⟨vA, rfl, hrowA, hbelA⟩; have hsA := hrowA.string)
    | (go_at_call_of 7 (Value.int IntKind.i64 a); refine (put_any a _).mono ?_; rintro e wB ⟨vB, rfl, hrowB, hbelB⟩; have hsB := hrowB.string; have hsA2 := hrowA.stringAt hbelB)
    | (go_at_call 10; refine (awake_any _).mono ?_; rintro e wC ⟨rfl, hbelC⟩))
  all_goals go_wp2
  all_goals go_ret
  all_goals exact ⟨rfl, below_three hbelA hbelB hbelC⟩

set_option maxHeartbeats 2000000 in
theorem order_same (a : Int) (w : World) (ha0 : 0 ≤ a) (ha1 : a ≤ 4611686018427387904) :
    Calls Try.prog 6 #[.int .i64 a, .int .i64 a] w fun e w' => e = .returned (.bool true) ∧ Below w.heap.size w w' := by
  have he : (a == a) = true := by simp
  go_enter Try.func6, Try.ntmps6
  go_wp2
  go_region_with (first
    | (go_at_call 8; refine (size_any _ _).mono ?_; rintro e w' ⟨rfl, rfl⟩)
    | (go_at_call 7; have hagain := hrowA; refine (put_any a _).mono ?_; rintro e wB ⟨vB, rfl, hrowB, hbelB⟩; have hsB := hrowB.string; have hsA2 := hrowA.stringAt hbelB)
    | (go_at_call 7; refine (put_any a _).mono ?_; rintro e wA ⟨vA, rfl, hrowA, hbelA⟩; have hsA := hrowA.string)
    | (go_at_call 10; refine (awake_any _).mono ?_; rintro e wC ⟨rfl, hbelC⟩))
  all_goals go_wp2
  all_goals go_ret
  all_goals exact ⟨rfl, below_three hbelA hbelB hbelC⟩

theorem order_any (a b : Int) (w : World) :
    Calls Try.prog 6 #[.int .i64 a, .int .i64 b] w fun e w' => e = .returned (.bool true) ∧ Below w.heap.size w w' := by
  by_cases h : a < 0 ∨ b < 0 ∨ 4611686018427387904 < a ∨ 4611686018427387904 < b
  · exact order_out a b w h
  · rcases (show a < b ∨ b < a ∨ a = b by omega) with h1 | h1 | h1
    · exact order_up a b w (by omega) (by omega) (by omega) (by omega) h1
    · exact order_down a b w (by omega) (by omega) (by omega) (by omega) h1
    · subst h1
      exact order_same a w (by omega) (by omega)

theorem order_own : ownKnob Try.prog.godebug = none := by kernel_rfl

/-! ### THE ROW's STEP: WRITTEN OUT: LEAVE IT -/
set_option maxRecDepth 100000 in
theorem order_lifted (os : Os) (started : os.Started) (H : Type) (enc : TypeId × Value → H) :
    ReturnsInHanded {} Try.checked os 6 .any (Rows.numOrderSpec.pre6 enc Try.prog Try.f6 Rows.numOrderRow.domain false) (Rows.numOrderSpec.post enc Try.prog Try.f6 false true false false) := by
  refine returnsInHanded_of_change (C := Try.checked) order_own started (by kernel_rfl) Try.func6
    (ChangeSpec.witness6 (enc := enc) (C := Try.checked) false ⟨#[], #[.int .i64 0, .int .i64 0], []⟩ 8 (by kernel_rfl) (by kernel_rfl) (by kernel_rfl) (by kernel_rfl)) ?_
  intro W base args ds gs before hval0 hW hcnd _
  have hval : ∀ (j : Nat) t v, Try.f6.params[j]? = some t → args[j]? = some v → Value.okWide Try.prog W .any base t v := hval0
  have hW' := hW
  obtain ⟨p, q, hA0, hV, rfl, hfz, hnd⟩ := hW
  have hA : DataW.TrodAll enc Try.prog W 0 (fun _ => true) true Try.f6.params.toList args.toList ds p := hA0
  rw [Try.params6] at hA hval
  obtain ⟨v0, vs0, d0, ds0, p0, q0, hargs, rfl, rfl, h0, r0⟩ := trodAll_cons hA
  obtain ⟨v1, vs1, d1, ds1, p1, q1, rfl, rfl, rfl, h1, r1⟩ := trodAll_cons r0
  obtain ⟨rfl, rfl, rfl⟩ := trodAll_nil r1
  obtain rfl : args = #[v0, v1] := by cases args; simp_all
  obtain ⟨rfl, rfl⟩ := trodVars_none hV
  obtain ⟨a0, rfl, rfl, rfl, w0⟩ := open_int Try.underlying3 (hval 0 3 v0 rfl rfl) h0
  obtain ⟨a1, rfl, rfl, rfl, w1⟩ := open_int Try.underlying3 (hval 1 3 v1 rfl rfl) h1
  clear hA0 hval0
  refine (order_any a0 a1 W).mono fun e W' ⟨he, bel⟩ => ?_
  subst he
  exact ⟨_, rfl, _, _, _, [], _, [], hW', trodAll_mk1 (shut_bool Try.underlying4 _), (trodAll_cons_mk (shut_int Try.underlying3 w0) (trodAll_cons_mk (shut_int Try.underlying3 w1) trodAll_mk0)), rfl, bel.frame _, fun h => by cases h⟩

theorem order_over : Rows.numOrderRow.holds Try.pinned (OpenSpec.ofChange Rows.numOrderSpec) :=
  OpenClaim.holds_of_wide 6 Try.f6 rfl rfl rfl rfl rfl rfl rfl ⟨rfl, rfl, rfl, rfl, rfl⟩ rfl rfl rfl rfl rfl (by kernel_rfl) Try.func6 (by kernel_rfl)
    (of_decide_eq_true (by kernel_rfl)) (by unfold Func.isWrapper; first | (rw [if_pos (by decide +kernel)]; kernel_rfl) | (rw [if_neg (by decide +kernel)]; exact ⟨rfl, rfl⟩))
    (fun os started H enc _ => order_lifted os started H enc)

/-- The statement. -/
theorem numOrder_proved : Rows.NumOrderSaid :=
  order_over
end Go.Proofs.Ytchfjbhhcdfobaa
