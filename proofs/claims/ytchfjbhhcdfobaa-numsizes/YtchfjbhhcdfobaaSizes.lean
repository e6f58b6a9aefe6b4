/- NumSizes: whatever the number, the law returns true. No conditions. -/
import Derived.Test.YtchfjbhhcdfobaaNumE
import Derived.Deep.RegionWith
import Derived.Deep.CutBlock
import Derived.Deep.DeepCutAuto
import Derived.ShutString
import Derived.ChangeOld
import Derived.Below
namespace Go.Proofs.Ytchfjbhhcdfobaa
open Go.ChangeShapes Go.WideShapes Go.ChangeAt Go.RowKit
open Go.ChangeMaps (open_string shut_string)
set_option linter.unusedVariables false

theorem Row.stringLater {w w' : World} {B : Nat} {v : Value} {bs : List Int} (h : Row w B v bs) (hb : Below w.heap.size w w') : (convert 22 9 v).run Try.prog w' = .ok (.string (strOfNums bs)) w' := (h.later hb (Nat.le_refl _)).string

theorem below_chain {w a b c : World} (h1 : Below w.heap.size w a) (h2 : Below a.drew.heap.size a.drew b) (h3 : Below b.heap.size b c) : Below w.heap.size w c := by
  have s1 := h1.size
  have s2 : a.heap.size ≤ b.heap.size := h2.size
  exact (h1.drew.trans (h2.mono s1)).trans (h3.mono (by omega))

theorem val_int {k : IntKind} {a b : Int} (h : a = b) : Value.int k a = .int k b := by rw [h]

set_option maxHeartbeats 1000000 in
theorem sizes_any (n : Int) (w : World) :
    Calls Try.prog 3 #[.int .i64 n] w fun e w' => e = .returned (.bool true) ∧ Below w.heap.size w w' := by
  have hlen := bytesN_length n
  go_enter Try.func3, Try.ntmps3
  go_wp2_with fail
  refine (put_any n _).mono ?_
  rintro e w1 ⟨v1, rfl, hrow1, hbel1⟩
  obtain ⟨a, cap, hv, hB⟩ := hrow1.bytesAt (isBytes_N n)
  rw [hv] at hrow1 ⊢
  have hs1 := hrow1.string
  have hs2 : (convert 22 9 (.slice a (bytesN n).length cap)).run Try.prog w1.drew = .ok (.string (strOfNums (bytesN n))) w1.drew := hrow1.stringLater (Below.refl _ _).drew
  clear hB hv
  have HR : Hid (Row w1 w.heap.size (.slice a (bytesN n).length cap) (bytesN n)) := hrow1
  clear hrow1
  generalize (bytesN n).length = L at *
  have HL : Hid ((L : Int) = sizeN n) := hlen
  clear hlen
  have hsl : ((L : Int) == sizeN n) = true := by rw [HL.out]; simp
  have hsl2 : (sizeN n == sizeN n) = true := by simp
  go_upto_block 0 with fail
  go_cut [4] (fun t wc => t = .int .i64 (sizeN n) ∧ wc = w1)
  case first =>
    go_wp2
    all_goals go_meet
    case rel => exact ⟨val_int (sizeN_none (by omega)).symm, rfl⟩
    case rel => exact ⟨val_int (sizeN_1 (by omega) (by omega)).symm, rfl⟩
    case rel => exact ⟨val_int (sizeN_3 (by omega) (by omega)).symm, rfl⟩
    case rel => exact ⟨val_int (sizeN_5 (by omega) (by omega)).symm, rfl⟩
    case rel => exact ⟨val_int (sizeN_9 (by omega) (by omega)).symm, rfl⟩
    case rel => exact ⟨val_int (sizeN_none (by omega)).symm, rfl⟩
  case rest =>
    obtain ⟨rfl, rfl⟩ := hcut
    go_wp2
    go_region_with (first
      | (go_at_call 8; refine (size_any _ _).mono ?_; rintro e w' ⟨rfl, rfl⟩)
      | (go_at_call 9; refine (rput_any n _).mono ?_; rintro e w2 ⟨v2, rfl, hrow2, hbel2⟩; have hs3 := hrow2.string; have hs4 := HR.out.stringLater ((Below.refl _ _).drew.trans hbel2))
      | (go_at_call 10; refine (awake_any _).mono ?_; rintro e w3 ⟨rfl, hbel3⟩))
    all_goals go_wp2
    all_goals go_ret
    all_goals exact ⟨rfl, below_chain hbel1 hbel2 hbel3⟩

theorem sizes_own : ownKnob Try.prog.godebug = none := by kernel_rfl

/-! ### THE ROW's STEP: WRITTEN OUT: LEAVE IT -/
set_option maxRecDepth 100000 in
theorem sizes_lifted (os : Os) (started : os.Started) (H : Type) (enc : TypeId × Value → H) :
    ReturnsInHanded {} Try.checked os 3 .any (Rows.numSizesSpec.pre6 enc Try.prog Try.f3 Rows.numSizesRow.domain false) (Rows.numSizesSpec.post enc Try.prog Try.f3 false true false false) := by
  refine returnsInHanded_of_change (C := Try.checked) sizes_own started (by kernel_rfl) Try.func3
    (ChangeSpec.witness6 (enc := enc) (C := Try.checked) false ⟨#[], #[.int .i64 0], []⟩ 8 (by kernel_rfl) (by kernel_rfl) (by kernel_rfl) (by kernel_rfl)) ?_
  intro W base args ds gs before hval0 hW hcnd _
  have hval : ∀ (j : Nat) t v, Try.f3.params[j]? = some t → args[j]? = some v → Value.okWide Try.prog W .any base t v := hval0
  have hW' := hW
  obtain ⟨p, q, hA0, hV, rfl, hfz, hnd⟩ := hW
  have hA : DataW.TrodAll enc Try.prog W 0 (fun _ => true) true Try.f3.params.toList args.toList ds p := hA0
  rw [Try.params3] at hA hval
  obtain ⟨v0, vs0, d0, ds0, p0, q0, hargs, rfl, rfl, h0, r0⟩ := trodAll_cons hA
  obtain ⟨rfl, rfl, rfl⟩ := trodAll_nil r0
  obtain rfl : args = #[v0] := by cases args; simp_all
  obtain ⟨rfl, rfl⟩ := trodVars_none hV
  obtain ⟨a0, rfl, rfl, rfl, w0⟩ := open_int Try.underlying3 (hval 0 3 v0 rfl rfl) h0
  clear hA0 hval0
  refine (sizes_any a0 W).mono fun e W' ⟨he, bel⟩ => ?_
  subst he
  exact ⟨_, rfl, _, _, _, [], _, [], hW', trodAll_mk1 (shut_bool Try.underlying4 _), (trodAll_cons_mk (shut_int Try.underlying3 w0) trodAll_mk0), rfl, bel.frame _, fun h => by cases h⟩

theorem sizes_over : Rows.numSizesRow.holds Try.pinned (OpenSpec.ofChange Rows.numSizesSpec) :=
  OpenClaim.holds_of_wide 3 Try.f3 rfl rfl rfl rfl rfl rfl rfl ⟨rfl, rfl, rfl, rfl, rfl⟩ rfl rfl rfl rfl rfl (by kernel_rfl) Try.func3 (by kernel_rfl)
    (of_decide_eq_true (by kernel_rfl)) (by unfold Func.isWrapper; first | (rw [if_pos (by decide +kernel)]; kernel_rfl) | (rw [if_neg (by decide +kernel)]; exact ⟨rfl, rfl⟩))
    (fun os started H enc _ => sizes_lifted os started H enc)

/-- The statement. -/
theorem numSizes_proved : Rows.NumSizesSaid :=
  sizes_over
end Go.Proofs.Ytchfjbhhcdfobaa
