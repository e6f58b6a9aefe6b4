/- PointOrder answers true at every list and every number, the listed variables lying as the program's text lays them: the row, and the tied card. -/
import Derived.Test.YtlgadelcgboeoaaDoorPtO
import Derived.Test.YtlgadelcgboeoaaDoorLOrder
namespace Go.Proofs.YtlgadelcgboeoaaDoor
open Go.ChangeShapes Go.WideShapes Go.ChangeAt Go.RowKit

theorem order_any (a : Option Addr) (n cap : Nat) (l : List Pt) (z : Int) (W : World) (hp : Pts W a n cap l) (hm : Mx W) :
    Calls Tryd.prog 4 #[.slice a n cap, .int .i64 z] W fun e w' => e = .returned (.bool true) ∧ Below W.heap.size W w' := by
  by_cases h : n = 0 ∨ 60 < n
  · exact order_out a n cap z W hm h
  · exact order_in a n cap l z W hp hm (by omega) (by omega)
theorem order_stand (j : Nat) (t : TypeId) (ht : (#[22, 3] : Array TypeId)[j]? = some t) : Tryd.prog.wantsStandIn t = false := by
  rcases j with _ | _ | j
  · obtain rfl : t = 22 := by simpa using ht.symm
    kernel_rfl
  · obtain rfl : t = 3 := by simpa using ht.symm
    kernel_rfl
  · simp at ht
theorem order_own : ownKnob Tryd.prog.godebug = none := by kernel_rfl
theorem order_laidOut : laidOutB Tryd.prog = true := by kernel_rfl
/-- The door's own heap meets the condition. -/
theorem order_met (os : Os) (args : Array Value) : laidMetH Tryd.prog Rows.pointOrderRow.laid ((World.doorLaid Tryd.prog 62 os).forCall (fun _ _ => 0) ⟨#[], args, []⟩).memory :=
  laidMetH_of_parts3 (fuel := 8) (laidMet_of_run' 8 (by kernel_rfl) (by kernel_rfl)) (by kernel_rfl) (by kernel_rfl)
set_option maxRecDepth 100000 in
theorem order_lifted (os : Os) (started : os.Started) (H : Type) (enc : TypeId × Value → H) :
    ReturnsInHanded {} Tryd.checked os 4 .any (fun w args => (Rows.pointOrderSpec.pre enc Tryd.prog Tryd.f4 [] false w args ∧ laidMetH Tryd.prog Rows.pointOrderRow.laid w) ∧ sizedMet enc Tryd.prog Tryd.f4 (OpenSpec.ofChange Rows.pointOrderSpec) false w args)
      (Rows.pointOrderSpec.post enc Tryd.prog Tryd.f4 false true false false) := by
  refine handed_both (C := Tryd.checked) (X := fun w _ => laidMetH Tryd.prog Rows.pointOrderRow.laid w) (fun _ _ _ hh h => h.of_heap hh) order_own started (by kernel_rfl) Tryd.func4
    (ChangeSpec.witness_shaped (enc := enc) (C := Tryd.checked) (os := os) (X := fun w _ => laidMetH Tryd.prog Rows.pointOrderRow.laid w) false (World.doorLaid Tryd.prog 62 os) #[.slice none 0 0, .int .i64 0] 8 rfl (World.shaped_of_RefB (by kernel_rfl) (by kernel_rfl)) (by kernel_rfl) (by kernel_rfl) (by kernel_rfl) (order_met os _)) ?_
  intro W base args ds gs before hval0 hW _ hsh
  have hval : ∀ (j : Nat) t v, Tryd.f4.params[j]? = some t → args[j]? = some v → Value.okWide Tryd.prog W .any base t v := hval0
  have hW' := hW
  obtain ⟨p, q, hA0, hV, rfl, hfz, hnd⟩ := hW
  have hA : DataW.TrodAll enc Tryd.prog W 0 (fun _ => true) true Tryd.f4.params.toList args.toList ds p := hA0
  rw [Tryd.params4] at hA hval
  obtain ⟨v0, vs0, d0, ds0, p0, q0, hargs, rfl, rfl, h0, r0⟩ := trodAll_cons hA
  obtain ⟨v1, vs1, d1, ds1, p1, q1, rfl, rfl, rfl, h1, r1⟩ := trodAll_cons r0
  obtain ⟨rfl, rfl, rfl⟩ := trodAll_nil r1
  obtain rfl : args = #[v0, v1] := by cases args; simp_all
  obtain ⟨rfl, rfl⟩ := trodVars_none hV
  obtain ⟨a0, len0, cap0, rfl⟩ := okWide_slice Tryd.underlying22 (hval 0 22 v0 rfl rfl)
  have k0 := h0
  have lt0 : ∀ x ∈ p0, x.block < W.heap.size := by obtain ⟨m, hm⟩ := k0; exact DataW.trod_lt m _ _ _ hm
  obtain ⟨l0, w0⟩ : ∃ l, Pts W a0 len0 cap0 l := by
    obtain ⟨fuel, hf⟩ := h0
    exact open_pts hf
  have k1 := h1
  have lt1 : ∀ x ∈ p1, x.block < W.heap.size := by obtain ⟨m, hm⟩ := k1; exact DataW.trod_lt m _ _ _ hm
  obtain ⟨z1, rfl⟩ : ∃ z : Int, v1 = .int .i64 z := by
    obtain ⟨fuel, hf⟩ := h1
    obtain ⟨z, hz, _, _⟩ := DataW.trod_int Tryd.underlying3 hf
    refine ⟨z, ?_⟩
    have ho := hval 1 3 v1 rfl rfl
    simp only [Value.okWide, Tryd.underlying3, Cell.okWide] at ho
    cases v1 <;> simp_all [Cell.ok, Value.cells]
  clear hA0 hval0
  refine (order_any a0 len0 cap0 l0 z1 W w0 (mx_of_shape hsh)).mono fun e W' ⟨he, bel⟩ => ?_
  subst he
  exact ⟨_, rfl, _, _, _, [], _, [], hW', trodAll_mk1 (shut_bool Tryd.underlying4 _), (trodAll_cons_mk (Below.trod order_laidOut (by kernel_rfl) (of_decide_eq_true (by kernel_rfl)) k0 bel lt0) (trodAll_cons_mk (Below.trod order_laidOut (by kernel_rfl) (of_decide_eq_true (by kernel_rfl)) k1 bel lt1) trodAll_mk0)), rfl, bel.frame _, fun h => by cases h⟩
theorem order_over : Rows.pointOrderRow.holds Tryd.pinned (OpenSpec.ofChange Rows.pointOrderSpec) :=
  OpenClaim.holds_of_wide 4 Tryd.f4 rfl rfl rfl rfl rfl rfl rfl ⟨rfl, rfl, rfl, rfl, rfl⟩ rfl rfl rfl rfl rfl (by kernel_rfl) Tryd.func4 (by kernel_rfl)
    (of_decide_eq_true (by kernel_rfl)) (by unfold Func.isWrapper; first | (rw [if_pos (by decide +kernel)]; kernel_rfl) | (rw [if_neg (by decide +kernel)]; exact ⟨rfl, rfl⟩))
    (fun os started H enc _ => order_lifted os started H enc)
/-- The statement. -/
theorem pointOrder_proved : Rows.PointOrderSaid := order_over
/-- The tied card. -/
theorem pointOrder_card : Rows.PointOrderCardSaid :=
  Claim7.holds_tied_plain_at .later [] [.data, .data, .data, .sentinel, .sentinel] true (true, "f6458e2c2ca57e9585b9c615b4708413f502ed708d3bff447b513b6790711379") true
    pointOrder_proved (fun _ h => by cases h) (by kernel_rfl) (fun _ h => by cases h) pointOrder_row_tie rfl ⟨rfl, rfl⟩ (by kernel_rfl) rfl
    (fun f fn hf hfn => by
      obtain rfl : f = 4 := Option.some.inj ((show Tryd.prog.funcNamed "coracle/coraclelaw3.PointOrder" = some 4 by kernel_rfl).symm.trans hf) |>.symm
      obtain rfl : fn = Tryd.f4 := (Option.some.inj (Tryd.func4.symm.trans hfn)).symm
      exact ⟨by kernel_rfl, fun j t ht => order_stand j t (by rw [Tryd.params4] at ht; exact ht)⟩)
    (by kernel_rfl)
end Go.Proofs.YtlgadelcgboeoaaDoor
