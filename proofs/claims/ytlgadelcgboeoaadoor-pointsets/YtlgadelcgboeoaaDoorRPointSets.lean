/- PointSets answers true at every two lists and every outpoint, the listed variables lying as the program's text lays them: the row, and the tied card. -/
import Derived.Test.YtlgadelcgboeoaaDoorPtO
namespace Go.Proofs.YtlgadelcgboeoaaDoor
open Go.ChangeShapes Go.WideShapes Go.ChangeAt Go.RowKit

theorem sets_any (a : Option Addr) (n cap : Nat) (l : List Pt) (a2 : Option Addr) (m cap2 : Nat) (r : List Pt) (p : Pt) (W : World) (hp : Pts W a n cap l) (hr : Pts W a2 m cap2 r) (hm : Mx W) :
    Calls Tryd.prog 3 #[.slice a n cap, .slice a2 m cap2, .agg p.cs.toArray] W fun e w' => e = .returned (.bool true) ∧ Below W.heap.size W w' := by
  by_cases h : 60 < n ∨ 60 < m
  · exact sets_out a n cap a2 m cap2 p W hm h
  · exact sets_in a n cap l a2 m cap2 r p W hp hr hm (by omega) (by omega)
theorem sets_stand (j : Nat) (t : TypeId) (ht : (#[22, 22, 26] : Array TypeId)[j]? = some t) : Tryd.prog.wantsStandIn t = false := by
  rcases j with _ | _ | _ | j
  · obtain rfl : t = 22 := by simpa using ht.symm
    kernel_rfl
  · obtain rfl : t = 22 := by simpa using ht.symm
    kernel_rfl
  · obtain rfl : t = 26 := by simpa using ht.symm
    kernel_rfl
  · simp at ht
theorem sets_own : ownKnob Tryd.prog.godebug = none := by kernel_rfl
theorem sets_laidOut : laidOutB Tryd.prog = true := by kernel_rfl
/-- The door's own heap meets the condition. -/
theorem sets_met (os : Os) (args : Array Value) : laidMetH Tryd.prog Rows.pointSetsRow.laid ((World.doorLaid Tryd.prog 62 os).forCall (fun _ _ => 0) ⟨#[], args, []⟩).memory :=
  laidMetH_of_parts3 (fuel := 8) (laidMet_of_run' 8 (by kernel_rfl) (by kernel_rfl)) (by kernel_rfl) (by kernel_rfl)
set_option maxRecDepth 100000 in
theorem sets_lifted (os : Os) (started : os.Started) (H : Type) (enc : TypeId × Value → H) :
    ReturnsInHanded {} Tryd.checked os 3 .any (fun w args => (Rows.pointSetsSpec.pre enc Tryd.prog Tryd.f3 [] false w args ∧ laidMetH Tryd.prog Rows.pointSetsRow.laid w) ∧ sizedMet enc Tryd.prog Tryd.f3 (OpenSpec.ofChange Rows.pointSetsSpec) false w args)
      (Rows.pointSetsSpec.post enc Tryd.prog Tryd.f3 false true false false) := by
  refine handed_both (C := Tryd.checked) (X := fun w _ => laidMetH Tryd.prog Rows.pointSetsRow.laid w) (fun _ _ _ hh h => h.of_heap hh) sets_own started (by kernel_rfl) Tryd.func3
    (ChangeSpec.witness_shaped (enc := enc) (C := Tryd.checked) (os := os) (X := fun w _ => laidMetH Tryd.prog Rows.pointSetsRow.laid w) false (World.doorLaid Tryd.prog 62 os) #[.slice none 0 0, .slice none 0 0, .agg (default : Pt).cs.toArray] 8 rfl (World.shaped_of_RefB (by kernel_rfl) (by kernel_rfl)) (by kernel_rfl) (by kernel_rfl) (by kernel_rfl) (sets_met os _)) ?_
  intro W base args ds gs before hval0 hW _ hsh
  have hval : ∀ (j : Nat) t v, Tryd.f3.params[j]? = some t → args[j]? = some v → Value.okWide Tryd.prog W .any base t v := hval0
  have hW' := hW
  obtain ⟨p, q, hA0, hV, rfl, hfz, hnd⟩ := hW
  have hA : DataW.TrodAll enc Tryd.prog W 0 (fun _ => true) true Tryd.f3.params.toList args.toList ds p := hA0
  rw [Tryd.params3] at hA hval
  obtain ⟨v0, vs0, d0, ds0, p0, q0, hargs, rfl, rfl, h0, r0⟩ := trodAll_cons hA
  obtain ⟨v1, vs1, d1, ds1, p1, q1, rfl, rfl, rfl, h1, r1⟩ := trodAll_cons r0
  obtain ⟨v2, vs2, d2, ds2, p2, q2, rfl, rfl, rfl, h2, r2⟩ := trodAll_cons r1
  obtain ⟨rfl, rfl, rfl⟩ := trodAll_nil r2
  obtain rfl : args = #[v0, v1, v2] := by cases args; simp_all
  obtain ⟨rfl, rfl⟩ := trodVars_none hV
  obtain ⟨a0, len0, cap0, rfl⟩ := okWide_slice Tryd.underlying22 (hval 0 22 v0 rfl rfl)
  have k0 := h0
  have lt0 : ∀ x ∈ p0, x.block < W.heap.size := by obtain ⟨m, hm⟩ := k0; exact DataW.trod_lt m _ _ _ hm
  obtain ⟨l0, w0⟩ : ∃ l, Pts W a0 len0 cap0 l := by
    obtain ⟨fuel, hf⟩ := h0
    exact open_pts hf
  obtain ⟨a1, len1, cap1, rfl⟩ := okWide_slice Tryd.underlying22 (hval 1 22 v1 rfl rfl)
  have k1 := h1
  have lt1 : ∀ x ∈ p1, x.block < W.heap.size := by obtain ⟨m, hm⟩ := k1; exact DataW.trod_lt m _ _ _ hm
  obtain ⟨l1, w1⟩ : ∃ l, Pts W a1 len1 cap1 l := by
    obtain ⟨fuel, hf⟩ := h1
    exact open_pts hf
  have k2 := h2
  have lt2 : ∀ x ∈ p2, x.block < W.heap.size := by obtain ⟨m, hm⟩ := k2; exact DataW.trod_lt m _ _ _ hm
  obtain ⟨x2, rfl⟩ : ∃ x : Pt, v2 = .agg x.cs.toArray := by
    obtain ⟨fuel, hf⟩ := h2
    obtain ⟨x, hx⟩ := open_pt hf
    refine ⟨x, ?_⟩
    have ho := hval 2 26 v2 rfl rfl
    simp only [Value.okWide, Tryd.underlying26] at ho
    obtain ⟨cs, rfl, _⟩ := ho
    have hc : cs.toList = x.cs := hx
    rw [← hc, Array.toArray_toList]
  clear hA0 hval0
  refine (sets_any a0 len0 cap0 l0 a1 len1 cap1 l1 x2 W w0 w1 (mx_of_shape hsh)).mono fun e W' ⟨he, bel⟩ => ?_
  subst he
  exact ⟨_, rfl, _, _, _, [], _, [], hW', trodAll_mk1 (shut_bool Tryd.underlying4 _), (trodAll_cons_mk (Below.trod sets_laidOut (by kernel_rfl) (of_decide_eq_true (by kernel_rfl)) k0 bel lt0) (trodAll_cons_mk (Below.trod sets_laidOut (by kernel_rfl) (of_decide_eq_true (by kernel_rfl)) k1 bel lt1) (trodAll_cons_mk (Below.trod sets_laidOut (by kernel_rfl) (of_decide_eq_true (by kernel_rfl)) k2 bel lt2) trodAll_mk0))), rfl, bel.frame _, fun h => by cases h⟩
theorem sets_over : Rows.pointSetsRow.holds Tryd.pinned (OpenSpec.ofChange Rows.pointSetsSpec) :=
  OpenClaim.holds_of_wide 3 Tryd.f3 rfl rfl rfl rfl rfl rfl rfl ⟨rfl, rfl, rfl, rfl, rfl⟩ rfl rfl rfl rfl rfl (by kernel_rfl) Tryd.func3 (by kernel_rfl)
    (of_decide_eq_true (by kernel_rfl)) (by unfold Func.isWrapper; first | (rw [if_pos (by decide +kernel)]; kernel_rfl) | (rw [if_neg (by decide +kernel)]; exact ⟨rfl, rfl⟩))
    (fun os started H enc _ => sets_lifted os started H enc)
/-- The statement. -/
theorem pointSets_proved : Rows.PointSetsSaid := sets_over
/-- The tied card. -/
theorem pointSets_card : Rows.PointSetsCardSaid :=
  Claim7.holds_tied_plain_at .later [] [.data, .data, .data, .sentinel, .sentinel] true (true, "f6458e2c2ca57e9585b9c615b4708413f502ed708d3bff447b513b6790711379") true
    pointSets_proved (fun _ h => by cases h) (by kernel_rfl) (fun _ h => by cases h) pointSets_row_tie rfl ⟨rfl, rfl⟩ (by kernel_rfl) rfl
    (fun f fn hf hfn => by
      obtain rfl : f = 3 := Option.some.inj ((show Tryd.prog.funcNamed "coracle/coraclelaw3.PointSets" = some 3 by kernel_rfl).symm.trans hf) |>.symm
      obtain rfl : fn = Tryd.f3 := (Option.some.inj (Tryd.func3.symm.trans hfn)).symm
      exact ⟨by kernel_rfl, fun j t ht => sets_stand j t (by rw [Tryd.params3] at ht; exact ht)⟩)
    (by kernel_rfl)
end Go.Proofs.YtlgadelcgboeoaaDoor
