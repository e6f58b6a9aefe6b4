/- PointTexts answers true at every outpoint and every text, the listed variables lying as the program's text lays them: the row, and the tied card. -/
import Derived.Test.YtlgadelcgboeoaaDoorPtO
import Derived.Test.YtlgadelcgboeoaaDoorLTexts
import Derived.Stop.LaidErr
import Derived.Stop.Joined
namespace Go.Proofs.YtlgadelcgboeoaaDoor
open Go.ChangeShapes Go.WideShapes Go.ChangeAt Go.RowKit
theorem star_err : "*" ++ "errors.errorString" = "*errors.errorString" := by decide
theorem err_row (u : TypeId) (h : Tryd.prog.typeName? 3 u = some "*errors.errorString") : u = 108 :=
  typeName_ptr_named (nm := "errors.errorString") (by rw [star_err]; kernel_rfl) (by kernel_rfl) (by decide) u (by rw [star_err]; exact h)
/-- The two error variables are there, as the program's text lays them. -/
theorem vr_of_laid {W : World} (h : laidMetH Tryd.prog Rows.pointTextsRow.laid W) : Vr W := by
  rw [MakeChecks.laidMetH_plain _ _ _ (by kernel_rfl)] at h
  have h1 := laidMet.tail (laidMet.tail (laidMet.tail h))
  have h2 := laidMet.tail h1
  obtain ⟨a, _, hv, _⟩ := laid_sentinel h1 (show Tryd.prog.globalNamed "strconv.ErrRange" = some 2 by kernel_rfl) (show _ = some 50 by kernel_rfl) Tryd.underlying50 err_row Tryd.underlying108 Tryd.underlying110 rfl rfl Tryd.underlying9 (by kernel_rfl) (by kernel_rfl)
  obtain ⟨b, _, hu, _⟩ := laid_sentinel h2 (show Tryd.prog.globalNamed "strconv.ErrSyntax" = some 1 by kernel_rfl) (show _ = some 50 by kernel_rfl) Tryd.underlying50 err_row Tryd.underlying108 Tryd.underlying110 rfl rfl Tryd.underlying9 (by kernel_rfl) (by kernel_rfl)
  exact ⟨⟨_, _, hu⟩, ⟨_, _, hv⟩⟩
theorem str_every (s : ByteArray) : s = str (s.data.toList.map (·.toBitVec)) := by
  rw [← str_of]
theorem texts_any (p : Pt) (s : ByteArray) (W : World) (hm : Mx W) (hL : laidMetH Tryd.prog Rows.pointTextsRow.laid W) :
    Calls Tryd.prog 5 #[.agg p.cs.toArray, .string s] W fun e w' => e = .returned (.bool true) ∧ Below W.heap.size W w' := by
  by_cases h : 200 < s.size
  · exact texts_out p s W hm h
  · have e := str_every s
    generalize s.data.toList.map (·.toBitVec) = bs at e
    subst e
    exact texts_in p bs W hm (vr_of_laid hL) (by rw [str_size] at h; omega)
theorem texts_stand (j : Nat) (t : TypeId) (ht : (#[26, 9] : Array TypeId)[j]? = some t) : Tryd.prog.wantsStandIn t = false := by
  rcases j with _ | _ | j
  · obtain rfl : t = 26 := by simpa using ht.symm
    kernel_rfl
  · obtain rfl : t = 9 := by simpa using ht.symm
    kernel_rfl
  · simp at ht
theorem texts_own : ownKnob Tryd.prog.godebug = none := by kernel_rfl
theorem texts_laidOut : laidOutB Tryd.prog = true := by kernel_rfl
/-- The door's own heap meets the condition. -/
theorem texts_met (os : Os) (args : Array Value) : laidMetH Tryd.prog Rows.pointTextsRow.laid ((World.doorLaid Tryd.prog 62 os).forCall (fun _ _ => 0) ⟨#[], args, []⟩).memory :=
  laidMetH_of_parts3 (fuel := 8) (laidMet_of_run' 8 (by kernel_rfl) (by kernel_rfl)) (by kernel_rfl) (by kernel_rfl)
set_option maxRecDepth 100000 in
theorem texts_lifted (os : Os) (started : os.Started) (H : Type) (enc : TypeId × Value → H) :
    ReturnsInHanded {} Tryd.checked os 5 .any (fun w args => (Rows.pointTextsSpec.pre enc Tryd.prog Tryd.f5 [] false w args ∧ laidMetH Tryd.prog Rows.pointTextsRow.laid w) ∧ sizedMet enc Tryd.prog Tryd.f5 (OpenSpec.ofChange Rows.pointTextsSpec) false w args)
      (Rows.pointTextsSpec.post enc Tryd.prog Tryd.f5 false true false false) := by
  refine handed_both (C := Tryd.checked) (X := fun w _ => laidMetH Tryd.prog Rows.pointTextsRow.laid w) (fun _ _ _ hh h => h.of_heap hh) texts_own started (by kernel_rfl) Tryd.func5
    (ChangeSpec.witness_shaped (enc := enc) (C := Tryd.checked) (os := os) (X := fun w _ => laidMetH Tryd.prog Rows.pointTextsRow.laid w) false (World.doorLaid Tryd.prog 62 os) #[.agg (default : Pt).cs.toArray, .string ByteArray.empty] 8 rfl (World.shaped_of_RefB (by kernel_rfl) (by kernel_rfl)) (by kernel_rfl) (by kernel_rfl) (by kernel_rfl) (texts_met os _)) ?_
  intro W base args ds gs before hval0 hW hL hsh
  have hval : ∀ (j : Nat) t v, Tryd.f5.params[j]? = some t → args[j]? = some v → Value.okWide Tryd.prog W .any base t v := hval0
  have hW' := hW
  obtain ⟨p, q, hA0, hV, rfl, hfz, hnd⟩ := hW
  have hA : DataW.TrodAll enc Tryd.prog W 0 (fun _ => true) true Tryd.f5.params.toList args.toList ds p := hA0
  rw [Tryd.params5] at hA hval
  obtain ⟨v0, vs0, d0, ds0, p0, q0, hargs, rfl, rfl, h0, r0⟩ := trodAll_cons hA
  obtain ⟨v1, vs1, d1, ds1, p1, q1, rfl, rfl, rfl, h1, r1⟩ := trodAll_cons r0
  obtain ⟨rfl, rfl, rfl⟩ := trodAll_nil r1
  obtain rfl : args = #[v0, v1] := by cases args; simp_all
  obtain ⟨rfl, rfl⟩ := trodVars_none hV
  have k0 := h0
  have lt0 : ∀ x ∈ p0, x.block < W.heap.size := by obtain ⟨m, hm⟩ := k0; exact DataW.trod_lt m _ _ _ hm
  obtain ⟨x0, rfl⟩ : ∃ x : Pt, v0 = .agg x.cs.toArray := by
    obtain ⟨fuel, hf⟩ := h0
    obtain ⟨x, hx⟩ := open_pt hf
    refine ⟨x, ?_⟩
    have ho := hval 0 26 v0 rfl rfl
    simp only [Value.okWide, Tryd.underlying26] at ho
    obtain ⟨cs, rfl, _⟩ := ho
    have hc : cs.toList = x.cs := hx
    rw [← hc, Array.toArray_toList]
  have k1 := h1
  have lt1 : ∀ x ∈ p1, x.block < W.heap.size := by obtain ⟨m, hm⟩ := k1; exact DataW.trod_lt m _ _ _ hm
  obtain ⟨s1, rfl⟩ := okWide_string Tryd.underlying9 (hval 1 9 v1 rfl rfl)
  clear hA0 hval0
  refine (texts_any x0 s1 W  (mx_of_shape hsh) hL).mono fun e W' ⟨he, bel⟩ => ?_
  subst he
  exact ⟨_, rfl, _, _, _, [], _, [], hW', trodAll_mk1 (shut_bool Tryd.underlying4 _), (trodAll_cons_mk (Below.trod texts_laidOut (by kernel_rfl) (of_decide_eq_true (by kernel_rfl)) k0 bel lt0) (trodAll_cons_mk (Below.trod texts_laidOut (by kernel_rfl) (of_decide_eq_true (by kernel_rfl)) k1 bel lt1) trodAll_mk0)), rfl, bel.frame _, fun h => by cases h⟩
theorem texts_over : Rows.pointTextsRow.holds Tryd.pinned (OpenSpec.ofChange Rows.pointTextsSpec) :=
  OpenClaim.holds_of_wide 5 Tryd.f5 rfl rfl rfl rfl rfl rfl rfl ⟨rfl, rfl, rfl, rfl, rfl⟩ rfl rfl rfl rfl rfl (by kernel_rfl) Tryd.func5 (by kernel_rfl)
    (of_decide_eq_true (by kernel_rfl)) (by unfold Func.isWrapper; first | (rw [if_pos (by decide +kernel)]; kernel_rfl) | (rw [if_neg (by decide +kernel)]; exact ⟨rfl, rfl⟩))
    (fun os started H enc _ => texts_lifted os started H enc)
/-- The statement. -/
theorem pointTexts_proved : Rows.PointTextsSaid := texts_over
/-- The tied card. -/
theorem pointTexts_card : Rows.PointTextsCardSaid :=
  Claim7.holds_tied_plain_at .later [] [.data, .data, .data, .sentinel, .sentinel] true (true, "f6458e2c2ca57e9585b9c615b4708413f502ed708d3bff447b513b6790711379") true
    pointTexts_proved (fun _ h => by cases h) (by kernel_rfl) (fun _ h => by cases h) pointTexts_row_tie rfl ⟨rfl, rfl⟩ (by kernel_rfl) rfl
    (fun f fn hf hfn => by
      obtain rfl : f = 5 := Option.some.inj ((show Tryd.prog.funcNamed "coracle/coraclelaw3.PointTexts" = some 5 by kernel_rfl).symm.trans hf) |>.symm
      obtain rfl : fn = Tryd.f5 := (Option.some.inj (Tryd.func5.symm.trans hfn)).symm
      exact ⟨by kernel_rfl, fun j t ht => texts_stand j t (by rw [Tryd.params5] at ht; exact ht)⟩)
    (by kernel_rfl)
end Go.Proofs.YtlgadelcgboeoaaDoor
