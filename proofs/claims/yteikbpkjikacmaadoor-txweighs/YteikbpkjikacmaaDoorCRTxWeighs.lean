/- TxWeighs answers true at every transaction, input and output, the round words lying as the program text lays them: the row, and the tied card. -/
import Derived.Test.YteikbpkjikacmaaDoorZL
import Derived.Test.YteikbpkjikacmaaDoorCTxO
import Derived.Test.YteikbpkjikacmaaDoorCLWei
import Derived.HandedShaped
import Derived.ShutString
import Derived.ChangeOld
import Derived.LaidMore
namespace Go.Proofs.YteikbpkjikacmaaDoor
open Go.ChangeShapes Go.WideShapes Go.ChangeAt Go.RowKit

theorem weighs_any (v : TxV) (t : TxD) (x : In) (y : Out) (W : World) (h : TxAt W v t) (hK : Kw W) :
    Calls Tryd.prog 5 #[v.val t.lock, .agg x.cs.toArray, .agg y.cs.toArray] W fun e w' => e = .returned (.bool true) ∧ Below W.heap.size W w' := by
  by_cases h1 : lightB t 50 = true
  · by_cases h2 : x.pre.size ≤ 200
    · exact weighs_in v.a v.n v.c v.b v.m v.d t.ins t.outs t.lock x y W h.ins h.outs hK h1 h2
    · exact weighs_awake v t x y W h hK (.inr (by omega))
  · exact weighs_awake v t x y W h hK (.inl (by simpa using h1))
theorem weighs_stand (j : Nat) (t : TypeId) (ht : (#[25, 46, 50] : Array TypeId)[j]? = some t) : Tryd.prog.wantsStandIn t = false := by
  rcases j with _ | _ | _ | j
  · obtain rfl : t = 25 := by simpa using ht.symm
    kernel_rfl
  · obtain rfl : t = 46 := by simpa using ht.symm
    kernel_rfl
  · obtain rfl : t = 50 := by simpa using ht.symm
    kernel_rfl
  · simp at ht
theorem weighs_own : ownKnob Tryd.prog.godebug = none := by kernel_rfl
theorem weighs_laidOut : laidOutB Tryd.prog = true := by kernel_rfl
/-- The door's own heap meets the condition. -/
theorem weighs_met (os : Os) (args : Array Value) : laidMetH Tryd.prog Rows.txWeighsRow.laid ((World.doorLaid Tryd.prog 14 os).forCall (fun _ _ => 0) ⟨#[], args, []⟩).memory :=
  laidMetH_of_parts3 (fuel := 8) (laidMet_of_run' 8 (by kernel_rfl) (by kernel_rfl)) (by kernel_rfl) (by kernel_rfl)
set_option maxRecDepth 100000 in
theorem weighs_lifted (os : Os) (started : os.Started) (H : Type) (enc : TypeId × Value → H) :
    ReturnsInHanded {} Tryd.checked os 5 .any (fun w args => (Rows.txWeighsSpec.pre enc Tryd.prog Tryd.f5 [] false w args ∧ laidMetH Tryd.prog Rows.txWeighsRow.laid w) ∧ sizedMet enc Tryd.prog Tryd.f5 (OpenSpec.ofChange Rows.txWeighsSpec) false w args)
      (Rows.txWeighsSpec.post enc Tryd.prog Tryd.f5 false true false false) := by
  refine returnsInHanded_of_change_and (C := Tryd.checked) (X := fun w _ => laidMetH Tryd.prog Rows.txWeighsRow.laid w) (fun _ _ _ hh h => h.of_heap hh) weighs_own started (by kernel_rfl) Tryd.func5
    (ChangeSpec.witness_shaped (enc := enc) (C := Tryd.checked) (os := os) (X := fun w _ => laidMetH Tryd.prog Rows.txWeighsRow.laid w) false (World.doorLaid Tryd.prog 14 os) #[.agg #[.slice none 0 0, .slice none 0 0, .int .i64 0], .agg (default : In).cs.toArray, .agg (default : Out).cs.toArray] 8 rfl (World.shaped_of_RefB (by kernel_rfl) (by kernel_rfl)) (by kernel_rfl) (by kernel_rfl) (by kernel_rfl) (weighs_met os _)) ?_
  intro W base args ds gs before hval0 hW _ _ hL _
  have hval : ∀ (j : Nat) t v, Tryd.f5.params[j]? = some t → args[j]? = some v → Value.okWide Tryd.prog W .any base t v := hval0
  have hW' := hW
  obtain ⟨p, q, hA0, hV, rfl, hfz, hnd⟩ := hW
  have hA : DataW.TrodAll enc Tryd.prog W 0 (fun _ => true) true Tryd.f5.params.toList args.toList ds p := hA0
  rw [Tryd.params5] at hA hval
  obtain ⟨v0, vs0, d0, ds0, p0, q0, hargs, rfl, rfl, h0, r0⟩ := trodAll_cons hA
  obtain ⟨v1, vs1, d1, ds1, p1, q1, rfl, rfl, rfl, h1, r1⟩ := trodAll_cons r0
  obtain ⟨v2, vs2, d2, ds2, p2, q2, rfl, rfl, rfl, h2, r2⟩ := trodAll_cons r1
  obtain ⟨rfl, rfl, rfl⟩ := trodAll_nil r2
  obtain rfl : args = #[v0, v1, v2] := by cases args; simp_all
  obtain ⟨rfl, rfl⟩ := trodVars_none hV
  have k0 := h0
  have lt0 : ∀ x ∈ p0, x.block < W.heap.size := by obtain ⟨m, hm⟩ := k0; exact DataW.trod_lt m _ _ _ hm
  obtain ⟨y0, t0, e0, g0⟩ : ∃ (tv : TxV) (t : TxD), v0 = tv.val t.lock ∧ TxAt W tv t := by
    obtain ⟨fuel, hf⟩ := h0
    obtain ⟨tv, t, e, g⟩ := open_tx hf
    refine ⟨tv, t, ?_, g⟩
    have ho := hval 0 25 v0 rfl rfl
    simp only [Value.okWide, Tryd.underlying25] at ho
    obtain ⟨cs, rfl, _⟩ := ho
    rw [← e]; exact congrArg Value.agg (Array.toArray_toList).symm
  subst e0
  have k1 := h1
  have lt1 : ∀ x ∈ p1, x.block < W.heap.size := by obtain ⟨m, hm⟩ := k1; exact DataW.trod_lt m _ _ _ hm
  obtain ⟨x1, rfl⟩ : ∃ x : In, v1 = .agg x.cs.toArray := by
    obtain ⟨fuel, hf⟩ := h1
    obtain ⟨x, hx⟩ := open_in hf
    refine ⟨x, ?_⟩
    have ho := hval 1 46 v1 rfl rfl
    simp only [Value.okWide, Tryd.underlying46] at ho
    obtain ⟨cs, rfl, _⟩ := ho
    have hc : cs.toList = x.cs := hx
    rw [← hc, Array.toArray_toList]
  have k2 := h2
  have lt2 : ∀ x ∈ p2, x.block < W.heap.size := by obtain ⟨m, hm⟩ := k2; exact DataW.trod_lt m _ _ _ hm
  obtain ⟨x2, rfl⟩ : ∃ x : Out, v2 = .agg x.cs.toArray := by
    obtain ⟨fuel, hf⟩ := h2
    obtain ⟨x, hx⟩ := open_out hf
    refine ⟨x, ?_⟩
    have ho := hval 2 50 v2 rfl rfl
    simp only [Value.okWide, Tryd.underlying50] at ho
    obtain ⟨cs, rfl, _⟩ := ho
    have hc : cs.toList = x.cs := hx
    rw [← hc, Array.toArray_toList]
  clear hA0 hval0
  refine (weighs_any y0 t0 x1 x2 W g0 (kw_of_laid hL)).mono fun e W' ⟨he, bel⟩ => ?_
  subst he
  exact ⟨_, rfl, _, _, _, [], _, [], hW', trodAll_mk1 (shut_bool Tryd.underlying4 _), (trodAll_cons_mk (Below.trod weighs_laidOut (by kernel_rfl) (of_decide_eq_true (by kernel_rfl)) k0 bel lt0) (trodAll_cons_mk (Below.trod weighs_laidOut (by kernel_rfl) (of_decide_eq_true (by kernel_rfl)) k1 bel lt1) (trodAll_cons_mk (Below.trod weighs_laidOut (by kernel_rfl) (of_decide_eq_true (by kernel_rfl)) k2 bel lt2) trodAll_mk0))), rfl, bel.frame _, fun h => by cases h⟩
theorem weighs_over : Rows.txWeighsRow.holds Tryd.pinned (OpenSpec.ofChange Rows.txWeighsSpec) :=
  OpenClaim.holds_of_wide 5 Tryd.f5 rfl rfl rfl rfl rfl rfl rfl ⟨rfl, rfl, rfl, rfl, rfl⟩ rfl rfl rfl rfl rfl (by kernel_rfl) Tryd.func5 (by kernel_rfl)
    (of_decide_eq_true (by kernel_rfl)) (by unfold Func.isWrapper; first | (rw [if_pos (by decide +kernel)]; kernel_rfl) | (rw [if_neg (by decide +kernel)]; exact ⟨rfl, rfl⟩))
    (fun os started H enc _ => weighs_lifted os started H enc)
/-- The statement. -/
theorem txWeighs_proved : Rows.TxWeighsSaid := weighs_over
/-- The tied card. -/
theorem txWeighs_card : Rows.TxWeighsCardSaid :=
  Claim7.holds_tied_plain_at .later [] [.data] true (true, "68a56362c9455a6217ed5062e5427b8180af380f12521c1a1f8bb9140e0d6383") false
    txWeighs_proved (fun _ h => by cases h) (by kernel_rfl) (fun _ h => by cases h) txWeighs_row_tie rfl ⟨rfl, rfl⟩ (by kernel_rfl) rfl
    (fun f fn hf hfn => by
      obtain rfl : f = 5 := Option.some.inj ((show Tryd.prog.funcNamed "coracle/coraclelaw5.TxWeighs" = some 5 by kernel_rfl).symm.trans hf) |>.symm
      obtain rfl : fn = Tryd.f5 := (Option.some.inj (Tryd.func5.symm.trans hfn)).symm
      exact ⟨by kernel_rfl, fun j t ht => weighs_stand j t (by rw [Tryd.params5] at ht; exact ht)⟩)
    (by kernel_rfl)
end Go.Proofs.YteikbpkjikacmaaDoor
