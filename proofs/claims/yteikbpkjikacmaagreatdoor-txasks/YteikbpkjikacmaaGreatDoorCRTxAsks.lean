/- TxAsks, and its tied card. -/
import Derived.Test.YteikbpkjikacmaaGreatDoorZL
import Derived.Test.YteikbpkjikacmaaGreatDoorCTxO
import Derived.Test.YteikbpkjikacmaaGreatDoorCTxP
import Derived.Test.YteikbpkjikacmaaGreatDoorCLAsks
import Derived.HandedShaped
import Derived.ShutString
import Derived.ChangeOld
import Derived.LaidMore
namespace Go.Proofs.YteikbpkjikacmaaGreatDoor
open Go.ChangeShapes Go.WideShapes Go.ChangeAt Go.RowKit

theorem asks_stand (j : Nat) (t : TypeId) (ht : (#[25, 25, 26, 30, 3] : Array TypeId)[j]? = some t) : Tryz.prog.wantsStandIn t = false := by
  rcases j with _ | _ | _ | _ | _ | j
  · obtain rfl : t = 25 := by simpa using ht.symm
    kernel_rfl
  · obtain rfl : t = 25 := by simpa using ht.symm
    kernel_rfl
  · obtain rfl : t = 26 := by simpa using ht.symm
    kernel_rfl
  · obtain rfl : t = 30 := by simpa using ht.symm
    kernel_rfl
  · obtain rfl : t = 3 := by simpa using ht.symm
    kernel_rfl
  · simp at ht
theorem asks_own : ownKnob Tryz.prog.godebug = none := by kernel_rfl
theorem asks_laidOut : laidOutB Tryz.prog = true := by kernel_rfl
/-- The door's own heap meets the condition. -/
theorem asks_met (os : Os) (args : Array Value) : laidMetH Tryz.prog Rows.txAsksRow.laid ((World.doorLaid Tryz.prog 14 os).forCall (fun _ _ => 0) ⟨#[], args, []⟩).memory :=
  laidMetH_of_parts3 (fuel := 8) (laidMet_of_run' 8 (by kernel_rfl) (by kernel_rfl)) (by kernel_rfl) (by kernel_rfl)
set_option maxRecDepth 100000 in
theorem asks_lifted (os : Os) (started : os.Started) (H : Type) (enc : TypeId × Value → H) :
    ReturnsInHanded {} Tryz.checked os 3 .any (fun w args => (Rows.txAsksSpec.pre enc Tryz.prog Tryz.f3 [] false w args ∧ laidMetH Tryz.prog Rows.txAsksRow.laid w) ∧ sizedMet enc Tryz.prog Tryz.f3 (OpenSpec.ofChange Rows.txAsksSpec) false w args)
      (Rows.txAsksSpec.post enc Tryz.prog Tryz.f3 false true false false) := by
  refine returnsInHanded_of_change_and (C := Tryz.checked) (X := fun w _ => laidMetH Tryz.prog Rows.txAsksRow.laid w) (fun _ _ _ hh h => h.of_heap hh) asks_own started (by kernel_rfl) Tryz.func3
    (ChangeSpec.witness_shaped (enc := enc) (C := Tryz.checked) (os := os) (X := fun w _ => laidMetH Tryz.prog Rows.txAsksRow.laid w) false (World.doorLaid Tryz.prog 14 os) #[.agg #[.slice none 0 0, .slice none 0 0, .int .i64 0], .agg #[.slice none 0 0, .slice none 0 0, .int .i64 0], .slice none 0 0, .agg (default : Pt).cs.toArray, .int .i64 0] 8 rfl (World.shaped_of_RefB (by kernel_rfl) (by kernel_rfl)) (by kernel_rfl) (by kernel_rfl) (by kernel_rfl) (asks_met os _)) ?_
  intro W base args ds gs before hval0 hW _ _ hL _
  have hval : ∀ (j : Nat) t v, Tryz.f3.params[j]? = some t → args[j]? = some v → Value.okWide Tryz.prog W .any base t v := hval0
  have hW' := hW
  obtain ⟨p, q, hA0, hV, rfl, hfz, hnd⟩ := hW
  have hA : DataW.TrodAll enc Tryz.prog W 0 (fun _ => true) true Tryz.f3.params.toList args.toList ds p := hA0
  rw [Tryz.params3] at hA hval
  obtain ⟨v0, vs0, d0, ds0, p0, q0, hargs, rfl, rfl, h0, r0⟩ := trodAll_cons hA
  obtain ⟨v1, vs1, d1, ds1, p1, q1, rfl, rfl, rfl, h1, r1⟩ := trodAll_cons r0
  obtain ⟨v2, vs2, d2, ds2, p2, q2, rfl, rfl, rfl, h2, r2⟩ := trodAll_cons r1
  obtain ⟨v3, vs3, d3, ds3, p3, q3, rfl, rfl, rfl, h3, r3⟩ := trodAll_cons r2
  obtain ⟨v4, vs4, d4, ds4, p4, q4, rfl, rfl, rfl, h4, r4⟩ := trodAll_cons r3
  obtain ⟨rfl, rfl, rfl⟩ := trodAll_nil r4
  obtain rfl : args = #[v0, v1, v2, v3, v4] := by cases args; simp_all
  obtain ⟨rfl, rfl⟩ := trodVars_none hV
  have k0 := h0
  have lt0 : ∀ x ∈ p0, x.block < W.heap.size := by obtain ⟨m, hm⟩ := k0; exact DataW.trod_lt m _ _ _ hm
  obtain ⟨y0, t0, e0, g0⟩ : ∃ (tv : TxV) (t : TxD), v0 = tv.val t.lock ∧ TxAt W tv t := by
    obtain ⟨fuel, hf⟩ := h0
    obtain ⟨tv, t, e, g⟩ := open_tx hf
    refine ⟨tv, t, ?_, g⟩
    have ho := hval 0 25 v0 rfl rfl
    simp only [Value.okWide, Tryz.underlying25] at ho
    obtain ⟨cs, rfl, _⟩ := ho
    rw [← e]; exact congrArg Value.agg (Array.toArray_toList).symm
  subst e0
  have k1 := h1
  have lt1 : ∀ x ∈ p1, x.block < W.heap.size := by obtain ⟨m, hm⟩ := k1; exact DataW.trod_lt m _ _ _ hm
  obtain ⟨y1, t1, e1, g1⟩ : ∃ (tv : TxV) (t : TxD), v1 = tv.val t.lock ∧ TxAt W tv t := by
    obtain ⟨fuel, hf⟩ := h1
    obtain ⟨tv, t, e, g⟩ := open_tx hf
    refine ⟨tv, t, ?_, g⟩
    have ho := hval 1 25 v1 rfl rfl
    simp only [Value.okWide, Tryz.underlying25] at ho
    obtain ⟨cs, rfl, _⟩ := ho
    rw [← e]; exact congrArg Value.agg (Array.toArray_toList).symm
  subst e1
  have k2 := h2
  have lt2 : ∀ x ∈ p2, x.block < W.heap.size := by obtain ⟨m, hm⟩ := k2; exact DataW.trod_lt m _ _ _ hm
  obtain ⟨a2, len2, cap2, rfl⟩ := okWide_slice Tryz.underlying26 (hval 2 26 v2 rfl rfl)
  obtain ⟨bs2, bl2, by2, sr2, ap2⟩ : ∃ bs : List (BitVec 8), bs.length = len2 ∧ Bytes W a2 cap2 bs ∧ SrcB W (.slice a2 len2 cap2) bs ∧ ∀ y : Addr, a2 = some y → y.block < W.heap.size := by
    obtain ⟨fuel, hf⟩ := h2
    exact open_bytes (hval 2 26 _ rfl rfl) hf
  subst bl2
  have k3 := h3
  have lt3 : ∀ x ∈ p3, x.block < W.heap.size := by obtain ⟨m, hm⟩ := k3; exact DataW.trod_lt m _ _ _ hm
  obtain ⟨x3, rfl⟩ : ∃ x : Pt, v3 = .agg x.cs.toArray := by
    obtain ⟨fuel, hf⟩ := h3
    obtain ⟨x, hx⟩ := open_pt hf
    refine ⟨x, ?_⟩
    have ho := hval 3 30 v3 rfl rfl
    simp only [Value.okWide, Tryz.underlying30] at ho
    obtain ⟨cs, rfl, _⟩ := ho
    have hc : cs.toList = x.cs := hx
    rw [← hc, Array.toArray_toList]
  obtain ⟨a4, rfl, rfl, rfl, w4⟩ := open_int Tryz.underlying3 (hval 4 3 v4 rfl rfl) h4
  clear hA0 hval0
  refine (asks_any y0 y1 t0 t1 a2 cap2 bs2 x3 a4 W g0 g1 by2 sr2 ap2 (kw_of_laid hL)).mono fun e W' ⟨he, bel⟩ => ?_
  subst he
  exact ⟨_, rfl, _, _, _, [], _, [], hW', trodAll_mk1 (shut_bool Tryz.underlying4 _), (trodAll_cons_mk (Below.trod asks_laidOut (by kernel_rfl) (of_decide_eq_true (by kernel_rfl)) k0 bel lt0) (trodAll_cons_mk (Below.trod asks_laidOut (by kernel_rfl) (of_decide_eq_true (by kernel_rfl)) k1 bel lt1) (trodAll_cons_mk (Below.trod asks_laidOut (by kernel_rfl) (of_decide_eq_true (by kernel_rfl)) k2 bel lt2) (trodAll_cons_mk (Below.trod asks_laidOut (by kernel_rfl) (of_decide_eq_true (by kernel_rfl)) k3 bel lt3) (trodAll_cons_mk (shut_int Tryz.underlying3 w4) trodAll_mk0))))), rfl, bel.frame _, fun h => by cases h⟩
theorem asks_over : Rows.txAsksRow.holds Tryz.pinned (OpenSpec.ofChange Rows.txAsksSpec) :=
  OpenClaim.holds_of_wide 3 Tryz.f3 rfl rfl rfl rfl rfl rfl rfl ⟨rfl, rfl, rfl, rfl, rfl⟩ rfl rfl rfl rfl rfl (by kernel_rfl) Tryz.func3 (by kernel_rfl)
    (of_decide_eq_true (by kernel_rfl)) (by unfold Func.isWrapper; first | (rw [if_pos (by decide +kernel)]; kernel_rfl) | (rw [if_neg (by decide +kernel)]; exact ⟨rfl, rfl⟩))
    (fun os started H enc _ => asks_lifted os started H enc)
/-- The statement. -/
theorem txAsks_proved : Rows.TxAsksSaid := asks_over
/-- The tied card. -/
theorem txAsks_card : Rows.TxAsksCardSaid :=
  Claim7.holds_tied_plain_at .later [] [.data] true (true, "4cc7e26752b0df6bd0d64006ffa63082f3d32e29f8ab3c1226c5fd282b51400a") false
    txAsks_proved (fun _ h => by cases h) (by kernel_rfl) (fun _ h => by cases h) txAsks_row_tie rfl ⟨rfl, rfl⟩ (by kernel_rfl) rfl
    (fun f fn hf hfn => by
      obtain rfl : f = 3 := Option.some.inj ((show Tryz.prog.funcNamed "coracle/coraclelaw5.TxAsks" = some 3 by kernel_rfl).symm.trans hf) |>.symm
      obtain rfl : fn = Tryz.f3 := (Option.some.inj (Tryz.func3.symm.trans hfn)).symm
      exact ⟨by kernel_rfl, fun j t ht => asks_stand j t (by rw [Tryz.params3] at ht; exact ht)⟩)
    (by kernel_rfl)
end Go.Proofs.YteikbpkjikacmaaGreatDoor
