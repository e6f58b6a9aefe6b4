/- Wherever the power goes: behind it all batches that were told are there whole, and the one that was going on is there whole, or not at all; a Compact changes nothing. The round words are as the program lays them; no other condition. -/
import Derived.Test.YtlapnnkahijikaaGreatDoorZL
import Derived.Test.YtlapnnkahijikaaGreatDoorCKvOp
import Derived.Test.YtlapnnkahijikaaGreatDoorCKyC
import Derived.HandedShaped
import Derived.ShutString
import Derived.ChangeOld
import Derived.LaidMore
import Derived.Below
namespace Go.Proofs.YtlapnnkahijikaaGreatDoor
open Go.ChangeShapes Go.WideShapes Go.ChangeAt Go.RowKit

theorem kcrash_stand (j : Nat) (t : TypeId) (ht : (#[22, 23, 3, 23, 3] : Array TypeId)[j]? = some t) : Tryz.prog.wantsStandIn t = false := by
  rcases j with _ | _ | _ | _ | _ | j
  · obtain rfl : t = 22 := by simpa using ht.symm
    kernel_rfl
  · obtain rfl : t = 23 := by simpa using ht.symm
    kernel_rfl
  · obtain rfl : t = 3 := by simpa using ht.symm
    kernel_rfl
  · obtain rfl : t = 23 := by simpa using ht.symm
    kernel_rfl
  · obtain rfl : t = 3 := by simpa using ht.symm
    kernel_rfl
  · simp at ht
theorem kcrash_own : ownKnob Tryz.prog.godebug = none := by kernel_rfl
theorem kcrash_laidOut : laidOutB Tryz.prog = true := by kernel_rfl
/-- The door's own heap meets the condition. -/
theorem kcrash_met (os : Os) (args : Array Value) : laidMetH Tryz.prog Rows.kvCrashRow.laid ((World.doorLaid Tryz.prog 14 os).forCall (fun _ _ => 0) ⟨#[], args, []⟩).memory :=
  laidMetH_of_parts3 (fuel := 8) (laidMet_of_run' 8 (by kernel_rfl) (by kernel_rfl)) (by kernel_rfl) (by kernel_rfl)
set_option maxRecDepth 100000 in
theorem kcrash_lifted (os : Os) (started : os.Started) (H : Type) (enc : TypeId × Value → H) :
    ReturnsInHanded {} Tryz.checked os 4 .any (fun w args => (Rows.kvCrashSpec.pre enc Tryz.prog Tryz.f4 [] false w args ∧ laidMetH Tryz.prog Rows.kvCrashRow.laid w) ∧ sizedMet enc Tryz.prog Tryz.f4 (OpenSpec.ofChange Rows.kvCrashSpec) false w args)
      (Rows.kvCrashSpec.post enc Tryz.prog Tryz.f4 false true false false) := by
  refine returnsInHanded_of_change_and (C := Tryz.checked) (X := fun w _ => laidMetH Tryz.prog Rows.kvCrashRow.laid w) (fun _ _ _ hh h => h.of_heap hh) kcrash_own started (by kernel_rfl) Tryz.func4
    (ChangeSpec.witness_shaped (enc := enc) (C := Tryz.checked) (os := os) (X := fun w _ => laidMetH Tryz.prog Rows.kvCrashRow.laid w) false (World.doorLaid Tryz.prog 14 os) #[.slice none 0 0, .slice none 0 0, .int .i64 0, .slice none 0 0, .int .i64 0] 8 rfl (World.shaped_of_RefB (by kernel_rfl) (by kernel_rfl)) (by kernel_rfl) (by kernel_rfl) (by kernel_rfl) (kcrash_met os _)) ?_
  intro W base args ds gs before hval0 hW _ _ hL _
  have hval : ∀ (j : Nat) t v, Tryz.f4.params[j]? = some t → args[j]? = some v → Value.okWide Tryz.prog W .any base t v := hval0
  have hW' := hW
  obtain ⟨p, q, hA0, hV, rfl, hfz, hnd⟩ := hW
  have hA : DataW.TrodAll enc Tryz.prog W 0 (fun _ => true) true Tryz.f4.params.toList args.toList ds p := hA0
  rw [Tryz.params4] at hA hval
  obtain ⟨v0, vs0, d0, ds0, p0, q0, hargs, rfl, rfl, h0, r0⟩ := trodAll_cons hA
  obtain ⟨v1, vs1, d1, ds1, p1, q1, rfl, rfl, rfl, h1, r1⟩ := trodAll_cons r0
  obtain ⟨v2, vs2, d2, ds2, p2, q2, rfl, rfl, rfl, h2, r2⟩ := trodAll_cons r1
  obtain ⟨v3, vs3, d3, ds3, p3, q3, rfl, rfl, rfl, h3, r3⟩ := trodAll_cons r2
  obtain ⟨v4, vs4, d4, ds4, p4, q4, rfl, rfl, rfl, h4, r4⟩ := trodAll_cons r3
  obtain ⟨rfl, rfl, rfl⟩ := trodAll_nil r4
  obtain rfl : args = #[v0, v1, v2, v3, v4] := by cases args; simp_all
  obtain ⟨rfl, rfl⟩ := trodVars_none hV
  have k0 := h0
  have lt0 : ∀ x ∈ p0, x.block < W.heap.size := by obtain ⟨m, hm⟩ := k0; exact DataW.trod_lt m _ _ _ hm
  obtain ⟨a0, len0, cap0, rfl⟩ := okWide_slice Tryz.underlying22 (hval 0 22 v0 rfl rfl)
  obtain ⟨l0, n0, g0⟩ : ∃ l : List (List Pr), l.length = len0 ∧ Bats W (.slice a0 len0 cap0) l := by
    obtain ⟨fuel, hf⟩ := h0
    exact open_bats (hval 0 22 _ rfl rfl) hf
  have k1 := h1
  have lt1 : ∀ x ∈ p1, x.block < W.heap.size := by obtain ⟨m, hm⟩ := k1; exact DataW.trod_lt m _ _ _ hm
  obtain ⟨a1, len1, cap1, rfl⟩ := okWide_slice Tryz.underlying23 (hval 1 23 v1 rfl rfl)
  obtain ⟨l1, n1, c1, m1, g1⟩ : ∃ l : List Int, l.length = len1 ∧ len1 ≤ cap1 ∧ cap1 ≤ maxLen ∧ Ints W a1 l := by
    obtain ⟨fuel, hf⟩ := h1
    exact open_picks hf
  obtain ⟨a2, rfl, rfl, rfl, w2⟩ := open_int Tryz.underlying3 (hval 2 3 v2 rfl rfl) h2
  have k3 := h3
  have lt3 : ∀ x ∈ p3, x.block < W.heap.size := by obtain ⟨m, hm⟩ := k3; exact DataW.trod_lt m _ _ _ hm
  obtain ⟨a3, len3, cap3, rfl⟩ := okWide_slice Tryz.underlying23 (hval 3 23 v3 rfl rfl)
  obtain ⟨l3, n3, c3, m3, g3⟩ : ∃ l : List Int, l.length = len3 ∧ len3 ≤ cap3 ∧ cap3 ≤ maxLen ∧ Ints W a3 l := by
    obtain ⟨fuel, hf⟩ := h3
    exact open_picks hf
  obtain ⟨a4, rfl, rfl, rfl, w4⟩ := open_int Tryz.underlying3 (hval 4 3 v4 rfl rfl) h4
  clear hA0 hval0
  refine (kcrash_any _ l0 a1 len1 cap1 l1 a2 a3 len3 cap3 l3 a4 W (kw_of_laid hL) g0 g1 n1 c1 m1 (int_hi w2) g3 n3 c3 m3 (int_hi w4)).mono fun e W' ⟨he, bel⟩ => ?_
  subst he
  exact ⟨_, rfl, _, _, _, [], _, [], hW', trodAll_mk1 (shut_bool Tryz.underlying4 _), (trodAll_cons_mk (Below.trod kcrash_laidOut (by kernel_rfl) (of_decide_eq_true (by kernel_rfl)) k0 bel lt0) (trodAll_cons_mk (Below.trod kcrash_laidOut (by kernel_rfl) (of_decide_eq_true (by kernel_rfl)) k1 bel lt1) (trodAll_cons_mk (shut_int Tryz.underlying3 w2) (trodAll_cons_mk (Below.trod kcrash_laidOut (by kernel_rfl) (of_decide_eq_true (by kernel_rfl)) k3 bel lt3) (trodAll_cons_mk (shut_int Tryz.underlying3 w4) trodAll_mk0))))), rfl, bel.frame _, fun h => by cases h⟩
theorem kcrash_over : Rows.kvCrashRow.holds Tryz.pinned (OpenSpec.ofChange Rows.kvCrashSpec) :=
  OpenClaim.holds_of_wide 4 Tryz.f4 rfl rfl rfl rfl rfl rfl rfl ⟨rfl, rfl, rfl, rfl, rfl⟩ rfl rfl rfl rfl rfl (by kernel_rfl) Tryz.func4 (by kernel_rfl)
    (of_decide_eq_true (by kernel_rfl)) (by unfold Func.isWrapper; first | (rw [if_pos (by decide +kernel)]; kernel_rfl) | (rw [if_neg (by decide +kernel)]; exact ⟨rfl, rfl⟩))
    (fun os started H enc _ => kcrash_lifted os started H enc)
/-- The statement. -/
theorem kvCrash_proved : Rows.KvCrashSaid := kcrash_over
/-- The tied card. -/
theorem kvCrash_card : Rows.KvCrashCardSaid :=
  Claim7.holds_tied_plain_at .later [] [.data] true (true, "06bc6f7ae0537ec891154056706a5bc421c75c4368cc0b7f5f22fd8e82935b15") false
    kvCrash_proved (fun _ h => by cases h) (by kernel_rfl) (fun _ h => by cases h) kvCrash_row_tie rfl ⟨rfl, rfl⟩ (by kernel_rfl) rfl
    (fun f fn hf hfn => by
      obtain rfl : f = 4 := Option.some.inj ((show Tryz.prog.funcNamed "coracle/coraclelaw9.KvCrash" = some 4 by kernel_rfl).symm.trans hf) |>.symm
      obtain rfl : fn = Tryz.f4 := (Option.some.inj (Tryz.func4.symm.trans hfn)).symm
      exact ⟨by kernel_rfl, fun j t ht => kcrash_stand j t (by rw [Tryz.params4] at ht; exact ht)⟩)
    (by kernel_rfl)
end Go.Proofs.YtlapnnkahijikaaGreatDoor
