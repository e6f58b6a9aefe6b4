/- Wherever the power goes, and whatever was torn, the records are as a turn told last, or as the one that was going on would have made them; opened again with the power going, and twice, they are the same; it goes on. The round words are as the program lays them; no other condition. -/
import Derived.Test.YtlapnnkahijikaaDoorZL
import Derived.Test.YtlapnnkahijikaaDoorZB
import Derived.Test.YtlapnnkahijikaaDoorCLCrash
import Derived.HandedShaped
import Derived.ShutString
import Derived.ChangeOld
import Derived.LaidMore
import Derived.Below
namespace Go.Proofs.YtlapnnkahijikaaDoor
open Go.ChangeShapes Go.WideShapes Go.ChangeAt Go.RowKit

theorem wcrash_stand (j : Nat) (t : TypeId) (ht : (#[22, 3, 23, 3, 23] : Array TypeId)[j]? = some t) : Tryd.prog.wantsStandIn t = false := by
  rcases j with _ | _ | _ | _ | _ | j
  · obtain rfl : t = 22 := by simpa using ht.symm
    kernel_rfl
  · obtain rfl : t = 3 := by simpa using ht.symm
    kernel_rfl
  · obtain rfl : t = 23 := by simpa using ht.symm
    kernel_rfl
  · obtain rfl : t = 3 := by simpa using ht.symm
    kernel_rfl
  · obtain rfl : t = 23 := by simpa using ht.symm
    kernel_rfl
  · simp at ht
theorem wcrash_own : ownKnob Tryd.prog.godebug = none := by kernel_rfl
theorem wcrash_laidOut : laidOutB Tryd.prog = true := by kernel_rfl
/-- The door's own heap meets the condition. -/
theorem wcrash_met (os : Os) (args : Array Value) : laidMetH Tryd.prog Rows.walCrashRow.laid ((World.doorLaid Tryd.prog 14 os).forCall (fun _ _ => 0) ⟨#[], args, []⟩).memory :=
  laidMetH_of_parts3 (fuel := 8) (laidMet_of_run' 8 (by kernel_rfl) (by kernel_rfl)) (by kernel_rfl) (by kernel_rfl)
set_option maxRecDepth 100000 in
theorem wcrash_lifted (os : Os) (started : os.Started) (H : Type) (enc : TypeId × Value → H) :
    ReturnsInHanded {} Tryd.checked os 3 .any (fun w args => (Rows.walCrashSpec.pre enc Tryd.prog Tryd.f3 [] false w args ∧ laidMetH Tryd.prog Rows.walCrashRow.laid w) ∧ sizedMet enc Tryd.prog Tryd.f3 (OpenSpec.ofChange Rows.walCrashSpec) false w args)
      (Rows.walCrashSpec.post enc Tryd.prog Tryd.f3 false true false false) := by
  refine returnsInHanded_of_change_and (C := Tryd.checked) (X := fun w _ => laidMetH Tryd.prog Rows.walCrashRow.laid w) (fun _ _ _ hh h => h.of_heap hh) wcrash_own started (by kernel_rfl) Tryd.func3
    (ChangeSpec.witness_shaped (enc := enc) (C := Tryd.checked) (os := os) (X := fun w _ => laidMetH Tryd.prog Rows.walCrashRow.laid w) false (World.doorLaid Tryd.prog 14 os) #[.slice none 0 0, .int .i64 0, .slice none 0 0, .int .i64 0, .slice none 0 0] 8 rfl (World.shaped_of_RefB (by kernel_rfl) (by kernel_rfl)) (by kernel_rfl) (by kernel_rfl) (by kernel_rfl) (wcrash_met os _)) ?_
  intro W base args ds gs before hval0 hW _ _ hL _
  have hval : ∀ (j : Nat) t v, Tryd.f3.params[j]? = some t → args[j]? = some v → Value.okWide Tryd.prog W .any base t v := hval0
  have hW' := hW
  obtain ⟨p, q, hA0, hV, rfl, hfz, hnd⟩ := hW
  have hA : DataW.TrodAll enc Tryd.prog W 0 (fun _ => true) true Tryd.f3.params.toList args.toList ds p := hA0
  rw [Tryd.params3] at hA hval
  obtain ⟨v0, vs0, d0, ds0, p0, q0, hargs, rfl, rfl, h0, r0⟩ := trodAll_cons hA
  obtain ⟨v1, vs1, d1, ds1, p1, q1, rfl, rfl, rfl, h1, r1⟩ := trodAll_cons r0
  obtain ⟨v2, vs2, d2, ds2, p2, q2, rfl, rfl, rfl, h2, r2⟩ := trodAll_cons r1
  obtain ⟨v3, vs3, d3, ds3, p3, q3, rfl, rfl, rfl, h3, r3⟩ := trodAll_cons r2
  obtain ⟨v4, vs4, d4, ds4, p4, q4, rfl, rfl, rfl, h4, r4⟩ := trodAll_cons r3
  obtain ⟨rfl, rfl, rfl⟩ := trodAll_nil r4
  obtain rfl : args = #[v0, v1, v2, v3, v4] := by cases args; simp_all
  obtain ⟨rfl, rfl⟩ := trodVars_none hV
  have k0 := h0
  have lt0 : ∀ x ∈ p0, x.block < W.heap.size := by obtain ⟨m, hm⟩ := k0; exact DataW.trod_lt m _ _ _ hm
  obtain ⟨a0, len0, cap0, rfl⟩ := okWide_slice Tryd.underlying22 (hval 0 22 v0 rfl rfl)
  obtain ⟨l0, n0, c0, m0, g0⟩ : ∃ l : List Turn, l.length = len0 ∧ len0 ≤ cap0 ∧ cap0 ≤ maxLen ∧ Turns W a0 l := by
    obtain ⟨fuel, hf⟩ := h0
    exact open_turns hf
  obtain ⟨a1, rfl, rfl, rfl, w1⟩ := open_int Tryd.underlying3 (hval 1 3 v1 rfl rfl) h1
  have k2 := h2
  have lt2 : ∀ x ∈ p2, x.block < W.heap.size := by obtain ⟨m, hm⟩ := k2; exact DataW.trod_lt m _ _ _ hm
  obtain ⟨a2, len2, cap2, rfl⟩ := okWide_slice Tryd.underlying23 (hval 2 23 v2 rfl rfl)
  obtain ⟨l2, n2, c2, m2, g2⟩ : ∃ l : List Int, l.length = len2 ∧ len2 ≤ cap2 ∧ cap2 ≤ maxLen ∧ Ints W a2 l := by
    obtain ⟨fuel, hf⟩ := h2
    exact open_picks hf
  obtain ⟨a3, rfl, rfl, rfl, w3⟩ := open_int Tryd.underlying3 (hval 3 3 v3 rfl rfl) h3
  have k4 := h4
  have lt4 : ∀ x ∈ p4, x.block < W.heap.size := by obtain ⟨m, hm⟩ := k4; exact DataW.trod_lt m _ _ _ hm
  obtain ⟨a4, len4, cap4, rfl⟩ := okWide_slice Tryd.underlying23 (hval 4 23 v4 rfl rfl)
  obtain ⟨l4, n4, c4, m4, g4⟩ : ∃ l : List Int, l.length = len4 ∧ len4 ≤ cap4 ∧ cap4 ≤ maxLen ∧ Ints W a4 l := by
    obtain ⟨fuel, hf⟩ := h4
    exact open_picks hf
  clear hA0 hval0
  refine (wcrash_any a0 a2 a4 len0 cap0 len2 cap2 len4 cap4 l0 a1 a3 l2 l4 W (kw_of_laid hL) g0 n0 (int_hi w1) g2 n2 c2 m2 (int_hi w3) g4 n4 c4 m4).mono fun e W' ⟨he, bel⟩ => ?_
  subst he
  exact ⟨_, rfl, _, _, _, [], _, [], hW', trodAll_mk1 (shut_bool Tryd.underlying4 _), (trodAll_cons_mk (Below.trod wcrash_laidOut (by kernel_rfl) (of_decide_eq_true (by kernel_rfl)) k0 bel lt0) (trodAll_cons_mk (shut_int Tryd.underlying3 w1) (trodAll_cons_mk (Below.trod wcrash_laidOut (by kernel_rfl) (of_decide_eq_true (by kernel_rfl)) k2 bel lt2) (trodAll_cons_mk (shut_int Tryd.underlying3 w3) (trodAll_cons_mk (Below.trod wcrash_laidOut (by kernel_rfl) (of_decide_eq_true (by kernel_rfl)) k4 bel lt4) trodAll_mk0))))), rfl, bel.frame _, fun h => by cases h⟩
theorem wcrash_over : Rows.walCrashRow.holds Tryd.pinned (OpenSpec.ofChange Rows.walCrashSpec) :=
  OpenClaim.holds_of_wide 3 Tryd.f3 rfl rfl rfl rfl rfl rfl rfl ⟨rfl, rfl, rfl, rfl, rfl⟩ rfl rfl rfl rfl rfl (by kernel_rfl) Tryd.func3 (by kernel_rfl)
    (of_decide_eq_true (by kernel_rfl)) (by unfold Func.isWrapper; first | (rw [if_pos (by decide +kernel)]; kernel_rfl) | (rw [if_neg (by decide +kernel)]; exact ⟨rfl, rfl⟩))
    (fun os started H enc _ => wcrash_lifted os started H enc)
/-- The statement. -/
theorem walCrash_proved : Rows.WalCrashSaid := wcrash_over
/-- The tied card. -/
theorem walCrash_card : Rows.WalCrashCardSaid :=
  Claim7.holds_tied_plain_at .later [] [.data] true (true, "a059aed73f8debad03b537794b2beebe20fcbedfd684ae8fd37b17e277d5c2ca") false
    walCrash_proved (fun _ h => by cases h) (by kernel_rfl) (fun _ h => by cases h) walCrash_row_tie rfl ⟨rfl, rfl⟩ (by kernel_rfl) rfl
    (fun f fn hf hfn => by
      obtain rfl : f = 3 := Option.some.inj ((show Tryd.prog.funcNamed "coracle/coraclelaw8.WalCrash" = some 3 by kernel_rfl).symm.trans hf) |>.symm
      obtain rfl : fn = Tryd.f3 := (Option.some.inj (Tryd.func3.symm.trans hfn)).symm
      exact ⟨by kernel_rfl, fun j t ht => wcrash_stand j t (by rw [Tryd.params3] at ht; exact ht)⟩)
    (by kernel_rfl)
end Go.Proofs.YtlapnnkahijikaaDoor
