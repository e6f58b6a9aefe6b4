/- P9.1: a Compact leaves what one Put would have left, in no greater a file. -/
import Derived.Test.YtlapnnkahijikaaGreatDoorZL
import Derived.Test.YtlapnnkahijikaaGreatDoorCKxC
import Derived.Test.YtlapnnkahijikaaGreatDoorCKxD
import Derived.HandedShaped
import Derived.ShutString
import Derived.ChangeOld
import Derived.LaidMore
import Derived.Below
import Derived.ChangeMaps5
namespace Go.Proofs.YtlapnnkahijikaaGreatDoor
open Go.ChangeShapes Go.WideShapes Go.ChangeAt Go.RowKit
open Go.ChangeMaps (open_string shut_string)

theorem kshr_stand (j : Nat) (t : TypeId) (ht : (#[3, 9] : Array TypeId)[j]? = some t) : Tryz.prog.wantsStandIn t = false := by
  rcases j with _ | _ | j
  · obtain rfl : t = 3 := by simpa using ht.symm
    kernel_rfl
  · obtain rfl : t = 9 := by simpa using ht.symm
    kernel_rfl
  · simp at ht
theorem kshr_own : ownKnob Tryz.prog.godebug = none := by kernel_rfl
theorem kshr_laidOut : laidOutB Tryz.prog = true := by kernel_rfl
/-- The door's own heap meets the condition. -/
theorem kshr_met (os : Os) (args : Array Value) : laidMetH Tryz.prog Rows.kvShrinksRow.laid ((World.doorLaid Tryz.prog 14 os).forCall (fun _ _ => 0) ⟨#[], args, []⟩).memory :=
  laidMetH_of_parts3 (fuel := 8) (laidMet_of_run' 8 (by kernel_rfl) (by kernel_rfl)) (by kernel_rfl) (by kernel_rfl)
set_option maxRecDepth 100000 in
theorem kshr_lifted (os : Os) (started : os.Started) (H : Type) (enc : TypeId × Value → H) :
    ReturnsInHanded {} Tryz.checked os 5 .any (fun w args => (Rows.kvShrinksSpec.pre enc Tryz.prog Tryz.f5 [] false w args ∧ laidMetH Tryz.prog Rows.kvShrinksRow.laid w) ∧ sizedMet enc Tryz.prog Tryz.f5 (OpenSpec.ofChange Rows.kvShrinksSpec) false w args)
      (Rows.kvShrinksSpec.post enc Tryz.prog Tryz.f5 false true false false) := by
  refine returnsInHanded_of_change_and (C := Tryz.checked) (X := fun w _ => laidMetH Tryz.prog Rows.kvShrinksRow.laid w) (fun _ _ _ hh h => h.of_heap hh) kshr_own started (by kernel_rfl) Tryz.func5
    (ChangeSpec.witness_shaped (enc := enc) (C := Tryz.checked) (os := os) (X := fun w _ => laidMetH Tryz.prog Rows.kvShrinksRow.laid w) false (World.doorLaid Tryz.prog 14 os) #[.int .i64 0, .string ⟨#[]⟩] 8 rfl (World.shaped_of_RefB (by kernel_rfl) (by kernel_rfl)) (by kernel_rfl) (by kernel_rfl) (by kernel_rfl) (kshr_met os _)) ?_
  intro W base args ds gs before hval0 hW _ _ hL _
  have hval : ∀ (j : Nat) t v, Tryz.f5.params[j]? = some t → args[j]? = some v → Value.okWide Tryz.prog W .any base t v := hval0
  have hW' := hW
  obtain ⟨p, q, hA0, hV, rfl, hfz, hnd⟩ := hW
  have hA : DataW.TrodAll enc Tryz.prog W 0 (fun _ => true) true Tryz.f5.params.toList args.toList ds p := hA0
  rw [Tryz.params5] at hA hval
  obtain ⟨v0, vs0, d0, ds0, p0, q0, hargs, rfl, rfl, h0, r0⟩ := trodAll_cons hA
  obtain ⟨v1, vs1, d1, ds1, p1, q1, rfl, rfl, rfl, h1, r1⟩ := trodAll_cons r0
  obtain ⟨rfl, rfl, rfl⟩ := trodAll_nil r1
  obtain rfl : args = #[v0, v1] := by cases args; simp_all
  obtain ⟨rfl, rfl⟩ := trodVars_none hV
  obtain ⟨a0, rfl, rfl, rfl, w0⟩ := open_int Tryz.underlying3 (hval 0 3 v0 rfl rfl) h0
  obtain ⟨a1, rfl, rfl, rfl, w1⟩ := open_string Tryz.underlying9 (hval 1 9 v1 rfl rfl) h1
  clear hA0 hval0
  refine (kshrinks_any a0 a1 W (kw_of_laid hL)).mono fun e W' ⟨he, bel⟩ => ?_
  subst he
  exact ⟨_, rfl, _, _, _, [], _, [], hW', trodAll_mk1 (shut_bool Tryz.underlying4 _), (trodAll_cons_mk (shut_int Tryz.underlying3 w0) (trodAll_cons_mk (shut_string Tryz.underlying9 w1) trodAll_mk0)), rfl, bel.frame _, fun h => by cases h⟩
theorem kshr_over : Rows.kvShrinksRow.holds Tryz.pinned (OpenSpec.ofChange Rows.kvShrinksSpec) :=
  OpenClaim.holds_of_wide 5 Tryz.f5 rfl rfl rfl rfl rfl rfl rfl ⟨rfl, rfl, rfl, rfl, rfl⟩ rfl rfl rfl rfl rfl (by kernel_rfl) Tryz.func5 (by kernel_rfl)
    (of_decide_eq_true (by kernel_rfl)) (by unfold Func.isWrapper; first | (rw [if_pos (by decide +kernel)]; kernel_rfl) | (rw [if_neg (by decide +kernel)]; exact ⟨rfl, rfl⟩))
    (fun os started H enc _ => kshr_lifted os started H enc)
/-- The statement. -/
theorem kvShrinks_proved : Rows.KvShrinksSaid := kshr_over
/-- The tied card. -/
theorem kvShrinks_card : Rows.KvShrinksCardSaid :=
  Claim7.holds_tied_plain_at .later [] [.data] true (true, "06bc6f7ae0537ec891154056706a5bc421c75c4368cc0b7f5f22fd8e82935b15") false
    kvShrinks_proved (fun _ h => by cases h) (by kernel_rfl) (fun _ h => by cases h) kvShrinks_row_tie rfl ⟨rfl, rfl⟩ (by kernel_rfl) rfl
    (fun f fn hf hfn => by
      obtain rfl : f = 5 := Option.some.inj ((show Tryz.prog.funcNamed "coracle/coraclelaw9.KvShrinks" = some 5 by kernel_rfl).symm.trans hf) |>.symm
      obtain rfl : fn = Tryz.f5 := (Option.some.inj (Tryz.func5.symm.trans hfn)).symm
      exact ⟨by kernel_rfl, fun j t ht => kshr_stand j t (by rw [Tryz.params5] at ht; exact ht)⟩)
    (by kernel_rfl)
end Go.Proofs.YtlapnnkahijikaaGreatDoor
