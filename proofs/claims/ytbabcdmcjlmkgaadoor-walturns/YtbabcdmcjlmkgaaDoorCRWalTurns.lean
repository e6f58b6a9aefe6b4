/- coraclelaw8.WalTurns: whatever is appended and begun anew, the records are those, in order, opened again too; two logs in one place do not meet. Every input (the first form); conditions: those of the given row alone, and the round words as the program lays them (the tied card). -/
import Derived.Test.YtbabcdmcjlmkgaaDoorZL
import Derived.Test.YtbabcdmcjlmkgaaDoorZB
import Derived.Test.YtbabcdmcjlmkgaaDoorCLTurns
import Derived.HandedShaped
import Derived.ShutString
import Derived.ChangeOld
import Derived.LaidMore
import Derived.Below
namespace Go.Proofs.YtbabcdmcjlmkgaaDoor
open Go.ChangeShapes Go.WideShapes Go.ChangeAt Go.RowKit

theorem wturns_stand (j : Nat) (t : TypeId) (ht : (#[22, 22] : Array TypeId)[j]? = some t) : Tryd.prog.wantsStandIn t = false := by
  rcases j with _ | _ | j
  · obtain rfl : t = 22 := by simpa using ht.symm
    kernel_rfl
  · obtain rfl : t = 22 := by simpa using ht.symm
    kernel_rfl
  · simp at ht
theorem wturns_own : ownKnob Tryd.prog.godebug = none := by kernel_rfl
theorem wturns_laidOut : laidOutB Tryd.prog = true := by kernel_rfl
/-- The door's own heap meets the condition. -/
theorem wturns_met (os : Os) (args : Array Value) : laidMetH Tryd.prog Rows.walTurnsRow.laid ((World.doorLaid Tryd.prog 14 os).forCall (fun _ _ => 0) ⟨#[], args, []⟩).memory :=
  laidMetH_of_parts3 (fuel := 8) (laidMet_of_run' 8 (by kernel_rfl) (by kernel_rfl)) (by kernel_rfl) (by kernel_rfl)
set_option maxRecDepth 100000 in
theorem wturns_lifted (os : Os) (started : os.Started) (H : Type) (enc : TypeId × Value → H) :
    ReturnsInHanded {} Tryd.checked os 3 .any (fun w args => (Rows.walTurnsSpec.pre enc Tryd.prog Tryd.f3 [] false w args ∧ laidMetH Tryd.prog Rows.walTurnsRow.laid w) ∧ sizedMet enc Tryd.prog Tryd.f3 (OpenSpec.ofChange Rows.walTurnsSpec) false w args)
      (Rows.walTurnsSpec.post enc Tryd.prog Tryd.f3 false true false false) := by
  refine returnsInHanded_of_change_and (C := Tryd.checked) (X := fun w _ => laidMetH Tryd.prog Rows.walTurnsRow.laid w) (fun _ _ _ hh h => h.of_heap hh) wturns_own started (by kernel_rfl) Tryd.func3
    (ChangeSpec.witness_shaped (enc := enc) (C := Tryd.checked) (os := os) (X := fun w _ => laidMetH Tryd.prog Rows.walTurnsRow.laid w) false (World.doorLaid Tryd.prog 14 os) #[.slice none 0 0, .slice none 0 0] 8 rfl (World.shaped_of_RefB (by kernel_rfl) (by kernel_rfl)) (by kernel_rfl) (by kernel_rfl) (by kernel_rfl) (wturns_met os _)) ?_
  intro W base args ds gs before hval0 hW _ _ hL _
  have hval : ∀ (j : Nat) t v, Tryd.f3.params[j]? = some t → args[j]? = some v → Value.okWide Tryd.prog W .any base t v := hval0
  have hW' := hW
  obtain ⟨p, q, hA0, hV, rfl, hfz, hnd⟩ := hW
  have hA : DataW.TrodAll enc Tryd.prog W 0 (fun _ => true) true Tryd.f3.params.toList args.toList ds p := hA0
  rw [Tryd.params3] at hA hval
  obtain ⟨v0, vs0, d0, ds0, p0, q0, hargs, rfl, rfl, h0, r0⟩ := trodAll_cons hA
  obtain ⟨v1, vs1, d1, ds1, p1, q1, rfl, rfl, rfl, h1, r1⟩ := trodAll_cons r0
  obtain ⟨rfl, rfl, rfl⟩ := trodAll_nil r1
  obtain rfl : args = #[v0, v1] := by cases args; simp_all
  obtain ⟨rfl, rfl⟩ := trodVars_none hV
  have k0 := h0
  have lt0 : ∀ x ∈ p0, x.block < W.heap.size := by obtain ⟨m, hm⟩ := k0; exact DataW.trod_lt m _ _ _ hm
  obtain ⟨a0, len0, cap0, rfl⟩ := okWide_slice Tryd.underlying22 (hval 0 22 v0 rfl rfl)
  obtain ⟨l0, n0, c0, m0, g0⟩ : ∃ l : List Turn, l.length = len0 ∧ len0 ≤ cap0 ∧ cap0 ≤ maxLen ∧ Turns W a0 l := by
    obtain ⟨fuel, hf⟩ := h0
    exact open_turns hf
  have k1 := h1
  have lt1 : ∀ x ∈ p1, x.block < W.heap.size := by obtain ⟨m, hm⟩ := k1; exact DataW.trod_lt m _ _ _ hm
  obtain ⟨a1, len1, cap1, rfl⟩ := okWide_slice Tryd.underlying22 (hval 1 22 v1 rfl rfl)
  obtain ⟨l1, n1, c1, m1, g1⟩ : ∃ l : List Turn, l.length = len1 ∧ len1 ≤ cap1 ∧ cap1 ≤ maxLen ∧ Turns W a1 l := by
    obtain ⟨fuel, hf⟩ := h1
    exact open_turns hf
  clear hA0 hval0
  refine (wturns_any _ _ _ _ _ _ l0 l1 W (kw_of_laid hL) g0 n0 g1 n1).mono fun e W' ⟨he, bel⟩ => ?_
  subst he
  exact ⟨_, rfl, _, _, _, [], _, [], hW', trodAll_mk1 (shut_bool Tryd.underlying4 _), (trodAll_cons_mk (Below.trod wturns_laidOut (by kernel_rfl) (of_decide_eq_true (by kernel_rfl)) k0 bel lt0) (trodAll_cons_mk (Below.trod wturns_laidOut (by kernel_rfl) (of_decide_eq_true (by kernel_rfl)) k1 bel lt1) trodAll_mk0)), rfl, bel.frame _, fun h => by cases h⟩
theorem wturns_over : Rows.walTurnsRow.holds Tryd.pinned (OpenSpec.ofChange Rows.walTurnsSpec) :=
  OpenClaim.holds_of_wide 3 Tryd.f3 rfl rfl rfl rfl rfl rfl rfl ⟨rfl, rfl, rfl, rfl, rfl⟩ rfl rfl rfl rfl rfl (by kernel_rfl) Tryd.func3 (by kernel_rfl)
    (of_decide_eq_true (by kernel_rfl)) (by unfold Func.isWrapper; first | (rw [if_pos (by decide +kernel)]; kernel_rfl) | (rw [if_neg (by decide +kernel)]; exact ⟨rfl, rfl⟩))
    (fun os started H enc _ => wturns_lifted os started H enc)
/-- The statement. -/
theorem walTurns_proved : Rows.WalTurnsSaid := wturns_over
/-- The tied card. -/
theorem walTurns_card : Rows.WalTurnsCardSaid :=
  Claim7.holds_tied_plain_at .later [] [.data] true (true, "02238fb19e371699a92a5f10605e5d9b49794ba89df560fd2826efe9e45aaa18") false
    walTurns_proved (fun _ h => by cases h) (by kernel_rfl) (fun _ h => by cases h) walTurns_row_tie rfl ⟨rfl, rfl⟩ (by kernel_rfl) rfl
    (fun f fn hf hfn => by
      obtain rfl : f = 3 := Option.some.inj ((show Tryd.prog.funcNamed "coracle/coraclelaw8.WalTurns" = some 3 by kernel_rfl).symm.trans hf) |>.symm
      obtain rfl : fn = Tryd.f3 := (Option.some.inj (Tryd.func3.symm.trans hfn)).symm
      exact ⟨by kernel_rfl, fun j t ht => wturns_stand j t (by rw [Tryd.params3] at ht; exact ht)⟩)
    (by kernel_rfl)
end Go.Proofs.YtbabcdmcjlmkgaaDoor
