/- point.rowHas: is an outpoint in a row that is sorted, each once? -/
import Derived.Test.YtlgadelcgboeoaaDoorPTimes
import Derived.Deep.RegionHeld3
namespace Go.Proofs.YtlgadelcgboeoaaDoor
open Go.ChangeShapes Go.WideShapes Go.ChangeAt Go.RowKit

theorem inc_lt {r : List Pt} (h : Inc r) {i j : Nat} (hij : i < j) (hj : j < r.length) : ltPt (r.getD i default) (r.getD j default) = true := by
  have := List.pairwise_iff_getElem.1 h i j (by omega) hj hij
  rw [List.getD_eq_getElem?_getD, List.getD_eq_getElem?_getD, List.getElem?_eq_getElem hj, List.getElem?_eq_getElem (show i < r.length by omega)]
  exact this

set_option maxRecDepth 100000 in
set_option maxHeartbeats 4000000 in
theorem rowHas_any (a : Option Addr) (n cap : Nat) (r : List Pt) (p : Pt) (w : World) (hp : Pts w a n cap r) (hr : Inc r) (hn : n ≤ 100000) :
    Calls Tryd.prog 41 #[.slice a n cap, .agg p.cs.toArray] w fun e w' => e = .returned (.bool (decide (p ∈ r))) ∧ Below w.heap.size w w' := by
  have HU := und_pt
  have HMO := follows_mixed
  have HL : Hid (r.length = n) := hp.len
  have HI : Hid (Inc r) := hr
  clear hr
  go_enter Tryd.func41, Tryd.ntmps41
  go_upto_region 1 with fail
  generalize hw1 : World.alloc w _ = w1
  have hA1 : Blk w1 w.heap.size p.cs := by rw [← hw1]; exact Blk.new _ _ _
  have hb1 : Below w.heap.size w w1 := by rw [← hw1]; exact (Below.refl _ _).alloc (Nat.le_refl _) _
  have HP1 : Hid (Pts w1 a n cap r) := hp.below hb1
  clear hw1 hp
  generalize hN : w.heap.size = N at *
  have HA1 : Hid (Blk w1 N p.cs) := hA1
  clear hA1
  go_wp2_with fail
  refine wp_scope_hops 1 ?_
  go_hide hQ
  go_wp2_with fail
  go_loopw [5, 6, 7] (fun f s t wr => ∃ lo hi : Nat, lo ≤ hi ∧ hi ≤ n ∧ f = .bool false ∧ s = .int .i64 lo ∧ t = .int .i64 hi ∧ Hid (∀ j, j < lo → ltPt (r.getD j default) p = true) ∧ Hid (∀ j, hi ≤ j → j < n → ltPt p (r.getD j default) = true) ∧ Hid (Blk wr N p.cs) ∧ Hid (Pts wr a n cap r) ∧ Below N w wr) (fun _ s t _ => (intOf t).toNat - (intOf s).toNat)
  case atStart => exact ⟨0, n, by omega, by omega, rfl, rfl, rfl, fun j hj => absurd hj (Nat.not_lt_zero _), fun j h1 h2 => by omega, HA1.out, HP1.out, hb1⟩
  case round =>
    obtain ⟨lo, hi, hlh, hhn, rfl, rfl, rfl, HLO, HHI, HA, HPk, hbk⟩ := hrel
    clear HA1 hb1 HP1
    by_cases hlt : lo < hi
    · have e1 : (lo : Int) < (hi : Int) := by omega
      obtain ⟨m, hm1, hm2, hm⟩ : ∃ m : Nat, lo ≤ m ∧ m < hi ∧ (lo : Int) + ((hi : Int) - (lo : Int)).tdiv 2 = (m : Int) := ⟨lo + (hi - lo) / 2, by omega, by omega, by rw [Int.tdiv_eq_ediv_of_nonneg (by omega)]; omega⟩
      go_wp2_with fail
      have f0 : (0 : Int) ≤ (m : Int) := by omega
      have f1 : (m : Int) < (n : Int) := by omega
      have hmn : m < n := by omega
      have hbd : Below wr.heap.size wr wr.drew := (Below.refl _ _).drew
      obtain ⟨b, o, rfl, hc⟩ := (HPk.out.below hbd).at m hmn
      obtain ⟨x, hx⟩ : ∃ x, x = r.getD m default := ⟨_, rfl⟩
      rw [← hx] at hc
      have HX : Hid (x = r.getD m default) := hx
      have HC : Hid (wr.drew.rangeAt b (o + m * 33) x.cs) := hc
      have HC2 : Hid (wr.drew.rangeAt N 0 p.cs) := HA.out.drew.whole
      have HB : Hid (Below N w wr.drew ∧ Pts wr.drew (some ⟨b, o, none⟩) n cap r ∧ Blk wr.drew N p.cs) := ⟨hbk.drew, HPk.out.below hbd, HA.out.drew⟩
      clear hx hc hbk hbd HPk HA
      have q1 : ∀ w', (binOp .eql 26 (.agg x.cs.toArray) (.agg p.cs.toArray)).run Tryd.prog w' = .ok (.bool (decide (x = p))) w' := eql_pt x p
      have q2 : ∀ (op : BinOp) (u v : Operand) w', (eqGuard op 26 u v (.agg x.cs.toArray) (.agg p.cs.toArray)).run Tryd.prog w' = .ok () w' := fun op u v => guard_pt op u v x p
      have q3 : ∀ w', (Op.equalIn 10000 26 (.agg x.cs.toArray) (.agg p.cs.toArray)).run Tryd.prog w' = .ok (decide (x = p)) w' := equalIn_pt x p
      refine wp_region_reads HMO.out (by kernel_rfl) ?_
      iterate 3 still_step
      refine still_load_mid rfl 26 _ rfl b (o + m * 33) rfl x.cs _ HC.out HU.out rfl (size_pt x) ?_
      simp only [Act.put, List.setIfInBounds_toArray, List.set_cons_zero, List.set_cons_succ]
      refine still_load_mid rfl 26 _ rfl N 0 rfl p.cs _ HC2.out HU.out rfl (size_pt p) ?_
      simp only [Act.put, List.setIfInBounds_toArray, List.set_cons_zero, List.set_cons_succ]
      still_step
      refine wpStill_nil ?_
      generalize wr.drew = w2 at HC HC2 HB ⊢
      by_cases hxy : x = p
      · have hd : decide (x = p) = true := decide_eq_true hxy
        have HR : Hid (decide (p ∈ r) = true) := by
          show _ = _
          rw [← hxy, HX.out]; exact decide_eq_true (getD_mem (by rw [HL.out]; exact hmn))
        rw [hd]
        clear q1 q2 q3 HC HC2 hd hxy
        go_wp2_with fail
        go_step3
        subst hQ
        refine show hops _ _ _ 1 (Exit.goto 0) _ _ from ?_
        rw [hops_goto]
        refine ⟨_, rfl, ?_⟩
        go_hide hQ
        go_wp2_with fail
        subst hQ
        rw [hops_ret]
        go_ret
        subst hN
        exact ⟨ret_bool HR.out.symm, HB.out.1⟩
      · have hd : decide (x = p) = false := decide_eq_false hxy
        have HXY : Hid (¬ x = p) := hxy
        rw [hd]
        clear q1 q2 q3 HC HC2 hd hxy hm
        go_wp2_with fail
        have HSK : Hid (∀ w', Below w2.heap.size w2 w' → w'.rangeAt b (o + m * 33) x.cs ∧ w'.rangeAt N 0 p.cs) := fun w' hw' => by
          obtain ⟨b', o', e, hc⟩ := (HB.out.2.1.below hw').at m hmn
          injection e with e
          injection e with e1 e2
          subst e1; subst e2
          rw [← HX.out] at hc
          exact ⟨hc, (HB.out.2.2.below hw' HB.out.2.2.lt).whole⟩
        have u26 := HU.out
        have ix := size_pt x
        have ip := size_pt p
        refine wp_region_noPanic ?_
        refine wp_region_held_drew (S := fun w' => w'.rangeAt b (o + m * 33) x.cs ∧ w'.rangeAt N 0 p.cs) HMO.out (HSK.out _ (Below.refl _ _).drew) (fun hHeld => ?_)
        refine wpAnyH_take (i := 0) (oi := { dst := some 26, op := .move (.tmp 0), type := 22, pos := "point.go:128", after := #[], guard := none }) (v := ?_) rfl (by kernel_rfl) (by kernel_rfl) (by kernel_rfl) (fun _ _ _ h => h) (Or.inl ⟨by rfl, ?_⟩) (by assumption) ?_
        rotate_left
        · intro _ _; go_simp; first | done | with_reducible rfl
        simp only [Act.put, List.setIfInBounds_toArray, List.set_cons_zero, List.set_cons_succ]
        refine wpAnyH_take (i := 1) (oi := { dst := some 27, op := .move (.tmp 8), type := 3, pos := "point.go:128", after := #[], guard := none }) (v := ?_) rfl (by kernel_rfl) (by kernel_rfl) (by kernel_rfl) (fun _ _ _ h => h) (Or.inl ⟨by rfl, ?_⟩) (by assumption) ?_
        rotate_left
        · intro _ _; go_simp; first | done | with_reducible rfl
        simp only [Act.put, List.setIfInBounds_toArray, List.set_cons_zero, List.set_cons_succ]
        refine wpAnyH_take (i := 2) (oi := { dst := some 28, op := .indexAddr 22 (.tmp 26) (.tmp 27), type := 0, pos := "point.go:128", after := #[{ on := 0, ground := .data }, { on := 1, ground := .data }], guard := none }) (v := ?_) rfl (by kernel_rfl) (by kernel_rfl) (by kernel_rfl) (fun _ _ _ h => h) (Or.inl ⟨by rfl, ?_⟩) (by assumption) ?_
        rotate_left
        · intro _ _; go_simp; first | done | with_reducible rfl
        simp only [Act.put, List.setIfInBounds_toArray, List.set_cons_zero, List.set_cons_succ]
        refine wpAnyH_take (i := 3) (oi := { dst := some 29, op := .load 26 (.tmp 28), type := 26, pos := "point.go:128", after := #[{ on := 2, ground := .data }], guard := none }) (v := _) rfl (by kernel_rfl) (by kernel_rfl) (by kernel_rfl) (fun _ _ _ h => h) (yieldsIf_load_mid (by rfl) _ _ rfl (b) (o + m * 33) rfl (x.cs) _ (fun _ h => h.1) (u26) rfl (ix)) (by assumption) ?_
        simp only [Act.put, List.setIfInBounds_toArray, List.set_cons_zero, List.set_cons_succ]
        refine wpAnyH_take (i := 4) (oi := { dst := some 30, op := .load 26 (.tmp 3), type := 26, pos := "point.go:128", after := #[], guard := none }) (v := _) rfl (by kernel_rfl) (by kernel_rfl) (by kernel_rfl) (fun _ _ _ h => h) (yieldsIf_load_mid (by rfl) _ _ rfl (N) (0) rfl (p.cs) _ (fun _ h => h.2) (u26) rfl (ip)) (by assumption) ?_
        simp only [Act.put, List.setIfInBounds_toArray, List.set_cons_zero, List.set_cons_succ]
        refine wpAnyH_ready (rs := [5]) (by kernel_rfl) (by simp) ?_
        refine AllReadyH.cons (o := { dst := some 31, op := .call { callee := .value (.func 19), args := #[.tmp 29, .tmp 30], argTypes := #[26, 26] }, type := 4, pos := "point.go:128", after := #[{ on := 3, ground := .data }, { on := 4, ground := .data }], guard := none }) rfl (fun K hK => ?_) AllReadyH.nil
        go_simp
        refine (pless_any x p _).mono ?_; rintro e w3 ⟨rfl, hb3⟩; have h3 : Below w2.heap.size w2 w3 := ⟨hb3.1.os, hb3.1.tape, hb3.1.output, hb3.1.size, hb3.1.block⟩
        go_simp
        refine hK.out _ _ (HSK.out _ h3) (fun hHeld => ?_)
        clear hK K
        refine wpAnyH_done (by kernel_rfl) ?_ _
        refine NoPanic.normal ?_
        clear u26 ix ip hHeld
        have HB3 : Hid (Below N w w3 ∧ Pts w3 (some ⟨b, o, none⟩) n cap r ∧ Blk w3 N p.cs) := ⟨HB.out.1.trans (h3.mono (Nat.le_of_lt HB.out.2.2.lt)), HB.out.2.1.below h3, HB.out.2.2.below h3 HB.out.2.2.lt⟩
        clear hb3 h3 HSK HB
        cases hl : ltPt x p with
        | true =>
          have HXP : Hid (ltPt x p = true) := hl
          clear hl
          go_wp2_with fail
          go_roundw
          case rel =>
            obtain ⟨h1, h2, h3⟩ := HB3.out
            refine ⟨m + 1, hi, by omega, by omega, rfl, by go_num, rfl, fun j hj => ?_, HHI.out, h3, h2, h1⟩
            by_cases e : j = m
            · subst e; rw [← HX.out]; exact HXP.out
            · refine ltPt_trans (inc_lt HI.out (show j < m by omega) (by rw [HL.out]; exact hmn)) ?_
              rw [← HX.out]; exact HXP.out
          case measure => simp [intOf]; omega
        | false =>
          have HXP : Hid (ltPt p x = true) := by
            show _ = _
            cases u : ltPt p x with
            | true => rfl
            | false => exact absurd (ltPt_conn hl u) HXY.out
          clear hl
          go_wp2_with fail
          go_roundw
          case rel =>
            obtain ⟨h1, h2, h3⟩ := HB3.out
            refine ⟨lo, m, by omega, by omega, rfl, rfl, rfl, HLO.out, fun j hj1 hj2 => ?_, h3, h2, h1⟩
            by_cases e : j = m
            · subst e; rw [← HX.out]; exact HXP.out
            · refine ltPt_trans HXP.out ?_
              rw [HX.out]
              exact inc_lt HI.out (show m < j by omega) (by rw [HL.out]; exact hj2)
          case measure => simp [intOf]; omega
    · obtain rfl : lo = hi := by omega
      have HR : Hid (decide (p ∈ r) = false) := by
        show _ = _
        refine decide_eq_false fun hm => ?_
        obtain ⟨j, hj, e⟩ := mem_getD hm
        rw [HL.out] at hj
        by_cases hjl : j < lo
        · have := HLO.out j hjl
          rw [e, ltPt_irrefl] at this; cases this
        · have := HHI.out j (by omega) hj
          rw [e, ltPt_irrefl] at this; cases this
      go_wp2_with fail
      go_step3
      go_wp2_with fail
      subst hQ
      rw [hops_ret]
      go_ret
      subst hN
      exact ⟨ret_bool HR.out.symm, hbk⟩
end Go.Proofs.YtlgadelcgboeoaaDoor
