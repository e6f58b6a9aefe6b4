/- coraclealike.Points; the document's own Times. point.rowHas: is an outpoint in a row that is sorted, each once? A row of outpoints of the call's own that grows by append. No program's text is walked here. point.pick, Both, Minus: those of a row that another one has, and those that it has not. -/
import Derived.Test.YteikbpkjikacmaaGreatDoorZQ1
import Derived.Deep.RegionHeld3
import Derived.Laws.AppendOwnNone
import Derived.Great.BuildSlice
namespace Go.Proofs.YteikbpkjikacmaaGreatDoor
open Go.ChangeShapes Go.WideShapes Go.ChangeAt Go.RowKit

theorem ext_getD {l r : List Pt} (hl : l.length = r.length) (h : ∀ j, j < l.length → l.getD j default = r.getD j default) : l = r := by
  apply List.ext_getElem hl
  intro j h1 h2
  have := h j h1
  rw [List.getD_eq_getElem?_getD, List.getD_eq_getElem?_getD, List.getElem?_eq_getElem h1, List.getElem?_eq_getElem h2] at this
  exact this

theorem count_take (l : List Pt) (p : Pt) (k : Nat) (h : k < l.length) : (l.take (k + 1)).count p = (l.take k).count p + if l.getD k default = p then 1 else 0 := by
  rw [List.take_add_one, List.getElem?_eq_getElem h, List.getD_eq_getElem?_getD, List.getElem?_eq_getElem h]
  simp only [Option.toList_some, Option.getD_some, List.count_append, List.count_singleton]
  congr 1
  by_cases e : l[k] = p <;> simp [e]

end Go.Proofs.YteikbpkjikacmaaGreatDoor
namespace Go.Proofs.YteikbpkjikacmaaGreatDoor
open Go.ChangeShapes Go.WideShapes Go.ChangeAt Go.RowKit

theorem inc_lt {r : List Pt} (h : Inc r) {i j : Nat} (hij : i < j) (hj : j < r.length) : ltPt (r.getD i default) (r.getD j default) = true := by
  have := List.pairwise_iff_getElem.1 h i j (by omega) hj hij
  rw [List.getD_eq_getElem?_getD, List.getD_eq_getElem?_getD, List.getElem?_eq_getElem hj, List.getElem?_eq_getElem (show i < r.length by omega)]
  exact this

set_option maxRecDepth 100000 in
set_option maxHeartbeats 4000000 in
theorem rowHas_any (a : Option Addr) (n cap : Nat) (r : List Pt) (p : Pt) (w : World) (hp : Pts w a n cap r) (hr : Inc r) (hn : n ≤ 100000) :
    Calls Tryz.prog 89 #[.slice a n cap, .agg p.cs.toArray] w fun e w' => e = .returned (.bool (decide (p ∈ r))) ∧ Below w.heap.size w w' := by
  have HU := und_pt
  have HMO := follows_mixed
  have HL : Hid (r.length = n) := hp.len
  have HI : Hid (Inc r) := hr
  clear hr
  go_enter Tryz.func89, Tryz.ntmps89
  go_upto_region 1 with fail
  generalize hw1 : World.alloc w _ = w1
  have hA1 : Blk w1 w.heap.size p.cs := by rw [← hw1]; exact Blk.new _ _ _
  have hb1 : Below w.heap.size w w1 := by rw [← hw1]; exact (Below.refl _ _).alloc (Nat.le_refl _) _
  have HP1 : Hid (Pts w1 a n cap r) := hp.below hb1
  clear hw1 hp
  generalize hN : w.heap.size = N at *
  have HA1 : Hid (Blk w1 N p.cs) := hA1
  clear hA1
  go_wp2_with fail
  refine wp_scope_hops 1 ?_
  go_hide hQ
  go_wp2_with fail
  go_loopw [5, 6, 7] (fun f s t wr => ∃ lo hi : Nat, lo ≤ hi ∧ hi ≤ n ∧ f = .bool false ∧ s = .int .i64 lo ∧ t = .int .i64 hi ∧ Hid (∀ j, j < lo → ltPt (r.getD j default) p = true) ∧ Hid (∀ j, hi ≤ j → j < n → ltPt p (r.getD j default) = true) ∧ Hid (Blk wr N p.cs) ∧ Hid (Pts wr a n cap r) ∧ Below N w wr) (fun _ s t _ => (intOf t).toNat - (intOf s).toNat)
  case atStart => exact ⟨0, n, by omega, by omega, rfl, rfl, rfl, fun j hj => absurd hj (Nat.not_lt_zero _), fun j h1 h2 => by omega, HA1.out, HP1.out, hb1⟩
  case round =>
    obtain ⟨lo, hi, hlh, hhn, rfl, rfl, rfl, HLO, HHI, HA, HPk, hbk⟩ := hrel
    clear HA1 hb1 HP1
    by_cases hlt : lo < hi
    · have e1 : (lo : Int) < (hi : Int) := by omega
      obtain ⟨m, hm1, hm2, hm⟩ : ∃ m : Nat, lo ≤ m ∧ m < hi ∧ (lo : Int) + ((hi : Int) - (lo : Int)).tdiv 2 = (m : Int) := ⟨lo + (hi - lo) / 2, by omega, by omega, by rw [Int.tdiv_eq_ediv_of_nonneg (by omega)]; omega⟩
      go_wp2_with fail
      have f0 : (0 : Int) ≤ (m : Int) := by omega
      have f1 : (m : Int) < (n : Int) := by omega
      have hmn : m < n := by omega
      have hbd : Below wr.heap.size wr wr.drew := (Below.refl _ _).drew
      obtain ⟨b, o, rfl, hc⟩ := (HPk.out.below hbd).at m hmn
      obtain ⟨x, hx⟩ : ∃ x, x = r.getD m default := ⟨_, rfl⟩
      rw [← hx] at hc
      have HX : Hid (x = r.getD m default) := hx
      have HC : Hid (wr.drew.rangeAt b (o + m * 33) x.cs) := hc
      have HC2 : Hid (wr.drew.rangeAt N 0 p.cs) := HA.out.drew.whole
      have HB : Hid (Below N w wr.drew ∧ Pts wr.drew (some ⟨b, o, none⟩) n cap r ∧ Blk wr.drew N p.cs) := ⟨hbk.drew, HPk.out.below hbd, HA.out.drew⟩
      clear hx hc hbk hbd HPk HA
      have q1 : ∀ w', (binOp .eql 30 (.agg x.cs.toArray) (.agg p.cs.toArray)).run Tryz.prog w' = .ok (.bool (decide (x = p))) w' := eql_pt x p
      have q2 : ∀ (op : BinOp) (u v : Operand) w', (eqGuard op 30 u v (.agg x.cs.toArray) (.agg p.cs.toArray)).run Tryz.prog w' = .ok () w' := fun op u v => guard_pt op u v x p
      have q3 : ∀ w', (Op.equalIn 10000 30 (.agg x.cs.toArray) (.agg p.cs.toArray)).run Tryz.prog w' = .ok (decide (x = p)) w' := equalIn_pt x p
      refine wp_region_reads HMO.out (by kernel_rfl) ?_
      iterate 3 still_step
      refine still_load_mid rfl 30 _ rfl b (o + m * 33) rfl x.cs _ HC.out HU.out rfl (size_pt x) ?_
      simp only [Act.put, List.setIfInBounds_toArray, List.set_cons_zero, List.set_cons_succ]
      refine still_load_mid rfl 30 _ rfl N 0 rfl p.cs _ HC2.out HU.out rfl (size_pt p) ?_
      simp only [Act.put, List.setIfInBounds_toArray, List.set_cons_zero, List.set_cons_succ]
      still_step
      refine wpStill_nil ?_
      generalize wr.drew = w2 at HC HC2 HB ⊢
      by_cases hxy : x = p
      · have hd : decide (x = p) = true := decide_eq_true hxy
        have HR : Hid (decide (p ∈ r) = true) := by
          show _ = _
          rw [← hxy, HX.out]; exact decide_eq_true (getD_mem (by rw [HL.out]; exact hmn))
        rw [hd]
        clear q1 q2 q3 HC HC2 hd hxy
        go_wp2_with fail
        go_step3
        subst hQ
        refine show hops _ _ _ 1 (Exit.goto 0) _ _ from ?_
        rw [hops_goto]
        refine ⟨_, rfl, ?_⟩
        go_hide hQ
        go_wp2_with fail
        subst hQ
        rw [hops_ret]
        go_ret
        subst hN
        exact ⟨ret_bool HR.out.symm, HB.out.1⟩
      · have hd : decide (x = p) = false := decide_eq_false hxy
        have HXY : Hid (¬ x = p) := hxy
        rw [hd]
        clear q1 q2 q3 HC HC2 hd hxy hm
        go_wp2_with fail
        have HSK : Hid (∀ w', Below w2.heap.size w2 w' → w'.rangeAt b (o + m * 33) x.cs ∧ w'.rangeAt N 0 p.cs) := fun w' hw' => by
          obtain ⟨b', o', e, hc⟩ := (HB.out.2.1.below hw').at m hmn
          injection e with e
          injection e with e1 e2
          subst e1; subst e2
          rw [← HX.out] at hc
          exact ⟨hc, (HB.out.2.2.below hw' HB.out.2.2.lt).whole⟩
        have u26 := HU.out
        have ix := size_pt x
        have ip := size_pt p
        refine wp_region_noPanic ?_
        refine wp_region_held_drew (S := fun w' => w'.rangeAt b (o + m * 33) x.cs ∧ w'.rangeAt N 0 p.cs) HMO.out (HSK.out _ (Below.refl _ _).drew) (fun hHeld => ?_)
        refine wpAnyH_take (i := 0) (oi := { dst := some 26, op := .move (.tmp 0), type := 89, pos := "point.go:128", after := #[], guard := none }) (v := ?_) rfl (by kernel_rfl) (by kernel_rfl) (by kernel_rfl) (fun _ _ _ h => h) (Or.inl ⟨by rfl, ?_⟩) (by assumption) ?_
        rotate_left
        · intro _ _; go_simp; first | done | with_reducible rfl
        simp only [Act.put, List.setIfInBounds_toArray, List.set_cons_zero, List.set_cons_succ]
        refine wpAnyH_take (i := 1) (oi := { dst := some 27, op := .move (.tmp 8), type := 3, pos := "point.go:128", after := #[], guard := none }) (v := ?_) rfl (by kernel_rfl) (by kernel_rfl) (by kernel_rfl) (fun _ _ _ h => h) (Or.inl ⟨by rfl, ?_⟩) (by assumption) ?_
        rotate_left
        · intro _ _; go_simp; first | done | with_reducible rfl
        simp only [Act.put, List.setIfInBounds_toArray, List.set_cons_zero, List.set_cons_succ]
        refine wpAnyH_take (i := 2) (oi := { dst := some 28, op := .indexAddr 89 (.tmp 26) (.tmp 27), type := 0, pos := "point.go:128", after := #[{ on := 0, ground := .data }, { on := 1, ground := .data }], guard := none }) (v := ?_) rfl (by kernel_rfl) (by kernel_rfl) (by kernel_rfl) (fun _ _ _ h => h) (Or.inl ⟨by rfl, ?_⟩) (by assumption) ?_
        rotate_left
        · intro _ _; go_simp; first | done | with_reducible rfl
        simp only [Act.put, List.setIfInBounds_toArray, List.set_cons_zero, List.set_cons_succ]
        refine wpAnyH_take (i := 3) (oi := { dst := some 29, op := .load 30 (.tmp 28), type := 30, pos := "point.go:128", after := #[{ on := 2, ground := .data }], guard := none }) (v := _) rfl (by kernel_rfl) (by kernel_rfl) (by kernel_rfl) (fun _ _ _ h => h) (yieldsIf_load_mid (by rfl) _ _ rfl (b) (o + m * 33) rfl (x.cs) _ (fun _ h => h.1) (u26) rfl (ix)) (by assumption) ?_
        simp only [Act.put, List.setIfInBounds_toArray, List.set_cons_zero, List.set_cons_succ]
        refine wpAnyH_take (i := 4) (oi := { dst := some 30, op := .load 30 (.tmp 3), type := 30, pos := "point.go:128", after := #[], guard := none }) (v := _) rfl (by kernel_rfl) (by kernel_rfl) (by kernel_rfl) (fun _ _ _ h => h) (yieldsIf_load_mid (by rfl) _ _ rfl (N) (0) rfl (p.cs) _ (fun _ h => h.2) (u26) rfl (ip)) (by assumption) ?_
        simp only [Act.put, List.setIfInBounds_toArray, List.set_cons_zero, List.set_cons_succ]
        refine wpAnyH_ready (rs := [5]) (by kernel_rfl) (by simp) ?_
        refine AllReadyH.cons (o := { dst := some 31, op := .call { callee := .value (.func 98), args := #[.tmp 29, .tmp 30], argTypes := #[30, 30] }, type := 4, pos := "point.go:128", after := #[{ on := 3, ground := .data }, { on := 4, ground := .data }], guard := none }) rfl (fun K hK => ?_) AllReadyH.nil
        go_simp
        refine (pless_any x p _).mono ?_; rintro e w3 ⟨rfl, hb3⟩; have h3 : Below w2.heap.size w2 w3 := ⟨hb3.1.os, hb3.1.tape, hb3.1.output, hb3.1.size, hb3.1.block⟩
        go_simp
        refine hK.out _ _ (HSK.out _ h3) (fun hHeld => ?_)
        clear hK K
        refine wpAnyH_done (by kernel_rfl) ?_ _
        refine NoPanic.normal ?_
        clear u26 ix ip hHeld
        have HB3 : Hid (Below N w w3 ∧ Pts w3 (some ⟨b, o, none⟩) n cap r ∧ Blk w3 N p.cs) := ⟨HB.out.1.trans (h3.mono (Nat.le_of_lt HB.out.2.2.lt)), HB.out.2.1.below h3, HB.out.2.2.below h3 HB.out.2.2.lt⟩
        clear hb3 h3 HSK HB
        cases hl : ltPt x p with
        | true =>
          have HXP : Hid (ltPt x p = true) := hl
          clear hl
          go_wp2_with fail
          go_roundw
          case rel =>
            obtain ⟨h1, h2, h3⟩ := HB3.out
            refine ⟨m + 1, hi, by omega, by omega, rfl, by go_num, rfl, fun j hj => ?_, HHI.out, h3, h2, h1⟩
            by_cases e : j = m
            · subst e; rw [← HX.out]; exact HXP.out
            · refine ltPt_trans (inc_lt HI.out (show j < m by omega) (by rw [HL.out]; exact hmn)) ?_
              rw [← HX.out]; exact HXP.out
          case measure => simp [intOf]; omega
        | false =>
          have HXP : Hid (ltPt p x = true) := by
            show _ = _
            cases u : ltPt p x with
            | true => rfl
            | false => exact absurd (ltPt_conn hl u) HXY.out
          clear hl
          go_wp2_with fail
          go_roundw
          case rel =>
            obtain ⟨h1, h2, h3⟩ := HB3.out
            refine ⟨lo, m, by omega, by omega, rfl, rfl, rfl, HLO.out, fun j hj1 hj2 => ?_, h3, h2, h1⟩
            by_cases e : j = m
            · subst e; rw [← HX.out]; exact HXP.out
            · refine ltPt_trans HXP.out ?_
              rw [HX.out]
              exact inc_lt HI.out (show m < j by omega) (by rw [HL.out]; exact hj2)
          case measure => simp [intOf]; omega
    · obtain rfl : lo = hi := by omega
      have HR : Hid (decide (p ∈ r) = false) := by
        show _ = _
        refine decide_eq_false fun hm => ?_
        obtain ⟨j, hj, e⟩ := mem_getD hm
        rw [HL.out] at hj
        by_cases hjl : j < lo
        · have := HLO.out j hjl
          rw [e, ltPt_irrefl] at this; cases this
        · have := HHI.out j (by omega) hj
          rw [e, ltPt_irrefl] at this; cases this
      go_wp2_with fail
      go_step3
      go_wp2_with fail
      subst hQ
      rw [hops_ret]
      go_ret
      subst hN
      exact ⟨ret_bool HR.out.symm, hbk⟩
end Go.Proofs.YteikbpkjikacmaaGreatDoor
namespace Go.Proofs.YteikbpkjikacmaaGreatDoor
open Go.RowKit

/-- A row of the call's own, from block N on. -/
def Own (w : World) (N : Nat) (v : Value) (l : List Pt) : Prop := w.ownsRow N 30 33 v l.length (flat l)
section
variable {w w' : World} {N : Nat} {v : Value} {l : List Pt}
theorem Own.nil (w : World) (N : Nat) : Own w N (.slice none 0 0) [] := World.ownsRow_nil w N _ _
theorem Own.pts (h : Own w N v l) : ∃ a cap, v = .slice a l.length cap ∧ Pts w a l.length cap l := Pts.of_own h
theorem Own.lt (h : Own w N v l) : ∀ k, v.ownBlock = some k → N ≤ k ∧ k < w.heap.size := World.ownsRow.lt h
theorem Own.below (h : Own w N v l) (hb : Below w.heap.size w w') : Own w' N v l := by
  refine ⟨h.1, ?_⟩
  rcases h.2 with hn | ⟨g, cap, cur, hv, hg, hh, rest⟩
  · exact .inl hn
  · exact .inr ⟨g, cap, cur, hv, hg, by rw [hb.block g (Array.getElem?_eq_some_iff.1 hh).1]; exact hh, rest⟩
theorem Own.kept {row : Option Nat} (h : Own w N v l) (hg : w.grownBy w' row) (hne : v.ownBlock = none ∨ v.ownBlock ≠ row) : Own w' N v l := World.ownsRow.kept h hg hne
theorem Own.less {M : Nat} (h : Own w N v l) (hM : M ≤ N) : Own w M v l := by
  refine ⟨h.1, ?_⟩
  rcases h.2 with hn | ⟨g, cap, cur, hv, hg, rest⟩
  · exact .inl hn
  · exact .inr ⟨g, cap, cur, hv, Nat.le_trans hM hg, rest⟩
/-- Below the base of the row that grew, all is as it was. -/
theorem Own.grown (h : Own w N v l) (hg : w.grownBy w' v.ownBlock) (hN : N ≤ w.heap.size) : Below N w w' :=
  (Below.refl _ w).grown hg hN fun k hk => (h.lt k hk).1

theorem run_append_pts (ty : TypeId) (h : Own w N v l) {a : Option Addr} {m cap : Nat} {r : List Pt} (hr : Pts w a m cap r) (hm : l.length + m ≤ 1000000) (hN : N ≤ w.heap.size) :
    ∃ v' w', (Builtin.append_ #[89, 89] ty #[v, .slice a m cap]).run Tryz.prog w = .ok v' w' ∧ Own w' N v' (l ++ r) ∧ w.grownBy w' v.ownBlock ∧ (v'.ownBlock = v.ownBlock ∨ ∃ g, w.heap.size ≤ g ∧ v'.ownBlock = some g) := by
  obtain ⟨i, hi, hi1, hi2, hi3⟩ := info_parts Tryz.infoPt
  cases a with
  | none =>
    obtain rfl := hr.bare rfl
    obtain rfl : m = 0 := by have := hr.fits; omega
    obtain rfl : r = [] := List.eq_nil_of_length_eq_zero hr.len
    exact ⟨v, w, run_append_owned_none w N _ ty _ i 33 Tryz.underlying89 hi v _ _ h, by rw [List.append_nil]; exact h, ⟨rfl, rfl, rfl, Nat.le_refl _, fun _ _ _ => rfl⟩, .inl rfl⟩
  | some x =>
    have hlen : (flat r).length = m * 33 := by rw [flat_length, hr.len]
    have hcells := hr.cells (x := x) rfl
    obtain ⟨v', w', hrun, h2, h3, h4⟩ := run_append_own w N 89 ty 30 i _ 33 40 Tryz.underlying89 hi hi1 hi2 hi3 (by simp [Value.cells, Pt.cs_length]) (by omega) v l.length (flat l) h x m cap (flat r) hlen hcells (flat_mem r) (by unfold maxLen; omega) (by omega) hN
    refine ⟨v', w', hrun, ?_, h3, ?_⟩
    · unfold Own
      rw [List.length_append, hr.len, flat_append]; exact h2
    · have hfl := flat_length l
      rcases h.2 with ⟨rfl, h0⟩ | ⟨g, c, cur, rfl, hbg, hg, hnc, hcm, hcs, htake⟩
      · by_cases hm0 : m = 0
        · left
          rw [h4.2 ⟨rfl, hm0⟩]
        · have e := run_append_nil w 89 ty 30 i _ Tryz.underlying89 hi hi1 x m cap (flat r) (by rw [hi2]; exact hlen) hcells (by omega) (by omega) (by rw [hi3]; omega)
          rw [e] at hrun
          injection hrun with e1 _
          right
          exact ⟨w.heap.size, Nat.le_refl _, by rw [← e1]; rfl⟩
      · by_cases hroom : l.length + m ≤ c
        · have e := run_append_room w 89 ty 30 i Tryz.underlying89 hi g l.length c cur hg x m cap (flat r) (by rw [hi2]; exact hlen) hcells (flat_mem r) hroom (by rw [hi2, hlen, hcs]; omega)
          rw [e] at hrun
          injection hrun with e1 _
          left
          rw [← e1]; rfl
        · have e := run_append_grow w 89 ty 30 i _ Tryz.underlying89 hi hi1 ⟨g, 0, none⟩ l.length c (flat l) (by rw [hi2]; exact hfl) (h.cells (g := g) rfl) x m cap (flat r) (by rw [hi2]; exact hlen) hcells (by omega) (by omega) (growslice_fits (by omega) (by rw [hi3]; omega))
          rw [e] at hrun
          injection hrun with e1 _
          right
          exact ⟨w.heap.size, Nat.le_refl _, by rw [← e1]; rfl⟩
end
theorem wpList_append_pts {ops : Array Oper} {rest : List Oper} {o : Oper} {ac : Act} {w : World} {Q : Exit → Act → World → Prop} (hgd : o.guard = none) (s x : Operand)
    (ho : o.op = .call { callee := .builtin .append, args := #[s, x], argTypes := #[89, 89] }) (N : Nat) (v : Value) (l : List Pt) (hs : ac.eval s = v) (h : Own w N v l)
    (a : Option Addr) (m cap : Nat) (r : List Pt) (hx : ac.eval x = .slice a m cap) (hr : Pts w a m cap r) (hm : l.length + m ≤ 1000000) (hN : N ≤ w.heap.size)
    (hK : ∀ v' w', Hid (Own w' N v' (l ++ r)) → Hid (w.grownBy w' v.ownBlock) → Hid (v'.ownBlock = v.ownBlock ∨ ∃ g, w.heap.size ≤ g ∧ v'.ownBlock = some g) → wpList Tryz.prog ops Q rest (ac.put o.dst v') w') : wpList Tryz.prog ops Q (o :: rest) ac w := by
  obtain ⟨v', w', hrun, h1, h2, h3⟩ := run_append_pts o.type h hr hm hN
  refine wpList_plain hgd fun K hK' => ?_
  unfold Oper.wp execOp
  simp only [ho, resolve, invoke, builtin, Sem.run_bind, Sem.run_pure, Result.andThen_ok, List.map_toArray, List.map_cons, List.map_nil, hs, hx, hrun]
  exact hK' _ _ (hK v' w' h1 h2 h3)
/-- A literal slice of outpoints. -/
theorem Pts.lit (w : World) (l : List Pt) (n : Nat) (hn : l.length = n) (hm : n ≤ 1000000) : Pts (w.alloc (.cells (flat l).toArray 30)) (some ⟨w.heap.size, 0, none⟩) n n l :=
  Pts.of_blk (cs := flat l) (Blk.mk _ _ _ rfl rfl) hn (Nat.le_refl _) (by unfold maxLen; omega) (List.take_of_length_le (by rw [flat_length, hn]; exact Nat.le_refl _))
theorem flat_values (l : List Pt) : ((l.map fun p => Value.agg p.cs.toArray).flatMap fun v => v.cells.toList) = flat l := by
  induction l with
  | nil => rfl
  | cons p l ih => rw [List.map_cons, List.flatMap_cons, ih, flat_cons]; rfl
theorem wpList_build_pts {ops : Array Oper} {rest : List Oper} {o : Oper} {a : Act} {w : World} {Q : Exit → Act → World → Prop} (hg : o.guard = none) (len : Nat) (parts : Array (Nat × Operand)) (ho : o.op = .buildSlice 89 len parts)
    (l : List Pt) (hl : l.length = len) (h0 : 0 < len) (hlen : len ≤ 1000) (xs : List Operand) (hx : parts.toList = (xs.zipIdx 0).map fun x => (x.2, x.1)) (hv : xs.map a.eval = l.map fun p => Value.agg p.cs.toArray)
    (h : wpList Tryz.prog ops Q rest (a.put o.dst (.slice (some ⟨w.heap.size, 0, none⟩) len len)) (w.alloc (.cells (flat l).toArray 30))) : wpList Tryz.prog ops Q (o :: rest) a w := by
  obtain ⟨i, hi, hi1, hi2, hi3⟩ := info_parts Tryz.infoPt
  refine wpList_buildSlice hg _ 30 len parts ho (flat l).toArray i _ Tryz.underlying89 hi hi1 (by rw [hi2]; omega) (by rw [hi2]; omega) ?_ h
  have hp : (parts.map fun (i, x) => (i, a.eval x)).toList = ((l.map fun p => Value.agg p.cs.toArray).zipIdx 0).map fun x => (x.2, x.1) := by
    rw [Array.toList_map, hx, ← hv, List.zipIdx_map, List.map_map, List.map_map]
    rfl
  rw [hp, hi2]
  have := Go.Great.fill_whole (s := 33) (by omega) (l.map fun p => Value.agg p.cs.toArray) ((Array.range (len * 33)).map ((Value.agg (default : Pt).cs.toArray).cells[· % (Value.agg (default : Pt).cs.toArray).cells.size]!)) (fun v hv => by
    obtain ⟨p, _, rfl⟩ := List.mem_map.1 hv
    show p.cs.toArray.size = 33
    rw [List.size_toArray, p.cs_length]) (by simp [hl])
  rw [this, flat_values]
end Go.Proofs.YteikbpkjikacmaaGreatDoor
namespace Go.Proofs.YteikbpkjikacmaaGreatDoor
open Go.ChangeShapes Go.WideShapes Go.ChangeAt Go.RowKit

theorem filter_take (l : List Pt) (f : Pt → Bool) (k : Nat) (h : k < l.length) : (l.take (k + 1)).filter f = (l.take k).filter f ++ if f (l.getD k default) then [l.getD k default] else [] := by
  rw [List.take_add_one, List.getElem?_eq_getElem h, List.getD_eq_getElem?_getD, List.getElem?_eq_getElem h]
  simp only [Option.toList_some, Option.getD_some, List.filter_append]
  congr 1
  by_cases e : f l[k] = true <;> simp [e]

set_option maxRecDepth 100000 in
set_option maxHeartbeats 4000000 in
theorem pick_any (a : Option Addr) (n cap : Nat) (l : List Pt) (a2 : Option Addr) (m cap2 : Nat) (r : List Pt) (th : Bool) (w : World) (hp : Pts w a n cap l) (hr : Pts w a2 m cap2 r) (hn : n ≤ 100000) (hm : m ≤ 100000) :
    Calls Tryz.prog 74 #[.slice a n cap, .slice a2 m cap2, .bool th] w fun e w' => ∃ v, e = .returned v ∧ Own w' w.heap.size v (l.filter fun x => decide (x ∈ r) == th) ∧ Below w.heap.size w w' := by
  have HU := und_pt
  have HL : Hid (l.length = n) := hp.len
  have HP : Hid (Pts w a n cap l) := hp
  have HPR : Hid (Pts w a2 m cap2 r) := hr
  clear hp hr
  go_enter Tryz.func74, Tryz.ntmps74
  go_wp2_with fail
  refine (sort_any a2 m cap2 r w HPR.out hm).mono ?_
  rintro e w1 ⟨a3, m3, cap3, s, rfl, hinc, hmem, hps, hm3, hb1⟩
  have HINC : Hid (Inc s) := hinc
  have HMEM : Hid (∀ x, x ∈ s ↔ x ∈ r) := hmem
  have HPS : Hid (Pts w1 a3 m3 cap3 s) := hps
  have HP1 : Hid (Pts w1 a n cap l) := HP.out.below hb1
  have HB1 : Hid (Below w.heap.size w w1) := hb1
  clear hinc hmem hps hb1 HP HPR
  generalize hM : w1.heap.size = M
  go_wp2_with fail
  go_loopw [8, 15] (fun v i wr => ∃ (k : Nat) (pl : List Pt), k ≤ n ∧ i = .int .i64 k ∧ pl.length ≤ k ∧ Hid (pl = (l.take k).filter fun x => decide (x ∈ s) == th) ∧ Hid (Own wr M v pl) ∧ Below M w1 wr) (fun _ i _ => n - (intOf i).toNat)
  case atStart => exact ⟨0, [], by omega, rfl, Nat.le_refl _, by show [] = _; simp, Own.nil _ _, Below.refl _ _⟩
  case round =>
    obtain ⟨k, pl, hk, rfl, hplk, HE, HO, hbk⟩ := hrel
    have hMw : M ≤ wr.heap.size := by have := hbk.size; omega
    by_cases hlt : k < n
    · have e0 : (0 : Int) ≤ (k : Int) := by omega
      have e1 : (k : Int) < (n : Int) := by omega
      have HPk : Hid (Pts wr a n cap l) := HP1.out.below (hM ▸ hbk)
      have HPSk : Hid (Pts wr a3 m3 cap3 s) := HPS.out.below (hM ▸ hbk)
      obtain ⟨b, o, rfl, hc⟩ := HPk.out.at k hlt
      obtain ⟨x, hx⟩ : ∃ x, x = l.getD k default := ⟨_, rfl⟩
      rw [← hx] at hc
      have HF := filter_take l (fun x => decide (x ∈ s) == th) k (by rw [HL.out]; exact hlt)
      rw [← hx, ← HE.out] at HF
      have HFF : Hid (_ = _) := HF
      have HC : Hid (wr.rangeAt b (o + k * 33) x.cs) := hc
      have HB : Hid (Below M w1 wr) := hbk
      clear hc hbk HF hx HPk
      go_upto_region 6 with (first
        | (refine wpList_load_mid rfl 30 _ rfl b (o + k * 33) rfl x.cs _ HC.out HU.out rfl (size_pt x) ?_)
        | (refine wpList_store_new rfl _ _ rfl x _ rfl rfl rfl ?_; intro w2 HB2 Hb2))
      have HB2' : Hid (Below M w1 w2) := HB.out.trans (Hb2.out.mono hMw)
      have HO2 : Hid (Own w2 M u8 pl) := HO.out.below Hb2.out
      have HPS2 : Hid (Pts w2 a3 m3 cap3 s) := HPSk.out.below Hb2.out
      clear HC HB HO HPSk
      go_wp2_with (first
        | (refine wpList_load_mid rfl 30 _ rfl wr.heap.size 0 rfl x.cs _ HB2.out.whole HU.out rfl (size_pt x) ?_)
        | fail)
      refine (rowHas_any a3 m3 cap3 s x w2 HPS2.out HINC.out (by omega)).mono ?_
      rintro e w3 ⟨rfl, hb3⟩
      have HB3 : Hid (Blk w3 wr.heap.size x.cs) := HB2.out.below hb3 HB2.out.lt
      have h2s : M ≤ w2.heap.size := by have := Hb2.out.size; omega
      have HB3' : Hid (Below M w1 w3) := HB2'.out.trans (hb3.mono h2s)
      have HO3 : Hid (Own w3 M u8 pl) := HO2.out.below hb3
      have h3s : M ≤ w3.heap.size := by have := hb3.size; omega
      clear HB2 HB2' HO2 HPS2 hb3 Hb2
      generalize hdx : decide (x ∈ s) = dx at *
      have HDX : Hid (decide (x ∈ s) = dx) := hdx
      clear hdx
      by_cases hdt : dx = th
      · subst hdt
        have HO4 : Hid (∀ o, Own (w3.alloc o) M u8 pl ∧ Below M w1 (w3.alloc o)) := fun o => ⟨HO3.out.below ((Below.refl _ _).alloc (Nat.le_refl _) _), HB3'.out.alloc h3s _⟩
        go_upto_region 8 with (first
          | (refine wpList_load_mid rfl 30 _ rfl wr.heap.size 0 rfl x.cs _ HB3.out.whole HU.out rfl (size_pt x) ?_)
          | (refine wpList_build_pts rfl 1 _ rfl [x] rfl (by omega) (by omega) [.tmp 25] rfl rfl ?_)
          | (at_builtin; refine wpList_append_pts rfl _ _ rfl M u8 pl rfl (HO4.out _).1 _ 1 1 [x] rfl (Pts.lit w3 [x] 1 rfl (by omega)) (by omega) (by simp; omega) ?_; intro v4 w4 HO5 HG5 _))
        have HBEL : Hid (Below M w1 w4) := (HO4.out _).2.trans ((HO4.out _).1.grown HG5.out (by simp; omega))
        have HF2 : Hid (pl ++ [x] = (l.take (k + 1)).filter fun x => decide (x ∈ s) == dx) := by
          show _ = _
          rw [HFF.out]; simp
        clear HO4 HG5 HFF
        go_wp2_with fail
        go_roundw
        case rel => exact ⟨k + 1, pl ++ [x], by omega, by go_num, by simp; omega, HF2.out, HO5.out, HBEL.out⟩
        case measure => simp [intOf]; omega
      · have hq : (dx == th) = false := by simpa using hdt
        have HF2 : Hid (pl = (l.take (k + 1)).filter fun x => decide (x ∈ s) == th) := by
          show _ = _
          rw [HFF.out, hq]; simp
        clear HFF
        go_wp2_with fail
        go_roundw
        case rel => exact ⟨k + 1, pl, by omega, by go_num, by omega, HF2.out, HO3.out, HB3'.out⟩
        case measure => simp [intOf]; omega
    · obtain rfl : k = n := by omega
      have HF2 : Hid (pl = l.filter fun x => decide (x ∈ r) == th) := by
        show _ = _
        rw [HE.out, List.take_of_length_le (by rw [HL.out]; exact Nat.le_refl _)]
        apply List.filter_congr
        intro x _
        rw [show decide (x ∈ s) = decide (x ∈ r) by simp [HMEM.out x]]
      go_wp2_with fail
      go_ret
      have h1 := HB1.out.size
      refine ⟨u8, rfl, ?_, HB1.out.trans (hbk.mono (by omega))⟩
      rw [← HF2.out]
      exact HO.out.less (by omega)

set_option maxRecDepth 100000 in
set_option maxHeartbeats 4000000 in
theorem both_any (a : Option Addr) (n cap : Nat) (l : List Pt) (a2 : Option Addr) (m cap2 : Nat) (r : List Pt) (w : World) (hp : Pts w a n cap l) (hr : Pts w a2 m cap2 r) (hn : n ≤ 100000) (hm : m ≤ 100000) :
    Calls Tryz.prog 49 #[.slice a n cap, .slice a2 m cap2] w fun e w' => ∃ v, e = .returned v ∧ Own w' w.heap.size v (l.filter fun x => decide (x ∈ r)) ∧ Below w.heap.size w w' := by
  have HC : Hid (∀ th, Calls Tryz.prog 74 #[.slice a n cap, .slice a2 m cap2, .bool th] w _) := fun th => pick_any a n cap l a2 m cap2 r th w hp hr hn hm
  clear hp hr
  go_enter Tryz.func49, Tryz.ntmps49
  go_wp2_with fail
  refine (HC.out true).mono ?_
  rintro e w1 ⟨v, rfl, ho, hb⟩
  have HO : Hid (Own w1 w.heap.size v _ ∧ Below w.heap.size w w1) := ⟨ho, hb⟩
  clear ho hb HC
  go_wp2_with fail
  go_ret
  refine ⟨v, rfl, ?_, HO.out.2⟩
  have := HO.out.1
  simpa using this

end Go.Proofs.YteikbpkjikacmaaGreatDoor
