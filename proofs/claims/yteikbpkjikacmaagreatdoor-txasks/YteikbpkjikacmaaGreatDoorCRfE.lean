/- The document's own Check. -/
import Derived.Test.YteikbpkjikacmaaGreatDoorCRfC
namespace Go.Proofs.YteikbpkjikacmaaGreatDoor
open Go.ChangeShapes Go.WideShapes Go.ChangeAt Go.RowKit

theorem Tryz.infoInt8 : (Tryz.prog.info? 3).map (fun i => (i.zero, i.size, i.bytes)) = some (some (.int .i64 0), 1, 8) := by kernel_rfl
/-- A row of int that grows. -/
def OwnI (w : World) (B : Nat) (v : Value) (Z : List Int) : Prop := w.ownsRow B 3 1 v Z.length (Z.map (Value.int .i64))
theorem OwnI.any {w : World} {B : Nat} {v : Value} {Z : List Int} (h : OwnI w B v Z) : ∃ a n cap, v = .slice a n cap := by
  rcases h.2 with ⟨hv, _⟩ | ⟨g, cap, cur, hv, _⟩
  · exact ⟨_, _, _, hv⟩
  · exact ⟨_, _, _, hv⟩
theorem OwnI.below {w w' : World} {B : Nat} {v : Value} {Z : List Int} (h : OwnI w B v Z) (hb : Below w.heap.size w w') : OwnI w' B v Z := by
  refine ⟨h.1, ?_⟩
  rcases h.2 with hn | ⟨g, cap, cur, hv, hbg, hg, r⟩
  · exact Or.inl hn
  · refine Or.inr ⟨g, cap, cur, hv, hbg, ?_, r⟩
    rw [hb.block g (Array.getElem?_eq_some_iff.1 hg).1]; exact hg
theorem OwnI.ints {w : World} {B : Nat} {v : Value} {Z : List Int} (h : OwnI w B v Z) : ∃ a cap, v = .slice a Z.length cap ∧ Ints w a Z ∧ Z.length ≤ cap ∧ Z.length ≤ maxLen := by
  have h0 := h
  rcases h.2 with ⟨hv, hn⟩ | ⟨g, cap, cur, hv, hb, hg, hnc, hcm, _⟩
  · obtain rfl := List.eq_nil_of_length_eq_zero hn
    exact ⟨none, 0, hv, .inl rfl, Nat.le_refl _, Nat.zero_le _⟩
  · refine ⟨_, cap, hv, .inr ⟨g, 0, rfl, fun i hi => ?_⟩, hnc, Nat.le_trans hnc hcm⟩
    subst hv
    have hc := World.ownsRow.cellAt h0 i (by omega)
    rw [Nat.zero_add, hc, List.getElem?_map, List.getElem?_eq_getElem hi, List.getD_eq_getElem?_getD, List.getElem?_eq_getElem hi]; rfl
theorem sole_false {l : List In} {i k : Nat} (hk : k < i) (hi : i < l.length) (h : (l.getD k default).prev = (l.getD i default).prev) : sole l = false := by
  unfold sole
  refine decide_eq_false fun hn => ?_
  have := List.pairwise_iff_getElem.1 hn k i (by rw [List.length_map]; omega) (by rw [List.length_map]; exact hi) hk
  rw [List.getElem_map, List.getElem_map] at this
  rw [List.getD_eq_getElem?_getD, List.getD_eq_getElem?_getD, List.getElem?_eq_getElem hi, List.getElem?_eq_getElem (show k < l.length by omega)] at h
  exact this h
theorem sole_true {l : List In} (h : ∀ i k, k < i → i < l.length → (l.getD k default).prev ≠ (l.getD i default).prev) : sole l = true := by
  unfold sole
  refine decide_eq_true (List.pairwise_iff_getElem.2 fun i j hi hj hij => ?_)
  rw [List.length_map] at hi hj
  have := h j i hij hj
  rw [List.getD_eq_getElem?_getD, List.getD_eq_getElem?_getD, List.getElem?_eq_getElem hi, List.getElem?_eq_getElem hj] at this
  rw [List.getElem_map, List.getElem_map]
  exact this
theorem vals_next (l : List Out) (k : Nat) (h : k < l.length) : (l.take (k + 1)).map Out.value = (l.take k).map Out.value ++ [(l.getD k default).value] := by
  rw [List.take_add_one, List.map_append, List.getD_eq_getElem?_getD, List.getElem?_eq_getElem h]; rfl

set_option maxHeartbeats 2000000 in
theorem rcheck_big (v : TxV) (t : TxD) (w : World) (h : TxAt w v t) (hb : 100 < v.n ∨ 100 < v.m) :
    Calls Tryz.prog 11 #[v.val t.lock] w fun e w' => e = .returned (.int .i64 (chkE t)) ∧ Below w.heap.size w w' := by
  have HC : Hid (chkE t = 3) := chk_big (by rw [h.ins.len, h.outs.len]; exact hb)
  clear h
  obtain ⟨a, n, c, b, m, d⟩ := v
  obtain ⟨ins, outs, lock⟩ := t
  unfold TxV.val
  simp only at hb
  have HB : Hid (Below w.heap.size w (w.alloc (.cells #[.slice a n c, .slice b m d, .int .i64 lock] 25))) := (Below.refl _ _).alloc (Nat.le_refl _) _
  by_cases h1 : 100 < n
  · have e1 : (100 : Int) < (n : Int) := by omega
    go_enter Tryz.func11, Tryz.ntmps11
    go_wp2_with fail
    go_ret
    exact ⟨ret_int HC.out.symm, HB.out⟩
  · have e1 : ¬ (100 : Int) < (n : Int) := by omega
    have e2 : (100 : Int) < (m : Int) := by omega
    go_enter Tryz.func11, Tryz.ntmps11
    go_wp2_with fail
    go_ret
    exact ⟨ret_int HC.out.symm, HB.out⟩
set_option maxHeartbeats 2000000 in
theorem rcheck_none (v : TxV) (t : TxD) (w : World) (h : TxAt w v t) (hm : v.m ≤ 100) (hn : v.n = 0) :
    Calls Tryz.prog 11 #[v.val t.lock] w fun e w' => e = .returned (.int .i64 (chkE t)) ∧ Below w.heap.size w w' := by
  have HC : Hid (chkE t = 1) := chk_none (by rw [h.ins.len, h.outs.len]; omega) (List.eq_nil_of_length_eq_zero (by rw [h.ins.len]; exact hn))
  obtain ⟨a, n, c, b, m, d⟩ := v
  obtain ⟨ins, outs, lock⟩ := t
  clear h
  unfold TxV.val
  simp only at hm hn
  subst hn
  have HB : Hid (Below w.heap.size w (w.alloc (.cells #[.slice a 0 c, .slice b m d, .int .i64 lock] 25))) := (Below.refl _ _).alloc (Nat.le_refl _) _
  have e2 : ¬ (100 : Int) < (m : Int) := by omega
  go_enter Tryz.func11, Tryz.ntmps11
  go_wp2_with fail
  go_ret
  exact ⟨ret_int HC.out.symm, HB.out⟩
set_option maxRecDepth 100000 in
set_option maxHeartbeats 8000000 in
theorem rcheck_some (v : TxV) (t : TxD) (w : World) (h : TxAt w v t) (hm : v.m ≤ 100) (hn : v.n ≤ 100) (hn0 : 0 < v.n) :
    Calls Tryz.prog 11 #[v.val t.lock] w fun e w' => e = .returned (.int .i64 (chkE t)) ∧ Below w.heap.size w w' := by
  have HMO := follows_mixed
  obtain ⟨dI, HDI, HRI⟩ := und_in
  obtain ⟨dS, HDS, HRS⟩ := und_scr
  obtain ⟨i0, hi, hz0, hz1, hz2⟩ := info_parts Tryz.infoInt8
  have HI0 : Hid (Tryz.prog.info? 3 = some i0 ∧ i0.zero = some (.int .i64 0) ∧ i0.size = 1 ∧ i0.bytes = 8) := ⟨hi, hz0, hz1, hz2⟩
  clear hi hz0 hz1 hz2
  have HBG : Hid (¬ (100 < t.ins.length ∨ 100 < t.outs.length)) := show ¬ _ by rw [h.ins.len, h.outs.len]; omega
  have HNE : Hid (t.ins ≠ []) := show _ ≠ _ from fun e => by have := h.ins.len; rw [e] at this; simp at this; omega
  have HC1 : Hid (∀ k, k < v.n → inOK (t.ins.getD k default) = false → chkE t = 1) := fun k hk hf => chk_in HBG.out (all_false (by rw [h.ins.len]; exact hk) hf)
  have HC2 : Hid (∀ k, k < v.m → scrOK (t.outs.getD k default).scr = false → chkE t = 1) := fun k hk hf => chk_out HBG.out (all_false (f := fun o : Out => scrOK o.scr) (by rw [h.outs.len]; exact hk) hf)
  have HLI : Hid (t.ins.length = v.n) := h.ins.len
  have HLO : Hid (t.outs.length = v.m) := h.outs.len
  have HIN : Hid (Els w v.a v.n v.c t.ins ∧ Els w v.b v.m v.d t.outs) := ⟨h.ins, h.outs⟩
  have HCS : Hid (t.ins.all inOK = true → sole t.ins = true → t.outs.all (fun o => scrOK o.scr) = true → wi t.lock 0 1000000 = true → chkE t = totE (t.outs.map Out.value)) := fun h1 h2 h3 h4 => chk_sum HBG.out HNE.out h1 h2 h3 h4
  have HCD : Hid (∀ i k, k < i → i < v.n → (t.ins.getD k default).prev = (t.ins.getD i default).prev → chkE t = 1) := fun i k h1 h2 h3 => chk_dup HBG.out (sole_false h1 (by rw [h.ins.len]; exact h2) h3)
  have HCL : Hid (wi t.lock 0 1000000 = false → chkE t = 1) := fun h1 => chk_lock HBG.out h1
  clear h HBG HNE
  generalize chkE t = E at *
  obtain ⟨ins, outs, lock⟩ := t
  obtain ⟨a, n, c, b, m, d⟩ := v
  unfold TxV.val
  simp only at *
  go_enter Tryz.func11, Tryz.ntmps11
  go_upto_region 1 with fail
  generalize hwv : World.alloc w _ = w1
  have HB0 : Hid (Blk w1 w.heap.size [.slice a n c, .slice b m d, .int .i64 lock]) := by rw [← hwv]; exact Blk.mk _ _ _ rfl rfl
  have HBL : Hid (Below w.heap.size w w1) := by rw [← hwv]; exact (Below.refl _ _).alloc (Nat.le_refl _) _
  clear hwv
  have HE1 : Hid (Els w1 a n c ins ∧ Els w1 b m d outs) := ⟨HIN.out.1.below HBL.out, HIN.out.2.below HBL.out⟩
  clear HIN
  generalize hN : w.heap.size = N at *
  have hs1 := HB0.out.lt
  have HS : Hid (∀ w', Below w1.heap.size w1 w' → w'.cell? ⟨N, 0, none⟩ = some (.slice a n c) ∧ w'.cell? ⟨N, 1, none⟩ = some (.slice b m d) ∧ w'.cell? ⟨N, 2, none⟩ = some (.int .i64 lock)) := fun w' h => ⟨(HB0.out.below h hs1).one rfl, (HB0.out.below h hs1).one rfl, (HB0.out.below h hs1).one rfl⟩
  clear HB0
  have e1 : ¬ (100 : Int) < (n : Int) := by omega
  have e2 : ¬ (100 : Int) < (m : Int) := by omega
  have e3 : ((n : Int) == 0) = false := beq_eq_false_iff_ne.2 (by omega)
  obtain ⟨c0, c1, c2⟩ := HS.out w1 (Below.refl _ _)
  go_wp2_with fail
  clear c0 c1 c2 e1 e2 e3
  go_loopw [3, 4] (fun i _ wr => ∃ k : Nat, k ≤ n ∧ i = .int .i64 k ∧ Hid (∀ j, j < k → inOK (ins.getD j default) = true) ∧ Hid (∀ i j, j < i → i < k → (ins.getD j default).prev ≠ (ins.getD i default).prev) ∧ Hid (Below w1.heap.size w1 wr)) (fun i _ _ => n - (intOf i).toNat)
  case atStart => exact ⟨0, by omega, rfl, fun j hj => absurd hj (by omega), fun i j _ hi => absurd hi (by omega), Below.refl _ _⟩
  case round =>
    obtain ⟨k, hk, rfl, HOK, HNQ, HBR⟩ := hrel
    have hszr := HBR.out.size
    have c0 : wr.cell? ⟨N, 0, none⟩ = some (.slice a n c) := (HS.out _ HBR.out).1
    by_cases hlt : k < n
    · have e0 : (0 : Int) ≤ (k : Int) := by omega
      have e1 : (k : Int) < (n : Int) := by omega
      have HK : Hid (k < n) := hlt
      obtain ⟨bb, o, rfl, hc⟩ := (HE1.out.1.below HBR.out).at k hlt
      obtain ⟨x, hx⟩ : ∃ x, x = ins.getD k default := ⟨_, rfl⟩
      change wr.rangeAt bb (o + k * 37) (In.cs (ins.getD k default)) at hc
      rw [← hx] at hc
      have HX : Hid (x = ins.getD k default) := hx
      have HC : Hid (wr.rangeAt bb (o + k * 37) x.cs) := hc
      have HIN1 : Hid (∀ w, Calls Tryz.prog 44 #[.agg x.cs.toArray] w fun e w' => e = .returned (.bool (inOK x)) ∧ Below w.heap.size w w') := fun w => rin_any x w
      have HIK : Hid (inOK (ins.getD k default) = inOK x) := show _ = _ by rw [← hx]
      clear hc hx
      generalize inOK x = r at *
      go_wp2_with (refine wpList_load_mid rfl 52 _ rfl bb (o + k * 37) rfl x.cs _ HC.out HDI.out HRI.out (size_in x) ?_)
      refine Calls.mono (HIN1.out _) ?_
      rintro e w3 ⟨rfl, hb3⟩
      have HB3 : Hid (Below w1.heap.size w1 w3) := HBR.out.trans (hb3.mono hszr)
      have hs3 := HB3.out.size
      clear hb3 HBR HC HIN1 c0 hszr
      cases r
      · have HQ : Hid (E = 1) := HC1.out k hlt HIK.out
        go_wp2_with fail
        go_ret
        subst hN
        exact ⟨ret_int HQ.out.symm, HBL.out.trans (HB3.out.mono (by omega))⟩
      · have HOK2 : Hid (∀ j, j < k + 1 → inOK (ins.getD j default) = true) := fun j hj => by
          by_cases e : j = k
          · subst e; exact HIK.out
          · exact HOK.out j (by omega)
        clear HOK HIK
        go_wp2_with fail
        go_loopw [4] (fun j wr => ∃ i : Nat, i ≤ k ∧ j = .int .i64 i ∧ Hid (∀ j, j < i → (ins.getD j default).prev ≠ (ins.getD k default).prev) ∧ Hid (Below w1.heap.size w1 wr)) (fun j _ => k - (intOf j).toNat)
        case atStart => exact ⟨0, by omega, rfl, fun j hj => absurd hj (by omega), HB3.out⟩
        case round =>
          obtain ⟨i, hik, rfl, HNE, HBR⟩ := hrel
          have hszr := HBR.out.size
          by_cases hil : i < k
          · have f0 : (0 : Int) ≤ (i : Int) := by omega
            have f1 : (i : Int) < (k : Int) := by omega
            have f2 : (i : Int) < (n : Int) := by omega
            have hin : i < n := by omega
            have HBD : Hid (Below w1.heap.size w1 wr.drew) := HBR.out.drew
            have d0 : wr.drew.cell? ⟨N, 0, none⟩ = some (.slice (some ⟨bb, o, none⟩) n c) := (HS.out _ HBD.out).1
            obtain ⟨b1, o1, q1, hc1⟩ := (HE1.out.1.below HBD.out).at k hlt
            obtain ⟨b2, o2, q2, hc2⟩ := (HE1.out.1.below HBD.out).at i hin
            injection q1 with q1
            injection q1 with q1 q1'
            injection q2 with q2
            injection q2 with q2 q2'
            subst q1; subst q1'; subst q2; subst q2'
            obtain ⟨z, hz⟩ : ∃ z, z = ins.getD i default := ⟨_, rfl⟩
            change wr.drew.rangeAt bb (o + k * 37) (In.cs (ins.getD k default)) at hc1
            change wr.drew.rangeAt bb (o + i * 37) (In.cs (ins.getD i default)) at hc2
            rw [← HX.out] at hc1
            rw [← hz] at hc2
            have HC1 : Hid (wr.drew.rangeAt bb (o + k * 37) x.prev.cs) := In.prev_at hc1
            have HC2 : Hid (wr.drew.rangeAt bb (o + i * 37) z.prev.cs) := In.prev_at hc2
            have HZX : Hid (z = ins.getD i default) := hz
            clear hc1 hc2 hz HBR
            have q1 : ∀ w', (binOp .eql 30 (.agg z.prev.cs.toArray) (.agg x.prev.cs.toArray)).run Tryz.prog w' = .ok (.bool (decide (z.prev = x.prev))) w' := eql_pt z.prev x.prev
            have q2 : ∀ (op : BinOp) (u v : Operand) w', (eqGuard op 30 u v (.agg z.prev.cs.toArray) (.agg x.prev.cs.toArray)).run Tryz.prog w' = .ok () w' := fun op u v => guard_pt op u v z.prev x.prev
            have q3 : ∀ w', (Op.equalIn 10000 30 (.agg z.prev.cs.toArray) (.agg x.prev.cs.toArray)).run Tryz.prog w' = .ok (decide (z.prev = x.prev)) w' := equalIn_pt z.prev x.prev
            go_wp2_with fail
            refine wp_region_reads HMO.out (by kernel_rfl) ?_
            iterate 5 still_step
            refine still_load_mid rfl 30 _ rfl bb (o + i * 37) rfl z.prev.cs _ HC2.out und_pt.out rfl (size_pt z.prev) ?_
            simp only [Act.put, List.setIfInBounds_toArray, List.set_cons_zero, List.set_cons_succ]
            iterate 5 still_step
            refine still_load_mid rfl 30 _ rfl bb (o + k * 37) rfl x.prev.cs _ HC1.out und_pt.out rfl (size_pt x.prev) ?_
            simp only [Act.put, List.setIfInBounds_toArray, List.set_cons_zero, List.set_cons_succ]
            still_step
            refine wpStill_nil ?_
            clear q1 q2 q3 HC1 HC2 d0
            by_cases hzx : z.prev = x.prev
            · have HQ : Hid (E = 1) := HCD.out k i hil hlt (by rw [← HX.out, ← HZX.out]; exact hzx)
              rw [decide_eq_true hzx]
              clear hzx
              go_wp2_with fail
              go_ret
              subst hN
              exact ⟨ret_int HQ.out.symm, HBL.out.trans (HBD.out.mono (by omega))⟩
            · have HNE2 : Hid (∀ j, j < i + 1 → (ins.getD j default).prev ≠ (ins.getD k default).prev) := fun j hj => by
                by_cases e : j = i
                · subst e; rw [← HX.out, ← HZX.out]; exact hzx
                · exact HNE.out j (by omega)
              rw [decide_eq_false hzx]
              clear hzx
              go_wp2_with fail
              go_roundw
              case rel => exact ⟨i + 1, by omega, by go_num, HNE2.out, HBD.out⟩
              case measure => simp [intOf]; omega
          · obtain rfl : i = k := by omega
            have HNQ2 : Hid (∀ p j, j < p → p < i + 1 → (ins.getD j default).prev ≠ (ins.getD p default).prev) := fun p j h1 h2 => by
              by_cases e : p = i
              · subst e; exact HNE.out j h1
              · exact HNQ.out p j h1 (by omega)
            go_wp2_with fail
            go_roundw
            case rel => exact ⟨i + 1, by omega, by go_num, HOK2.out, HNQ2.out, HBR.out⟩
            case measure => simp [intOf]; omega
    · obtain rfl : k = n := by omega
      have HALL : Hid (ins.all inOK = true ∧ sole ins = true) := ⟨all_true fun j hj => HOK.out j (by rw [HLI.out] at hj; exact hj), sole_true fun i j h1 h2 => HNQ.out i j h1 (by rw [HLI.out] at h2; exact h2)⟩
      have HBS : Hid (Below w1.heap.size w1 wr) := HBR.out
      clear HOK HNQ HBR
      go_wp2_with fail
      clear c0 hszr
      go_loopw [5, 6] (fun v i wr => ∃ k : Nat, k ≤ m ∧ i = .int .i64 k ∧ Hid (OwnI wr w1.heap.size v ((outs.take k).map Out.value)) ∧ Hid (∀ j, j < k → scrOK (outs.getD j default).scr = true) ∧ Hid (Below w1.heap.size w1 wr)) (fun _ i _ => m - (intOf i).toNat)
      case atStart => exact ⟨0, by omega, rfl, World.ownsRow_nil _ _ _ _, fun j hj => absurd hj (by omega), HBS.out⟩
      case round =>
        obtain ⟨k, hk, rfl, HOW, HOK, HBR⟩ := hrel
        have hszr := HBR.out.size
        obtain ⟨va, vn, vc, rfl⟩ := HOW.out.any
        have c1 : wr.cell? ⟨N, 1, none⟩ = some (.slice b m d) := (HS.out _ HBR.out).2.1
        by_cases hlt : k < m
        · have e0 : (0 : Int) ≤ (k : Int) := by omega
          have e1 : (k : Int) < (m : Int) := by omega
          obtain ⟨bb, o, rfl, hc⟩ := (HE1.out.2.below HBR.out).at k hlt
          obtain ⟨x, hx⟩ : ∃ x, x = outs.getD k default := ⟨_, rfl⟩
          change wr.rangeAt bb (o + k * 39) (Out.cs (outs.getD k default)) at hc
          rw [← hx] at hc
          have HX : Hid (x = outs.getD k default) := hx
          have HC : Hid (wr.rangeAt bb (o + k * 39) x.cs) := hc
          have HCS2 : Hid (wr.rangeAt bb (o + k * 39 + 1) x.scr.cs) := Out.scr_at hc
          have HVA : Hid (∀ w, Calls Tryz.prog 45 #[.agg x.scr.cs.toArray] w fun e w' => e = .returned (.bool (scrOK x.scr)) ∧ Below w.heap.size w w') := fun w => rvalid_any x.scr w
          have HIK : Hid (scrOK (outs.getD k default).scr = scrOK x.scr) := show _ = _ by rw [← hx]
          clear hc hx
          generalize scrOK x.scr = r at *
          go_wp2_with (refine wpList_load_mid rfl 54 _ rfl bb (o + k * 39 + 1) rfl x.scr.cs _ HCS2.out HDS.out HRS.out (size_scr x.scr) ?_)
          refine Calls.mono (HVA.out _) ?_
          rintro e w3 ⟨rfl, hb3⟩
          have HB3 : Hid (Below w1.heap.size w1 w3) := HBR.out.trans (hb3.mono hszr)
          have HOW3 : Hid (OwnI w3 w1.heap.size (.slice va vn vc) ((outs.take k).map Out.value)) := HOW.out.below hb3
          have c3 : w3.cell? ⟨bb, o + k * 39, none⟩ = some (.int .i64 x.value) := by
            have := rangeAt_below HC.out hb3 (Nat.le_refl _) 0 _ rfl
            simpa using this
          have hs3 := HB3.out.size
          clear hb3 HBR HC HCS2 HVA c1 hszr HOW
          cases r
          · have HQ : Hid (E = 1) := HC2.out k hlt HIK.out
            go_wp2_with fail
            go_ret
            subst hN
            exact ⟨ret_int HQ.out.symm, HBL.out.trans (HB3.out.mono (by omega))⟩
          · have HOK2 : Hid (∀ j, j < k + 1 → scrOK (outs.getD j default).scr = true) := fun j hj => by
              by_cases e : j = k
              · subst e; exact HIK.out
              · exact HOK.out j (by omega)
            have HNX : Hid ((outs.take (k + 1)).map Out.value = (outs.take k).map Out.value ++ [x.value]) := by
              show _ = _
              rw [HX.out]; exact vals_next outs k (by rw [HLO.out]; exact hlt)
            have c1 : w3.cell? ⟨N, 1, none⟩ = some (.slice (some ⟨bb, o, none⟩) m d) := (HS.out _ HB3.out).2.1
            have hZL : ((outs.take k).map Out.value).length ≤ 100 := by rw [List.length_map, List.length_take]; omega
            clear HOK HIK HX
            generalize (outs.take k).map Out.value = Z at *
            go_wp2_with (at_builtin; refine wpList_append_own _ rfl _ _ 83 rfl w1.heap.size 3 i0 (.int .i64 0) 1 8 Tryz.underlying83 HI0.out.1 HI0.out.2.1 HI0.out.2.2.1 HI0.out.2.2.2 rfl (by decide) _ _ _ rfl (HOW3.out.alloc _) ⟨w3.heap.size, 0, none⟩ 1 1 [.int .i64 x.value] rfl rfl ?d1 ?d2 ?d3 ?d4 ?d5 ?_)
            case d1 => exact cell_one_new _ _ _
            case d2 => intro u hu; simp at hu; subst hu; rfl
            case d3 => unfold maxLen; omega
            case d4 => omega
            case d5 => simp; omega
            intro v4 w4 hown4 hgrow4 _
            have HOW4 : Hid (OwnI w4 w1.heap.size v4 ((outs.take (k + 1)).map Out.value)) := by
              show OwnI _ _ _ _
              unfold OwnI
              rw [HNX.out, List.map_append, List.length_append]
              simpa using hown4
            have HB4 : Hid (Below w1.heap.size w1 w4) := (HB3.out.alloc hs3 _).grown hgrow4 (by simp; omega) (fun k hk => (HOW3.out.lt k hk).1)
            clear hown4 hgrow4 HOW3 c3 c1 HB3
            go_wp2_with fail
            go_roundw
            case rel => exact ⟨k + 1, by omega, by go_num, HOW4.out, HOK2.out, HB4.out⟩
            case measure => simp [intOf]; omega
        · obtain rfl : k = m := by omega
          have HALL2 : Hid (outs.all (fun o => scrOK o.scr) = true) := all_true (f := fun o : Out => scrOK o.scr) fun j hj => HOK.out j (by rw [HLO.out] at hj; exact hj)
          have HOW5 : Hid (OwnI wr w1.heap.size (.slice va vn vc) (outs.map Out.value)) := by
            have := HOW.out
            rwa [List.take_of_length_le (by rw [HLO.out]; exact Nat.le_refl _)] at this
          obtain ⟨a5, cap5, hv5, hI5, hl5, hm5⟩ := HOW5.out.ints
          injection hv5 with g1 g2 g3
          subst g1; subst g2; subst g3
          have HTOT : Hid (Calls Tryz.prog 46 #[.slice va (outs.map Out.value).length vc] wr fun e w' => e = .returned (.tuple #[.int .i64 (totN (outs.map Out.value)), .int .i64 (totE (outs.map Out.value))]) ∧ wr = w') := rtotal_any va _ vc _ wr hI5 rfl hl5 hm5
          have c2 : wr.cell? ⟨N, 2, none⟩ = some (.int .i64 lock) := (HS.out _ HBR.out).2.2
          clear hI5 hl5 hm5 HOW HOW5 HOK
          rcases (show lock < 0 ∨ (0 ≤ lock ∧ 1000000 < lock) ∨ (0 ≤ lock ∧ lock ≤ 1000000) by omega) with hl | ⟨hl0, hl⟩ | ⟨hl0, hl1⟩
          · have HQ : Hid (E = 1) := HCL.out (by unfold wi; exact decide_eq_false (by omega))
            go_wp2_with fail
            go_ret
            subst hN
            exact ⟨ret_int HQ.out.symm, HBL.out.trans (HBR.out.mono (by omega))⟩
          · have HQ : Hid (E = 1) := HCL.out (by unfold wi; exact decide_eq_false (by omega))
            have f1 : ¬ lock < 0 := by omega
            go_wp2_with fail
            go_ret
            subst hN
            exact ⟨ret_int HQ.out.symm, HBL.out.trans (HBR.out.mono (by omega))⟩
          · have HQ : Hid (E = totE (outs.map Out.value)) := HCS.out HALL.out.1 HALL.out.2 HALL2.out (by unfold wi; exact decide_eq_true ⟨hl0, hl1⟩)
            have f1 : ¬ lock < 0 := by omega
            have f2 : ¬ 1000000 < lock := by omega
            generalize totE (outs.map Out.value) = E2 at *
            generalize totN (outs.map Out.value) = N2 at *
            generalize (outs.map Out.value).length = L2 at *
            go_wp2_with fail
            refine Calls.mono HTOT.out ?_
            rintro e w9 ⟨rfl, rfl⟩
            go_wp2_with fail
            go_ret
            subst hN
            exact ⟨ret_int HQ.out.symm, HBL.out.trans (HBR.out.mono (by omega))⟩
theorem rcheck_any (v : TxV) (t : TxD) (w : World) (h : TxAt w v t) :
    Calls Tryz.prog 11 #[v.val t.lock] w fun e w' => e = .returned (.int .i64 (chkE t)) ∧ Below w.heap.size w w' := by
  by_cases hb : 100 < v.n ∨ 100 < v.m
  · exact rcheck_big v t w h hb
  · by_cases hn : v.n = 0
    · exact rcheck_none v t w h (by omega) hn
    · exact rcheck_some v t w h (by omega) (by omega) (by omega)
end Go.Proofs.YteikbpkjikacmaaGreatDoor
