/- BlockRules: how its list is built. -/
import Derived.Test.YtlaifphedhaemaaGreatDoorCRuA
import Derived.Test.YtlaifphedhaemaaGreatDoorCRfH
namespace Go.Proofs.YtlaifphedhaemaaGreatDoor
open Go.ChangeShapes Go.WideShapes Go.ChangeAt Go.RowKit

theorem step_build_own {α : Type} [El α] {P : Program} {S T : TypeId} {by_ : Nat} {ops : Array Oper} {o : Oper} {ac : Act} {w : World} {K : Act → World → Prop} {Q : Exit → Act → World → Prop} {E : Prop} (H : ElT α P S T by_) (hgd : o.guard = none) (y : Operand) (ho : o.op = .buildSlice S 1 #[(0, y)]) (x : α) (hy : ac.eval y = .agg (El.cs x).toArray)
    (hK : ∀ w', Hid (OwnE T w' w.heap.size (.slice (some ⟨w.heap.size, 0, none⟩) 1 1) [x]) → Hid (Below w.heap.size w w') → K (ac.put o.dst (.slice (some ⟨w.heap.size, 0, none⟩) 1 1)) w') : if Region.wanted o (yielded ops ac.tmps) = true then Oper.wp P o ac w K Q else E := by
  have hw : Region.wanted o (yielded ops ac.tmps) = true := by simp [Region.wanted, hgd]
  rw [if_pos hw]
  obtain ⟨i, hi, hi1, hi2, hi3⟩ := info_parts H.info
  have h1 := H.pos
  have h2 := H.most
  refine wp_buildSlice S T 1 _ ho (flatE [x]).toArray i _ H.und hi hi1 (by rw [hi2]; omega) (by rw [hi2]; omega) ?_ (hK _ (by
    have := World.ownsRow_lit (base := w.heap.size) (e := T) (size := El.k α) w (flatE [x]).toArray 1 (Nat.le_refl _) (by unfold maxLen; omega) (by rw [List.size_toArray, flatE_length]; rfl)
    exact this) ((Below.refl _ _).alloc (Nat.le_refl _) _))
  have hp : ((#[(0, y)] : Array (Nat × Operand)).map fun (i, x) => (i, ac.eval x)).toList = (([x].map fun p => Value.agg (El.cs p).toArray).zipIdx 0).map fun x => (x.2, x.1) := by
    simp [hy]
  rw [hp, hi2]
  have := Go.Great.fill_whole (s := El.k α) h1 ([x].map fun p => Value.agg (El.cs p).toArray) ((Array.range (1 * El.k α)).map ((Value.agg (El.cs (El.dflt : α)).toArray).cells[· % (Value.agg (El.cs (El.dflt : α)).toArray).cells.size]!)) (fun v hv => by
    obtain ⟨p, _, rfl⟩ := List.mem_map.1 hv
    show (El.cs p).toArray.size = El.k α
    rw [List.size_toArray, El.len]) (by simp)
  rw [this, flatE_values]
theorem inH_splice (h k : H32) : splice (inH h).cs 0 (ptH k).cs = (inH k).cs := by
  have e1 : (inH h).cs = (ptH h).cs ++ [.int .i64 0, .int .i64 1, .int .i64 0, .string ByteArray.empty] := rfl
  have e2 : (inH k).cs = (ptH k).cs ++ [.int .i64 0, .int .i64 1, .int .i64 0, .string ByteArray.empty] := rfl
  rw [e1, e2]
  generalize hp : ptH h = p
  generalize hq : ptH k = q
  unfold splice
  rw [List.take_zero, List.nil_append, Nat.zero_add, Pt.cs_length, List.drop_append_of_le_length (by rw [Pt.cs_length]; omega), List.drop_of_length_le (by rw [Pt.cs_length]; omega), List.nil_append]
theorem Own.tx {w : World} {N : Nat} {v : Value} {pq : List (Nat × Nat)} (h : Own w N v pq) {i : Nat} {x : Nat × Nat} (hx : pq[i]? = some x) : TxAt w (rowR x (baseT i)).v (baseT i) :=
  ⟨Els.one (α := In) (h.blk i x hx).1, Els.one (α := Out) (h.blk i x hx).2.1⟩
theorem Own.txl {w : World} {N : Nat} {a : Option Addr} {n c : Nat} {pq : List (Nat × Nat)} (h : Own w N (.slice a n c) pq) : TxL w a n c (rowsR pq) := by
  obtain ⟨a', n', c', e, he, _⟩ := h.row.parts
  injection e with e1 e2 e3
  subst e1; subst e2; subst e3
  refine ⟨he, fun r hr => ?_⟩
  obtain ⟨i, hi, rfl⟩ := List.getElem_of_mem hr
  have hi' : i < pq.length := by rwa [rowsR_length] at hi
  have e : (rowsR pq)[i]? = some (rowR pq[i] (baseT i)) := by rw [rowsR_get, List.getElem?_eq_getElem hi']; rfl
  rw [List.getElem?_eq_getElem hi] at e
  injection e with e
  rw [e]; exact h.tx (List.getElem?_eq_getElem hi')
theorem rowsR_getD (pq : List (Nat × Nat)) (i : Nat) (x : Nat × Nat) (hx : pq[i]? = some x) : (rowsR pq).getD i El.dflt = rowR x (baseT i) := by
  rw [List.getD_eq_getElem?_getD, rowsR_get, hx]; rfl
/-- Two lists of blocks do not meet. -/
theorem Own.apart {w : World} {N : Nat} {v : Value} {pq : List (Nat × Nat)} (h : Own w N v pq) {i j : Nat} {x y : Nat × Nat} (hx : pq[i]? = some x) (hy : pq[j]? = some y) (hne : i ≠ j) : x.1 ≠ y.1 ∧ x.1 ≠ y.2 ∧ x.2 ≠ y.1 ∧ x.2 ≠ y.2 := by
  have h1 := (h.blk i x hx).2.2.2.1
  have h2 := (h.blk j y hy).2.2.2.1
  have hi := (List.getElem?_eq_some_iff.1 hx)
  have hj := (List.getElem?_eq_some_iff.1 hy)
  obtain ⟨hi1, hi2⟩ := hi
  obtain ⟨hj1, hj2⟩ := hj
  rcases Nat.lt_or_ge i j with hl | hl
  · have := List.pairwise_iff_getElem.1 h.ord i j hi1 hj1 hl
    rw [hi2, hj2] at this; omega
  · have := List.pairwise_iff_getElem.1 h.ord j i hj1 hi1 (by omega)
    rw [hi2, hj2] at this; omega
set_option maxRecDepth 100000 in
set_option maxHeartbeats 8000000 in
theorem rules_any (n f t : Int) (tw : Bool) (w : World) (hK : Kw w)
    (hA : ∀ n F T : Nat, F < n → T < n → F ≠ T → n ≤ 102 → mkE default 1 0 (tsA n F T) = if 100 < n then 3 else 1) (hB : ∀ n F T : Nat, F < n → T < n → F ≠ T → n ≤ 102 → mkE default 1 0 (tsB n F T) = if 100 < n then 3 else if T < F then 1 else 0) (hC : ∀ n : Nat, n ≤ 102 → mkE default 1 0 (ts0 n) = if 100 < n then 3 else 0) :
    Calls Tryz.prog 6 #[.int .i64 n, .int .i64 f, .int .i64 t, .bool tw] w fun e w' => e = .returned (.bool true) ∧ Below w.heap.size w w' := by
  have HMO : Hid (Tryz.prog.follows .mixedOrders = true) := show _ = _ by kernel_rfl
  have HK : Hid (Kw w) := hK
  have hpos := hK.pos
  clear hK
  go_enter Tryz.func6, Tryz.ntmps6
  by_cases hn1 : n < 1
  · go_wp2_with fail
    refine (bawake_any w HK.out).mono ?_
    rintro e w1 ⟨rfl, hb1⟩
    go_wp2_with fail
    go_ret
    exact ⟨rfl, hb1⟩
  · by_cases hn2 : 102 < n
    · go_wp2_with fail
      refine (bawake_any w HK.out).mono ?_
      rintro e w1 ⟨rfl, hb1⟩
      go_wp2_with fail
      go_ret
      exact ⟨rfl, hb1⟩
    · obtain ⟨n, rfl⟩ : ∃ m : Nat, n = (m : Int) := ⟨n.toNat, by omega⟩
      have hn3 : 1 ≤ n := by omega
      have hn4 : n ≤ 102 := by omega
      go_wp2_with fail
      refine (round_any f n w (by omega) (by omega)).mono ?_
      rintro e w1 ⟨rfl, rfl⟩
      go_wp2_with fail
      refine (round_any t n w (by omega) (by omega)).mono ?_
      rintro e w1 ⟨rfl, rfl⟩
      obtain ⟨F, hF⟩ : ∃ F : Nat, f % (n : Int) = F := ⟨(f % n).toNat, by have := Int.emod_nonneg f (show (n : Int) ≠ 0 by omega); omega⟩
      obtain ⟨T, hT⟩ : ∃ T : Nat, t % (n : Int) = T := ⟨(t % n).toNat, by have := Int.emod_nonneg t (show (n : Int) ≠ 0 by omega); omega⟩
      have hFn : F < n := by have := Int.emod_lt_of_pos f (show (0 : Int) < n by omega); omega
      have hTn : T < n := by have := Int.emod_lt_of_pos t (show (0 : Int) < n by omega); omega
      rw [hF, hT]
      clear hF hT hn1 hn2
      go_wp2_with fail
      generalize hN : w.heap.size = N at *
      go_loopw [9, 10] (fun v i wr => ∃ (k : Nat) (pq : List (Nat × Nat)), k ≤ n ∧ i = .int .i64 k ∧ Hid (pq.length = k) ∧ Hid (Own wr N v pq) ∧ Hid (Below N w wr)) (fun _ i _ => n - (intOf i).toNat)
      case atStart => exact ⟨0, [], by omega, rfl, rfl, Own.nil _ _, Below.refl _ _⟩
      case round =>
        obtain ⟨k, pq, hk, rfl, HPL, HO, HB⟩ := hrel
        obtain ⟨va, vn, vc, rfl⟩ := HO.out.row.any
        have hs : N ≤ wr.heap.size := by have := HB.out.size; rw [hN] at this; exact this
        by_cases hlt : k < n
        · have e1 : (k : Int) < (n : Int) := by omega
          go_wp2_with fail
          refine (name_any k wr (by omega)).mono ?_
          rintro e w1 ⟨rfl, hb1⟩
          have HO1 : Hid (Own w1 N (.slice va vn vc) pq) := HO.out.below hb1
          have HB1 : Hid (Below N w w1) := HB.out.trans (hb1.mono hs)
          have hs1 := hb1.size
          have HNM : Hid (u8s (nameB k) = (nmH k).cs) := show _ = _ from rfl
          rw [HNM.out]
          have hb2 : Hid (Tryz.prog.built 53 [(0, .agg (nmH k).cs.toArray)] = some (ptH (nmH k)).cs.toArray) := built_ptH _
          have hb3 : Hid (Tryz.prog.built 57 [(0, .agg (ptH (nmH k)).cs.toArray), (2, .agg #[.int .i64 1, .int .i64 0, .string ByteArray.empty])] = some (inH (nmH k)).cs.toArray) := built_inH _
          obtain ⟨x, hx⟩ : ∃ x, x = inH (nmH k) := ⟨_, rfl⟩
          rw [← hx] at hb3
          have HX : Hid (x = inH (nmH k)) := hx
          generalize ptH (nmH k) = p at hb2 hb3 ⊢
          generalize nmH k = h at hb2 hb3 ⊢
          clear hb1 HNM hx HO HB
          go_wp2_with (first
            | (refine wpList_bld rfl 53 _ rfl _ _ hb2.out (by rw [Array.toList_map]; rfl) ?_)
            | (refine wpList_bld rfl 57 _ rfl _ _ hb3.out (by rw [Array.toList_map]; rfl) ?_)
            | (refine wpList_build_blk elIn rfl _ rfl x rfl ?_; intro w2 HI2 Hb2)
            | (refine wpList_build_blk elOut rfl _ rfl outK rfl ?_; intro w3 HI3 Hb3)
            | (refine wpList_bld rfl 61 _ rfl _ _ (built_tx2 _ _ _ _ _ _) (by rw [Array.toList_map]; rfl) ?_)
            | (refine wpList_build_blk elTx rfl _ rfl (rowR (w1.heap.size, w2.heap.size) (baseT k)) rfl ?_; intro w4 HI4 Hb4; have hs2 := Hb2.out.size; have hs3 := Hb3.out.size; have hs4 := Hb4.out.size; have hl2 := HI2.out.lt; have hl3 := HI3.out.lt; have HO4 : Hid (Own w4 N (.slice va vn vc) pq) := ((HO1.out.below Hb2.out).below Hb3.out).below Hb4.out)
            | (at_builtin; refine wpList_append_e elTx rfl _ _ rfl N (.slice va vn vc) (rowsR pq) rfl HO4.out.row _ 1 1 [rowR (w1.heap.size, w2.heap.size) (baseT k)] rfl (Els.one HI4.out) (by rw [rowsR_length, HPL.out]; omega) (by omega) ?_; intro v5 w5 HO5 HG5 HM5; obtain ⟨a5, n5, c5, rfl⟩ := HO5.out.any))
          have HP4 : Hid (Blk w4 w1.heap.size x.cs) := (HI2.out.below Hb3.out (by omega)).below Hb4.out (by omega)
          have HQ4 : Hid (Blk w4 w2.heap.size outK.cs) := HI3.out.below Hb4.out (by omega)
          have HB4 : Hid (Below N w w4) := ((HB1.out.trans (Hb2.out.mono (by omega))).trans (Hb3.out.mono (by omega))).trans (Hb4.out.mono (by omega))
          have HV1 : Hid ((Value.slice va vn vc).ownBlock ≠ some w1.heap.size ∧ (Value.slice va vn vc).ownBlock ≠ some w2.heap.size) := ⟨fun e => by have := (HO1.out.row.lt _ e).2; omega, fun e => by have := (HO1.out.row.lt _ e).2; omega⟩
          have HO6 : Hid (Own w5 N (.slice a5 n5 c5) (pq ++ [(w1.heap.size, w2.heap.size)])) :=
            HO4.out.push (by rw [HPL.out]; exact HO5.out) HG5.out HM5.out (by rw [HPL.out, ← HX.out]; exact HP4.out) HQ4.out (by omega) (by omega) HV1.out (fun y hy => by
              obtain ⟨i, hi, rfl⟩ := List.getElem_of_mem hy
              have := (HO1.out.blk i _ (List.getElem?_eq_getElem hi)).2.1.lt
              exact this)
          have HB6 : Hid (Below N w w5) := HB4.out.grown HG5.out (by omega) (fun q hq => (HO4.out.row.lt q hq).1)
          go_roundw
          case rel => exact ⟨k + 1, pq ++ [(w1.heap.size, w2.heap.size)], by omega, by go_num, show _ = _ by simp [HPL.out], HO6.out, HB6.out⟩
          case measure => simp [intOf]; omega
        · obtain rfl : n = k := by omega
          clear hlt hk
          go_upto_region 10 with fail
          by_cases hFT : F = T
          · subst hFT
            have HL : Hid (TxL wr va vn vc (rowsR pq)) := HO.out.txl
            obtain ⟨TS, hTS⟩ : ∃ TS, (rowsR pq).map TxR.t = TS := ⟨_, rfl⟩
            have HTS : Hid ((rowsR pq).map TxR.t = TS) := hTS
            have HTV : Hid (TS = ts0 n) := show _ = _ by rw [← hTS, rowsR_ts, HPL.out]; rfl
            clear hTS
            cases tw with
            | true =>
              by_cases hbig : 100 < n
              · have hbig' : (100 : Int) < (n : Int) := by omega
                have HEV : Hid (mkE default 1 0 TS = 3) := show _ = _ by rw [HTV.out, hC n hn4, if_pos hbig]
                have HKF : Hid (Kw wr) := HK.out.below HB.out hpos
                go_wp2_with fail
                refine (make_any default 1 0 _ _ _ _ wr HL.out HKF.out).mono ?_
                rintro e wm ⟨⟨am, nm, cm, lm, rfl, _, _, _⟩, hbm⟩
                rw [HTS.out, HEV.out]
                have hsW : N ≤ wr.heap.size := by have := HB.out.size; rw [hN] at this; exact this
                have HBM : Hid (Below N w wm) := HB.out.trans (hbm.mono hsW)
                clear hbm
                obtain ⟨Z, hZ⟩ : ∃ Z, Z = blkCs (mkH default 1 0 TS) am nm cm := ⟨_, rfl⟩
                rw [← hZ]
                have HZS : Hid ((Tryz.prog.info? 28).map (·.size) = some Z.toArray.size ∧ (blkCs default none 0 0).toArray.size = Z.toArray.size ∧ Z.toArray.all (·.oneCell') = true) := by
                  rw [hZ]; exact ⟨sizeBka _ _ _ _, by simp [blkCs_length], blkCs_all _ _ _ _⟩
                clear hZ
                go_upto_region 21 with (refine wpList_store_fresh rfl 28 _ _ rfl Z _ 28 rfl rfl HZS.out.1 HZS.out.2.1 HZS.out.2.2 ?_; intro wn HGn Hbn)
                have HBN : Hid (Below N w wn) := HBM.out.trans (Hbn.out.mono (by have := HBM.out.size; rw [hN] at this; exact this))
                clear HGn Hbn HBM
                go_wp2_with fail
                refine (bawake_any wn (HK.out.below HBN.out hpos)).mono ?_
                rintro e wo ⟨rfl, hbo⟩
                have HBO : Hid (Below N w wo) := HBN.out.trans (hbo.mono (by have := HBN.out.size; rw [hN] at this; exact this))
                clear hbo
                go_wp2_with fail
                go_ret
                subst hN
                exact ⟨rfl, HBO.out⟩
              · have hbig' : ¬ ((100 : Int) < (n : Int)) := by omega
                have HEV : Hid (mkE default 1 0 TS = 0) := show _ = _ by rw [HTV.out, hC n hn4, if_neg hbig]
                have HKF : Hid (Kw wr) := HK.out.below HB.out hpos
                go_wp2_with fail
                refine (make_any default 1 0 _ _ _ _ wr HL.out HKF.out).mono ?_
                rintro e wm ⟨⟨am, nm, cm, lm, rfl, _, _, _⟩, hbm⟩
                rw [HTS.out, HEV.out]
                have hsW : N ≤ wr.heap.size := by have := HB.out.size; rw [hN] at this; exact this
                have HBM : Hid (Below N w wm) := HB.out.trans (hbm.mono hsW)
                clear hbm
                obtain ⟨Z, hZ⟩ : ∃ Z, Z = blkCs (mkH default 1 0 TS) am nm cm := ⟨_, rfl⟩
                rw [← hZ]
                have HZS : Hid ((Tryz.prog.info? 28).map (·.size) = some Z.toArray.size ∧ (blkCs default none 0 0).toArray.size = Z.toArray.size ∧ Z.toArray.all (·.oneCell') = true) := by
                  rw [hZ]; exact ⟨sizeBka _ _ _ _, by simp [blkCs_length], blkCs_all _ _ _ _⟩
                clear hZ
                go_upto_region 21 with (refine wpList_store_fresh rfl 28 _ _ rfl Z _ 28 rfl rfl HZS.out.1 HZS.out.2.1 HZS.out.2.2 ?_; intro wn HGn Hbn)
                have HBN : Hid (Below N w wn) := HBM.out.trans (Hbn.out.mono (by have := HBM.out.size; rw [hN] at this; exact this))
                clear HGn Hbn HBM
                go_wp2_with fail
                refine (bawake_any wn (HK.out.below HBN.out hpos)).mono ?_
                rintro e wo ⟨rfl, hbo⟩
                have HBO : Hid (Below N w wo) := HBN.out.trans (hbo.mono (by have := HBN.out.size; rw [hN] at this; exact this))
                clear hbo
                go_wp2_with fail
                go_ret
                subst hN
                exact ⟨rfl, HBO.out⟩
            | false =>
              by_cases hbig : 100 < n
              · have hbig' : (100 : Int) < (n : Int) := by omega
                have HEV : Hid (mkE default 1 0 TS = 3) := show _ = _ by rw [HTV.out, hC n hn4, if_pos hbig]
                have HKF : Hid (Kw wr) := HK.out.below HB.out hpos
                go_wp2_with fail
                refine (make_any default 1 0 _ _ _ _ wr HL.out HKF.out).mono ?_
                rintro e wm ⟨⟨am, nm, cm, lm, rfl, _, _, _⟩, hbm⟩
                rw [HTS.out, HEV.out]
                have hsW : N ≤ wr.heap.size := by have := HB.out.size; rw [hN] at this; exact this
                have HBM : Hid (Below N w wm) := HB.out.trans (hbm.mono hsW)
                clear hbm
                obtain ⟨Z, hZ⟩ : ∃ Z, Z = blkCs (mkH default 1 0 TS) am nm cm := ⟨_, rfl⟩
                rw [← hZ]
                have HZS : Hid ((Tryz.prog.info? 28).map (·.size) = some Z.toArray.size ∧ (blkCs default none 0 0).toArray.size = Z.toArray.size ∧ Z.toArray.all (·.oneCell') = true) := by
                  rw [hZ]; exact ⟨sizeBka _ _ _ _, by simp [blkCs_length], blkCs_all _ _ _ _⟩
                clear hZ
                go_upto_region 21 with (refine wpList_store_fresh rfl 28 _ _ rfl Z _ 28 rfl rfl HZS.out.1 HZS.out.2.1 HZS.out.2.2 ?_; intro wn HGn Hbn)
                have HBN : Hid (Below N w wn) := HBM.out.trans (Hbn.out.mono (by have := HBM.out.size; rw [hN] at this; exact this))
                clear HGn Hbn HBM
                go_wp2_with fail
                refine (bawake_any wn (HK.out.below HBN.out hpos)).mono ?_
                rintro e wo ⟨rfl, hbo⟩
                have HBO : Hid (Below N w wo) := HBN.out.trans (hbo.mono (by have := HBN.out.size; rw [hN] at this; exact this))
                clear hbo
                go_wp2_with fail
                go_ret
                subst hN
                exact ⟨rfl, HBO.out⟩
              · have hbig' : ¬ ((100 : Int) < (n : Int)) := by omega
                have HEV : Hid (mkE default 1 0 TS = 0) := show _ = _ by rw [HTV.out, hC n hn4, if_neg hbig]
                have HKF : Hid (Kw wr) := HK.out.below HB.out hpos
                go_wp2_with fail
                refine (make_any default 1 0 _ _ _ _ wr HL.out HKF.out).mono ?_
                rintro e wm ⟨⟨am, nm, cm, lm, rfl, _, _, _⟩, hbm⟩
                rw [HTS.out, HEV.out]
                have hsW : N ≤ wr.heap.size := by have := HB.out.size; rw [hN] at this; exact this
                have HBM : Hid (Below N w wm) := HB.out.trans (hbm.mono hsW)
                clear hbm
                obtain ⟨Z, hZ⟩ : ∃ Z, Z = blkCs (mkH default 1 0 TS) am nm cm := ⟨_, rfl⟩
                rw [← hZ]
                have HZS : Hid ((Tryz.prog.info? 28).map (·.size) = some Z.toArray.size ∧ (blkCs default none 0 0).toArray.size = Z.toArray.size ∧ Z.toArray.all (·.oneCell') = true) := by
                  rw [hZ]; exact ⟨sizeBka _ _ _ _, by simp [blkCs_length], blkCs_all _ _ _ _⟩
                clear hZ
                go_upto_region 21 with (refine wpList_store_fresh rfl 28 _ _ rfl Z _ 28 rfl rfl HZS.out.1 HZS.out.2.1 HZS.out.2.2 ?_; intro wn HGn Hbn)
                have HBN : Hid (Below N w wn) := HBM.out.trans (Hbn.out.mono (by have := HBM.out.size; rw [hN] at this; exact this))
                clear HGn Hbn HBM
                go_wp2_with fail
                refine (bawake_any wn (HK.out.below HBN.out hpos)).mono ?_
                rintro e wo ⟨rfl, hbo⟩
                have HBO : Hid (Below N w wo) := HBN.out.trans (hbo.mono (by have := HBN.out.size; rw [hN] at this; exact this))
                clear hbo
                go_wp2_with fail
                go_ret
                subst hN
                exact ⟨rfl, HBO.out⟩
          · have hFTi : ¬ ((F : Int) = (T : Int)) := by omega
            have hFTn : (F : Int) ≠ (T : Int) := by omega
            obtain ⟨x, hx⟩ : ∃ x, pq[F]? = some x := ⟨_, List.getElem?_eq_getElem (by rw [HPL.out]; exact hFn)⟩
            obtain ⟨y, hy⟩ : ∃ y, pq[T]? = some y := ⟨_, List.getElem?_eq_getElem (by rw [HPL.out]; exact hTn)⟩
            have HXY : Hid (pq[F]? = some x ∧ pq[T]? = some y) := ⟨hx, hy⟩
            obtain ⟨g, n', c', e, hn', hg⟩ := HO.out.row.led (by rw [rowsR_length, HPL.out]; omega)
            injection e with e1 e2 e3
            subst e1; subst e2; subst e3
            rw [rowsR_length, HPL.out] at hn'
            have hn'' := hn'.symm
            subst hn''
            have f0 : (0 : Int) ≤ (F : Int) := by omega
            have f1 : (F : Int) < (n : Int) := by omega
            have t0 : (0 : Int) ≤ (T : Int) := by omega
            have t1 : (T : Int) < (n : Int) := by omega
            have HGF : Hid ((rowsR pq).getD F El.dflt = rowR x (baseT F)) := rowsR_getD pq F x hx
            have HGT : Hid ((rowsR pq).getD T El.dflt = rowR y (baseT T)) := rowsR_getD pq T y hy
            have hRL : F < (rowsR pq).length ∧ T < (rowsR pq).length := by rw [rowsR_length, HPL.out]; exact ⟨hFn, hTn⟩
            have HRL : Hid (F < (rowsR pq).length ∧ T < (rowsR pq).length) := hRL
            obtain ⟨hx1, hx2, hx3, hx4, hx5, hx6⟩ := HO.out.blk F x hx
            obtain ⟨hy1, hy2, hy3, hy4, hy5, hy6⟩ := HO.out.blk T y hy
            have hap := HO.out.apart hx hy hFT
            have HBX : Hid (Blk wr x.1 (inH (nmH F)).cs) := hx1
            have HBY : Hid (Blk wr y.1 (inH (nmH T)).cs) := hy1
            have hgx : g ≠ x.1 ∧ g ≠ x.2 ∧ g ≠ y.1 ∧ g ≠ y.2 := by
              refine ⟨fun e => hx5 (by rw [← e]; rfl), fun e => hx6 (by rw [← e]; rfl), fun e => hy5 (by rw [← e]; rfl), fun e => hy6 (by rw [← e]; rfl)⟩
            have HGX : Hid (g ≠ x.1 ∧ g ≠ x.2 ∧ g ≠ y.1 ∧ g ≠ y.2) := hgx
            have HAP : Hid (x.1 ≠ y.1 ∧ x.1 ≠ y.2 ∧ x.2 ≠ y.1 ∧ x.2 ≠ y.2) := hap
            have HYN : Hid (N ≤ y.1 ∧ y.1 < y.2) := ⟨hy3, hy4⟩
            clear hx hy hx1 hx2 hx3 hx4 hx5 hx6 hy1 hy2 hy3 hy4 hy5 hy6 hap hgx hRL
            obtain ⟨hf, hhf⟩ : ∃ h, h = nmH F := ⟨_, rfl⟩
            obtain ⟨ht, hht⟩ : ∃ h, h = nmH T := ⟨_, rfl⟩
            rw [← hhf] at HBX
            rw [← hht] at HBY
            have HHF : Hid (hf = nmH F) := hhf
            have HHT : Hid (ht = nmH T) := hht
            clear hhf hht
            cases tw with
            | true =>
              have cT : wr.drew.cell? ⟨g, T * 3, none⟩ = some (.slice (some ⟨y.1, 0, none⟩) 1 1) := (HO.out.row.cellAt (j := T) (i := 0) HRL.out.2 (by rw [HGT.out]; rfl)).1
              have cF : wr.drew.cell? ⟨g, F * 3, none⟩ = some (.slice (some ⟨x.1, 0, none⟩) 1 1) := (HO.out.row.cellAt (j := F) (i := 0) HRL.out.1 (by rw [HGF.out]; rfl)).1
              have HLX : Hid (wr.drew.rangeAt x.1 0 (ptH hf).cs) := In.prev_at (x := inH hf) HBX.out.whole
              go_upto_region 11 with fail
              refine wp_region_tail 15 HMO.out (by kernel_rfl) ?_
              iterate 12 still_step
              refine still_load_mid rfl 53 _ rfl x.1 0 rfl (ptH hf).cs _ HLX.out und_pt.out rfl (size_pt _) ?_
              simp only [Act.put, List.setIfInBounds_toArray, List.set_cons_zero, List.set_cons_succ]
              iterate 2 still_step
              refine wpStill_nil ?_
              have HOD : Hid (Own wr.drew N (.slice (some ⟨g, 0, none⟩) n vc) pq) := HO.out.below (Below.refl _ _).drew
              have HBD : Hid (Below N w wr.drew) := HB.out.drew
              have HYD : Hid (Blk wr.drew y.1 (inH ht).cs) := HBY.out.drew
              clear HO HB HBX HBY cT cF HLX
              generalize wr.drew = w2 at *
              have HTH : Hid (w2.there y.1 0 (ptH hf).cs.toArray.size) := by
                show w2.there _ _ _
                rw [List.size_toArray, Pt.cs_length]
                exact HYD.out.there _ _ (by rw [In.cs_length]; omega)
              have HY3 : Hid (Blk (w2.setCells y.1 0 (ptH hf).cs) y.1 (inH hf).cs) := by
                have := HYD.out.cellsAt (ptH hf).cs 0 (by rw [Pt.cs_length, In.cs_length]; omega)
                rw [inH_splice] at this; exact this
              have HK3 : Hid (∀ b, b ≠ y.1 → (w2.setCells y.1 0 (ptH hf).cs).heap[b]? = w2.heap[b]?) := fun b hb => heap_setCells _ _ _ _ _ hb
              have HB3 : Hid (Below N w (w2.setCells y.1 0 (ptH hf).cs)) := below_setCells HYN.out.1 _ HBD.out _
              have HR3 : Hid (OwnE 61 (w2.setCells y.1 0 (ptH hf).cs) N (.slice (some ⟨g, 0, none⟩) n vc) (rowsR pq)) := HOD.out.row.same fun k hk => by
                have hk' : some g = some k := hk
                injection hk' with hk'
                exact HK3.out k (by rw [← hk']; exact HGX.out.2.2.1)
              have hgN : N ≤ g := hg
              go_upto_region 12 with (refine wpList_store_mid rfl 53 _ _ rfl y.1 0 (ptH hf).cs.toArray rfl rfl HTH.out (size_pta _) (Pt.cs_all _) ?_)
              generalize w2.setCells y.1 0 (ptH hf).cs = w3 at *
              obtain ⟨z, hz⟩ : ∃ z, z = rowR y ⟨[inH hf], [outK], 7⟩ := ⟨_, rfl⟩
              obtain ⟨cT2, fT2⟩ := HR3.out.cellAt (j := T) (i := 2) (u := .int .i64 0) HRL.out.2 (by rw [HGT.out]; rfl)
              change w3.cell? ⟨g, T * 3 + 2, none⟩ = some (.int .i64 0) at cT2
              change w3.frozen? ⟨g, T * 3 + 2, none⟩ = false at fT2
              have HR4 : Hid (OwnE 61 (w3.setCell ⟨g, T * 3 + 2, none⟩ (.int .i64 7)) N (.slice (some ⟨g, 0, none⟩) n vc) ((rowsR pq).set T z)) :=
                HR3.out.setPart T 2 [.int .i64 7] z HRL.out.2 (by decide) (by rw [HGT.out, hz]; rfl)
              have HB4 : Hid (Below N w (w3.setCell ⟨g, T * 3 + 2, none⟩ (.int .i64 7))) := HB3.out.setCell (by show N ≤ g; exact hgN) _
              have HK4 : Hid (∀ b, b ≠ y.1 → b ≠ g → (w3.setCell ⟨g, T * 3 + 2, none⟩ (.int .i64 7)).heap[b]? = w2.heap[b]?) := fun b h1 h2 => by
                rw [Below.heap_setCell _ _ _ _ h2, HK3.out b h1]
              have HY4 : Hid (Blk (w3.setCell ⟨g, T * 3 + 2, none⟩ (.int .i64 7)) y.1 (inH hf).cs) := HY3.out.other (by show y.1 ≠ g; exact HGX.out.2.2.1.symm) _
              go_upto_region 13 with fail
              generalize w3.setCell ⟨g, T * 3 + 2, none⟩ (.int .i64 7) = w4 at *
              have keep : ∀ b cs, Blk w2 b cs → b ≠ y.1 → b ≠ g → Blk w4 b cs := fun b cs hb h1 h2 => by
                obtain ⟨tt, ht⟩ := hb
                exact ⟨tt, by rw [HK4.out b h1 h2]; exact ht⟩
              have HL : Hid (TxL w4 (some ⟨g, 0, none⟩) n vc ((rowsR pq).set T z)) := by
                obtain ⟨a', n', c'', e, he, _⟩ := HR4.out.parts
                injection e with e1 e2 e3
                subst e1; subst e2; subst e3
                refine ⟨he, fun r hr => ?_⟩
                obtain ⟨i, hi, rfl⟩ := List.getElem_of_mem hr
                rw [List.length_set] at hi
                rw [List.getElem_set]
                split
                · rw [hz]
                  obtain ⟨_, h2, _⟩ := HOD.out.blk T y HXY.out.2
                  exact ⟨Els.one (α := In) HY4.out, Els.one (α := Out) (keep _ _ h2 (by have := HYN.out.2; omega) HGX.out.2.2.2.symm)⟩
                · rename_i hne
                  have hi' : i < pq.length := by rwa [rowsR_length] at hi
                  have e : (rowsR pq)[i]? = some (rowR pq[i] (baseT i)) := by rw [rowsR_get, List.getElem?_eq_getElem hi']; rfl
                  rw [List.getElem?_eq_getElem hi] at e
                  injection e with e
                  rw [e]
                  obtain ⟨h1, h2, h3, h4, h5, h6⟩ := HOD.out.blk i pq[i] (List.getElem?_eq_getElem hi')
                  have hap := HOD.out.apart (List.getElem?_eq_getElem hi') HXY.out.2 (fun e => hne e.symm)
                  exact ⟨Els.one (α := In) (keep _ _ h1 hap.1 (fun e => h5 (by rw [e]; rfl))), Els.one (α := Out) (keep _ _ h2 hap.2.2.1 (fun e => h6 (by rw [e]; rfl)))⟩
              obtain ⟨TS, hTS⟩ : ∃ TS, ((rowsR pq).set T z).map TxR.t = TS := ⟨_, rfl⟩
              have HTS : Hid (((rowsR pq).set T z).map TxR.t = TS) := hTS
              have HTV : Hid (TS = tsA n F T) := show _ = _ by rw [← hTS, List.map_set, rowsR_ts, HPL.out, hz, HHF.out]; rfl
              clear hTS hz cT2 fT2 keep HR3 HR4 HB3 HK3 HK4 HY3 HY4 HTH HOD HBD HYD
              by_cases hbig : 100 < n
              · have hbig' : (100 : Int) < (n : Int) := by omega
                have HEV : Hid (mkE default 1 0 TS = 3) := show _ = _ by rw [HTV.out, hA n F T hFn hTn hFT hn4, if_pos hbig]
                have HKF : Hid (Kw w4) := HK.out.below HB4.out hpos
                go_wp2_with fail
                refine (make_any default 1 0 _ _ _ _ w4 HL.out HKF.out).mono ?_
                rintro e wm ⟨⟨am, nm, cm, lm, rfl, _, _, _⟩, hbm⟩
                rw [HTS.out, HEV.out]
                have hsW : N ≤ w4.heap.size := by have := HB4.out.size; rw [hN] at this; exact this
                have HBM : Hid (Below N w wm) := HB4.out.trans (hbm.mono hsW)
                clear hbm
                obtain ⟨Z, hZ⟩ : ∃ Z, Z = blkCs (mkH default 1 0 TS) am nm cm := ⟨_, rfl⟩
                rw [← hZ]
                have HZS : Hid ((Tryz.prog.info? 28).map (·.size) = some Z.toArray.size ∧ (blkCs default none 0 0).toArray.size = Z.toArray.size ∧ Z.toArray.all (·.oneCell') = true) := by
                  rw [hZ]; exact ⟨sizeBka _ _ _ _, by simp [blkCs_length], blkCs_all _ _ _ _⟩
                clear hZ
                go_upto_region 21 with (refine wpList_store_fresh rfl 28 _ _ rfl Z _ 28 rfl rfl HZS.out.1 HZS.out.2.1 HZS.out.2.2 ?_; intro wn HGn Hbn)
                have HBN : Hid (Below N w wn) := HBM.out.trans (Hbn.out.mono (by have := HBM.out.size; rw [hN] at this; exact this))
                clear HGn Hbn HBM
                go_wp2_with fail
                refine (bawake_any wn (HK.out.below HBN.out hpos)).mono ?_
                rintro e wo ⟨rfl, hbo⟩
                have HBO : Hid (Below N w wo) := HBN.out.trans (hbo.mono (by have := HBN.out.size; rw [hN] at this; exact this))
                clear hbo
                go_wp2_with fail
                go_ret
                subst hN
                exact ⟨rfl, HBO.out⟩
              · have hbig' : ¬ ((100 : Int) < (n : Int)) := by omega
                have HEV : Hid (mkE default 1 0 TS = 1) := show _ = _ by rw [HTV.out, hA n F T hFn hTn hFT hn4, if_neg hbig]
                have HKF : Hid (Kw w4) := HK.out.below HB4.out hpos
                go_wp2_with fail
                refine (make_any default 1 0 _ _ _ _ w4 HL.out HKF.out).mono ?_
                rintro e wm ⟨⟨am, nm, cm, lm, rfl, _, _, _⟩, hbm⟩
                rw [HTS.out, HEV.out]
                have hsW : N ≤ w4.heap.size := by have := HB4.out.size; rw [hN] at this; exact this
                have HBM : Hid (Below N w wm) := HB4.out.trans (hbm.mono hsW)
                clear hbm
                obtain ⟨Z, hZ⟩ : ∃ Z, Z = blkCs (mkH default 1 0 TS) am nm cm := ⟨_, rfl⟩
                rw [← hZ]
                have HZS : Hid ((Tryz.prog.info? 28).map (·.size) = some Z.toArray.size ∧ (blkCs default none 0 0).toArray.size = Z.toArray.size ∧ Z.toArray.all (·.oneCell') = true) := by
                  rw [hZ]; exact ⟨sizeBka _ _ _ _, by simp [blkCs_length], blkCs_all _ _ _ _⟩
                clear hZ
                go_upto_region 21 with (refine wpList_store_fresh rfl 28 _ _ rfl Z _ 28 rfl rfl HZS.out.1 HZS.out.2.1 HZS.out.2.2 ?_; intro wn HGn Hbn)
                have HBN : Hid (Below N w wn) := HBM.out.trans (Hbn.out.mono (by have := HBM.out.size; rw [hN] at this; exact this))
                clear HGn Hbn HBM
                go_wp2_with fail
                refine (bawake_any wn (HK.out.below HBN.out hpos)).mono ?_
                rintro e wo ⟨rfl, hbo⟩
                have HBO : Hid (Below N w wo) := HBN.out.trans (hbo.mono (by have := HBN.out.size; rw [hN] at this; exact this))
                clear hbo
                go_wp2_with fail
                go_ret
                subst hN
                exact ⟨rfl, HBO.out⟩
            | false =>
              have HOD : Hid (Own wr.drew N (.slice (some ⟨g, 0, none⟩) n vc) pq) := HO.out.below (Below.refl _ _).drew
              have HBD : Hid (Below N w wr.drew) := HB.out.drew
              have HYD : Hid (Blk wr.drew y.1 (inH ht).cs) := HBY.out.drew
              have k0 : wr.drew.cell? ⟨g, T * 3, none⟩ = some (.slice (some ⟨y.1, 0, none⟩) 1 1) := (HO.out.row.cellAt (j := T) (i := 0) HRL.out.2 (by rw [HGT.out]; rfl)).1
              obtain ⟨rF, hrF⟩ : ∃ r, r = rowR x (baseT F) := ⟨_, rfl⟩
              have HRF : Hid (wr.drew.rangeAt g (F * 3) rF.cs) := fun j u hu => by
                have := (HOD.out.row.cellAt (j := F) (i := j) (u := u) HRL.out.1 (by rw [HGF.out, ← hrF]; exact hu)).1
                exact this
              obtain ⟨hid, hhid⟩ : ∃ h, h = idH (baseT F) := ⟨_, rfl⟩
              have HHI : Hid (hid = idH (baseT F)) := hhid
              have HID : Hid (Calls Tryz.prog 25 #[.agg rF.cs.toArray] wr.drew fun e w' => e = .returned (.agg hid.cs.toArray) ∧ Below wr.drew.heap.size wr.drew w') := by
                rw [hrF, hhid]; exact rid_any _ (baseT F) wr.drew (HOD.out.tx HXY.out.1)
              have hb1 : Hid (Tryz.prog.built 53 [(0, .agg hid.cs.toArray)] = some (ptH hid).cs.toArray) := built_ptH _
              have hb2 : Hid (Tryz.prog.built 57 [(0, .agg (ptH hid).cs.toArray), (2, .agg #[.int .i64 1, .int .i64 0, .string ByteArray.empty])] = some (inH hid).cs.toArray) := built_inH _
              obtain ⟨dT, HDT, HRT⟩ := und_tx
              have hgl : g < wr.heap.size := (HO.out.row.lt g rfl).2
              have hyl : y.1 < wr.heap.size := HBY.out.lt
              have hNr : N ≤ wr.heap.size := hs
              clear hrF hhid HO HB HBX HBY
              generalize hpt : ptH hid = pt at hb1 hb2
              generalize hin : inH hid = iX at hb2
              have HIX : Hid (inH hid = iX) := hin
              clear hpt hin
              go_upto_region 15 with fail
              refine wp_region_noPanic ?_
              refine wp_region_held_drew (S := fun w' => w'.rangeAt g (F * 3) rF.cs) HMO.out (HRF.out) (fun hHeld => ?_)
              refine wpAnyH_take (i := 0) (oi := { dst := some 77, op := .move (.tmp 9), type := 26, pos := "law.go:92", after := #[], guard := none }) (v := ?_) rfl (by kernel_rfl) (by kernel_rfl) (by kernel_rfl) (fun _ _ _ h => h) (Or.inl ⟨by rfl, ?_⟩) (by assumption) ?_
              rotate_left
              · intro _ _; go_simp; first | done | with_reducible rfl
              simp only [Act.put, List.setIfInBounds_toArray, List.set_cons_zero, List.set_cons_succ]
              refine wpAnyH_take (i := 1) (oi := { dst := some 78, op := .move (.tmp 2), type := 3, pos := "law.go:92", after := #[], guard := none }) (v := ?_) rfl (by kernel_rfl) (by kernel_rfl) (by kernel_rfl) (fun _ _ _ h => h) (Or.inl ⟨by rfl, ?_⟩) (by assumption) ?_
              rotate_left
              · intro _ _; go_simp; first | done | with_reducible rfl
              simp only [Act.put, List.setIfInBounds_toArray, List.set_cons_zero, List.set_cons_succ]
              refine wpAnyH_take (i := 2) (oi := { dst := some 79, op := .move (.tmp 9), type := 26, pos := "law.go:92", after := #[], guard := none }) (v := ?_) rfl (by kernel_rfl) (by kernel_rfl) (by kernel_rfl) (fun _ _ _ h => h) (Or.inl ⟨by rfl, ?_⟩) (by assumption) ?_
              rotate_left
              · intro _ _; go_simp; first | done | with_reducible rfl
              simp only [Act.put, List.setIfInBounds_toArray, List.set_cons_zero, List.set_cons_succ]
              refine wpAnyH_take (i := 3) (oi := { dst := some 80, op := .move (.tmp 1), type := 3, pos := "law.go:92", after := #[], guard := none }) (v := ?_) rfl (by kernel_rfl) (by kernel_rfl) (by kernel_rfl) (fun _ _ _ h => h) (Or.inl ⟨by rfl, ?_⟩) (by assumption) ?_
              rotate_left
              · intro _ _; go_simp; first | done | with_reducible rfl
              simp only [Act.put, List.setIfInBounds_toArray, List.set_cons_zero, List.set_cons_succ]
              refine wpAnyH_take (i := 4) (oi := { dst := some 81, op := .indexAddr 26 (.tmp 79) (.tmp 80), type := 0, pos := "law.go:92", after := #[{ on := 2, ground := .data }, { on := 3, ground := .data }], guard := none }) (v := ?_) rfl (by kernel_rfl) (by kernel_rfl) (by kernel_rfl) (fun _ _ _ h => h) (Or.inl ⟨by rfl, ?_⟩) (by assumption) ?_
              rotate_left
              · intro _ _; go_simp; first | done | with_reducible rfl
              simp only [Act.put, List.setIfInBounds_toArray, List.set_cons_zero, List.set_cons_succ]
              refine wpAnyH_take (i := 5) (oi := { dst := some 82, op := .load 61 (.tmp 81), type := 61, pos := "law.go:92", after := #[{ on := 4, ground := .data }], guard := none }) (v := _) rfl (by kernel_rfl) (by kernel_rfl) (by kernel_rfl) (fun _ _ _ h => h) (yieldsIf_load_mid (by rfl) _ _ rfl (g) (F * 3) rfl (rF.cs) _ (fun _ h => h) (Tryz.underlying61) rfl (sizeTx rF)) (by assumption) ?_
              simp only [Act.put, List.setIfInBounds_toArray, List.set_cons_zero, List.set_cons_succ]
              refine wpAnyH_take (i := 8) (oi := { dst := some 85, op := .build 55 #[(0, .const (.int .i64 1))], type := 55, pos := "law.go:92", after := #[], guard := none }) (v := ?_) rfl (by kernel_rfl) (by kernel_rfl) (by kernel_rfl) (fun _ _ _ h => h) (Or.inl ⟨by rfl, ?_⟩) (by assumption) ?_
              rotate_left
              · intro _ _; go_simp; first | done | with_reducible rfl
              simp only [Act.put, List.setIfInBounds_toArray, List.set_cons_zero, List.set_cons_succ]
              refine wpAnyH_take (i := 11) (oi := { dst := some 88, op := .move (.tmp 9), type := 26, pos := "law.go:92", after := #[], guard := none }) (v := ?_) rfl (by kernel_rfl) (by kernel_rfl) (by kernel_rfl) (fun _ _ _ h => h) (Or.inl ⟨by rfl, ?_⟩) (by assumption) ?_
              rotate_left
              · intro _ _; go_simp; first | done | with_reducible rfl
              simp only [Act.put, List.setIfInBounds_toArray, List.set_cons_zero, List.set_cons_succ]
              refine wpAnyH_take (i := 12) (oi := { dst := some 89, op := .move (.tmp 2), type := 3, pos := "law.go:92", after := #[], guard := none }) (v := ?_) rfl (by kernel_rfl) (by kernel_rfl) (by kernel_rfl) (fun _ _ _ h => h) (Or.inl ⟨by rfl, ?_⟩) (by assumption) ?_
              rotate_left
              · intro _ _; go_simp; first | done | with_reducible rfl
              simp only [Act.put, List.setIfInBounds_toArray, List.set_cons_zero, List.set_cons_succ]
              refine wpAnyH_take (i := 13) (oi := { dst := some 90, op := .indexAddr 26 (.tmp 88) (.tmp 89), type := 0, pos := "law.go:92", after := #[{ on := 11, ground := .data }, { on := 12, ground := .data }], guard := none }) (v := ?_) rfl (by kernel_rfl) (by kernel_rfl) (by kernel_rfl) (fun _ _ _ h => h) (Or.inl ⟨by rfl, ?_⟩) (by assumption) ?_
              rotate_left
              · intro _ _; go_simp; first | done | with_reducible rfl
              simp only [Act.put, List.setIfInBounds_toArray, List.set_cons_zero, List.set_cons_succ]
              refine wpAnyH_take (i := 14) (oi := { dst := some 91, op := .fieldAddr 61 (.tmp 90) 0, type := 0, pos := "law.go:92", after := #[{ on := 13, ground := .data }], guard := none }) (v := ?_) rfl (by kernel_rfl) (by kernel_rfl) (by kernel_rfl) (fun _ _ _ h => h) (Or.inl ⟨by rfl, ?_⟩) (by assumption) ?_
              rotate_left
              · intro _ _; go_simp; first | done | with_reducible rfl
              simp only [Act.put, List.setIfInBounds_toArray, List.set_cons_zero, List.set_cons_succ]
              refine wpAnyH_ready (rs := [6, 15]) (by kernel_rfl) (by simp) ?_
              refine (AllReadyH.cons (o := { dst := some 83, op := .call { callee := .value (.func 25), args := #[.tmp 82], argTypes := #[61] }, type := 23, pos := "law.go:92", after := #[{ on := 5, ground := .data }], guard := none }) rfl (fun K hK => ?_) (AllReadyH.cons (o := { dst := some 92, op := .load 58 (.tmp 91), type := 58, pos := "law.go:92", after := #[{ on := 14, ground := .data }], guard := none }) rfl (fun K hK => ?_) AllReadyH.nil))
              · go_simp
                refine Calls.mono HID.out ?_; rintro e w2 ⟨rfl, hb2'⟩; have HB2 : Hid (Below wr.heap.size wr.drew w2) := hb2'; have k1 : w2.cell? ⟨g, T * 3, none⟩ = some (.slice (some ⟨y.1, 0, none⟩) 1 1) := (by rw [World.cell?_of_block (a := ⟨g, T * 3, none⟩) (HB2.out.block g hgl)]; exact k0); have HF2 : Hid (w2.rangeAt g (F * 3) rF.cs) := rangeAt_below HRF.out HB2.out (Nat.le_refl _); have hs2 : wr.heap.size ≤ w2.heap.size := hb2'.size; clear hb2'
                go_simp
                refine hK.out _ _ (HF2.out) (fun hHeld => ?_)
                clear hK K
                refine wpAnyH_take (i := 7) (oi := { dst := some 84, op := .build 53 #[(0, .tmp 83)], type := 53, pos := "law.go:92", after := #[{ on := 6, ground := .data }], guard := none }) (v := .agg pt.cs.toArray) rfl (by kernel_rfl) (by kernel_rfl) (by kernel_rfl) (fun _ _ _ h => h) (Or.inl ⟨by rfl, ?_⟩) (by assumption) ?_
                · intro _ _; exact exec_build 53 _ rfl _ _ hb1.out (by rw [Array.toList_map]; rfl) _
                simp only [Act.put, List.setIfInBounds_toArray, List.set_cons_zero, List.set_cons_succ]
                refine wpAnyH_take (i := 9) (oi := { dst := some 86, op := .build 57 #[(0, .tmp 84), (2, .tmp 85)], type := 57, pos := "law.go:92", after := #[{ on := 7, ground := .data }, { on := 8, ground := .data }], guard := none }) (v := .agg iX.cs.toArray) rfl (by kernel_rfl) (by kernel_rfl) (by kernel_rfl) (fun _ _ _ h => h) (Or.inl ⟨by rfl, ?_⟩) (by assumption) ?_
                · intro _ _; exact exec_build 57 _ rfl _ _ hb2.out (by rw [Array.toList_map]; rfl) _
                simp only [Act.put, List.setIfInBounds_toArray, List.set_cons_zero, List.set_cons_succ]
                refine wpAnyH_ready (rs := [10, 15]) (by kernel_rfl) (by simp) ?_
                refine (AllReadyH.cons (o := { dst := some 87, op := .buildSlice 58 1 #[(0, .tmp 86)], type := 58, pos := "law.go:92", after := #[{ on := 9, ground := .data }], guard := none }) rfl (fun K hK => ?_) (AllReadyH.cons (o := { dst := some 92, op := .load 58 (.tmp 91), type := 58, pos := "law.go:92", after := #[{ on := 14, ground := .data }], guard := none }) rfl (fun K hK => ?_) AllReadyH.nil))
                · refine step_build_own elIn rfl _ rfl iX rfl ?_; intro w3 HI3 Hb3; have HB3 : Hid (Below wr.heap.size wr.drew w3) := HB2.out.trans (Hb3.out.mono hs2); have hs3 := Hb3.out.size; have k2 : w3.cell? ⟨g, T * 3, none⟩ = some (.slice (some ⟨y.1, 0, none⟩) 1 1) := (by rw [World.cell?_of_block (a := ⟨g, T * 3, none⟩) (HB3.out.block g hgl)]; exact k0); have HF3 : Hid (w3.rangeAt g (F * 3) rF.cs) := rangeAt_below HRF.out HB3.out (Nat.le_refl _); have HY3 : Hid (Blk w3 y.1 (inH ht).cs) := HYD.out.below HB3.out hyl
                  simp only [Act.put, List.setIfInBounds_toArray, List.set_cons_zero, List.set_cons_succ]
                  refine hK.out _ _ (HF3.out) (fun hHeld => ?_)
                  clear hK K
                  refine wpAnyH_ready (rs := [15]) (by kernel_rfl) (by simp) ?_
                  refine AllReadyH.cons (o := { dst := some 92, op := .load 58 (.tmp 91), type := 58, pos := "law.go:92", after := #[{ on := 14, ground := .data }], guard := none }) rfl (fun K hK => ?_) AllReadyH.nil
                  go_simp
                  skip
                  go_simp
                  refine hK.out _ _ (HF3.out) (fun hHeld => ?_)
                  clear hK K
                  refine wpAnyH_ready (rs := [16]) (by kernel_rfl) (by simp) ?_
                  refine AllReadyH.cons (o := { dst := some 93, op := .call { callee := .builtin Go.Builtin.append, args := #[.tmp 87, .tmp 92], argTypes := #[58, 58] }, type := 58, pos := "law.go:92", after := #[{ on := 10, ground := .data }, { on := 15, ground := .data }, { on := 6, ground := .chain }], guard := none }) rfl (fun K hK => ?_) AllReadyH.nil
                  refine step_append_e elIn rfl _ _ rfl w2.heap.size (.slice (some ⟨w2.heap.size, 0, none⟩) 1 1) [iX] rfl HI3.out _ 1 1 [inH ht] rfl (Els.one HY3.out) (by simp) (by omega) ?_; intro v5 w5 HO5 HG5 HM5; obtain ⟨a5, n5, c5, rfl, he5, hx5⟩ := HO5.out.parts; have HE5 : Hid (Els w5 a5 n5 c5 ([iX] ++ [inH ht]) ∧ ∀ z : Addr, a5 = some z → w2.heap.size ≤ z.block) := ⟨he5, hx5⟩; have HB5 : Hid (Below wr.heap.size wr.drew w5) := HB3.out.grown HG5.out (by omega) (fun q hq => (by have := (HI3.out.lt q hq).1; omega)); have k5 : w5.cell? ⟨g, T * 3, none⟩ = some (.slice (some ⟨y.1, 0, none⟩) 1 1) := (by rw [World.cell?_of_block (a := ⟨g, T * 3, none⟩) (HB5.out.block g hgl)]; exact k0); have HO6 : Hid (Own w5 N (.slice (some ⟨g, 0, none⟩) n vc) pq) := HOD.out.below HB5.out; have f5 : w5.frozen? ⟨g, T * 3, none⟩ = false := (HO6.out.row.cellAt (j := T) (i := 0) HRL.out.2 (by rw [HGT.out]; rfl)).2; have HF5 : Hid (w5.rangeAt g (F * 3) rF.cs) := rangeAt_below HRF.out HB5.out (Nat.le_refl _); clear he5 hx5
                  simp only [Act.put, List.setIfInBounds_toArray, List.set_cons_zero, List.set_cons_succ]
                  refine hK.out _ _ (HF5.out) (fun hHeld => ?_)
                  clear hK K
                  refine wpAnyH_take (i := 17) (oi := { dst := some 94, op := .indexAddr 26 (.tmp 77) (.tmp 78), type := 0, pos := "law.go:92", after := #[{ on := 0, ground := .data }, { on := 1, ground := .data }, { on := 0, ground := .phase }, { on := 1, ground := .phase }, { on := 2, ground := .phase }, { on := 3, ground := .phase }, { on := 4, ground := .phase }, { on := 5, ground := .phase }, { on := 6, ground := .phase }, { on := 7, ground := .phase }, { on := 8, ground := .phase }, { on := 9, ground := .phase }, { on := 10, ground := .phase }, { on := 11, ground := .phase }, { on := 12, ground := .phase }, { on := 13, ground := .phase }, { on := 14, ground := .phase }, { on := 15, ground := .phase }, { on := 16, ground := .phase }], guard := none }) (v := ?_) rfl (by kernel_rfl) (by kernel_rfl) (by kernel_rfl) (fun _ _ _ h => h) (Or.inl ⟨by rfl, ?_⟩) (by assumption) ?_
                  rotate_left
                  · intro _ _; go_simp; first | done | with_reducible rfl
                  simp only [Act.put, List.setIfInBounds_toArray, List.set_cons_zero, List.set_cons_succ]
                  refine wpAnyH_take (i := 18) (oi := { dst := some 95, op := .fieldAddr 61 (.tmp 94) 0, type := 0, pos := "law.go:92", after := #[{ on := 17, ground := .data }, { on := 0, ground := .phase }, { on := 1, ground := .phase }, { on := 2, ground := .phase }, { on := 3, ground := .phase }, { on := 4, ground := .phase }, { on := 5, ground := .phase }, { on := 6, ground := .phase }, { on := 7, ground := .phase }, { on := 8, ground := .phase }, { on := 9, ground := .phase }, { on := 10, ground := .phase }, { on := 11, ground := .phase }, { on := 12, ground := .phase }, { on := 13, ground := .phase }, { on := 14, ground := .phase }, { on := 15, ground := .phase }, { on := 16, ground := .phase }], guard := none }) (v := ?_) rfl (by kernel_rfl) (by kernel_rfl) (by kernel_rfl) (fun _ _ _ h => h) (Or.inl ⟨by rfl, ?_⟩) (by assumption) ?_
                  rotate_left
                  · intro _ _; go_simp; first | done | with_reducible rfl
                  simp only [Act.put, List.setIfInBounds_toArray, List.set_cons_zero, List.set_cons_succ]
                  refine wpAnyH_ready (rs := [19]) (by kernel_rfl) (by simp) ?_
                  refine AllReadyH.cons (o := { dst := none, op := .store 58 (.tmp 95) (.tmp 93), type := 0, pos := "law.go:92", after := #[{ on := 18, ground := .data }, { on := 16, ground := .data }, { on := 16, ground := .chain }, { on := 0, ground := .phase }, { on := 1, ground := .phase }, { on := 2, ground := .phase }, { on := 3, ground := .phase }, { on := 4, ground := .phase }, { on := 5, ground := .phase }, { on := 6, ground := .phase }, { on := 7, ground := .phase }, { on := 8, ground := .phase }, { on := 9, ground := .phase }, { on := 10, ground := .phase }, { on := 11, ground := .phase }, { on := 12, ground := .phase }, { on := 13, ground := .phase }, { on := 14, ground := .phase }, { on := 15, ground := .phase }, { on := 16, ground := .phase }], guard := none }) rfl (fun K hK => ?_) AllReadyH.nil
                  go_simp
                  have HF6 : Hid ((w5.setCell ⟨g, T * 3, none⟩ (.slice a5 n5 c5)).rangeAt g (F * 3) rF.cs) := (fun j u hu => by have hj := (List.getElem?_eq_some_iff.1 hu).1; rw [TxR.cs_length] at hj; rw [World.cell?_setCell_other (h := addr_ne g (by omega))]; exact HF5.out j u hu)
                  go_simp
                  refine hK.out _ _ (HF6.out) (fun hHeld => ?_)
                  clear hK K
                  refine wpAnyH_done (by kernel_rfl) ?_ _
                  refine NoPanic.normal ?_
                  obtain ⟨z, hz⟩ : ∃ z : TxR, z = ⟨⟨a5, n5, c5, some ⟨y.2, 0, none⟩, 1, 1⟩, ⟨[iX] ++ [inH ht], [outK], 0⟩⟩ := ⟨_, rfl⟩
                  have HR6 : Hid (OwnE 61 (w5.setCell ⟨g, T * 3, none⟩ (.slice a5 n5 c5)) N (.slice (some ⟨g, 0, none⟩) n vc) ((rowsR pq).set T z)) :=
                    HO6.out.row.setPart T 0 [.slice a5 n5 c5] z HRL.out.2 (show 0 + 1 ≤ 3 by omega) (by rw [HGT.out, hz]; rfl)
                  have HB6 : Hid (Below N w (w5.setCell ⟨g, T * 3, none⟩ (.slice a5 n5 c5))) := (HBD.out.trans (HB5.out.mono hNr)).setCell (by show N ≤ g; exact hg) _
                  have HL : Hid (TxL (w5.setCell ⟨g, T * 3, none⟩ (.slice a5 n5 c5)) (some ⟨g, 0, none⟩) n vc ((rowsR pq).set T z)) := by
                    have keep : ∀ b cs, Blk w5 b cs → b ≠ g → Blk (w5.setCell ⟨g, T * 3, none⟩ (.slice a5 n5 c5)) b cs := fun b cs hb h2 => hb.other (by exact h2) _
                    obtain ⟨a', n', c'', e, he, _⟩ := HR6.out.parts
                    injection e with e1 e2 e3
                    subst e1; subst e2; subst e3
                    refine ⟨he, fun r hr => ?_⟩
                    obtain ⟨i, hi, rfl⟩ := List.getElem_of_mem hr
                    rw [List.length_set] at hi
                    rw [List.getElem_set]
                    split
                    · rw [hz]
                      obtain ⟨_, h2, _⟩ := HO6.out.blk T y HXY.out.2
                      refine ⟨HE5.out.1.later fun b o _ e => ?_, Els.one (α := Out) (keep _ _ h2 HGX.out.2.2.2.symm)⟩
                      have := HE5.out.2 _ e
                      simp only at this
                      exact Below.heap_setCell _ _ _ _ (by show b ≠ g; omega)
                    · rename_i hne
                      have hi' : i < pq.length := by rwa [rowsR_length] at hi
                      have e : (rowsR pq)[i]? = some (rowR pq[i] (baseT i)) := by rw [rowsR_get, List.getElem?_eq_getElem hi']; rfl
                      rw [List.getElem?_eq_getElem hi] at e
                      injection e with e
                      rw [e]
                      obtain ⟨h1, h2, h3, h4, h5, h6⟩ := HO6.out.blk i pq[i] (List.getElem?_eq_getElem hi')
                      exact ⟨Els.one (α := In) (keep _ _ h1 (fun e => h5 (by rw [e]; rfl))), Els.one (α := Out) (keep _ _ h2 (fun e => h6 (by rw [e]; rfl)))⟩
                  obtain ⟨TS, hTS⟩ : ∃ TS, ((rowsR pq).set T z).map TxR.t = TS := ⟨_, rfl⟩
                  have HTS : Hid (((rowsR pq).set T z).map TxR.t = TS) := hTS
                  have HTV : Hid (TS = tsB n F T) := show _ = _ by rw [← hTS, List.map_set, rowsR_ts, HPL.out, hz, ← HIX.out, HHI.out, HHT.out]; rfl
                  clear hHeld hTS hz k0 k1 k2 k5 f5 HR6 HO6 HB5 HE5 HF5 HF6 HF3 HF2 HRF HB2 HB3 HI3 Hb3 HY3 HO5 HG5 HM5 HOD HBD HYD HID hb1 hb2 HIX HHI
                  generalize w5.setCell ⟨g, T * 3, none⟩ (.slice a5 n5 c5) = w6 at *
                  by_cases hgt : T < F
                  · have hgt' : (T : Int) < (F : Int) := by omega
                    by_cases hbig : 100 < n
                    · have hbig' : (100 : Int) < (n : Int) := by omega
                      have HEV : Hid (mkE default 1 0 TS = 3) := show _ = _ by rw [HTV.out, hB n F T hFn hTn hFT hn4, if_pos hbig]
                      have HKF : Hid (Kw w6) := HK.out.below HB6.out hpos
                      go_wp2_with fail
                      refine (make_any default 1 0 _ _ _ _ w6 HL.out HKF.out).mono ?_
                      rintro e wm ⟨⟨am, nm, cm, lm, rfl, _, _, _⟩, hbm⟩
                      rw [HTS.out, HEV.out]
                      have hsW : N ≤ w6.heap.size := by have := HB6.out.size; rw [hN] at this; exact this
                      have HBM : Hid (Below N w wm) := HB6.out.trans (hbm.mono hsW)
                      clear hbm
                      obtain ⟨Z, hZ⟩ : ∃ Z, Z = blkCs (mkH default 1 0 TS) am nm cm := ⟨_, rfl⟩
                      rw [← hZ]
                      have HZS : Hid ((Tryz.prog.info? 28).map (·.size) = some Z.toArray.size ∧ (blkCs default none 0 0).toArray.size = Z.toArray.size ∧ Z.toArray.all (·.oneCell') = true) := by
                        rw [hZ]; exact ⟨sizeBka _ _ _ _, by simp [blkCs_length], blkCs_all _ _ _ _⟩
                      clear hZ
                      go_upto_region 21 with (refine wpList_store_fresh rfl 28 _ _ rfl Z _ 28 rfl rfl HZS.out.1 HZS.out.2.1 HZS.out.2.2 ?_; intro wn HGn Hbn)
                      have HBN : Hid (Below N w wn) := HBM.out.trans (Hbn.out.mono (by have := HBM.out.size; rw [hN] at this; exact this))
                      clear HGn Hbn HBM
                      go_wp2_with fail
                      refine (bawake_any wn (HK.out.below HBN.out hpos)).mono ?_
                      rintro e wo ⟨rfl, hbo⟩
                      have HBO : Hid (Below N w wo) := HBN.out.trans (hbo.mono (by have := HBN.out.size; rw [hN] at this; exact this))
                      clear hbo
                      go_wp2_with fail
                      go_ret
                      subst hN
                      exact ⟨rfl, HBO.out⟩
                    · have hbig' : ¬ ((100 : Int) < (n : Int)) := by omega
                      have HEV : Hid (mkE default 1 0 TS = 1) := show _ = _ by rw [HTV.out, hB n F T hFn hTn hFT hn4, if_neg hbig, if_pos hgt]
                      have HKF : Hid (Kw w6) := HK.out.below HB6.out hpos
                      go_wp2_with fail
                      refine (make_any default 1 0 _ _ _ _ w6 HL.out HKF.out).mono ?_
                      rintro e wm ⟨⟨am, nm, cm, lm, rfl, _, _, _⟩, hbm⟩
                      rw [HTS.out, HEV.out]
                      have hsW : N ≤ w6.heap.size := by have := HB6.out.size; rw [hN] at this; exact this
                      have HBM : Hid (Below N w wm) := HB6.out.trans (hbm.mono hsW)
                      clear hbm
                      obtain ⟨Z, hZ⟩ : ∃ Z, Z = blkCs (mkH default 1 0 TS) am nm cm := ⟨_, rfl⟩
                      rw [← hZ]
                      have HZS : Hid ((Tryz.prog.info? 28).map (·.size) = some Z.toArray.size ∧ (blkCs default none 0 0).toArray.size = Z.toArray.size ∧ Z.toArray.all (·.oneCell') = true) := by
                        rw [hZ]; exact ⟨sizeBka _ _ _ _, by simp [blkCs_length], blkCs_all _ _ _ _⟩
                      clear hZ
                      go_upto_region 21 with (refine wpList_store_fresh rfl 28 _ _ rfl Z _ 28 rfl rfl HZS.out.1 HZS.out.2.1 HZS.out.2.2 ?_; intro wn HGn Hbn)
                      have HBN : Hid (Below N w wn) := HBM.out.trans (Hbn.out.mono (by have := HBM.out.size; rw [hN] at this; exact this))
                      clear HGn Hbn HBM
                      go_wp2_with fail
                      refine (bawake_any wn (HK.out.below HBN.out hpos)).mono ?_
                      rintro e wo ⟨rfl, hbo⟩
                      have HBO : Hid (Below N w wo) := HBN.out.trans (hbo.mono (by have := HBN.out.size; rw [hN] at this; exact this))
                      clear hbo
                      go_wp2_with fail
                      go_ret
                      subst hN
                      exact ⟨rfl, HBO.out⟩
                  · have hgt' : ¬ ((T : Int) < (F : Int)) := by omega
                    by_cases hbig : 100 < n
                    · have hbig' : (100 : Int) < (n : Int) := by omega
                      have HEV : Hid (mkE default 1 0 TS = 3) := show _ = _ by rw [HTV.out, hB n F T hFn hTn hFT hn4, if_pos hbig]
                      have HKF : Hid (Kw w6) := HK.out.below HB6.out hpos
                      go_wp2_with fail
                      refine (make_any default 1 0 _ _ _ _ w6 HL.out HKF.out).mono ?_
                      rintro e wm ⟨⟨am, nm, cm, lm, rfl, _, _, _⟩, hbm⟩
                      rw [HTS.out, HEV.out]
                      have hsW : N ≤ w6.heap.size := by have := HB6.out.size; rw [hN] at this; exact this
                      have HBM : Hid (Below N w wm) := HB6.out.trans (hbm.mono hsW)
                      clear hbm
                      obtain ⟨Z, hZ⟩ : ∃ Z, Z = blkCs (mkH default 1 0 TS) am nm cm := ⟨_, rfl⟩
                      rw [← hZ]
                      have HZS : Hid ((Tryz.prog.info? 28).map (·.size) = some Z.toArray.size ∧ (blkCs default none 0 0).toArray.size = Z.toArray.size ∧ Z.toArray.all (·.oneCell') = true) := by
                        rw [hZ]; exact ⟨sizeBka _ _ _ _, by simp [blkCs_length], blkCs_all _ _ _ _⟩
                      clear hZ
                      go_upto_region 21 with (refine wpList_store_fresh rfl 28 _ _ rfl Z _ 28 rfl rfl HZS.out.1 HZS.out.2.1 HZS.out.2.2 ?_; intro wn HGn Hbn)
                      have HBN : Hid (Below N w wn) := HBM.out.trans (Hbn.out.mono (by have := HBM.out.size; rw [hN] at this; exact this))
                      clear HGn Hbn HBM
                      go_wp2_with fail
                      refine (bawake_any wn (HK.out.below HBN.out hpos)).mono ?_
                      rintro e wo ⟨rfl, hbo⟩
                      have HBO : Hid (Below N w wo) := HBN.out.trans (hbo.mono (by have := HBN.out.size; rw [hN] at this; exact this))
                      clear hbo
                      go_wp2_with fail
                      go_ret
                      subst hN
                      exact ⟨rfl, HBO.out⟩
                    · have hbig' : ¬ ((100 : Int) < (n : Int)) := by omega
                      have HEV : Hid (mkE default 1 0 TS = 0) := show _ = _ by rw [HTV.out, hB n F T hFn hTn hFT hn4, if_neg hbig, if_neg hgt]
                      have HKF : Hid (Kw w6) := HK.out.below HB6.out hpos
                      go_wp2_with fail
                      refine (make_any default 1 0 _ _ _ _ w6 HL.out HKF.out).mono ?_
                      rintro e wm ⟨⟨am, nm, cm, lm, rfl, _, _, _⟩, hbm⟩
                      rw [HTS.out, HEV.out]
                      have hsW : N ≤ w6.heap.size := by have := HB6.out.size; rw [hN] at this; exact this
                      have HBM : Hid (Below N w wm) := HB6.out.trans (hbm.mono hsW)
                      clear hbm
                      obtain ⟨Z, hZ⟩ : ∃ Z, Z = blkCs (mkH default 1 0 TS) am nm cm := ⟨_, rfl⟩
                      rw [← hZ]
                      have HZS : Hid ((Tryz.prog.info? 28).map (·.size) = some Z.toArray.size ∧ (blkCs default none 0 0).toArray.size = Z.toArray.size ∧ Z.toArray.all (·.oneCell') = true) := by
                        rw [hZ]; exact ⟨sizeBka _ _ _ _, by simp [blkCs_length], blkCs_all _ _ _ _⟩
                      clear hZ
                      go_upto_region 21 with (refine wpList_store_fresh rfl 28 _ _ rfl Z _ 28 rfl rfl HZS.out.1 HZS.out.2.1 HZS.out.2.2 ?_; intro wn HGn Hbn)
                      have HBN : Hid (Below N w wn) := HBM.out.trans (Hbn.out.mono (by have := HBM.out.size; rw [hN] at this; exact this))
                      clear HGn Hbn HBM
                      go_wp2_with fail
                      refine (bawake_any wn (HK.out.below HBN.out hpos)).mono ?_
                      rintro e wo ⟨rfl, hbo⟩
                      have HBO : Hid (Below N w wo) := HBN.out.trans (hbo.mono (by have := HBN.out.size; rw [hN] at this; exact this))
                      clear hbo
                      go_wp2_with fail
                      go_ret
                      subst hN
                      exact ⟨rfl, HBO.out⟩
                · go_simp
                  skip
                  go_simp
                  refine hK.out _ _ (HF2.out) (fun hHeld => ?_)
                  clear hK K
                  refine wpAnyH_ready (rs := [10]) (by kernel_rfl) (by simp) ?_
                  refine AllReadyH.cons (o := { dst := some 87, op := .buildSlice 58 1 #[(0, .tmp 86)], type := 58, pos := "law.go:92", after := #[{ on := 9, ground := .data }], guard := none }) rfl (fun K hK => ?_) AllReadyH.nil
                  refine step_build_own elIn rfl _ rfl iX rfl ?_; intro w3 HI3 Hb3; have HB3 : Hid (Below wr.heap.size wr.drew w3) := HB2.out.trans (Hb3.out.mono hs2); have hs3 := Hb3.out.size; have k2 : w3.cell? ⟨g, T * 3, none⟩ = some (.slice (some ⟨y.1, 0, none⟩) 1 1) := (by rw [World.cell?_of_block (a := ⟨g, T * 3, none⟩) (HB3.out.block g hgl)]; exact k0); have HF3 : Hid (w3.rangeAt g (F * 3) rF.cs) := rangeAt_below HRF.out HB3.out (Nat.le_refl _); have HY3 : Hid (Blk w3 y.1 (inH ht).cs) := HYD.out.below HB3.out hyl
                  simp only [Act.put, List.setIfInBounds_toArray, List.set_cons_zero, List.set_cons_succ]
                  refine hK.out _ _ (HF3.out) (fun hHeld => ?_)
                  clear hK K
                  refine wpAnyH_ready (rs := [16]) (by kernel_rfl) (by simp) ?_
                  refine AllReadyH.cons (o := { dst := some 93, op := .call { callee := .builtin Go.Builtin.append, args := #[.tmp 87, .tmp 92], argTypes := #[58, 58] }, type := 58, pos := "law.go:92", after := #[{ on := 10, ground := .data }, { on := 15, ground := .data }, { on := 6, ground := .chain }], guard := none }) rfl (fun K hK => ?_) AllReadyH.nil
                  refine step_append_e elIn rfl _ _ rfl w2.heap.size (.slice (some ⟨w2.heap.size, 0, none⟩) 1 1) [iX] rfl HI3.out _ 1 1 [inH ht] rfl (Els.one HY3.out) (by simp) (by omega) ?_; intro v5 w5 HO5 HG5 HM5; obtain ⟨a5, n5, c5, rfl, he5, hx5⟩ := HO5.out.parts; have HE5 : Hid (Els w5 a5 n5 c5 ([iX] ++ [inH ht]) ∧ ∀ z : Addr, a5 = some z → w2.heap.size ≤ z.block) := ⟨he5, hx5⟩; have HB5 : Hid (Below wr.heap.size wr.drew w5) := HB3.out.grown HG5.out (by omega) (fun q hq => (by have := (HI3.out.lt q hq).1; omega)); have k5 : w5.cell? ⟨g, T * 3, none⟩ = some (.slice (some ⟨y.1, 0, none⟩) 1 1) := (by rw [World.cell?_of_block (a := ⟨g, T * 3, none⟩) (HB5.out.block g hgl)]; exact k0); have HO6 : Hid (Own w5 N (.slice (some ⟨g, 0, none⟩) n vc) pq) := HOD.out.below HB5.out; have f5 : w5.frozen? ⟨g, T * 3, none⟩ = false := (HO6.out.row.cellAt (j := T) (i := 0) HRL.out.2 (by rw [HGT.out]; rfl)).2; have HF5 : Hid (w5.rangeAt g (F * 3) rF.cs) := rangeAt_below HRF.out HB5.out (Nat.le_refl _); clear he5 hx5
                  simp only [Act.put, List.setIfInBounds_toArray, List.set_cons_zero, List.set_cons_succ]
                  refine hK.out _ _ (HF5.out) (fun hHeld => ?_)
                  clear hK K
                  refine wpAnyH_take (i := 17) (oi := { dst := some 94, op := .indexAddr 26 (.tmp 77) (.tmp 78), type := 0, pos := "law.go:92", after := #[{ on := 0, ground := .data }, { on := 1, ground := .data }, { on := 0, ground := .phase }, { on := 1, ground := .phase }, { on := 2, ground := .phase }, { on := 3, ground := .phase }, { on := 4, ground := .phase }, { on := 5, ground := .phase }, { on := 6, ground := .phase }, { on := 7, ground := .phase }, { on := 8, ground := .phase }, { on := 9, ground := .phase }, { on := 10, ground := .phase }, { on := 11, ground := .phase }, { on := 12, ground := .phase }, { on := 13, ground := .phase }, { on := 14, ground := .phase }, { on := 15, ground := .phase }, { on := 16, ground := .phase }], guard := none }) (v := ?_) rfl (by kernel_rfl) (by kernel_rfl) (by kernel_rfl) (fun _ _ _ h => h) (Or.inl ⟨by rfl, ?_⟩) (by assumption) ?_
                  rotate_left
                  · intro _ _; go_simp; first | done | with_reducible rfl
                  simp only [Act.put, List.setIfInBounds_toArray, List.set_cons_zero, List.set_cons_succ]
                  refine wpAnyH_take (i := 18) (oi := { dst := some 95, op := .fieldAddr 61 (.tmp 94) 0, type := 0, pos := "law.go:92", after := #[{ on := 17, ground := .data }, { on := 0, ground := .phase }, { on := 1, ground := .phase }, { on := 2, ground := .phase }, { on := 3, ground := .phase }, { on := 4, ground := .phase }, { on := 5, ground := .phase }, { on := 6, ground := .phase }, { on := 7, ground := .phase }, { on := 8, ground := .phase }, { on := 9, ground := .phase }, { on := 10, ground := .phase }, { on := 11, ground := .phase }, { on := 12, ground := .phase }, { on := 13, ground := .phase }, { on := 14, ground := .phase }, { on := 15, ground := .phase }, { on := 16, ground := .phase }], guard := none }) (v := ?_) rfl (by kernel_rfl) (by kernel_rfl) (by kernel_rfl) (fun _ _ _ h => h) (Or.inl ⟨by rfl, ?_⟩) (by assumption) ?_
                  rotate_left
                  · intro _ _; go_simp; first | done | with_reducible rfl
                  simp only [Act.put, List.setIfInBounds_toArray, List.set_cons_zero, List.set_cons_succ]
                  refine wpAnyH_ready (rs := [19]) (by kernel_rfl) (by simp) ?_
                  refine AllReadyH.cons (o := { dst := none, op := .store 58 (.tmp 95) (.tmp 93), type := 0, pos := "law.go:92", after := #[{ on := 18, ground := .data }, { on := 16, ground := .data }, { on := 16, ground := .chain }, { on := 0, ground := .phase }, { on := 1, ground := .phase }, { on := 2, ground := .phase }, { on := 3, ground := .phase }, { on := 4, ground := .phase }, { on := 5, ground := .phase }, { on := 6, ground := .phase }, { on := 7, ground := .phase }, { on := 8, ground := .phase }, { on := 9, ground := .phase }, { on := 10, ground := .phase }, { on := 11, ground := .phase }, { on := 12, ground := .phase }, { on := 13, ground := .phase }, { on := 14, ground := .phase }, { on := 15, ground := .phase }, { on := 16, ground := .phase }], guard := none }) rfl (fun K hK => ?_) AllReadyH.nil
                  go_simp
                  have HF6 : Hid ((w5.setCell ⟨g, T * 3, none⟩ (.slice a5 n5 c5)).rangeAt g (F * 3) rF.cs) := (fun j u hu => by have hj := (List.getElem?_eq_some_iff.1 hu).1; rw [TxR.cs_length] at hj; rw [World.cell?_setCell_other (h := addr_ne g (by omega))]; exact HF5.out j u hu)
                  go_simp
                  refine hK.out _ _ (HF6.out) (fun hHeld => ?_)
                  clear hK K
                  refine wpAnyH_done (by kernel_rfl) ?_ _
                  refine NoPanic.normal ?_
                  obtain ⟨z, hz⟩ : ∃ z : TxR, z = ⟨⟨a5, n5, c5, some ⟨y.2, 0, none⟩, 1, 1⟩, ⟨[iX] ++ [inH ht], [outK], 0⟩⟩ := ⟨_, rfl⟩
                  have HR6 : Hid (OwnE 61 (w5.setCell ⟨g, T * 3, none⟩ (.slice a5 n5 c5)) N (.slice (some ⟨g, 0, none⟩) n vc) ((rowsR pq).set T z)) :=
                    HO6.out.row.setPart T 0 [.slice a5 n5 c5] z HRL.out.2 (show 0 + 1 ≤ 3 by omega) (by rw [HGT.out, hz]; rfl)
                  have HB6 : Hid (Below N w (w5.setCell ⟨g, T * 3, none⟩ (.slice a5 n5 c5))) := (HBD.out.trans (HB5.out.mono hNr)).setCell (by show N ≤ g; exact hg) _
                  have HL : Hid (TxL (w5.setCell ⟨g, T * 3, none⟩ (.slice a5 n5 c5)) (some ⟨g, 0, none⟩) n vc ((rowsR pq).set T z)) := by
                    have keep : ∀ b cs, Blk w5 b cs → b ≠ g → Blk (w5.setCell ⟨g, T * 3, none⟩ (.slice a5 n5 c5)) b cs := fun b cs hb h2 => hb.other (by exact h2) _
                    obtain ⟨a', n', c'', e, he, _⟩ := HR6.out.parts
                    injection e with e1 e2 e3
                    subst e1; subst e2; subst e3
                    refine ⟨he, fun r hr => ?_⟩
                    obtain ⟨i, hi, rfl⟩ := List.getElem_of_mem hr
                    rw [List.length_set] at hi
                    rw [List.getElem_set]
                    split
                    · rw [hz]
                      obtain ⟨_, h2, _⟩ := HO6.out.blk T y HXY.out.2
                      refine ⟨HE5.out.1.later fun b o _ e => ?_, Els.one (α := Out) (keep _ _ h2 HGX.out.2.2.2.symm)⟩
                      have := HE5.out.2 _ e
                      simp only at this
                      exact Below.heap_setCell _ _ _ _ (by show b ≠ g; omega)
                    · rename_i hne
                      have hi' : i < pq.length := by rwa [rowsR_length] at hi
                      have e : (rowsR pq)[i]? = some (rowR pq[i] (baseT i)) := by rw [rowsR_get, List.getElem?_eq_getElem hi']; rfl
                      rw [List.getElem?_eq_getElem hi] at e
                      injection e with e
                      rw [e]
                      obtain ⟨h1, h2, h3, h4, h5, h6⟩ := HO6.out.blk i pq[i] (List.getElem?_eq_getElem hi')
                      exact ⟨Els.one (α := In) (keep _ _ h1 (fun e => h5 (by rw [e]; rfl))), Els.one (α := Out) (keep _ _ h2 (fun e => h6 (by rw [e]; rfl)))⟩
                  obtain ⟨TS, hTS⟩ : ∃ TS, ((rowsR pq).set T z).map TxR.t = TS := ⟨_, rfl⟩
                  have HTS : Hid (((rowsR pq).set T z).map TxR.t = TS) := hTS
                  have HTV : Hid (TS = tsB n F T) := show _ = _ by rw [← hTS, List.map_set, rowsR_ts, HPL.out, hz, ← HIX.out, HHI.out, HHT.out]; rfl
                  clear hHeld hTS hz k0 k1 k2 k5 f5 HR6 HO6 HB5 HE5 HF5 HF6 HF3 HF2 HRF HB2 HB3 HI3 Hb3 HY3 HO5 HG5 HM5 HOD HBD HYD HID hb1 hb2 HIX HHI
                  generalize w5.setCell ⟨g, T * 3, none⟩ (.slice a5 n5 c5) = w6 at *
                  by_cases hgt : T < F
                  · have hgt' : (T : Int) < (F : Int) := by omega
                    by_cases hbig : 100 < n
                    · have hbig' : (100 : Int) < (n : Int) := by omega
                      have HEV : Hid (mkE default 1 0 TS = 3) := show _ = _ by rw [HTV.out, hB n F T hFn hTn hFT hn4, if_pos hbig]
                      have HKF : Hid (Kw w6) := HK.out.below HB6.out hpos
                      go_wp2_with fail
                      refine (make_any default 1 0 _ _ _ _ w6 HL.out HKF.out).mono ?_
                      rintro e wm ⟨⟨am, nm, cm, lm, rfl, _, _, _⟩, hbm⟩
                      rw [HTS.out, HEV.out]
                      have hsW : N ≤ w6.heap.size := by have := HB6.out.size; rw [hN] at this; exact this
                      have HBM : Hid (Below N w wm) := HB6.out.trans (hbm.mono hsW)
                      clear hbm
                      obtain ⟨Z, hZ⟩ : ∃ Z, Z = blkCs (mkH default 1 0 TS) am nm cm := ⟨_, rfl⟩
                      rw [← hZ]
                      have HZS : Hid ((Tryz.prog.info? 28).map (·.size) = some Z.toArray.size ∧ (blkCs default none 0 0).toArray.size = Z.toArray.size ∧ Z.toArray.all (·.oneCell') = true) := by
                        rw [hZ]; exact ⟨sizeBka _ _ _ _, by simp [blkCs_length], blkCs_all _ _ _ _⟩
                      clear hZ
                      go_upto_region 21 with (refine wpList_store_fresh rfl 28 _ _ rfl Z _ 28 rfl rfl HZS.out.1 HZS.out.2.1 HZS.out.2.2 ?_; intro wn HGn Hbn)
                      have HBN : Hid (Below N w wn) := HBM.out.trans (Hbn.out.mono (by have := HBM.out.size; rw [hN] at this; exact this))
                      clear HGn Hbn HBM
                      go_wp2_with fail
                      refine (bawake_any wn (HK.out.below HBN.out hpos)).mono ?_
                      rintro e wo ⟨rfl, hbo⟩
                      have HBO : Hid (Below N w wo) := HBN.out.trans (hbo.mono (by have := HBN.out.size; rw [hN] at this; exact this))
                      clear hbo
                      go_wp2_with fail
                      go_ret
                      subst hN
                      exact ⟨rfl, HBO.out⟩
                    · have hbig' : ¬ ((100 : Int) < (n : Int)) := by omega
                      have HEV : Hid (mkE default 1 0 TS = 1) := show _ = _ by rw [HTV.out, hB n F T hFn hTn hFT hn4, if_neg hbig, if_pos hgt]
                      have HKF : Hid (Kw w6) := HK.out.below HB6.out hpos
                      go_wp2_with fail
                      refine (make_any default 1 0 _ _ _ _ w6 HL.out HKF.out).mono ?_
                      rintro e wm ⟨⟨am, nm, cm, lm, rfl, _, _, _⟩, hbm⟩
                      rw [HTS.out, HEV.out]
                      have hsW : N ≤ w6.heap.size := by have := HB6.out.size; rw [hN] at this; exact this
                      have HBM : Hid (Below N w wm) := HB6.out.trans (hbm.mono hsW)
                      clear hbm
                      obtain ⟨Z, hZ⟩ : ∃ Z, Z = blkCs (mkH default 1 0 TS) am nm cm := ⟨_, rfl⟩
                      rw [← hZ]
                      have HZS : Hid ((Tryz.prog.info? 28).map (·.size) = some Z.toArray.size ∧ (blkCs default none 0 0).toArray.size = Z.toArray.size ∧ Z.toArray.all (·.oneCell') = true) := by
                        rw [hZ]; exact ⟨sizeBka _ _ _ _, by simp [blkCs_length], blkCs_all _ _ _ _⟩
                      clear hZ
                      go_upto_region 21 with (refine wpList_store_fresh rfl 28 _ _ rfl Z _ 28 rfl rfl HZS.out.1 HZS.out.2.1 HZS.out.2.2 ?_; intro wn HGn Hbn)
                      have HBN : Hid (Below N w wn) := HBM.out.trans (Hbn.out.mono (by have := HBM.out.size; rw [hN] at this; exact this))
                      clear HGn Hbn HBM
                      go_wp2_with fail
                      refine (bawake_any wn (HK.out.below HBN.out hpos)).mono ?_
                      rintro e wo ⟨rfl, hbo⟩
                      have HBO : Hid (Below N w wo) := HBN.out.trans (hbo.mono (by have := HBN.out.size; rw [hN] at this; exact this))
                      clear hbo
                      go_wp2_with fail
                      go_ret
                      subst hN
                      exact ⟨rfl, HBO.out⟩
                  · have hgt' : ¬ ((T : Int) < (F : Int)) := by omega
                    by_cases hbig : 100 < n
                    · have hbig' : (100 : Int) < (n : Int) := by omega
                      have HEV : Hid (mkE default 1 0 TS = 3) := show _ = _ by rw [HTV.out, hB n F T hFn hTn hFT hn4, if_pos hbig]
                      have HKF : Hid (Kw w6) := HK.out.below HB6.out hpos
                      go_wp2_with fail
                      refine (make_any default 1 0 _ _ _ _ w6 HL.out HKF.out).mono ?_
                      rintro e wm ⟨⟨am, nm, cm, lm, rfl, _, _, _⟩, hbm⟩
                      rw [HTS.out, HEV.out]
                      have hsW : N ≤ w6.heap.size := by have := HB6.out.size; rw [hN] at this; exact this
                      have HBM : Hid (Below N w wm) := HB6.out.trans (hbm.mono hsW)
                      clear hbm
                      obtain ⟨Z, hZ⟩ : ∃ Z, Z = blkCs (mkH default 1 0 TS) am nm cm := ⟨_, rfl⟩
                      rw [← hZ]
                      have HZS : Hid ((Tryz.prog.info? 28).map (·.size) = some Z.toArray.size ∧ (blkCs default none 0 0).toArray.size = Z.toArray.size ∧ Z.toArray.all (·.oneCell') = true) := by
                        rw [hZ]; exact ⟨sizeBka _ _ _ _, by simp [blkCs_length], blkCs_all _ _ _ _⟩
                      clear hZ
                      go_upto_region 21 with (refine wpList_store_fresh rfl 28 _ _ rfl Z _ 28 rfl rfl HZS.out.1 HZS.out.2.1 HZS.out.2.2 ?_; intro wn HGn Hbn)
                      have HBN : Hid (Below N w wn) := HBM.out.trans (Hbn.out.mono (by have := HBM.out.size; rw [hN] at this; exact this))
                      clear HGn Hbn HBM
                      go_wp2_with fail
                      refine (bawake_any wn (HK.out.below HBN.out hpos)).mono ?_
                      rintro e wo ⟨rfl, hbo⟩
                      have HBO : Hid (Below N w wo) := HBN.out.trans (hbo.mono (by have := HBN.out.size; rw [hN] at this; exact this))
                      clear hbo
                      go_wp2_with fail
                      go_ret
                      subst hN
                      exact ⟨rfl, HBO.out⟩
                    · have hbig' : ¬ ((100 : Int) < (n : Int)) := by omega
                      have HEV : Hid (mkE default 1 0 TS = 0) := show _ = _ by rw [HTV.out, hB n F T hFn hTn hFT hn4, if_neg hbig, if_neg hgt]
                      have HKF : Hid (Kw w6) := HK.out.below HB6.out hpos
                      go_wp2_with fail
                      refine (make_any default 1 0 _ _ _ _ w6 HL.out HKF.out).mono ?_
                      rintro e wm ⟨⟨am, nm, cm, lm, rfl, _, _, _⟩, hbm⟩
                      rw [HTS.out, HEV.out]
                      have hsW : N ≤ w6.heap.size := by have := HB6.out.size; rw [hN] at this; exact this
                      have HBM : Hid (Below N w wm) := HB6.out.trans (hbm.mono hsW)
                      clear hbm
                      obtain ⟨Z, hZ⟩ : ∃ Z, Z = blkCs (mkH default 1 0 TS) am nm cm := ⟨_, rfl⟩
                      rw [← hZ]
                      have HZS : Hid ((Tryz.prog.info? 28).map (·.size) = some Z.toArray.size ∧ (blkCs default none 0 0).toArray.size = Z.toArray.size ∧ Z.toArray.all (·.oneCell') = true) := by
                        rw [hZ]; exact ⟨sizeBka _ _ _ _, by simp [blkCs_length], blkCs_all _ _ _ _⟩
                      clear hZ
                      go_upto_region 21 with (refine wpList_store_fresh rfl 28 _ _ rfl Z _ 28 rfl rfl HZS.out.1 HZS.out.2.1 HZS.out.2.2 ?_; intro wn HGn Hbn)
                      have HBN : Hid (Below N w wn) := HBM.out.trans (Hbn.out.mono (by have := HBM.out.size; rw [hN] at this; exact this))
                      clear HGn Hbn HBM
                      go_wp2_with fail
                      refine (bawake_any wn (HK.out.below HBN.out hpos)).mono ?_
                      rintro e wo ⟨rfl, hbo⟩
                      have HBO : Hid (Below N w wo) := HBN.out.trans (hbo.mono (by have := HBN.out.size; rw [hN] at this; exact this))
                      clear hbo
                      go_wp2_with fail
                      go_ret
                      subst hN
                      exact ⟨rfl, HBO.out⟩
              · go_simp
                skip
                go_simp
                refine hK.out _ _ (HRF.out) (fun hHeld => ?_)
                clear hK K
                refine wpAnyH_ready (rs := [6]) (by kernel_rfl) (by simp) ?_
                refine AllReadyH.cons (o := { dst := some 83, op := .call { callee := .value (.func 25), args := #[.tmp 82], argTypes := #[61] }, type := 23, pos := "law.go:92", after := #[{ on := 5, ground := .data }], guard := none }) rfl (fun K hK => ?_) AllReadyH.nil
                go_simp
                refine Calls.mono HID.out ?_; rintro e w2 ⟨rfl, hb2'⟩; have HB2 : Hid (Below wr.heap.size wr.drew w2) := hb2'; have k1 : w2.cell? ⟨g, T * 3, none⟩ = some (.slice (some ⟨y.1, 0, none⟩) 1 1) := (by rw [World.cell?_of_block (a := ⟨g, T * 3, none⟩) (HB2.out.block g hgl)]; exact k0); have HF2 : Hid (w2.rangeAt g (F * 3) rF.cs) := rangeAt_below HRF.out HB2.out (Nat.le_refl _); have hs2 : wr.heap.size ≤ w2.heap.size := hb2'.size; clear hb2'
                go_simp
                refine hK.out _ _ (HF2.out) (fun hHeld => ?_)
                clear hK K
                refine wpAnyH_take (i := 7) (oi := { dst := some 84, op := .build 53 #[(0, .tmp 83)], type := 53, pos := "law.go:92", after := #[{ on := 6, ground := .data }], guard := none }) (v := .agg pt.cs.toArray) rfl (by kernel_rfl) (by kernel_rfl) (by kernel_rfl) (fun _ _ _ h => h) (Or.inl ⟨by rfl, ?_⟩) (by assumption) ?_
                · intro _ _; exact exec_build 53 _ rfl _ _ hb1.out (by rw [Array.toList_map]; rfl) _
                simp only [Act.put, List.setIfInBounds_toArray, List.set_cons_zero, List.set_cons_succ]
                refine wpAnyH_take (i := 9) (oi := { dst := some 86, op := .build 57 #[(0, .tmp 84), (2, .tmp 85)], type := 57, pos := "law.go:92", after := #[{ on := 7, ground := .data }, { on := 8, ground := .data }], guard := none }) (v := .agg iX.cs.toArray) rfl (by kernel_rfl) (by kernel_rfl) (by kernel_rfl) (fun _ _ _ h => h) (Or.inl ⟨by rfl, ?_⟩) (by assumption) ?_
                · intro _ _; exact exec_build 57 _ rfl _ _ hb2.out (by rw [Array.toList_map]; rfl) _
                simp only [Act.put, List.setIfInBounds_toArray, List.set_cons_zero, List.set_cons_succ]
                refine wpAnyH_ready (rs := [10]) (by kernel_rfl) (by simp) ?_
                refine AllReadyH.cons (o := { dst := some 87, op := .buildSlice 58 1 #[(0, .tmp 86)], type := 58, pos := "law.go:92", after := #[{ on := 9, ground := .data }], guard := none }) rfl (fun K hK => ?_) AllReadyH.nil
                refine step_build_own elIn rfl _ rfl iX rfl ?_; intro w3 HI3 Hb3; have HB3 : Hid (Below wr.heap.size wr.drew w3) := HB2.out.trans (Hb3.out.mono hs2); have hs3 := Hb3.out.size; have k2 : w3.cell? ⟨g, T * 3, none⟩ = some (.slice (some ⟨y.1, 0, none⟩) 1 1) := (by rw [World.cell?_of_block (a := ⟨g, T * 3, none⟩) (HB3.out.block g hgl)]; exact k0); have HF3 : Hid (w3.rangeAt g (F * 3) rF.cs) := rangeAt_below HRF.out HB3.out (Nat.le_refl _); have HY3 : Hid (Blk w3 y.1 (inH ht).cs) := HYD.out.below HB3.out hyl
                simp only [Act.put, List.setIfInBounds_toArray, List.set_cons_zero, List.set_cons_succ]
                refine hK.out _ _ (HF3.out) (fun hHeld => ?_)
                clear hK K
                refine wpAnyH_ready (rs := [16]) (by kernel_rfl) (by simp) ?_
                refine AllReadyH.cons (o := { dst := some 93, op := .call { callee := .builtin Go.Builtin.append, args := #[.tmp 87, .tmp 92], argTypes := #[58, 58] }, type := 58, pos := "law.go:92", after := #[{ on := 10, ground := .data }, { on := 15, ground := .data }, { on := 6, ground := .chain }], guard := none }) rfl (fun K hK => ?_) AllReadyH.nil
                refine step_append_e elIn rfl _ _ rfl w2.heap.size (.slice (some ⟨w2.heap.size, 0, none⟩) 1 1) [iX] rfl HI3.out _ 1 1 [inH ht] rfl (Els.one HY3.out) (by simp) (by omega) ?_; intro v5 w5 HO5 HG5 HM5; obtain ⟨a5, n5, c5, rfl, he5, hx5⟩ := HO5.out.parts; have HE5 : Hid (Els w5 a5 n5 c5 ([iX] ++ [inH ht]) ∧ ∀ z : Addr, a5 = some z → w2.heap.size ≤ z.block) := ⟨he5, hx5⟩; have HB5 : Hid (Below wr.heap.size wr.drew w5) := HB3.out.grown HG5.out (by omega) (fun q hq => (by have := (HI3.out.lt q hq).1; omega)); have k5 : w5.cell? ⟨g, T * 3, none⟩ = some (.slice (some ⟨y.1, 0, none⟩) 1 1) := (by rw [World.cell?_of_block (a := ⟨g, T * 3, none⟩) (HB5.out.block g hgl)]; exact k0); have HO6 : Hid (Own w5 N (.slice (some ⟨g, 0, none⟩) n vc) pq) := HOD.out.below HB5.out; have f5 : w5.frozen? ⟨g, T * 3, none⟩ = false := (HO6.out.row.cellAt (j := T) (i := 0) HRL.out.2 (by rw [HGT.out]; rfl)).2; have HF5 : Hid (w5.rangeAt g (F * 3) rF.cs) := rangeAt_below HRF.out HB5.out (Nat.le_refl _); clear he5 hx5
                simp only [Act.put, List.setIfInBounds_toArray, List.set_cons_zero, List.set_cons_succ]
                refine hK.out _ _ (HF5.out) (fun hHeld => ?_)
                clear hK K
                refine wpAnyH_take (i := 17) (oi := { dst := some 94, op := .indexAddr 26 (.tmp 77) (.tmp 78), type := 0, pos := "law.go:92", after := #[{ on := 0, ground := .data }, { on := 1, ground := .data }, { on := 0, ground := .phase }, { on := 1, ground := .phase }, { on := 2, ground := .phase }, { on := 3, ground := .phase }, { on := 4, ground := .phase }, { on := 5, ground := .phase }, { on := 6, ground := .phase }, { on := 7, ground := .phase }, { on := 8, ground := .phase }, { on := 9, ground := .phase }, { on := 10, ground := .phase }, { on := 11, ground := .phase }, { on := 12, ground := .phase }, { on := 13, ground := .phase }, { on := 14, ground := .phase }, { on := 15, ground := .phase }, { on := 16, ground := .phase }], guard := none }) (v := ?_) rfl (by kernel_rfl) (by kernel_rfl) (by kernel_rfl) (fun _ _ _ h => h) (Or.inl ⟨by rfl, ?_⟩) (by assumption) ?_
                rotate_left
                · intro _ _; go_simp; first | done | with_reducible rfl
                simp only [Act.put, List.setIfInBounds_toArray, List.set_cons_zero, List.set_cons_succ]
                refine wpAnyH_take (i := 18) (oi := { dst := some 95, op := .fieldAddr 61 (.tmp 94) 0, type := 0, pos := "law.go:92", after := #[{ on := 17, ground := .data }, { on := 0, ground := .phase }, { on := 1, ground := .phase }, { on := 2, ground := .phase }, { on := 3, ground := .phase }, { on := 4, ground := .phase }, { on := 5, ground := .phase }, { on := 6, ground := .phase }, { on := 7, ground := .phase }, { on := 8, ground := .phase }, { on := 9, ground := .phase }, { on := 10, ground := .phase }, { on := 11, ground := .phase }, { on := 12, ground := .phase }, { on := 13, ground := .phase }, { on := 14, ground := .phase }, { on := 15, ground := .phase }, { on := 16, ground := .phase }], guard := none }) (v := ?_) rfl (by kernel_rfl) (by kernel_rfl) (by kernel_rfl) (fun _ _ _ h => h) (Or.inl ⟨by rfl, ?_⟩) (by assumption) ?_
                rotate_left
                · intro _ _; go_simp; first | done | with_reducible rfl
                simp only [Act.put, List.setIfInBounds_toArray, List.set_cons_zero, List.set_cons_succ]
                refine wpAnyH_ready (rs := [19]) (by kernel_rfl) (by simp) ?_
                refine AllReadyH.cons (o := { dst := none, op := .store 58 (.tmp 95) (.tmp 93), type := 0, pos := "law.go:92", after := #[{ on := 18, ground := .data }, { on := 16, ground := .data }, { on := 16, ground := .chain }, { on := 0, ground := .phase }, { on := 1, ground := .phase }, { on := 2, ground := .phase }, { on := 3, ground := .phase }, { on := 4, ground := .phase }, { on := 5, ground := .phase }, { on := 6, ground := .phase }, { on := 7, ground := .phase }, { on := 8, ground := .phase }, { on := 9, ground := .phase }, { on := 10, ground := .phase }, { on := 11, ground := .phase }, { on := 12, ground := .phase }, { on := 13, ground := .phase }, { on := 14, ground := .phase }, { on := 15, ground := .phase }, { on := 16, ground := .phase }], guard := none }) rfl (fun K hK => ?_) AllReadyH.nil
                go_simp
                have HF6 : Hid ((w5.setCell ⟨g, T * 3, none⟩ (.slice a5 n5 c5)).rangeAt g (F * 3) rF.cs) := (fun j u hu => by have hj := (List.getElem?_eq_some_iff.1 hu).1; rw [TxR.cs_length] at hj; rw [World.cell?_setCell_other (h := addr_ne g (by omega))]; exact HF5.out j u hu)
                go_simp
                refine hK.out _ _ (HF6.out) (fun hHeld => ?_)
                clear hK K
                refine wpAnyH_done (by kernel_rfl) ?_ _
                refine NoPanic.normal ?_
                obtain ⟨z, hz⟩ : ∃ z : TxR, z = ⟨⟨a5, n5, c5, some ⟨y.2, 0, none⟩, 1, 1⟩, ⟨[iX] ++ [inH ht], [outK], 0⟩⟩ := ⟨_, rfl⟩
                have HR6 : Hid (OwnE 61 (w5.setCell ⟨g, T * 3, none⟩ (.slice a5 n5 c5)) N (.slice (some ⟨g, 0, none⟩) n vc) ((rowsR pq).set T z)) :=
                  HO6.out.row.setPart T 0 [.slice a5 n5 c5] z HRL.out.2 (show 0 + 1 ≤ 3 by omega) (by rw [HGT.out, hz]; rfl)
                have HB6 : Hid (Below N w (w5.setCell ⟨g, T * 3, none⟩ (.slice a5 n5 c5))) := (HBD.out.trans (HB5.out.mono hNr)).setCell (by show N ≤ g; exact hg) _
                have HL : Hid (TxL (w5.setCell ⟨g, T * 3, none⟩ (.slice a5 n5 c5)) (some ⟨g, 0, none⟩) n vc ((rowsR pq).set T z)) := by
                  have keep : ∀ b cs, Blk w5 b cs → b ≠ g → Blk (w5.setCell ⟨g, T * 3, none⟩ (.slice a5 n5 c5)) b cs := fun b cs hb h2 => hb.other (by exact h2) _
                  obtain ⟨a', n', c'', e, he, _⟩ := HR6.out.parts
                  injection e with e1 e2 e3
                  subst e1; subst e2; subst e3
                  refine ⟨he, fun r hr => ?_⟩
                  obtain ⟨i, hi, rfl⟩ := List.getElem_of_mem hr
                  rw [List.length_set] at hi
                  rw [List.getElem_set]
                  split
                  · rw [hz]
                    obtain ⟨_, h2, _⟩ := HO6.out.blk T y HXY.out.2
                    refine ⟨HE5.out.1.later fun b o _ e => ?_, Els.one (α := Out) (keep _ _ h2 HGX.out.2.2.2.symm)⟩
                    have := HE5.out.2 _ e
                    simp only at this
                    exact Below.heap_setCell _ _ _ _ (by show b ≠ g; omega)
                  · rename_i hne
                    have hi' : i < pq.length := by rwa [rowsR_length] at hi
                    have e : (rowsR pq)[i]? = some (rowR pq[i] (baseT i)) := by rw [rowsR_get, List.getElem?_eq_getElem hi']; rfl
                    rw [List.getElem?_eq_getElem hi] at e
                    injection e with e
                    rw [e]
                    obtain ⟨h1, h2, h3, h4, h5, h6⟩ := HO6.out.blk i pq[i] (List.getElem?_eq_getElem hi')
                    exact ⟨Els.one (α := In) (keep _ _ h1 (fun e => h5 (by rw [e]; rfl))), Els.one (α := Out) (keep _ _ h2 (fun e => h6 (by rw [e]; rfl)))⟩
                obtain ⟨TS, hTS⟩ : ∃ TS, ((rowsR pq).set T z).map TxR.t = TS := ⟨_, rfl⟩
                have HTS : Hid (((rowsR pq).set T z).map TxR.t = TS) := hTS
                have HTV : Hid (TS = tsB n F T) := show _ = _ by rw [← hTS, List.map_set, rowsR_ts, HPL.out, hz, ← HIX.out, HHI.out, HHT.out]; rfl
                clear hHeld hTS hz k0 k1 k2 k5 f5 HR6 HO6 HB5 HE5 HF5 HF6 HF3 HF2 HRF HB2 HB3 HI3 Hb3 HY3 HO5 HG5 HM5 HOD HBD HYD HID hb1 hb2 HIX HHI
                generalize w5.setCell ⟨g, T * 3, none⟩ (.slice a5 n5 c5) = w6 at *
                by_cases hgt : T < F
                · have hgt' : (T : Int) < (F : Int) := by omega
                  by_cases hbig : 100 < n
                  · have hbig' : (100 : Int) < (n : Int) := by omega
                    have HEV : Hid (mkE default 1 0 TS = 3) := show _ = _ by rw [HTV.out, hB n F T hFn hTn hFT hn4, if_pos hbig]
                    have HKF : Hid (Kw w6) := HK.out.below HB6.out hpos
                    go_wp2_with fail
                    refine (make_any default 1 0 _ _ _ _ w6 HL.out HKF.out).mono ?_
                    rintro e wm ⟨⟨am, nm, cm, lm, rfl, _, _, _⟩, hbm⟩
                    rw [HTS.out, HEV.out]
                    have hsW : N ≤ w6.heap.size := by have := HB6.out.size; rw [hN] at this; exact this
                    have HBM : Hid (Below N w wm) := HB6.out.trans (hbm.mono hsW)
                    clear hbm
                    obtain ⟨Z, hZ⟩ : ∃ Z, Z = blkCs (mkH default 1 0 TS) am nm cm := ⟨_, rfl⟩
                    rw [← hZ]
                    have HZS : Hid ((Tryz.prog.info? 28).map (·.size) = some Z.toArray.size ∧ (blkCs default none 0 0).toArray.size = Z.toArray.size ∧ Z.toArray.all (·.oneCell') = true) := by
                      rw [hZ]; exact ⟨sizeBka _ _ _ _, by simp [blkCs_length], blkCs_all _ _ _ _⟩
                    clear hZ
                    go_upto_region 21 with (refine wpList_store_fresh rfl 28 _ _ rfl Z _ 28 rfl rfl HZS.out.1 HZS.out.2.1 HZS.out.2.2 ?_; intro wn HGn Hbn)
                    have HBN : Hid (Below N w wn) := HBM.out.trans (Hbn.out.mono (by have := HBM.out.size; rw [hN] at this; exact this))
                    clear HGn Hbn HBM
                    go_wp2_with fail
                    refine (bawake_any wn (HK.out.below HBN.out hpos)).mono ?_
                    rintro e wo ⟨rfl, hbo⟩
                    have HBO : Hid (Below N w wo) := HBN.out.trans (hbo.mono (by have := HBN.out.size; rw [hN] at this; exact this))
                    clear hbo
                    go_wp2_with fail
                    go_ret
                    subst hN
                    exact ⟨rfl, HBO.out⟩
                  · have hbig' : ¬ ((100 : Int) < (n : Int)) := by omega
                    have HEV : Hid (mkE default 1 0 TS = 1) := show _ = _ by rw [HTV.out, hB n F T hFn hTn hFT hn4, if_neg hbig, if_pos hgt]
                    have HKF : Hid (Kw w6) := HK.out.below HB6.out hpos
                    go_wp2_with fail
                    refine (make_any default 1 0 _ _ _ _ w6 HL.out HKF.out).mono ?_
                    rintro e wm ⟨⟨am, nm, cm, lm, rfl, _, _, _⟩, hbm⟩
                    rw [HTS.out, HEV.out]
                    have hsW : N ≤ w6.heap.size := by have := HB6.out.size; rw [hN] at this; exact this
                    have HBM : Hid (Below N w wm) := HB6.out.trans (hbm.mono hsW)
                    clear hbm
                    obtain ⟨Z, hZ⟩ : ∃ Z, Z = blkCs (mkH default 1 0 TS) am nm cm := ⟨_, rfl⟩
                    rw [← hZ]
                    have HZS : Hid ((Tryz.prog.info? 28).map (·.size) = some Z.toArray.size ∧ (blkCs default none 0 0).toArray.size = Z.toArray.size ∧ Z.toArray.all (·.oneCell') = true) := by
                      rw [hZ]; exact ⟨sizeBka _ _ _ _, by simp [blkCs_length], blkCs_all _ _ _ _⟩
                    clear hZ
                    go_upto_region 21 with (refine wpList_store_fresh rfl 28 _ _ rfl Z _ 28 rfl rfl HZS.out.1 HZS.out.2.1 HZS.out.2.2 ?_; intro wn HGn Hbn)
                    have HBN : Hid (Below N w wn) := HBM.out.trans (Hbn.out.mono (by have := HBM.out.size; rw [hN] at this; exact this))
                    clear HGn Hbn HBM
                    go_wp2_with fail
                    refine (bawake_any wn (HK.out.below HBN.out hpos)).mono ?_
                    rintro e wo ⟨rfl, hbo⟩
                    have HBO : Hid (Below N w wo) := HBN.out.trans (hbo.mono (by have := HBN.out.size; rw [hN] at this; exact this))
                    clear hbo
                    go_wp2_with fail
                    go_ret
                    subst hN
                    exact ⟨rfl, HBO.out⟩
                · have hgt' : ¬ ((T : Int) < (F : Int)) := by omega
                  by_cases hbig : 100 < n
                  · have hbig' : (100 : Int) < (n : Int) := by omega
                    have HEV : Hid (mkE default 1 0 TS = 3) := show _ = _ by rw [HTV.out, hB n F T hFn hTn hFT hn4, if_pos hbig]
                    have HKF : Hid (Kw w6) := HK.out.below HB6.out hpos
                    go_wp2_with fail
                    refine (make_any default 1 0 _ _ _ _ w6 HL.out HKF.out).mono ?_
                    rintro e wm ⟨⟨am, nm, cm, lm, rfl, _, _, _⟩, hbm⟩
                    rw [HTS.out, HEV.out]
                    have hsW : N ≤ w6.heap.size := by have := HB6.out.size; rw [hN] at this; exact this
                    have HBM : Hid (Below N w wm) := HB6.out.trans (hbm.mono hsW)
                    clear hbm
                    obtain ⟨Z, hZ⟩ : ∃ Z, Z = blkCs (mkH default 1 0 TS) am nm cm := ⟨_, rfl⟩
                    rw [← hZ]
                    have HZS : Hid ((Tryz.prog.info? 28).map (·.size) = some Z.toArray.size ∧ (blkCs default none 0 0).toArray.size = Z.toArray.size ∧ Z.toArray.all (·.oneCell') = true) := by
                      rw [hZ]; exact ⟨sizeBka _ _ _ _, by simp [blkCs_length], blkCs_all _ _ _ _⟩
                    clear hZ
                    go_upto_region 21 with (refine wpList_store_fresh rfl 28 _ _ rfl Z _ 28 rfl rfl HZS.out.1 HZS.out.2.1 HZS.out.2.2 ?_; intro wn HGn Hbn)
                    have HBN : Hid (Below N w wn) := HBM.out.trans (Hbn.out.mono (by have := HBM.out.size; rw [hN] at this; exact this))
                    clear HGn Hbn HBM
                    go_wp2_with fail
                    refine (bawake_any wn (HK.out.below HBN.out hpos)).mono ?_
                    rintro e wo ⟨rfl, hbo⟩
                    have HBO : Hid (Below N w wo) := HBN.out.trans (hbo.mono (by have := HBN.out.size; rw [hN] at this; exact this))
                    clear hbo
                    go_wp2_with fail
                    go_ret
                    subst hN
                    exact ⟨rfl, HBO.out⟩
                  · have hbig' : ¬ ((100 : Int) < (n : Int)) := by omega
                    have HEV : Hid (mkE default 1 0 TS = 0) := show _ = _ by rw [HTV.out, hB n F T hFn hTn hFT hn4, if_neg hbig, if_neg hgt]
                    have HKF : Hid (Kw w6) := HK.out.below HB6.out hpos
                    go_wp2_with fail
                    refine (make_any default 1 0 _ _ _ _ w6 HL.out HKF.out).mono ?_
                    rintro e wm ⟨⟨am, nm, cm, lm, rfl, _, _, _⟩, hbm⟩
                    rw [HTS.out, HEV.out]
                    have hsW : N ≤ w6.heap.size := by have := HB6.out.size; rw [hN] at this; exact this
                    have HBM : Hid (Below N w wm) := HB6.out.trans (hbm.mono hsW)
                    clear hbm
                    obtain ⟨Z, hZ⟩ : ∃ Z, Z = blkCs (mkH default 1 0 TS) am nm cm := ⟨_, rfl⟩
                    rw [← hZ]
                    have HZS : Hid ((Tryz.prog.info? 28).map (·.size) = some Z.toArray.size ∧ (blkCs default none 0 0).toArray.size = Z.toArray.size ∧ Z.toArray.all (·.oneCell') = true) := by
                      rw [hZ]; exact ⟨sizeBka _ _ _ _, by simp [blkCs_length], blkCs_all _ _ _ _⟩
                    clear hZ
                    go_upto_region 21 with (refine wpList_store_fresh rfl 28 _ _ rfl Z _ 28 rfl rfl HZS.out.1 HZS.out.2.1 HZS.out.2.2 ?_; intro wn HGn Hbn)
                    have HBN : Hid (Below N w wn) := HBM.out.trans (Hbn.out.mono (by have := HBM.out.size; rw [hN] at this; exact this))
                    clear HGn Hbn HBM
                    go_wp2_with fail
                    refine (bawake_any wn (HK.out.below HBN.out hpos)).mono ?_
                    rintro e wo ⟨rfl, hbo⟩
                    have HBO : Hid (Below N w wo) := HBN.out.trans (hbo.mono (by have := HBN.out.size; rw [hN] at this; exact this))
                    clear hbo
                    go_wp2_with fail
                    go_ret
                    subst hN
                    exact ⟨rfl, HBO.out⟩
end Go.Proofs.YtlaifphedhaemaaGreatDoor
