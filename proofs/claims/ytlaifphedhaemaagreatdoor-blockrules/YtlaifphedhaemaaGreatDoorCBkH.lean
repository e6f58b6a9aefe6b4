/- block.settle. -/
import Derived.Test.YtlaifphedhaemaaGreatDoorCBkG
import Derived.Test.YtlaifphedhaemaaGreatDoorCD8
namespace Go.Proofs.YtlaifphedhaemaaGreatDoor
open Go.ChangeShapes Go.WideShapes Go.ChangeAt Go.RowKit

/-- The first error of transactions. -/
def firstE : List TxD → Int
  | [] => 0
  | t :: l => if chkE t = 0 then firstE l else chkE t
def rootT (ts : List TxD) : H32 := topH (ts.map idH)
def setE (h : Hd) (ts : List TxD) : Int :=
  if headOK h = false then 1 else if 100 < ts.length then 3 else if firstE ts ≠ 0 then firstE ts else if togB ts (ts.map idH) = false then 1 else 0
def setH (h : Hd) (ts : List TxD) : H32 := if setE h ts = 0 then rootT ts else default
theorem firstE_drop {l : List TxR} {k : Nat} (h : k < l.length) : firstE ((l.drop k).map TxR.t) = if chkE (l.getD k default).t = 0 then firstE ((l.drop (k + 1)).map TxR.t) else chkE (l.getD k default).t := by
  rw [List.drop_eq_getElem_cons h, List.map_cons, firstE, List.getD_eq_getElem?_getD, List.getElem?_eq_getElem h]; rfl
theorem firstE_all {ts : List TxD} (h : firstE ts = 0) : ∀ t ∈ ts, chkE t = 0 := by
  induction ts with
  | nil => intro t ht; cases ht
  | cons s ts ih =>
    unfold firstE at h
    split at h
    · rename_i h0
      intro t ht
      rcases List.mem_cons.1 ht with rfl | ht
      · exact h0
      · exact ih h t ht
    · rename_i h0; exact absurd h h0
theorem chk_few {t : TxD} (h : chkE t = 0) : t.ins.length ≤ 100 ∧ t.outs.length ≤ 100 := by
  unfold chkE at h
  split at h
  · cases h
  · omega
/-- A block's cells. -/
def blkCs (h : Hd) (a : Option Addr) (n c : Nat) : List Value := h.cs ++ [.slice a n c]
theorem blkCs_length (h : Hd) (a : Option Addr) (n c : Nat) : (blkCs h a n c).length = 67 := by simp [blkCs, Hd.cs_length]
theorem blkCs_mem (h : Hd) (a : Option Addr) (n c : Nat) : ∀ v ∈ blkCs h a n c, v.oneCell' = true := fun v hv => by
  rcases List.mem_append.1 hv with g | g
  · exact h.cs_mem v g
  · rw [List.mem_singleton] at g; rw [g]; rfl
theorem blkCs_all (h : Hd) (a : Option Addr) (n c : Nat) : (blkCs h a n c).toArray.all (·.oneCell') = true := all_oneCell_toArray (blkCs_mem h a n c)
theorem blkCs_txs (h : Hd) (a : Option Addr) (n c : Nat) : (blkCs h a n c)[66]? = some (.slice a n c) := by
  unfold blkCs; rw [List.getElem?_append_right (by rw [Hd.cs_length]; omega), Hd.cs_length]; rfl
theorem blkCs_head {w : World} {b o : Nat} {h : Hd} {a : Option Addr} {n c : Nat} (g : w.rangeAt b o (blkCs h a n c)) : w.rangeAt b o h.cs := fun j v hv => by
  refine g j v ?_
  unfold blkCs
  rw [List.getElem?_append_left (List.getElem?_eq_some_iff.1 hv).1]; exact hv
theorem sizeBk (h : Hd) (a : Option Addr) (n c : Nat) : (Tryz.prog.info? 28).map (·.size) = some (blkCs h a n c).length := by rw [blkCs_length]; kernel_rfl
theorem sizeBka (h : Hd) (a : Option Addr) (n c : Nat) : (Tryz.prog.info? 28).map (·.size) = some (blkCs h a n c).toArray.size := by rw [List.size_toArray, blkCs_length]; kernel_rfl
theorem undBk : ∃ d, Hid (Tryz.prog.underlying 28 = some d) ∧ Hid (d.isRow = true) := ⟨_, Tryz.underlying28, rfl⟩

set_option maxRecDepth 100000 in
set_option maxHeartbeats 8000000 in
theorem settle_any (h : Hd) (a : Option Addr) (n cap : Nat) (l : List TxR) (w : World) (hp : TxL w a n cap l) (hK : Kw w) :
    Calls Tryz.prog 46 #[.agg (blkCs h a n cap).toArray] w fun e w' => e = .returned (.tuple #[.agg (setH h (l.map TxR.t)).cs.toArray, .int .i64 (setE h (l.map TxR.t))]) ∧ Below w.heap.size w w' := by
  obtain ⟨dT, HDT, HRT⟩ := und_tx
  obtain ⟨dH, HDH, HRH⟩ := undHd
  have HP : Hid (TxL w a n cap l) := hp
  have HK : Hid (Kw w) := hK
  have HLN : Hid (l.length = n) := hp.row.len
  have hpos := hK.pos
  have HE : Hid (setE h (l.map TxR.t) = if headOK h = false then 1 else if 100 < n then 3 else if firstE (l.map TxR.t) ≠ 0 then firstE (l.map TxR.t) else if togB (l.map TxR.t) ((l.map TxR.t).map idH) = false then 1 else 0) := show _ = _ by
    unfold setE; rw [List.length_map, hp.row.len]
  have HZ66 : Hid ((blkCs h a n cap)[66]? = some (.slice a n cap)) := blkCs_txs h a n cap
  clear hp hK
  go_enter Tryz.func46, Tryz.ntmps46
  go_upto_region 3 with fail
  generalize hw1 : World.alloc (World.alloc w _) _ = w1
  have HB0 : Hid (Blk w1 w.heap.size (blkCs h a n cap)) := by rw [← hw1]; exact (Blk.mk _ _ _ rfl rfl).alloc _
  have HZ : Hid (Blk w1 (w.heap.size + 1) (u8s zeros32)) := by rw [← hw1]; exact Blk.mk _ _ _ (by simp) rfl
  have HB : Hid (Below w.heap.size w w1) := by rw [← hw1]; exact ((Below.refl _ _).alloc (Nat.le_refl _) _).alloc (by simp) _
  clear hw1
  generalize hN : w.heap.size = N at *
  refine wp_scope_hops 1 ?_
  go_hide hQ
  have HC : Hid (w1.rangeAt N 0 h.cs) := blkCs_head HB0.out.whole
  have I28 : Hid (_ = _) := sizeHa (default : H32)
  have HHF : Hid (Calls Tryz.prog 75 #[.agg h.cs.toArray] w1 fun e w' => e = .returned (.bool (headOK h)) ∧ Below w1.heap.size w1 w') := headFits_any h w1
  generalize hok : headOK h = ok at *
  go_wp2_with (refine wpList_load_mid rfl 25 _ rfl N 0 rfl h.cs _ HC.out HDH.out HRH.out (sizeHd h) ?_)
  refine Calls.mono HHF.out ?_
  rintro e w2 ⟨rfl, hb2⟩
  have HB2 : Hid (Blk w2 N (blkCs h a n cap)) := HB0.out.below hb2 HB0.out.lt
  have HZ2 : Hid (Blk w2 (N + 1) (u8s zeros32)) := HZ.out.below hb2 HZ.out.lt
  have HW2 : Hid (Below N w w2) := HB.out.trans (hb2.mono (by have := HB.out.size; rw [hN] at this; exact this))
  clear hb2 HHF HC HB0 HZ HB
  cases ok with
  | false =>
    have HEV : Hid (setE h (l.map TxR.t) = 1) := show _ = _ by rw [HE.out, if_pos rfl]
    have HNZ : Hid (¬ (1 : Int) = 0) := show ¬ _ by omega
    have HHV : Hid (setH h (l.map TxR.t) = default) := show _ = _ by unfold setH; rw [HEV.out, if_neg HNZ.out]
    obtain ⟨t, ht⟩ := HZ2.out
    have HT : Hid (w2.heap[N + 1]? = some (.cells (u8s zeros32).toArray t (0, 0))) := ht
    clear ht
    go_wp2_with fail
    go_step3
    subst hQ
    refine show hops _ _ _ 1 (Exit.goto 0) _ _ from ?_
    rw [hops_goto]
    refine ⟨_, rfl, ?_⟩
    go_hide hQ
    go_wp2_with (refine wpList_store_row rfl 23 _ _ rfl (N + 1) (default : H32).cs.toArray rfl rfl t (u8s zeros32).toArray HT.out I28.out rfl (default : H32).cs_all ?_)
    subst hQ
    rw [hops_ret]
    refine bodyPost_ret (v := .tuple #[.agg (default : H32).cs.toArray, .int .i64 1]) ?_ rfl ⟨by rw [HHV.out, HEV.out], ?_⟩
    · obtain ⟨t', hb⟩ := Blk.row (ds := (default : H32).cs) ⟨t, HT.out⟩
      exact results_row_tmp Tryz.results46 _ _ (N + 1) t' _ _ _ rfl hb Tryz.underlying23 rfl I28.out
    · subst hN; exact below_setRow HW2.out (by omega) _
  | true =>
    have c66 : w2.cell? ⟨N, 66, none⟩ = some (.slice a n cap) := HB2.out.one HZ66.out
    by_cases hbig : 100 < n
    · have HEV : Hid (setE h (l.map TxR.t) = 3) := show _ = _ by rw [HE.out, if_neg (by simp), if_pos hbig]
      have HNZ : Hid (¬ (3 : Int) = 0) := show ¬ _ by omega
      have hbig' : (100 : Int) < (n : Int) := by omega
      have HHV : Hid (setH h (l.map TxR.t) = default) := show _ = _ by unfold setH; rw [HEV.out, if_neg HNZ.out]
      obtain ⟨t, ht⟩ := HZ2.out
      have HT : Hid (w2.heap[N + 1]? = some (.cells (u8s zeros32).toArray t (0, 0))) := ht
      clear ht
      go_wp2_with fail
      go_step3
      subst hQ
      refine show hops _ _ _ 1 (Exit.goto 0) _ _ from ?_
      rw [hops_goto]
      refine ⟨_, rfl, ?_⟩
      go_hide hQ
      go_wp2_with (refine wpList_store_row rfl 23 _ _ rfl (N + 1) (default : H32).cs.toArray rfl rfl t (u8s zeros32).toArray HT.out I28.out rfl (default : H32).cs_all ?_)
      subst hQ
      rw [hops_ret]
      refine bodyPost_ret (v := .tuple #[.agg (default : H32).cs.toArray, .int .i64 3]) ?_ rfl ⟨by rw [HHV.out, HEV.out], ?_⟩
      · obtain ⟨t', hb⟩ := Blk.row (ds := (default : H32).cs) ⟨t, HT.out⟩
        exact results_row_tmp Tryz.results46 _ _ (N + 1) t' _ _ _ rfl hb Tryz.underlying23 rfl I28.out
      · subst hN; exact below_setRow HW2.out (by omega) _
    · have HE2 : Hid (setE h (l.map TxR.t) = if firstE (l.map TxR.t) ≠ 0 then firstE (l.map TxR.t) else if togB (l.map TxR.t) ((l.map TxR.t).map idH) = false then 1 else 0) := show _ = _ by rw [HE.out, if_neg (by simp), if_neg hbig]
      clear HE
      have hbig' : ¬ ((100 : Int) < (n : Int)) := by omega
      go_wp2_with fail
      clear c66
      go_loopw [5, 19] (fun _ i wr => ∃ (k : Nat), k ≤ n ∧ i = .int .i64 k ∧ Hid (firstE (l.map TxR.t) = firstE ((l.drop k).map TxR.t)) ∧ Hid (Blk wr N (blkCs h a n cap)) ∧ Hid (Blk wr (N + 1) (u8s zeros32)) ∧ Hid (Below N w wr)) (fun _ i _ => n - (intOf i).toNat)
      case atStart => exact ⟨0, by omega, rfl, show _ = _ by rw [List.drop_zero], HB2.out, HZ2.out, HW2.out⟩
      case round =>
        obtain ⟨k, hk, rfl, HF, HBr, HZr, HWr⟩ := hrel
        clear HB2 HZ2 HW2
        have hNr : N + 1 < wr.heap.size := HZr.out.lt
        by_cases hlt : k < n
        · have e0 : (0 : Int) ≤ (k : Int) := by omega
          have e1 : (k : Int) < (n : Int) := by omega
          have HEl : Hid (TxL wr a n cap l) := HP.out.below (hN ▸ HWr.out)
          obtain ⟨b, o, rfl, hc⟩ := HEl.out.row.at k hlt
          obtain ⟨x, hx⟩ : ∃ x, x = l.getD k default := ⟨_, rfl⟩
          change wr.rangeAt b (o + k * 3) (TxR.cs (l.getD k default)) at hc
          rw [← hx] at hc
          have HKL : Hid (k < l.length) := show _ < _ by rw [HLN.out]; exact hlt
          have HX : Hid (x = l.getD k default) := hx
          have HXW : Hid (TxAt wr x.v x.t) := HEl.out.each x (by rw [hx]; exact memD _ HKL.out)
          have HC : Hid (wr.rangeAt b (o + k * 3) x.cs) := hc
          have HF2 : Hid (firstE (l.map TxR.t) = if chkE x.t = 0 then firstE ((l.drop (k + 1)).map TxR.t) else chkE x.t) := show _ = _ by rw [HF.out, hx]; exact firstE_drop HKL.out
          clear hc hx HEl
          go_upto_region 9 with (first
            | (refine wpList_load_mid rfl 61 _ rfl b (o + k * 3) rfl x.cs _ HC.out HDT.out HRT.out (sizeTx x) ?_)
            | (refine wpList_store_fresh rfl 61 _ _ rfl x.cs _ 61 rfl rfl (sizeTxa x) (zsizeTx x) x.cs_all ?_; intro w3 HB3 Hb3))
          have HPT : Hid (w3.rangeAt wr.heap.size 0 x.cs) := HB3.out.whole
          have HCALL : Hid (Calls Tryz.prog 64 #[.agg x.cs.toArray] w3 fun e w' => e = .returned (.int .i64 (chkE x.t)) ∧ Below w3.heap.size w3 w') := check_any x.v x.t w3 (HXW.out.below Hb3.out)
          have HBs : Hid (Blk w3 N (blkCs h (some ⟨b, o, none⟩) n cap)) := HBr.out.below Hb3.out (by omega)
          have HZs : Hid (Blk w3 (N + 1) (u8s zeros32)) := HZr.out.below Hb3.out (by omega)
          have HWs : Hid (Below N w w3) := HWr.out.trans (Hb3.out.mono (by omega))
          clear HB3 Hb3 HC HXW
          obtain ⟨z, hz⟩ : ∃ z, z = chkE x.t := ⟨_, rfl⟩
          rw [← hz] at HCALL HF2
          clear hz
          go_wp2_with (refine wpList_load_mid rfl 61 _ rfl wr.heap.size 0 rfl x.cs _ HPT.out HDT.out HRT.out (sizeTx x) ?_)
          refine Calls.mono HCALL.out ?_
          rintro e w4 ⟨rfl, hb4⟩
          have hs3 : N + 1 < w3.heap.size := HZs.out.lt
          have HB4 : Hid (Blk w4 N (blkCs h (some ⟨b, o, none⟩) n cap)) := HBs.out.below hb4 (by omega)
          have HZ4 : Hid (Blk w4 (N + 1) (u8s zeros32)) := HZs.out.below hb4 (by omega)
          have HW4 : Hid (Below N w w4) := HWs.out.trans (hb4.mono (by omega))
          clear hb4 HBs HZs HWs HCALL HPT
          by_cases hz0 : z = 0
          · subst hz0
            have HF3 : Hid (firstE (l.map TxR.t) = firstE ((l.drop (k + 1)).map TxR.t)) := show _ = _ by rw [HF2.out, if_pos rfl]
            clear HF2 HF
            go_wp2_with fail
            go_roundw
            case rel => exact ⟨k + 1, by omega, by go_num, HF3.out, HB4.out, HZ4.out, HW4.out⟩
            case measure => simp [intOf]; omega
          · have HEV : Hid (setE h (l.map TxR.t) = z) := show _ = _ by
              have : firstE (l.map TxR.t) = z := by rw [HF2.out, if_neg hz0]
              rw [HE2.out, this, if_pos hz0]
            have HNZ : Hid (¬ z = 0) := hz0
            have HHV : Hid (setH h (l.map TxR.t) = default) := show _ = _ by unfold setH; rw [HEV.out, if_neg HNZ.out]
            obtain ⟨t, ht⟩ := HZ4.out
            have HT : Hid (w4.heap[N + 1]? = some (.cells (u8s zeros32).toArray t (0, 0))) := ht
            clear ht
            go_wp2_with fail
            go_step3
            subst hQ
            refine show hops _ _ _ 1 (Exit.goto 0) _ _ from ?_
            rw [hops_goto]
            refine ⟨_, rfl, ?_⟩
            go_hide hQ
            go_wp2_with (refine wpList_store_row rfl 23 _ _ rfl (N + 1) (default : H32).cs.toArray rfl rfl t (u8s zeros32).toArray HT.out I28.out rfl (default : H32).cs_all ?_)
            subst hQ
            rw [hops_ret]
            refine bodyPost_ret (v := .tuple #[.agg (default : H32).cs.toArray, .int .i64 z]) ?_ rfl ⟨by rw [HHV.out, HEV.out], ?_⟩
            · obtain ⟨t', hb⟩ := Blk.row (ds := (default : H32).cs) ⟨t, HT.out⟩
              exact results_row_tmp Tryz.results46 _ _ (N + 1) t' _ _ _ rfl hb Tryz.underlying23 rfl I28.out
            · subst hN; exact below_setRow HW4.out (by omega) _
        · obtain rfl : k = n := by omega
          have HF0 : Hid (firstE (l.map TxR.t) = 0) := show _ = _ by
            rw [HF.out, List.drop_of_length_le (by rw [HLN.out]; exact Nat.le_refl _)]; rfl
          have HE3 : Hid (setE h (l.map TxR.t) = if togB (l.map TxR.t) ((l.map TxR.t).map idH) = false then 1 else 0) := show _ = _ by
            rw [HE2.out, HF0.out, if_neg (by simp)]
          have HVN : Hid (∀ r ∈ l, r.v.n ≤ 100000) := fun r hr => by
            have h1 := (chk_few (firstE_all HF0.out r.t (List.mem_map_of_mem hr))).1
            have h2 := (HP.out.each r hr).ins.len
            omega
          have HTL : Hid (TxL wr a k cap l) := HP.out.below (hN ▸ HWr.out)
          have c66 : wr.cell? ⟨N, 66, none⟩ = some (.slice a k cap) := HBr.out.one HZ66.out
          have HKr : Hid (Kw wr) := HK.out.below HWr.out hpos
          clear HE2 HF
          go_wp2_with fail
          refine (ids_any a k cap l wr HTL.out HKr.out (by omega)).mono ?_
          rintro e w3 ⟨g, rfl, hg, hgl, hb3⟩
          have hml : k ≤ maxLen := Nat.le_trans HP.out.row.fits HP.out.row.most
          have HLm : Hid ((l.map fun r => idH r.t) = (l.map TxR.t).map idH) := show _ = _ by rw [List.map_map]; rfl
          have HEI : Hid (Els w3 (some ⟨g, 0, none⟩) k k ((l.map TxR.t).map idH)) := by
            rw [← HLm.out]
            exact Els.of_blk hg (by rw [List.length_map]; exact HLN.out) (Nat.le_refl _) hml (by rw [List.take_of_length_le]; rw [flatE_length, List.length_map, HLN.out]; exact Nat.le_refl _)
          have HB3 : Hid (Blk w3 N (blkCs h a k cap)) := HBr.out.below hb3 (by omega)
          have HZ3 : Hid (Blk w3 (N + 1) (u8s zeros32)) := HZr.out.below hb3 (by omega)
          have HW3 : Hid (Below N w w3) := HWr.out.trans (hb3.mono (by omega))
          have HTL3 : Hid (TxL w3 a k cap l) := HTL.out.below hb3
          have d66 : w3.cell? ⟨N, 66, none⟩ = some (.slice a k cap) := HB3.out.one HZ66.out
          clear hg hgl hb3 c66 HKr HTL HBr HZr HWr HB3
          obtain ⟨row, hrow⟩ : ∃ row, row = (l.map TxR.t).map idH := ⟨_, rfl⟩
          rw [← hrow] at HEI HE3
          have HROW : Hid (row = (l.map TxR.t).map idH) := hrow
          clear hrow HLm
          go_wp2_with fail
          refine (together_any a k cap l (some ⟨g, 0, none⟩) k k row w3 HTL3.out HEI.out (by omega) (by omega) HVN.out).mono ?_
          rintro e w4 ⟨rfl, hb4⟩
          have hs3 : N + 1 < w3.heap.size := HZ3.out.lt
          have HZ4 : Hid (Blk w4 (N + 1) (u8s zeros32)) := HZ3.out.below hb4 (by omega)
          have HW4 : Hid (Below N w w4) := HW3.out.trans (hb4.mono (by omega))
          have HEI4 : Hid (Els w4 (some ⟨g, 0, none⟩) k k row) := HEI.out.below hb4
          clear hb4 d66 HTL3 HEI HW3 HZ3
          generalize togB (l.map TxR.t) row = q at *
          cases q with
          | false =>
            have HEV : Hid (setE h (l.map TxR.t) = 1) := show _ = _ by rw [HE3.out, if_pos rfl]
            have HNZ : Hid (¬ (1 : Int) = 0) := show ¬ _ by omega
            have HHV : Hid (setH h (l.map TxR.t) = default) := show _ = _ by unfold setH; rw [HEV.out, if_neg HNZ.out]
            obtain ⟨t, ht⟩ := HZ4.out
            have HT : Hid (w4.heap[N + 1]? = some (.cells (u8s zeros32).toArray t (0, 0))) := ht
            clear ht
            go_wp2_with fail
            go_step3
            subst hQ
            refine show hops _ _ _ 1 (Exit.goto 0) _ _ from ?_
            rw [hops_goto]
            refine ⟨_, rfl, ?_⟩
            go_hide hQ
            go_wp2_with (refine wpList_store_row rfl 23 _ _ rfl (N + 1) (default : H32).cs.toArray rfl rfl t (u8s zeros32).toArray HT.out I28.out rfl (default : H32).cs_all ?_)
            subst hQ
            rw [hops_ret]
            refine bodyPost_ret (v := .tuple #[.agg (default : H32).cs.toArray, .int .i64 1]) ?_ rfl ⟨by rw [HHV.out, HEV.out], ?_⟩
            · obtain ⟨t', hb⟩ := Blk.row (ds := (default : H32).cs) ⟨t, HT.out⟩
              exact results_row_tmp Tryz.results46 _ _ (N + 1) t' _ _ _ rfl hb Tryz.underlying23 rfl I28.out
            · subst hN; exact below_setRow HW4.out (by omega) _
          | true =>
            have HEV : Hid (setE h (l.map TxR.t) = 0) := show _ = _ by rw [HE3.out, if_neg (by simp)]
            have HHV : Hid (setH h (l.map TxR.t) = topH row) := show _ = _ by unfold setH; rw [HEV.out, if_pos rfl, HROW.out]; rfl
            go_wp2_with fail
            refine (top_any (some ⟨g, 0, none⟩) k k row w4 HEI4.out (HK.out.below HW4.out hpos) (by omega)).mono ?_
            rintro e w5 ⟨rfl, hb5⟩
            obtain ⟨x, hx⟩ : ∃ x, x = topH row := ⟨_, rfl⟩
            rw [← hx]
            have HX : Hid (x = topH row) := hx
            have hs4 : N + 1 < w4.heap.size := HZ4.out.lt
            have HZ5 : Hid (Blk w5 (N + 1) (u8s zeros32)) := HZ4.out.below hb5 (by omega)
            have HW5 : Hid (Below N w w5) := HW4.out.trans (hb5.mono (by omega))
            clear hb5 hx HZ4 HW4 HEI4
            obtain ⟨t, ht⟩ := HZ5.out
            have HT : Hid (w5.heap[N + 1]? = some (.cells (u8s zeros32).toArray t (0, 0))) := ht
            have J28 : Hid (_ = _) := sizeHa x
            have HS28 : Hid ((u8s zeros32).toArray.size = x.cs.toArray.size) := show _ = _ by simp [H32.cs_length, zeros32]
            clear ht
            unfold H32.val
            go_wp2_with (refine wpList_store_row rfl 23 _ _ rfl (N + 1) x.cs.toArray rfl rfl t (u8s zeros32).toArray HT.out J28.out HS28.out x.cs_all ?_)
            subst hQ
            rw [hops_ret]
            refine bodyPost_ret (v := .tuple #[.agg x.cs.toArray, .int .i64 0]) ?_ rfl ⟨by rw [HHV.out, HEV.out, ← HX.out], ?_⟩
            · obtain ⟨t', hb⟩ := Blk.row (ds := x.cs) ⟨t, HT.out⟩
              exact results_row_tmp Tryz.results46 _ _ (N + 1) t' _ _ _ rfl hb Tryz.underlying23 rfl J28.out
            · subst hN; exact below_setRow HW5.out (by omega) _
end Go.Proofs.YtlaifphedhaemaaGreatDoor
