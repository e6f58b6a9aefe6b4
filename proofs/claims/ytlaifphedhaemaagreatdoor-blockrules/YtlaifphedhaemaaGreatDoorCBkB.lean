/- Transactions in rows; sha.Pair; block.ids. -/
import Derived.Test.YtlaifphedhaemaaGreatDoorZB1
import Derived.Test.YtlaifphedhaemaaGreatDoorZX3
namespace Go.Proofs.YtlaifphedhaemaaGreatDoor
open Go.ChangeShapes Go.WideShapes Go.ChangeAt Go.RowKit

/-- A transaction as it stands in a row: its value's parts, and what it is. -/
structure TxR where
  v : TxV
  t : TxD
instance : Inhabited TxR := ⟨⟨⟨none, 0, 0, none, 0, 0⟩, ⟨[], [], 0⟩⟩⟩
def TxR.cs (r : TxR) : List Value := [.slice r.v.a r.v.n r.v.c, .slice r.v.b r.v.m r.v.d, .int .i64 r.t.lock]
theorem TxR.cs_length (r : TxR) : r.cs.length = 3 := rfl
theorem TxR.cs_mem (r : TxR) : ∀ v ∈ r.cs, v.oneCell' = true := fun v hv => by
  simp only [TxR.cs, List.mem_cons, List.not_mem_nil, or_false] at hv
  rcases hv with rfl | rfl | rfl <;> rfl
theorem TxR.cs_all (r : TxR) : r.cs.toArray.all (·.oneCell') = true := all_oneCell_toArray r.cs_mem
instance : El TxR := ⟨TxR.cs, 3, TxR.cs_length, TxR.cs_mem, default⟩
theorem sizeTx (r : TxR) : (Tryz.prog.info? 61).map (·.size) = some r.cs.length := by rw [r.cs_length]; kernel_rfl
theorem sizeTxa (r : TxR) : (Tryz.prog.info? 61).map (·.size) = some r.cs.toArray.size := by rw [List.size_toArray, r.cs_length]; kernel_rfl
theorem zsizeTx (r : TxR) : (default : TxR).cs.toArray.size = r.cs.toArray.size := by simp [TxR.cs_length]
theorem und_tx : ∃ d, Hid (Tryz.prog.underlying 61 = some d) ∧ Hid (d.isRow = true) := ⟨_, Tryz.underlying61, rfl⟩
/-- A row of transactions in memory, each with its lists. -/
structure TxL (w : World) (a : Option Addr) (n c : Nat) (l : List TxR) : Prop where
  row : Els w a n c l
  each : ∀ r ∈ l, TxAt w r.v r.t
theorem TxL.below {w w' : World} {a : Option Addr} {n c : Nat} {l : List TxR} (h : TxL w a n c l) (hb : Below w.heap.size w w') : TxL w' a n c l := ⟨h.row.below hb, fun r hr => (h.each r hr).below hb⟩
theorem memD {α : Type} {l : List α} {k : Nat} (d : α) (h : k < l.length) : l.getD k d ∈ l := by
  rw [List.getD_eq_getElem?_getD, List.getElem?_eq_getElem h]; exact List.getElem_mem h
def idH (t : TxD) : H32 := ⟨idB t, idB_length t⟩
def pairH (x y : H32) : H32 := ⟨sum (sum (x.b ++ y.b)), sum_length _⟩

theorem Pieces.two {w : World} {p b c : Nat} {bs cs : List (BitVec 8)} {n m : Nat} (hp : Blk w p [.slice (some ⟨b, 0, none⟩) n n, .slice (some ⟨c, 0, none⟩) m m]) (h : Blk w b (u8s bs)) (k : Blk w c (u8s cs)) (hl : bs.length = n) (hm : cs.length = m) (hn : n ≤ 1000000) (hm' : m ≤ 1000000) : Pieces w (some ⟨p, 0, none⟩) [bs, cs] := by
  intro i hi
  have : i = 0 ∨ i = 1 := by simp at hi; omega
  rcases this with rfl | rfl
  · exact ⟨p, 0, some ⟨b, 0, none⟩, n, rfl, by rw [hp.cell]; show some _ = some _; rw [← hl]; rfl, by rw [← hl]; exact Bytes.blk h (by omega)⟩
  · exact ⟨p, 0, some ⟨c, 0, none⟩, m, rfl, by rw [hp.cell]; show some _ = some _; rw [← hm]; rfl, by rw [← hm]; exact Bytes.blk k (by omega)⟩
theorem pair_arr : Tryz.prog.underlying 23 = some (.array 32 5) := Tryz.underlying23
set_option maxRecDepth 100000 in
set_option maxHeartbeats 4000000 in
theorem pair_any (x y : H32) (w : World) (hK : Kw w) :
    Calls Tryz.prog 114 #[x.val, y.val] w fun e w' => e = .returned (pairH x y).val ∧ Below w.heap.size w w' := by
  have HMO : Hid (Tryz.prog.follows .mixedOrders = true) := show _ = _ by kernel_rfl
  have HK : Hid (Kw w) := hK
  have hpos := hK.pos
  clear hK
  unfold H32.val
  go_enter Tryz.func114, Tryz.ntmps114
  go_upto_region 1 with fail
  generalize hw1 : World.alloc (World.alloc (World.alloc w _) _) _ = w1
  have HX : Hid (Blk w1 w.heap.size (u8s x.b)) := by rw [← hw1]; exact ((Blk.mk _ _ _ rfl rfl).alloc _).alloc _
  have HY : Hid (Blk w1 (w.heap.size + 1) (u8s y.b)) := by rw [← hw1]; exact (Blk.mk _ _ _ (by simp) rfl).alloc _
  have HZ : Hid (Blk w1 (w.heap.size + 1 + 1) (u8s zeros32)) := by rw [← hw1]; exact Blk.mk _ _ _ (by simp) rfl
  have HB : Hid (Below w.heap.size w w1) := by rw [← hw1]; exact (((Below.refl _ _).alloc (Nat.le_refl _) _).alloc (by simp) _).alloc (by simp; omega) _
  clear hw1
  refine wp_region_tail 2 HMO.out (by kernel_rfl) ?_
  iterate 2 still_step
  refine wpStill_nil ?_
  have HX2 : Hid (Blk w1.drew w.heap.size (u8s x.b)) := HX.out.drew
  have HY2 : Hid (Blk w1.drew (w.heap.size + 1) (u8s y.b)) := HY.out.drew
  have HZ2 : Hid (Blk w1.drew (w.heap.size + 1 + 1) (u8s zeros32)) := HZ.out.drew
  have HB2 : Hid (Below w.heap.size w w1.drew) := ⟨HB.out.os, HB.out.tape, HB.out.output, HB.out.size, HB.out.block⟩
  clear HX HY HZ HB
  generalize w1.drew = w2 at *
  go_wp2_with fail
  generalize hw3 : World.alloc w2 _ = w3
  have HP3 : Hid (Blk w3 w2.heap.size [.slice (some ⟨w.heap.size, 0, none⟩) 32 32, .slice (some ⟨w.heap.size + 1, 0, none⟩) 32 32]) := by rw [← hw3]; exact Blk.mk _ _ _ rfl rfl
  have HX3 : Hid (Blk w3 w.heap.size (u8s x.b)) := by rw [← hw3]; exact HX2.out.alloc _
  have HY3 : Hid (Blk w3 (w.heap.size + 1) (u8s y.b)) := by rw [← hw3]; exact HY2.out.alloc _
  have HZ3 : Hid (Blk w3 (w.heap.size + 1 + 1) (u8s zeros32)) := by rw [← hw3]; exact HZ2.out.alloc _
  have HB3 : Hid (Below w.heap.size w w3) := by rw [← hw3]; exact HB2.out.alloc (by have := HB2.out.size; omega) _
  clear hw3 HX2 HY2 HZ2 HB2
  refine (twice_any (some ⟨w2.heap.size, 0, none⟩) 2 2 [x.b, y.b] rfl w3 (HK.out.below HB3.out hpos) (by omega) (Pieces.two HP3.out HX3.out HY3.out x.len y.len (by omega) (by omega)) (by simp [x.len, y.len])).mono ?_
  rintro e w4 ⟨rfl, hb4⟩
  have HZ4 : Hid (Blk w4 (w.heap.size + 1 + 1) (u8s zeros32)) := HZ3.out.below hb4 HZ3.out.lt
  have HB4 : Hid (Below w.heap.size w w4) := HB3.out.trans (hb4.mono HB3.out.size)
  have e2 : [x.b, y.b].flatten = x.b ++ y.b := by simp
  rw [e2]
  have HR : Hid ((pairH x y).b = sum (sum (x.b ++ y.b))) := show _ = _ from rfl
  obtain ⟨t, ht⟩ := HZ4.out
  have HT : Hid (w4.heap[w.heap.size + 1 + 1]? = some (.cells (u8s zeros32).toArray t (0, 0))) := ht
  have I28 : Hid (_ = _) := sizeHa (pairH x y)
  have HS28 : Hid ((u8s zeros32).toArray.size = (pairH x y).cs.toArray.size) := show _ = _ by simp [H32.cs_length, zeros32]
  clear ht hb4
  rw [← HR.out]
  go_wp2_with (refine wpList_store_row rfl 23 _ _ rfl (w.heap.size + 1 + 1) (pairH x y).cs.toArray rfl rfl t (u8s zeros32).toArray HT.out I28.out HS28.out (pairH x y).cs_all ?_)
  refine bodyPost_ret (v := .agg (pairH x y).cs.toArray) ?_ rfl ⟨rfl, ?_⟩
  · obtain ⟨t', hb⟩ := Blk.row (ds := (pairH x y).cs) ⟨t, HT.out⟩
    exact results_cell_row Tryz.results114 _ _ (w.heap.size + 1 + 1) t' _ _ _ rfl hb Tryz.underlying23 rfl I28.out
  · exact below_setRow HB4.out (by omega) _

set_option maxRecDepth 100000 in
set_option maxHeartbeats 4000000 in
theorem ids_any (a : Option Addr) (n cap : Nat) (l : List TxR) (w : World) (hp : TxL w a n cap l) (hK : Kw w) (hn : n ≤ 100000) :
    Calls Tryz.prog 57 #[.slice a n cap] w fun e w' => ∃ g, e = .returned (.slice (some ⟨g, 0, none⟩) n n) ∧ Blk w' g (flatE (l.map fun r => idH r.t)) ∧ w.heap.size ≤ g ∧ Below w.heap.size w w' := by
  obtain ⟨dI, HDI, HRI⟩ := und_tx
  obtain ⟨i0, hi0, hi1, hi2, hi3⟩ := info_parts Tryz.infoH
  have HP : Hid (TxL w a n cap l) := hp
  have HK : Hid (Kw w) := hK
  have hpos := hK.pos
  clear hp hK
  go_enter Tryz.func57, Tryz.ntmps57
  go_wp2_with (at_make; refine wpList_make_full _ rfl _ _ 101 rfl w.heap.size 23 i0 (.agg (default : H32).cs.toArray) 32 Tryz.underlying101 hi0 hi1 hi2 .i64 .i64 _ _ n rfl rfl rfl rfl (by rw [hi3]; omega) (by unfold maxLen; omega) (Nat.le_refl _) ?_)
  intro w1 hown hgrow
  have hb1 : Below w.heap.size w w1 := (Below.refl _ w).grown hgrow (Nat.le_refl _) (by simp)
  have hg1 : Blk w1 w.heap.size (flatE (List.replicate n (default : H32))) := by
    refine ⟨23, ?_⟩
    rw [← madeE (default : H32) n (by decide)]
    exact Blk.made hown
  clear hown hgrow hi0 hi1 hi2 hi3
  generalize hN : w.heap.size = N at *
  go_wp2_with fail
  go_loopw [11] (fun i wr => ∃ (k : Nat) (M : List H32), k ≤ n ∧ i = .int .i64 k ∧ M.length = n ∧ Hid (M.take k = (l.map fun r => idH r.t).take k) ∧ Hid (Blk wr N (flatE M)) ∧ Hid (Below N w wr) ∧ N < wr.heap.size) (fun i _ => n - (intOf i).toNat)
  case atStart => exact ⟨0, List.replicate n default, by omega, rfl, List.length_replicate .., rfl, hg1, hb1, hg1.lt⟩
  case round =>
    obtain ⟨k, M, hk, rfl, hM, HT, HG, HB, hNk⟩ := hrel
    clear hg1 hb1
    by_cases hlt : k < n
    · have e0 : (0 : Int) ≤ (k : Int) := by omega
      have e1 : (k : Int) < (n : Int) := by omega
      have HLE : Hid (TxL wr a n cap l) := HP.out.below (hN ▸ HB.out)
      obtain ⟨b, o, rfl, hc⟩ := HLE.out.row.at k hlt
      obtain ⟨x, hx⟩ : ∃ x, x = l.getD k default := ⟨_, rfl⟩
      change wr.rangeAt b (o + k * 3) (TxR.cs (l.getD k default)) at hc
      rw [← hx] at hc
      have HX : Hid (x = l.getD k default) := hx
      have HC : Hid (wr.rangeAt b (o + k * 3) x.cs) := hc
      have HKM : Hid (k < M.length) := show _ < _ by omega
      have HKL : Hid (k < l.length) := show _ < _ by rw [HP.out.row.len]; exact hlt
      clear hc hx
      go_upto_region 5 with (first
        | (refine wpList_load_mid rfl 61 _ rfl b (o + k * 3) rfl x.cs _ HC.out HDI.out HRI.out (sizeTx x) ?_)
        | (refine wpList_store_fresh rfl 61 _ _ rfl x.cs _ 61 rfl rfl (sizeTxa x) (zsizeTx x) x.cs_all ?_; intro w2 HB2 Hb2))
      have HG2 : Hid (Blk w2 N (flatE M)) := HG.out.below Hb2.out hNk
      have HB02 : Hid (Below N w w2) := HB.out.trans (Hb2.out.mono (by omega))
      have HXT : Hid (TxAt w2 x.v x.t) := by
        have := (HLE.out.below Hb2.out).each x (by rw [HX.out]; exact memD _ HKL.out)
        exact this
      have HKW : Hid (Kw w2) := HK.out.below HB02.out (by omega)
      have HPT : Hid (w2.rangeAt wr.heap.size 0 x.cs) := HB2.out.whole
      have hs2 := Hb2.out.size
      have HCALL : Hid (Calls Tryz.prog 86 #[.agg x.cs.toArray] w2 fun e w' => e = .returned (.agg (idH x.t).cs.toArray) ∧ Below w2.heap.size w2 w') := id_any x.v x.t w2 HXT.out HKW.out
      go_upto_region 6 with (first
        | (refine wpList_load_mid rfl 61 _ rfl wr.heap.size 0 rfl x.cs _ HPT.out HDI.out HRI.out (sizeTx x) ?_)
        | fail)
      refine Calls.mono HCALL.out ?_
      rintro e w3 ⟨rfl, hb3⟩
      have HG3 : Hid (Blk w3 N (flatE M)) := HG2.out.below hb3 HG2.out.lt
      have HB03 : Hid (Below N w w3) := HB02.out.trans (hb3.mono (by omega))
      have HTH : Hid (w3.there N (k * 32) (idH x.t).cs.toArray.size) := by
        show w3.there _ _ _
        rw [List.size_toArray, H32.cs_length]; exact HG3.out.thereE k HKM.out
      clear hb3 HCALL HPT HKW HXT HB02 HG2 HB2 Hb2 HC HLE
      go_upto_region 6 with (refine wpList_store_mid rfl 23 _ _ rfl N (k * 32) (idH x.t).cs.toArray rfl rfl HTH.out (sizeHa (idH x.t)) (idH x.t).cs_all ?_)
      have HG4 : Hid (Blk (w3.setCells N (k * 32) (idH x.t).cs) N (flatE (M.set k (idH x.t)))) := HG3.out.setE k (idH x.t) HKM.out
      have HB4 : Hid (Below N w (w3.setCells N (k * 32) (idH x.t).cs)) := below_setCells (Nat.le_refl _) _ HB03.out _
      generalize w3.setCells N (k * 32) (idH x.t).cs = w4 at *
      go_wp2_with fail
      go_roundw
      case rel =>
        refine ⟨k + 1, M.set k (idH x.t), by omega, by go_num, by rw [List.length_set]; exact hM, ?_, HG4.out, HB4.out, HG4.out.lt⟩
        have := take_set_next M (l.map fun r => idH r.t) k default HKM.out (by rw [List.length_map]; exact HKL.out) HT.out
        have e : (l.map fun r => idH r.t).getD k default = idH x.t := by
          rw [HX.out, List.getD_eq_getElem?_getD, List.getElem?_map, List.getD_eq_getElem?_getD, List.getElem?_eq_getElem HKL.out]; rfl
        rw [e] at this
        exact this
      case measure => simp [intOf]; omega
    · obtain rfl : k = n := by omega
      have HE : Hid (M = l.map fun r => idH r.t) := take_all hM (by rw [List.length_map]; exact HP.out.row.len) HT.out
      go_wp2_with fail
      go_ret
      subst hN
      exact ⟨_, rfl, HE.out ▸ HG.out, Nat.le_refl _, HB.out⟩
end Go.Proofs.YtlaifphedhaemaaGreatDoor
