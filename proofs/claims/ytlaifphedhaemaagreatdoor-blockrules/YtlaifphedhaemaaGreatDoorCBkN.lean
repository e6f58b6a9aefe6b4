/- block.Decode. -/
import Derived.Test.YtlaifphedhaemaaGreatDoorCBkM
namespace Go.Proofs.YtlaifphedhaemaaGreatDoor
open Go.ChangeShapes Go.WideShapes Go.ChangeAt Go.RowKit

/-- One transaction of a block: what its text is. -/
def rOne (s : RS) : (TxD × Int) × RS := (decT (strB (rX s).1), (rX s).2)
/-- The numbers and transactions of a block, as they are read. -/
def rCnt (bs : List (BitVec 8)) : Int × RS := rC (rHd (bs, false)).2 100
def rTxs (bs : List (BitVec 8)) : List (TxD × Int) × RS := rMany rOne (rCnt bs).1.toNat (rCnt bs).2
def decK (bs : List (BitVec 8)) : (Hd × List TxD) × Int :=
  if (rTxs bs).1.all (fun p => p.2 == 0) = true ∧ rD (rTxs bs).2 = true ∧ chkB (rHd (bs, false)).1 ((rTxs bs).1.map Prod.fst) = 0 then (((rHd (bs, false)).1, (rTxs bs).1.map Prod.fst), 0) else ((default, []), 2)
def Read (w' : World) (N : Nat) (bs : List (BitVec 8)) (e : Ending) : Prop :=
  ∃ a n c l', e = .returned (.tuple #[.agg (blkCs (decK bs).1.1 a n c).toArray, .int .i64 (decK bs).2]) ∧ TxL w' a n c l' ∧ l'.map TxR.t = (decK bs).1.2 ∧ TxsNew N a l'
theorem rN_le (s : RS) : (rN s).2.1.length ≤ s.1.length := by
  unfold rN
  split
  · simp
  · exact Nat.zero_le _
theorem rT_le (s : RS) (n : Int) : (rT s n).2.1.length ≤ s.1.length ∧ (rT s n).1.length ≤ s.1.length := by
  unfold rT
  split
  · simp; omega
  · exact ⟨Nat.zero_le _, Nat.zero_le _⟩
theorem rC_le (s : RS) (m : Int) : (rC s m).2.1.length ≤ s.1.length := by
  unfold rC
  split
  · exact rN_le s
  · exact Nat.zero_le _
theorem rHd_le (s : RS) : (rHd s).2.1.length ≤ s.1.length := by
  show (rN (rN (rH (rH s).2).2).2).2.1.length ≤ _
  exact Nat.le_trans (rN_le _) (Nat.le_trans (rN_le _) (Nat.le_trans (rT_le _ 32).1 (rT_le s 32).1))
theorem rX_le (s : RS) : (rX s).2.1.length ≤ s.1.length ∧ (strB (rX s).1).length ≤ s.1.length := by
  refine ⟨Nat.le_trans (rT_le _ _).1 (rN_le s), ?_⟩
  show (strB (ofB (rT (rN s).2 (rN s).1).1)).length ≤ _
  rw [strB_ofB]
  exact Nat.le_trans (rT_le _ _).2 (rN_le s)
theorem rMany_le {α : Type} (f : RS → α × RS) (hf : ∀ s, (f s).2.1.length ≤ s.1.length) (k : Nat) (s : RS) : (rMany f k s).2.1.length ≤ s.1.length := by
  induction k with
  | zero => exact Nat.le_refl _
  | succ k ih => exact Nat.le_trans (hf _) ih
theorem rMany_take {α : Type} (f : RS → α × RS) (n k : Nat) (s : RS) (h : k ≤ n) : (rMany f n s).1.take k = (rMany f k s).1 := by
  induction n with
  | zero => obtain rfl : k = 0 := by omega
            rfl
  | succ n ih =>
    by_cases e : k = n + 1
    · subst e; rw [List.take_of_length_le (by rw [rMany_length]; exact Nat.le_refl _)]
    · rw [rMany, List.take_append_of_le_length (by rw [rMany_length]; omega), ih (by omega)]
theorem all_false_of {l : List (TxD × Int)} {k : Nat} {p : TxD × Int} (h : l[k]? = some p) (hp : p.2 ≠ 0) : l.all (fun p => p.2 == 0) = false := by
  rw [List.all_eq_false]
  exact ⟨p, List.mem_of_getElem? h, by simpa using hp⟩

set_option maxRecDepth 100000 in
set_option maxHeartbeats 8000000 in
theorem bdecode_any (v : Value) (bs : List (BitVec 8)) (w : World) (h : SrcB w v bs) (hl : bs.length ≤ 900000) (hK : Kw w) :
    Calls Tryz.prog 11 #[v] w fun e w' => Read w' w.heap.size bs e ∧ Below w.heap.size w w' := by
  obtain ⟨dT, HDT, HRT⟩ := und_tx
  obtain ⟨dB, HDB, HRB⟩ := undBk
  obtain ⟨i0, hi0, hi1, hi2, hi3⟩ := info_parts Tryz.infoTx
  have HREAD : Hid (∀ w, SrcB w v bs → Calls Tryz.prog 36 #[v] w fun e w' => ∃ R, e = .returned (.pointer (some ⟨R, 0, none⟩)) ∧ w.heap.size ≤ R ∧ Rd w' R w'.heap.size (bs, false) ∧ Below w.heap.size w w') := fun w h => reader_any v bs w h hl
  have HSRC : Hid (∀ w', Below w.heap.size w w' → SrcB w' v bs) := fun w' hb => h.below hb
  have HK : Hid (Kw w) := hK
  have hpos := hK.pos
  clear h hK
  go_enter Tryz.func11, Tryz.ntmps11
  go_upto_region 1 with fail
  refine wp_scope_hops 1 ?_
  go_hide hQ
  generalize hwv : World.alloc w _ = w1
  have HB0 : Hid (Blk w1 w.heap.size (blkCs default none 0 0)) := by rw [← hwv]; exact Blk.mk _ _ _ rfl rfl
  have HBL : Hid (Below w.heap.size w w1) := by rw [← hwv]; exact (Below.refl _ _).alloc (Nat.le_refl _) _
  clear hwv
  have hT1 := HB0.out.lt
  generalize hT : w.heap.size = T at *
  go_wp2_with fail
  refine Calls.mono (HREAD.out w1 (HSRC.out w1 HBL.out)) ?_
  rintro e w2 ⟨R, rfl, hR0, hR2, hb2⟩
  obtain ⟨N, hNN⟩ : ∃ N, N = w2.heap.size := ⟨_, rfl⟩
  rw [← hNN] at hR2
  have HR2 : Hid (Rd w2 R N (bs, false)) := hR2
  have HB2 : Hid (Blk w2 T (blkCs default none 0 0)) := HB0.out.below hb2 hT1
  have HBL2 : Hid (Below T w w2) := HBL.out.trans (hb2.mono (by omega))
  have hT2 := HB2.out.lt
  have hs2 := hb2.size
  have hRl := hR2.lt
  have hRT : R ≠ T := by omega
  have hRN : R < N := by omega
  have hTR : T < R := by omega
  have hN2 : N ≤ w2.heap.size := by omega
  clear hR2 hb2 HB0 HBL HREAD HSRC hNN
  go_wp2_with fail
  refine Calls.mono (rhead_any R N (bs, false) w2 HR2.out) ?_
  rintro e w3 ⟨rfl, hr3, hk3⟩
  have HCT : Hid (rCnt bs = rC (rHd (bs, false)).2 100) := show _ = _ from rfl
  have HDK : Hid (decK bs = if (rTxs bs).1.all (fun p => p.2 == 0) = true ∧ rD (rTxs bs).2 = true ∧ chkB (rHd (bs, false)).1 ((rTxs bs).1.map Prod.fst) = 0 then (((rHd (bs, false)).1, (rTxs bs).1.map Prod.fst), 0) else ((default, []), 2)) := show _ = _ from rfl
  have HR3 : Hid (Rd w3 R N (rHd (bs, false)).2) := hr3
  have HB3 : Hid (Blk w3 T (blkCs default none 0 0)) := HB2.out.keep hk3 (by omega)
  have HBL3 : Hid (Below T w w3) := HBL2.out.trans (hk3.below (by omega) (by omega))
  have hs3 := hk3.size
  clear hr3 hk3 HB2 HBL2 HR2
  obtain ⟨H, hH⟩ : ∃ H, H = (rHd (bs, false)).1 := ⟨_, rfl⟩
  rw [← hH] at HDK ⊢
  clear hH
  have HL3 : Hid ((rHd (bs, false)).2.1.length ≤ 900000) := Nat.le_trans (rHd_le (bs, false)) hl
  generalize (rHd (bs, false)).2 = s3 at *
  have hb1 : Hid (Tryz.prog.built 28 [(0, .agg H.cs.toArray)] = some (blkCs H none 0 0).toArray) := built_bkH H
  obtain ⟨Z, hZ⟩ : ∃ Z, Z = blkCs H none 0 0 := ⟨_, rfl⟩
  rw [← hZ] at hb1
  have HZE : Hid (Z = blkCs H none 0 0) := hZ
  have HZS : Hid ((Tryz.prog.info? 28).map (·.size) = some Z.length ∧ (Tryz.prog.info? 28).map (·.size) = some Z.toArray.size ∧ (blkCs default none 0 0).toArray.size = Z.toArray.size ∧ Z.toArray.all (·.oneCell') = true) := by
    rw [hZ]; exact ⟨sizeBk _ _ _ _, sizeBka _ _ _ _, by simp [blkCs_length], blkCs_all _ _ _ _⟩
  clear hZ
  go_upto_region 3 with (first
    | (refine wpList_bld rfl 28 _ rfl _ _ hb1.out (by rw [Array.toList_map]; rfl) ?_)
    | (refine wpList_store_fresh rfl 28 _ _ rfl Z _ 28 rfl rfl HZS.out.2.1 HZS.out.2.2.1 HZS.out.2.2.2 ?_; intro w4 HG4 Hb4))
  have HR4 : Hid (Rd w4 R N s3) := HR3.out.below Hb4.out
  have HB4 : Hid (Blk w4 T (blkCs default none 0 0)) := HB3.out.below Hb4.out HB3.out.lt
  have HBL4 : Hid (Below T w w4) := HBL3.out.trans (Hb4.out.mono (by omega))
  have hs4 := Hb4.out.size
  have hG4l := HG4.out.lt
  have hGN : N ≤ w3.heap.size := by omega
  generalize hG : w3.heap.size = G at *
  have hGT : T < G := by omega
  clear Hb4 HR3 HB3 HBL3 hb1
  go_wp2_with fail
  refine Calls.mono (rcount_any R N s3 100 w4 HR4.out) ?_
  rintro e w5 ⟨rfl, hr5, hk5⟩
  rw [← HCT.out] at hr5 ⊢
  have hrr := rC_range s3 100 (by omega)
  rw [← HCT.out] at hrr
  have HTS : Hid (rTxs bs = rMany rOne (rCnt bs).1.toNat (rCnt bs).2) := show _ = _ from rfl
  obtain ⟨n, hn⟩ : ∃ n : Nat, (rCnt bs).1 = (n : Int) := ⟨(rCnt bs).1.toNat, by omega⟩
  rw [hn] at HTS hrr ⊢
  rw [Int.toNat_natCast] at HTS
  have HLC : Hid ((rCnt bs).2.1.length ≤ 900000) := by rw [HCT.out]; exact Nat.le_trans (rC_le s3 100) HL3.out
  generalize (rCnt bs).2 = s5 at *
  have hn100 : n ≤ 100 := by omega
  have HR5 : Hid (Rd w5 R N s5) := hr5
  have HB5 : Hid (Blk w5 T (blkCs default none 0 0)) := HB4.out.keep hk5 (by omega)
  have HG5 : Hid (Blk w5 G Z) := HG4.out.keep hk5 (by omega)
  have HBL5 : Hid (Below T w w5) := HBL4.out.trans (hk5.below (by omega) (by omega))
  have hs5 := hk5.size
  clear hr5 hk5 HB4 HBL4 HR4 HG4 hrr hn HCT
  go_wp2_with (at_make; refine wpList_make_full _ rfl _ _ 26 rfl w5.heap.size 61 i0 (.agg (default : TxR).cs.toArray) 3 Tryz.underlying26 hi0 hi1 hi2 .i64 .i64 _ _ n rfl rfl rfl rfl (by rw [hi3]; omega) (by unfold maxLen; omega) (Nat.le_refl _) ?_)
  intro w6 hown hgrow
  have hb6 : Below w5.heap.size w5 w6 := (Below.refl _ w5).grown hgrow (Nat.le_refl _) (by simp)
  have HM6 : Hid (Blk w6 w5.heap.size (flatE (List.replicate n (default : TxR)))) := by
    refine ⟨61, ?_⟩
    rw [← madeE (default : TxR) n (by decide)]
    exact Blk.made hown
  clear hown hgrow hi0 hi1 hi2 hi3
  have HR6 : Hid (Rd w6 R N s5) := HR5.out.below hb6
  have HB6 : Hid (Blk w6 T (blkCs default none 0 0)) := HB5.out.below hb6 HB5.out.lt
  have HG6 : Hid (Blk w6 G Z) := HG5.out.below hb6 HG5.out.lt
  have HBL6 : Hid (Below T w w6) := HBL5.out.trans (hb6.mono (by omega))
  have hs6 := hb6.size
  have hg6 := HM6.out.lt
  have hgG : G < w5.heap.size := HG5.out.lt
  clear hb6 HR5 HB5 HG5 HBL5
  generalize hgg : w5.heap.size = g at *
  have c66 : w6.cell? ⟨G, 66, none⟩ = some (.slice none 0 0) := HG6.out.one (by rw [HZE.out]; exact blkCs_txs _ _ _ _)
  have f66 : w6.frozen? ⟨G, 66, none⟩ = false := HG6.out.frozen 66
  go_upto_region 4 with fail
  have HG7 : Hid (Blk (w6.setCell ⟨G, 66, none⟩ (.slice (some ⟨g, 0, none⟩) n n)) G (blkCs H (some ⟨g, 0, none⟩) n n)) := by
    have := HG6.out.set 66 (.slice (some ⟨g, 0, none⟩) n n)
    rw [HZE.out, blkCs_set_txs] at this
    exact this
  have HB7 : Hid (Blk (w6.setCell ⟨G, 66, none⟩ (.slice (some ⟨g, 0, none⟩) n n)) T (blkCs default none 0 0)) := HB6.out.other (by simp; omega) _
  have HM7 : Hid (Blk (w6.setCell ⟨G, 66, none⟩ (.slice (some ⟨g, 0, none⟩) n n)) g (flatE (List.replicate n (default : TxR)))) := HM6.out.other (by simp; omega) _
  have HR7 : Hid (Rd (w6.setCell ⟨G, 66, none⟩ (.slice (some ⟨g, 0, none⟩) n n)) R N s5) := HR6.out.kept (by simp [World.setCell]) (Below.heap_setCell _ _ _ _ (by simp; omega)) fun b hb _ => Below.heap_setCell _ _ _ _ (by simp; omega)
  have HBL7 : Hid (Below T w (w6.setCell ⟨G, 66, none⟩ (.slice (some ⟨g, 0, none⟩) n n))) := HBL6.out.setCell (by simp; omega) _
  generalize w6.setCell ⟨G, 66, none⟩ (.slice (some ⟨g, 0, none⟩) n n) = w7 at *
  clear HG6 HB6 HM6 HR6 HBL6 c66 f66 HZS HZE
  have c66 : w7.cell? ⟨G, 66, none⟩ = some (.slice (some ⟨g, 0, none⟩) n n) := HG7.out.one (blkCs_txs _ _ _ _)
  go_wp2_with fail
  clear c66
  have HDKB : Hid (∀ k p, k < n → (rMany rOne (k + 1) s5).1[k]? = some p → p.2 ≠ 0 → decK bs = ((default, []), 2)) := fun k p hk hp h0 => by
    have : (rTxs bs).1.all (fun p => p.2 == 0) = false := all_false_of (k := k) (by
      rw [HTS.out, ← hp, ← rMany_take rOne n (k + 1) s5 hk, List.getElem?_take, if_pos (by omega)]) h0
    rw [HDK.out, this]; simp
  go_loopw [6, 21] (fun _ i wr => ∃ (k : Nat) (M : List TxR), k ≤ n ∧ i = .int .i64 k ∧ M.length = n ∧ Hid ((M.take k).map TxR.t = (rMany rOne k s5).1.map Prod.fst) ∧ Hid ((rMany rOne k s5).1.all (fun p => p.2 == 0) = true) ∧ Hid (∀ r ∈ M.take k, TxAt wr r.v r.t ∧ TxNew (g + 1) r.v) ∧ Hid (Blk wr g (flatE M)) ∧ Hid (Rd wr R N (rMany rOne k s5).2) ∧ Hid (Blk wr G (blkCs H (some ⟨g, 0, none⟩) n n)) ∧ Hid (Blk wr T (blkCs default none 0 0)) ∧ Hid (Below T w wr) ∧ g < wr.heap.size) (fun _ i _ => n - (intOf i).toNat)
  case atStart => exact ⟨0, List.replicate n default, by omega, rfl, List.length_replicate .., rfl, rfl, (fun r hr => by simp at hr), HM7.out, HR7.out, HG7.out, HB7.out, HBL7.out, HM7.out.lt⟩
  case round =>
    obtain ⟨k, M, hk, rfl, hM, HTk, HAk, HXk, HMk, HRk, HGk, HBk, HLk, hgk⟩ := hrel
    clear HM7 HR7 HG7 HB7 HBL7
    by_cases hlt : k < n
    · have e0 : (0 : Int) ≤ (k : Int) := by omega
      have e1 : (k : Int) < (n : Int) := by omega
      have HKM : Hid (k < M.length) := show _ < _ by omega
      have HSTEP : Hid (rMany rOne (k + 1) s5 = ((rMany rOne k s5).1 ++ [(rOne (rMany rOne k s5).2).1], (rOne (rMany rOne k s5).2).2)) := show _ = _ from rfl
      have HLEN : Hid ((rMany rOne k s5).1.length = k) := rMany_length _ _ _
      obtain ⟨sk, hsk⟩ : ∃ sk, sk = (rMany rOne k s5).2 := ⟨_, rfl⟩
      have HLSK : Hid (sk.1.length ≤ 900000) := by rw [hsk]; exact Nat.le_trans (rMany_le rOne (fun s => (rX_le s).1) k s5) HLC.out
      rw [← hsk] at HRk HSTEP
      clear hsk
      go_wp2_with fail
      refine Calls.mono (rtext_any R N sk wr HRk.out) ?_
      rintro e w2 ⟨rfl, hr2, hk2⟩
      have HON : Hid (rOne sk = (decT (strB (rX sk).1), (rX sk).2)) := show _ = _ from rfl
      have HR2 : Hid (Rd w2 R N (rX sk).2) := hr2
      have HM2 : Hid (Blk w2 g (flatE M)) := HMk.out.keep hk2 (by omega)
      have HG2 : Hid (Blk w2 G (blkCs H (some ⟨g, 0, none⟩) n n)) := HGk.out.keep hk2 (by omega)
      have HB2 : Hid (Blk w2 T (blkCs default none 0 0)) := HBk.out.keep hk2 (by omega)
      have HL2 : Hid (Below T w w2) := HLk.out.trans (hk2.below (by omega) (by omega))
      have HX2 : Hid (∀ r ∈ M.take k, TxAt w2 r.v r.t ∧ TxNew (g + 1) r.v) := fun r hr => ⟨(HXk.out r hr).1.keepR hk2 (HXk.out r hr).2 (by omega), (HXk.out r hr).2⟩
      have hz2 := hk2.size
      have HTL : Hid ((strB (rX sk).1).length ≤ 900000) := Nat.le_trans (rX_le sk).2 HLSK.out
      clear hr2 hk2 HRk HMk HGk HBk HLk HXk
      generalize (rX sk).2 = s6 at *
      generalize (rX sk).1 = tx at *
      go_wp2_with (refine wpList_toBytes rfl _ rfl tx rfl ?_; intro b3 c3 w3 HS3 Hb3)
      refine (decode_any (.slice (some ⟨b3, 0, none⟩) tx.size c3) (strB tx) w3 HS3.out HTL.out).mono ?_
      rintro e w4 ⟨tv, rfl, hta, htn, hb4⟩
      have hz3 := Hb3.out.size
      have hz4 := hb4.size
      have HR4 : Hid (Rd w4 R N s6) := (HR2.out.below Hb3.out).below hb4
      have HM4 : Hid (Blk w4 g (flatE M)) := (HM2.out.below Hb3.out (by omega)).below hb4 (by omega)
      have HG4 : Hid (Blk w4 G (blkCs H (some ⟨g, 0, none⟩) n n)) := (HG2.out.below Hb3.out (by omega)).below hb4 (by omega)
      have HB4 : Hid (Blk w4 T (blkCs default none 0 0)) := (HB2.out.below Hb3.out (by omega)).below hb4 (by omega)
      have HL4 : Hid (Below T w w4) := (HL2.out.trans (Hb3.out.mono (by omega))).trans (hb4.mono (by omega))
      have HX4 : Hid (∀ r ∈ M.take k, TxAt w4 r.v r.t ∧ TxNew (g + 1) r.v) := fun r hr => ⟨((HX2.out r hr).1.below Hb3.out).below hb4, (HX2.out r hr).2⟩
      clear HR2 HM2 HG2 HB2 HL2 HX2 Hb3 HS3 hb4
      obtain ⟨td, htd⟩ : ∃ td, td = (decT (strB tx)).1 := ⟨_, rfl⟩
      obtain ⟨te, hte⟩ : ∃ te, te = (decT (strB tx)).2 := ⟨_, rfl⟩
      rw [← htd] at hta ⊢
      rw [← hte]
      have HDE : Hid (decT (strB tx) = (td, te)) := show _ = _ by rw [htd, hte]
      obtain ⟨y, hy⟩ : ∃ y : TxR, y = ⟨tv, td⟩ := ⟨_, rfl⟩
      have HYV : Hid (tv.val td.lock = .agg y.cs.toArray) := show _ = _ by rw [hy]; rfl
      rw [HYV.out]
      have HYT : Hid (y.t = td) := show _ = _ by rw [hy]
      have HYA : Hid (TxAt w4 y.v y.t ∧ TxNew (g + 1) y.v) := by
        rw [hy]; exact ⟨hta, ⟨fun z hz => by have := htn.1 z hz; omega, fun z hz => by have := htn.2 z hz; omega⟩⟩
      clear hta htn htd hte hy HYV
      go_upto_region 8 with (refine wpList_store_fresh rfl 61 _ _ rfl y.cs _ 61 rfl rfl (sizeTxa y) (zsizeTx y) y.cs_all ?_; intro w5 HU5 Hb5)
      have hz5 := Hb5.out.size
      have HR5 : Hid (Rd w5 R N s6) := HR4.out.below Hb5.out
      have HM5 : Hid (Blk w5 g (flatE M)) := HM4.out.below Hb5.out (by omega)
      have HG5 : Hid (Blk w5 G (blkCs H (some ⟨g, 0, none⟩) n n)) := HG4.out.below Hb5.out (by omega)
      have HB5 : Hid (Blk w5 T (blkCs default none 0 0)) := HB4.out.below Hb5.out (by omega)
      have HL5 : Hid (Below T w w5) := HL4.out.trans (Hb5.out.mono (by omega))
      have HX5 : Hid (∀ r ∈ M.take k, TxAt w5 r.v r.t ∧ TxNew (g + 1) r.v) := fun r hr => ⟨(HX4.out r hr).1.below Hb5.out, (HX4.out r hr).2⟩
      have HY5 : Hid (TxAt w5 y.v y.t ∧ TxNew (g + 1) y.v) := ⟨HYA.out.1.below Hb5.out, HYA.out.2⟩
      have HLU : Hid (w5.rangeAt w4.heap.size 0 y.cs) := HU5.out.whole
      clear HR4 HM4 HG4 HB4 HL4 HX4 HYA Hb5 HU5
      by_cases hte : te = 0
      · subst hte
        have c66 : w5.cell? ⟨G, 66, none⟩ = some (.slice (some ⟨g, 0, none⟩) n n) := HG5.out.one (blkCs_txs _ _ _ _)
        have HTH : Hid (w5.there g (k * 3) y.cs.toArray.size) := by
          show w5.there _ _ _
          rw [List.size_toArray, TxR.cs_length]; exact HM5.out.thereE k HKM.out
        go_upto_region 10 with (first
          | (refine wpList_load_mid rfl 61 _ rfl w4.heap.size 0 rfl y.cs _ HLU.out HDT.out HRT.out (sizeTx y) ?_)
          | (refine wpList_store_mid rfl 61 _ _ rfl g (k * 3) y.cs.toArray rfl rfl HTH.out (sizeTxa y) y.cs_all ?_))
        have hzs : w5.heap.size ≤ (w5.setCells g (k * 3) y.cs).heap.size := ((Keep.refl g w5).setCells y.cs (k * 3)).size
        have HKS : Hid (∀ b, b ≠ g → (w5.setCells g (k * 3) y.cs).heap[b]? = w5.heap[b]?) := fun b hb => heap_setCells _ _ _ _ _ hb
        have HM6 : Hid (Blk (w5.setCells g (k * 3) y.cs) g (flatE (M.set k y))) := HM5.out.setE k y HKM.out
        have HL6 : Hid (Below T w (w5.setCells g (k * 3) y.cs)) := below_setCells (by omega) _ HL5.out _
        have HR6 : Hid (Rd (w5.setCells g (k * 3) y.cs) R N s6) := HR5.out.kept hzs (HKS.out R (by omega)) fun b hb _ => HKS.out b (by omega)
        have HG6 : Hid (Blk (w5.setCells g (k * 3) y.cs) G (blkCs H (some ⟨g, 0, none⟩) n n)) := by
          obtain ⟨t, ht⟩ := HG5.out
          exact ⟨t, by rw [HKS.out G (by omega)]; exact ht⟩
        have HB6 : Hid (Blk (w5.setCells g (k * 3) y.cs) T (blkCs default none 0 0)) := by
          obtain ⟨t, ht⟩ := HB5.out
          exact ⟨t, by rw [HKS.out T (by omega)]; exact ht⟩
        have HTE : Hid ((M.set k y).take (k + 1) = M.take k ++ [y]) := show _ = _ by
          rw [List.take_add_one, List.take_set_of_le (Nat.le_refl k), List.getElem?_set_self HKM.out]; rfl
        have HX6 : Hid (∀ r ∈ (M.set k y).take (k + 1), TxAt (w5.setCells g (k * 3) y.cs) r.v r.t ∧ TxNew (g + 1) r.v) := fun r hr => by
          rw [HTE.out] at hr
          rcases List.mem_append.1 hr with hr | hr
          · exact ⟨(HX5.out r hr).1.kept (HX5.out r hr).2 fun b hb => HKS.out b (by omega), (HX5.out r hr).2⟩
          · rw [List.mem_singleton] at hr
            rw [hr]; exact ⟨HY5.out.1.kept HY5.out.2 fun b hb => HKS.out b (by omega), HY5.out.2⟩
        generalize w5.setCells g (k * 3) y.cs = w6 at *
        go_wp2_with fail
        go_roundw
        case rel =>
          refine ⟨k + 1, M.set k y, by omega, by go_num, by rw [List.length_set]; exact hM, ?_, ?_, HX6.out, HM6.out, ?_, HG6.out, HB6.out, HL6.out, HM6.out.lt⟩
          · show _ = _
            rw [HTE.out, List.map_append, HTk.out, HSTEP.out, List.map_append]
            show _ ++ [y.t] = _ ++ [(rOne sk).1.1]
            rw [HON.out, HDE.out, HYT.out]
          · show _ = _
            rw [HSTEP.out, List.all_append, HAk.out, HON.out, HDE.out]; rfl
          · show Rd _ _ _ _
            rw [HSTEP.out, HON.out]; exact HR6.out
        case measure => simp [intOf]; omega
      · have HTEN : Hid (¬ te = 0) := hte
        have HDV : Hid (decK bs = ((default, []), 2)) := HDKB.out k (td, te) hlt (by rw [HSTEP.out, HON.out, HDE.out, List.getElem?_append_right (by rw [HLEN.out]; exact Nat.le_refl _), HLEN.out, Nat.sub_self]; rfl) HTEN.out
        obtain ⟨t, ht⟩ := HB5.out
        have HT : Hid (w5.heap[T]? = some (.cells (blkCs default none 0 0).toArray t (0, 0))) := ht
        have I28 : Hid ((Tryz.prog.info? 28).map (·.size) = some (blkCs default none 0 0).toArray.size) := sizeBka _ _ _ _
        clear ht
        go_wp2_with fail
        go_step3
        subst hQ
        refine show hops _ _ _ 1 (Exit.goto 0) _ _ from ?_
        rw [hops_goto]
        refine ⟨_, rfl, ?_⟩
        go_hide hQ
        go_wp2_with (refine wpList_store_row rfl 28 _ _ rfl T (blkCs default none 0 0).toArray rfl rfl t _ HT.out I28.out rfl (blkCs_all _ _ _ _) ?_)
        subst hQ
        rw [hops_ret]
        refine bodyPost_ret (v := .tuple #[.agg (blkCs default none 0 0).toArray, .int .i64 2]) ?_ rfl ⟨⟨none, 0, 0, [], by rw [HDV.out], ⟨Els.nil _, (fun r hr => by cases hr)⟩, by rw [HDV.out]; rfl, ⟨(fun y hy => by cases hy), (fun r hr => by cases hr)⟩⟩, ?_⟩
        · obtain ⟨t', hb⟩ := Blk.row (ds := blkCs default none 0 0) ⟨t, HT.out⟩
          exact results_row_tmp Tryz.results11 _ _ T t' _ _ _ rfl hb Tryz.underlying28 rfl I28.out
        · subst hT; exact below_setRow HL5.out (Nat.le_refl _) _
    · obtain rfl : k = n := by omega
      have hME : M.take k = M := List.take_of_length_le (by omega)
      rw [hME] at HTk HXk
      have HMl : Hid (M.length = k) := hM
      rw [← HTS.out] at HTk HAk HRk
      have HDK2 : Hid (decK bs = if rD (rTxs bs).2 = true ∧ chkB H (M.map TxR.t) = 0 then ((H, M.map TxR.t), 0) else ((default, []), 2)) := show _ = _ by
        rw [HDK.out, HAk.out, ← HTk.out]; simp
      have HTLk : Hid (TxL wr (some ⟨g, 0, none⟩) k k M) := ⟨Els.of_blk HMk.out HMl.out (Nat.le_refl _) (by unfold maxLen; omega) (by rw [List.take_of_length_le]; rw [flatE_length, HMl.out]; exact Nat.le_refl _), fun r hr => (HXk.out r hr).1⟩
      have HNEW : Hid (TxsNew g (some ⟨g, 0, none⟩) M) := ⟨fun x hx => by injection hx with hx; rw [← hx]; exact Nat.le_refl _, fun r hr => ⟨fun x hx => by have := (HXk.out r hr).2.1 x hx; omega, fun x hx => by have := (HXk.out r hr).2.2 x hx; omega⟩⟩
      have HDONE : Hid (Calls Tryz.prog 41 #[.pointer (some ⟨R, 0, none⟩)] wr fun e w' => e = .returned (.bool (rD (rTxs bs).2)) ∧ wr = w') := rdone_any R N _ wr HRk.out
      clear HDK HDKB HTk HAk HMk HRk HTS hME hM
      generalize rD (rTxs bs).2 = d at *
      go_wp2_with fail
      refine Calls.mono HDONE.out ?_
      rintro e w5 ⟨rfl, rfl⟩
      cases d with
      | false =>
        have HDV : Hid (decK bs = ((default, []), 2)) := show _ = _ by rw [HDK2.out]; simp
        obtain ⟨t, ht⟩ := HBk.out
        have HT : Hid (wr.heap[T]? = some (.cells (blkCs default none 0 0).toArray t (0, 0))) := ht
        have I28 : Hid ((Tryz.prog.info? 28).map (·.size) = some (blkCs default none 0 0).toArray.size) := sizeBka _ _ _ _
        clear ht
        go_wp2_with fail
        go_step3
        subst hQ
        refine show hops _ _ _ 1 (Exit.goto 0) _ _ from ?_
        rw [hops_goto]
        refine ⟨_, rfl, ?_⟩
        go_hide hQ
        go_wp2_with (refine wpList_store_row rfl 28 _ _ rfl T (blkCs default none 0 0).toArray rfl rfl t _ HT.out I28.out rfl (blkCs_all _ _ _ _) ?_)
        subst hQ
        rw [hops_ret]
        refine bodyPost_ret (v := .tuple #[.agg (blkCs default none 0 0).toArray, .int .i64 2]) ?_ rfl ⟨⟨none, 0, 0, [], by rw [HDV.out], ⟨Els.nil _, (fun r hr => by cases hr)⟩, by rw [HDV.out]; rfl, ⟨(fun y hy => by cases hy), (fun r hr => by cases hr)⟩⟩, ?_⟩
        · obtain ⟨t', hb⟩ := Blk.row (ds := blkCs default none 0 0) ⟨t, HT.out⟩
          exact results_row_tmp Tryz.results11 _ _ T t' _ _ _ rfl hb Tryz.underlying28 rfl I28.out
        · subst hT; exact below_setRow HLk.out (Nat.le_refl _) _
      | true =>
        have HDK3 : Hid (decK bs = if chkB H (M.map TxR.t) = 0 then ((H, M.map TxR.t), 0) else ((default, []), 2)) := show _ = _ by rw [HDK2.out]; simp
        clear HDK2
        obtain ⟨Y, hY⟩ : ∃ Y, Y = blkCs H (some ⟨g, 0, none⟩) k k := ⟨_, rfl⟩
        have HYE : Hid (Y = blkCs H (some ⟨g, 0, none⟩) k k) := hY
        have HYS : Hid ((Tryz.prog.info? 28).map (·.size) = some Y.length ∧ (Tryz.prog.info? 28).map (·.size) = some Y.toArray.size ∧ (blkCs default none 0 0).toArray.size = Y.toArray.size ∧ Y.toArray.all (·.oneCell') = true) := by
          rw [hY]; exact ⟨sizeBk _ _ _ _, sizeBka _ _ _ _, by simp [blkCs_length], blkCs_all _ _ _ _⟩
        rw [← hY] at HGk
        have HCH : Hid (Calls Tryz.prog 16 #[.agg Y.toArray] wr fun e w' => e = .returned (.int .i64 (chkB H (M.map TxR.t))) ∧ Below wr.heap.size wr w') := by
          rw [hY]; exact bcheck_any H _ k k M wr HTLk.out (HK.out.below HLk.out hpos)
        clear hY
        generalize hz : chkB H (M.map TxR.t) = z at *
        have HLY : Hid (wr.rangeAt G 0 Y) := HGk.out.whole
        go_wp2_with (refine wpList_load_mid rfl 28 _ rfl G 0 rfl Y _ HLY.out HDB.out HRB.out HYS.out.1 ?_)
        refine Calls.mono HCH.out ?_
        rintro e w5 ⟨rfl, hb5⟩
        have HB5 : Hid (Blk w5 T (blkCs default none 0 0)) := HBk.out.below hb5 HBk.out.lt
        have HG5 : Hid (w5.rangeAt G 0 Y) := rangeAt_below HLY.out hb5 (Nat.le_refl _)
        have HL5 : Hid (Below T w w5) := HLk.out.trans (hb5.mono (by omega))
        have HT5 : Hid (TxL w5 (some ⟨g, 0, none⟩) k k M) := HTLk.out.below hb5
        clear hb5 HBk HGk HLk HTLk HLY HCH hz
        by_cases hz0 : z = 0
        · subst hz0
          have HDV : Hid (decK bs = ((H, M.map TxR.t), 0)) := show _ = _ by rw [HDK3.out, if_pos rfl]
          obtain ⟨t, ht⟩ := HB5.out
          have HT : Hid (w5.heap[T]? = some (.cells (blkCs default none 0 0).toArray t (0, 0))) := ht
          clear ht
          go_wp2_with (first
            | (refine wpList_load_mid rfl 28 _ rfl G 0 rfl Y _ HG5.out HDB.out HRB.out HYS.out.1 ?_)
            | (refine wpList_store_row rfl 28 _ _ rfl T Y.toArray rfl rfl t _ HT.out HYS.out.2.1 HYS.out.2.2.1 HYS.out.2.2.2 ?_))
          subst hQ
          rw [hops_ret]
          refine bodyPost_ret (v := .tuple #[.agg Y.toArray, .int .i64 0]) ?_ rfl ⟨⟨some ⟨g, 0, none⟩, k, k, M, by rw [HDV.out, HYE.out], ?_, by rw [HDV.out], ?_⟩, ?_⟩
          · obtain ⟨t', hb⟩ := Blk.row (ds := Y) ⟨t, HT.out⟩
            exact results_row_tmp Tryz.results11 _ _ T t' _ _ _ rfl hb Tryz.underlying28 rfl HYS.out.2.1
          · exact HT5.out.kept HNEW.out fun b hb => by rw [heap_setRow _ _ _ _ (by omega)]
          · exact ⟨fun x hx => by have := HNEW.out.1 x hx; omega, fun r hr => ⟨fun x hx => by have := (HNEW.out.2 r hr).1 x hx; omega, fun x hx => by have := (HNEW.out.2 r hr).2 x hx; omega⟩⟩
          · subst hT; exact below_setRow HL5.out (Nat.le_refl _) _
        · have HZN : Hid (¬ z = 0) := hz0
          have HDV : Hid (decK bs = ((default, []), 2)) := show _ = _ by rw [HDK3.out, if_neg HZN.out]
          obtain ⟨t, ht⟩ := HB5.out
          have HT : Hid (w5.heap[T]? = some (.cells (blkCs default none 0 0).toArray t (0, 0))) := ht
          have I28 : Hid ((Tryz.prog.info? 28).map (·.size) = some (blkCs default none 0 0).toArray.size) := sizeBka _ _ _ _
          clear ht
          go_wp2_with fail
          go_step3
          subst hQ
          refine show hops _ _ _ 1 (Exit.goto 0) _ _ from ?_
          rw [hops_goto]
          refine ⟨_, rfl, ?_⟩
          go_hide hQ
          go_wp2_with (refine wpList_store_row rfl 28 _ _ rfl T (blkCs default none 0 0).toArray rfl rfl t _ HT.out I28.out rfl (blkCs_all _ _ _ _) ?_)
          subst hQ
          rw [hops_ret]
          refine bodyPost_ret (v := .tuple #[.agg (blkCs default none 0 0).toArray, .int .i64 2]) ?_ rfl ⟨⟨none, 0, 0, [], by rw [HDV.out], ⟨Els.nil _, (fun r hr => by cases hr)⟩, by rw [HDV.out]; rfl, ⟨(fun y hy => by cases hy), (fun r hr => by cases hr)⟩⟩, ?_⟩
          · obtain ⟨t', hb⟩ := Blk.row (ds := blkCs default none 0 0) ⟨t, HT.out⟩
            exact results_row_tmp Tryz.results11 _ _ T t' _ _ _ rfl hb Tryz.underlying28 rfl I28.out
          · subst hT; exact below_setRow HL5.out (Nat.le_refl _) _
end Go.Proofs.YtlaifphedhaemaaGreatDoor
