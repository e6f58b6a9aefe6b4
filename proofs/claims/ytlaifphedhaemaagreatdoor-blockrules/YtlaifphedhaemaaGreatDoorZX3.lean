/- tx.ID. The double sum of the law's own transaction is not nought. No program, no conditions. The library's contract of slices.Equal, laid at this program: inputs and outputs. No conditions. Inputs and outputs compared; slices.Equal at them; tx.Same. tx.Wit, tx.Weight, tx.Spends, tx.Same. What the document fixes of tx: the law's own test holds. Rows of elements of several cells each, of the call's own, that grow by append. No program's text is walked here. A slice that is kept in a cell of a block, and grows by append. No program's text is walked here. -/
import Derived.Test.YtlaifphedhaemaaGreatDoorZX2
import Derived.Test.YtlaifphedhaemaaGreatDoorZS3
import Derived.Test.YtlaifphedhaemaaGreatDoorZS2
import Derived.Test.YtlaifphedhaemaaGreatDoorChecked
import Derived.Shelf.SlicesQ.Equal
import Derived.Test.YtlaifphedhaemaaGreatDoorZX1
import Derived.Great.BuildSlice
namespace Go.Proofs.YtlaifphedhaemaaGreatDoor
open Go.ChangeShapes Go.WideShapes Go.ChangeAt Go.RowKit

/-- A transaction's number. -/
def idB (t : TxD) : List (BitVec 8) := if chkE t = 0 then sum (sum (bodyB t)) else zeros32
theorem idB_length (t : TxD) : (idB t).length = 32 := by
  unfold idB; split
  · exact sum_length _
  · rfl
theorem OwnB.bytes {w : World} {B : Nat} {v : Value} {bs : List (BitVec 8)} (h : OwnB w B v bs) : ∃ a cap, v = .slice a bs.length cap ∧ Bytes w a cap bs := by
  have h0 := h
  rcases h.2 with ⟨rfl, hn⟩ | ⟨g, cap, cur, rfl, _, _, hnc, hcm, _⟩
  · obtain rfl := List.eq_nil_of_length_eq_zero hn
    exact ⟨none, 0, rfl, ⟨Nat.le_refl _, Nat.zero_le _, fun e => absurd rfl e⟩⟩
  · refine ⟨_, _, rfl, ⟨hnc, hcm, fun _ => ⟨g, 0, rfl, fun j hj => ?_⟩⟩⟩
    have := World.ownsRow.cells h0 (g := g) rfl j _ (u8s_get bs j hj)
    rwa [Addr.add_mid] at this
theorem bodyB_length (t : TxD) (h : t.ins.length ≤ 100) (h' : t.outs.length ≤ 100) : (bodyB t).length ≤ 20000 := by
  have h1 := flatMap_length inB 50 inB_length t.ins
  have h2 := flatMap_length outB 95 outB_length t.outs
  have h3 := numB_length t.ins.length
  have h4 := numB_length t.outs.length
  have h5 := numB_length t.lock
  unfold bodyB
  simp only [List.length_append]; omega
theorem chk_small {t : TxD} (h : chkE t = 0) : t.ins.length ≤ 100 ∧ t.outs.length ≤ 100 := by
  by_cases hb : 100 < t.ins.length ∨ 100 < t.outs.length
  · rw [chk_big hb] at h; cases h
  · omega
theorem size_h (h : List (BitVec 8)) (hl : h.length = 32) : (Tryz.prog.info? 23).map (·.size) = some (u8s h).toArray.size := by
  rw [show (u8s h).toArray.size = 32 by simp [hl]]; kernel_rfl
theorem zh_size (h : List (BitVec 8)) (hl : h.length = 32) : (u8s zeros32).toArray.size = (u8s h).toArray.size := by simp [hl, zeros32]

set_option maxRecDepth 100000 in
set_option maxHeartbeats 4000000 in
theorem id_any (tv : TxV) (t : TxD) (w : World) (hT : TxAt w tv t) (hK : Kw w) :
    Calls Tryz.prog 86 #[tv.val t.lock] w fun e w' => e = .returned (.agg (u8s (idB t)).toArray) ∧ Below w.heap.size w w' := by
  have HUH : Hid (_ = _) := Tryz.underlying23
  have HT : Hid (TxAt w tv t) := hT
  have HK : Hid (Kw w) := hK
  have hpos := hK.pos
  have HLI : Hid (t.ins.length = tv.n) := hT.ins.len
  have HLO : Hid (t.outs.length = tv.m) := hT.outs.len
  clear hT hK
  obtain ⟨lk, hlk⟩ : ∃ z, z = t.lock := ⟨_, rfl⟩
  have HLK : Hid (lk = t.lock) := hlk
  have HCHK : Hid (∀ w', TxAt w' tv t → Calls Tryz.prog 64 #[tv.val lk] w' fun e w'' => e = .returned (.int .i64 (chkE t)) ∧ Below w'.heap.size w' w'') := fun w' h => by rw [hlk]; exact check_any tv t w' h
  have HBODY : Hid (∀ (R N : Nat) (w1 : World), Wr w1 R N (.slice none 0 0) [] → w.heap.size ≤ R → Below w.heap.size w w1 → tv.n ≤ 100 → tv.m ≤ 100 → Calls Tryz.prog 65 #[.pointer (some ⟨R, 0, none⟩), tv.val lk] w1 fun e w' => e = .returned (.tuple #[]) ∧ ∃ v', Wr w' R N v' (bodyB t) ∧ Grew R (.slice none 0 0) v' w1 w') := fun R N w1 h1 h2 h3 h4 h5 => by
    rw [hlk]
    have := wbody_any R N (.slice none 0 0) [] tv t w1 w h1 HT.out h2 h3 h4 h5 (by simp)
    simpa using this
  rw [← hlk]
  clear hlk
  unfold TxV.val at *
  go_enter Tryz.func86, Tryz.ntmps86
  go_wp2_with fail
  refine wp_scope_hops 1 ?_
  go_hide hQ
  go_upto_region 3 with fail
  generalize hwv : World.alloc (World.alloc (World.alloc (World.alloc w _) _) _) _ = w1
  have hB0 : Blk w1 w.heap.size [.slice tv.a tv.n tv.c, .slice tv.b tv.m tv.d, .int .i64 lk] := by rw [← hwv]; exact (((Blk.mk _ _ _ rfl rfl).alloc _).alloc _).alloc _
  have hB1 : Blk w1 (w.heap.size + 1) (u8s zeros32) := by rw [← hwv]; exact ((Blk.mk _ _ _ (by simp) rfl).alloc _).alloc _
  have hB2 : Blk w1 (w.heap.size + 2) (u8s zeros32) := by rw [← hwv]; exact (Blk.mk _ _ _ (by simp) rfl).alloc _
  have hB3 : Blk w1 (w.heap.size + 3) [.slice none 0 0] := by rw [← hwv]; exact Blk.mk _ _ _ (by simp) rfl
  have hbl : Below w.heap.size w w1 := by rw [← hwv]; exact ((((Below.refl _ _).alloc (Nat.le_refl _) _).alloc (by simp) _).alloc (by simp; omega) _).alloc (by simp; omega) _
  clear hwv
  have hsz1 := hB3.lt
  have HB0 : Hid (Blk _ _ _) := hB0
  have HB1 : Hid (Blk _ _ _) := hB1
  have HB2 : Hid (Blk _ _ _) := hB2
  have HB3 : Hid (Blk _ _ _) := hB3
  have HBL : Hid (Below _ _ _) := hbl
  have c0 : w1.cell? ⟨w.heap.size, 0, none⟩ = some (.slice tv.a tv.n tv.c) := hB0.one rfl
  have c1 : w1.cell? ⟨w.heap.size, 1, none⟩ = some (.slice tv.b tv.m tv.d) := hB0.one rfl
  have c2 : w1.cell? ⟨w.heap.size, 2, none⟩ = some (.int .i64 lk) := hB0.one rfl
  clear hB0 hB1 hB2 hB3 hbl
  generalize hN : w.heap.size = T at *
  go_wp2_with fail
  refine Calls.mono (HCHK.out w1 (HT.out.below (hN ▸ HBL.out))) ?_
  rintro e w2 ⟨rfl, hb2⟩
  have HB0' : Hid (Blk _ _ _) := HB0.out.below hb2 HB0.out.lt
  have HB1' : Hid (Blk _ _ _) := HB1.out.below hb2 HB1.out.lt
  have HB2' : Hid (Blk _ _ _) := HB2.out.below hb2 HB2.out.lt
  have HB3' : Hid (Blk _ _ _) := HB3.out.below hb2 HB3.out.lt
  have HBL2 : Hid (Below T w w2) := HBL.out.trans (hb2.mono (by omega))
  have hsz2 := HB3'.out.lt
  clear hb2 c0 c1 c2 HB0 HB1 HB2 HB3 HBL hsz1
  by_cases hz : chkE t = 0
  · have HID : Hid (idB t = sum (sum (bodyB t))) := show _ = _ from if_pos hz
    obtain ⟨hi100, ho100⟩ := chk_small hz
    rw [HLI.out] at hi100
    rw [HLO.out] at ho100
    have HLB : Hid ((bodyB t).length ≤ 20000) := bodyB_length t (by rw [HLI.out]; exact hi100) (by rw [HLO.out]; exact ho100)
    rw [hz]
    have c0 : w2.cell? ⟨T, 0, none⟩ = some (.slice tv.a tv.n tv.c) := HB0'.out.one rfl
    have c1 : w2.cell? ⟨T, 1, none⟩ = some (.slice tv.b tv.m tv.d) := HB0'.out.one rfl
    have c2 : w2.cell? ⟨T, 2, none⟩ = some (.int .i64 lk) := HB0'.out.one rfl
    go_wp2_with fail
    have HWR : Hid (Wr w2 (T + 3) w2.heap.size (.slice none 0 0) []) := ⟨HB3'.out, OwnB.nil _ _, by omega, Nat.le_refl _⟩
    refine Calls.mono (HBODY.out (T + 3) w2.heap.size w2 HWR.out (by omega) HBL2.out hi100 ho100) ?_
    rintro e w3 ⟨rfl, v3, hW3, hG3⟩
    have HW3 : Hid (Wr _ _ _ _ _) := hW3
    have HB13 : Hid (Blk w3 (T + 1) (u8s zeros32)) := HB1'.out.grew hG3 (by omega) (by simp [Value.ownBlock])
    have HB23 : Hid (Blk w3 (T + 2) (u8s zeros32)) := HB2'.out.grew hG3 (by omega) (by simp [Value.ownBlock])
    have HBL3 : Hid (Below T w w3) := HBL2.out.trans (hG3.below (by omega) (by omega) (by simp [Value.ownBlock]))
    clear hW3 hG3 c0 c1 c2 HB0' HB1' HB2' HB3' HWR
    have hsz3 := HB23.out.lt
    go_wp2_with fail
    refine (wbytes_any (T + 3) _ v3 (bodyB t) w3 HW3.out (by have := HLB.out; omega)).mono ?_
    rintro e w4 ⟨v4, rfl, hO4, hb4⟩
    obtain ⟨a4, cap4, rfl, hby⟩ := hO4.bytes
    have HBY : Hid (Bytes w4 a4 cap4 (bodyB t)) := hby
    have HB14 : Hid (Blk _ _ _) := HB13.out.below hb4 HB13.out.lt
    have HB24 : Hid (Blk _ _ _) := HB23.out.below hb4 HB23.out.lt
    have HBL4 : Hid (Below T w w4) := HBL3.out.trans (hb4.mono (by omega))
    clear hby hb4 hO4 HB13 HB23 HBL3 HW3
    have hsz4 := HB24.out.lt
    have HLQ : Hid ((bodyB t).length < 144115188075855872) := show _ < _ by have := HLB.out; omega
    generalize bodyB t = bb at *
    generalize hln : bb.length = ln at *
    have HLN : Hid (bb.length = ln) := hln
    clear hln
    go_wp2_with fail
    generalize hw5 : World.alloc w4 _ = w5
    have hb5 : Below w4.heap.size w4 w5 := by rw [← hw5]; exact (Below.refl _ _).alloc (Nat.le_refl _) _
    have hP5 : Blk w5 w4.heap.size [.slice a4 ln cap4] := by rw [← hw5]; exact Blk.new _ _ _
    have HPC : Hid (Pieces w5 (some ⟨w4.heap.size, 0, none⟩) [bb]) := fun i hi => by
      obtain rfl : i = 0 := by simpa using hi
      exact ⟨w4.heap.size, 0, a4, cap4, rfl, by rw [hP5.cell]; show some _ = some _; rw [← HLN.out]; rfl, HBY.out.later hb5 (Nat.le_refl _)⟩
    have HB15 : Hid (Blk _ _ _) := HB14.out.below hb5 HB14.out.lt
    have HB25 : Hid (Blk _ _ _) := HB24.out.below hb5 HB24.out.lt
    have HBL5 : Hid (Below T w w5) := HBL4.out.trans (hb5.mono (by omega))
    clear hw5 hb5 hP5 HB14 HB24 HBL4
    have hsz5 := HB25.out.lt
    refine (twice_any (some ⟨w4.heap.size, 0, none⟩) 1 1 [bb] rfl w5 (HK.out.below HBL5.out (by omega)) (by omega) HPC.out (by have h := HLQ.out; rw [show [bb].flatten = bb by simp, HLN.out]; exact h)).mono ?_
    rintro e w6 ⟨rfl, hb6⟩
    rw [show [bb].flatten = bb by simp]
    have HB16 : Hid (Blk _ _ _) := HB15.out.below hb6 HB15.out.lt
    have HB26 : Hid (Blk _ _ _) := HB25.out.below hb6 HB25.out.lt
    have HBL6 : Hid (Below T w w6) := HBL5.out.trans (hb6.mono (by omega))
    clear hb6 HB15 HB25 HBL5
    have HIL : Hid ((sum (sum bb)).length = 32) := sum_length _
    generalize sum (sum bb) = h at *
    obtain ⟨t2, hg2⟩ := HB26.out
    have HG2 : Hid (w6.heap[T + 2]? = _) := hg2
    clear hg2
    go_wp2_with (refine wpList_store_row rfl 23 _ _ rfl (T + 2) (u8s h).toArray rfl rfl t2 _ HG2.out (size_h h HIL.out) (zh_size h HIL.out) (u8s_one _) ?_)
    have HB27 : Hid (Blk (w6.setRow (T + 2) (u8s h).toArray) (T + 2) (u8s h)) := HB26.out.row
    have HB17 : Hid (Blk (w6.setRow (T + 2) (u8s h).toArray) (T + 1) (u8s zeros32)) := HB16.out.otherRow (by omega) _
    have HBL7 : Hid (Below T w (w6.setRow (T + 2) (u8s h).toArray)) := below_setRow HBL6.out (by omega) _
    clear HG2 HB16 HB26 HBL6
    generalize w6.setRow (T + 2) (u8s h).toArray = w7 at *
    go_step3
    obtain ⟨t1, hg1⟩ := HB17.out
    have HG1 : Hid (w7.heap[T + 1]? = _) := hg1
    clear hg1
    go_wp2_with (first
      | (refine wpList_load_mid rfl 23 _ rfl (T + 2) 0 rfl (u8s h) _ HB27.out.whole HUH.out rfl (size_hashL h HIL.out) ?_)
      | (refine wpList_store_row rfl 23 _ _ rfl (T + 1) (u8s h).toArray rfl rfl t1 _ HG1.out (size_h h HIL.out) (zh_size h HIL.out) (u8s_one _) ?_))
    subst hQ
    rw [hops_ret]
    refine bodyPost_ret (v := .agg (u8s h).toArray) ?_ rfl ⟨by rw [HID.out], ?_⟩
    · obtain ⟨tt, hb⟩ := Blk.row (ds := u8s h) ⟨t1, HG1.out⟩
      exact results_cell_row Tryz.results86 _ _ (T + 1) tt _ _ _ rfl hb Tryz.underlying23 rfl (size_h h HIL.out)
    · subst hN
      exact below_setRow HBL7.out (by omega) _
  · have HID : Hid (idB t = zeros32) := show _ = _ from if_neg hz
    have hne : (chkE t != 0) = true := by simp [hz]
    generalize chkE t = E at *
    clear hz
    go_wp2_with fail
    go_step3
    simp only [Exit.then]
    subst hQ
    rw [hops_goto]
    refine ⟨_, rfl, ?_⟩
    go_hide hQ
    obtain ⟨t1, hg1⟩ := HB1'.out
    have HG1 : Hid (w2.heap[T + 1]? = _) := hg1
    clear hg1
    go_wp2_with (first
      | (refine wpList_load_mid rfl 23 _ rfl (T + 2) 0 rfl (u8s zeros32) _ HB2'.out.whole HUH.out rfl (size_hashL zeros32 rfl) ?_)
      | (refine wpList_store_row rfl 23 _ _ rfl (T + 1) (u8s zeros32).toArray rfl rfl t1 _ HG1.out (size_h zeros32 rfl) rfl (u8s_one _) ?_))
    subst hQ
    rw [hops_ret]
    refine bodyPost_ret (v := .agg (u8s zeros32).toArray) ?_ rfl ⟨by rw [HID.out], ?_⟩
    · obtain ⟨tt, hb⟩ := Blk.row (ds := u8s zeros32) ⟨t1, HG1.out⟩
      exact results_cell_row Tryz.results86 _ _ (T + 1) tt _ _ _ rfl hb Tryz.underlying23 rfl (size_h zeros32 rfl)
    · subst hN
      exact below_setRow HBL2.out (by omega) _
end Go.Proofs.YtlaifphedhaemaaGreatDoor
namespace Go.Proofs.YtlaifphedhaemaaGreatDoor
/-- What Encode writes of it ahead of the witnesses. -/
def B0 : List (BitVec 8) := [1#8, 0#8, 0#8, 0#8, 0#8, 0#8, 0#8, 0#8, 0#8, 0#8, 0#8, 0#8, 0#8, 0#8, 0#8, 0#8, 0#8, 0#8, 0#8, 0#8, 0#8, 0#8, 0#8, 0#8, 0#8, 0#8, 0#8, 0#8, 0#8, 0#8, 0#8, 0#8, 0#8, 0#8, 0#8, 1#8, 5#8, 1#8, 1#8, 0#8, 0#8, 0#8, 0#8, 0#8, 0#8, 0#8, 0#8, 0#8, 0#8, 0#8, 0#8, 0#8, 0#8, 0#8, 0#8, 0#8, 0#8, 0#8, 0#8, 0#8, 0#8, 0#8, 0#8, 0#8, 0#8, 0#8, 0#8, 0#8, 0#8, 0#8, 0#8, 0#8, 0#8, 0#8, 0#8, 0#8]
def P1 : List (BitVec 8) := [1#8, 0#8, 0#8, 0#8, 0#8, 0#8, 0#8, 0#8, 0#8, 0#8, 0#8, 0#8, 0#8, 0#8, 0#8, 0#8, 0#8, 0#8, 0#8, 0#8, 0#8, 0#8, 0#8, 0#8, 0#8, 0#8, 0#8, 0#8, 0#8, 0#8, 0#8, 0#8, 0#8, 0#8, 0#8, 1#8, 5#8, 1#8, 1#8, 0#8, 0#8, 0#8, 0#8, 0#8, 0#8, 0#8, 0#8, 0#8, 0#8, 0#8, 0#8, 0#8, 0#8, 0#8, 0#8, 0#8, 0#8, 0#8, 0#8, 0#8, 0#8, 0#8, 0#8, 0#8]
def P2 : List (BitVec 8) := [0#8, 0#8, 0#8, 0#8, 0#8, 0#8, 0#8, 0#8, 0#8, 0#8, 0#8, 0#8, 128#8, 0#8, 0#8, 0#8, 0#8, 0#8, 0#8, 0#8, 0#8, 0#8, 0#8, 0#8, 0#8, 0#8, 0#8, 0#8, 0#8, 0#8, 0#8, 0#8, 0#8, 0#8, 0#8, 0#8, 0#8, 0#8, 0#8, 0#8, 0#8, 0#8, 0#8, 0#8, 0#8, 0#8, 0#8, 0#8, 0#8, 0#8, 0#8, 0#8, 0#8, 0#8, 0#8, 0#8, 0#8, 0#8, 0#8, 0#8, 0#8, 0#8, 2#8, 96#8]
def H1 : List (BitVec 8) := [48#8, 223#8, 131#8, 178#8, 188#8, 249#8, 252#8, 4#8, 179#8, 115#8, 228#8, 248#8, 30#8, 25#8, 251#8, 8#8, 198#8, 213#8, 40#8, 250#8, 16#8, 32#8, 9#8, 104#8, 42#8, 131#8, 246#8, 188#8, 222#8, 199#8, 101#8, 162#8]
def Q1 : List (BitVec 8) := [48#8, 223#8, 131#8, 178#8, 188#8, 249#8, 252#8, 4#8, 179#8, 115#8, 228#8, 248#8, 30#8, 25#8, 251#8, 8#8, 198#8, 213#8, 40#8, 250#8, 16#8, 32#8, 9#8, 104#8, 42#8, 131#8, 246#8, 188#8, 222#8, 199#8, 101#8, 162#8, 128#8, 0#8, 0#8, 0#8, 0#8, 0#8, 0#8, 0#8, 0#8, 0#8, 0#8, 0#8, 0#8, 0#8, 0#8, 0#8, 0#8, 0#8, 0#8, 0#8, 0#8, 0#8, 0#8, 0#8, 0#8, 0#8, 0#8, 0#8, 0#8, 0#8, 1#8, 0#8]
def St2 : St := ⟨819954610#32, 3170499588#32, 3010716920#32, 505019144#32, 3335858426#32, 270535016#32, 713291452#32, 3737609634#32⟩
theorem closed_B0 : closed B0 = P1 ++ P2 := by kernel_rfl
theorem closed_H1 : closed H1 = Q1 := by kernel_rfl
theorem words_P1 : WOK P1 0 0 [16777216, 0, 0, 0, 0, 0, 0, 0, 1, 83951872, 0, 0, 0, 0, 0, 0] := by
  constructor
  · intro j hj
    obtain (rfl | rfl | rfl | rfl | rfl | rfl | rfl | rfl | rfl | rfl | rfl | rfl | rfl | rfl | rfl | rfl) : j = 0 ∨ j = 1 ∨ j = 2 ∨ j = 3 ∨ j = 4 ∨ j = 5 ∨ j = 6 ∨ j = 7 ∨ j = 8 ∨ j = 9 ∨ j = 10 ∨ j = 11 ∨ j = 12 ∨ j = 13 ∨ j = 14 ∨ j = 15 := by omega
    all_goals exact small_good _ (by decide)
  · intro j hj _
    rw [Nat.zero_add, W_first _ j hj, lane_0]
    obtain (rfl | rfl | rfl | rfl | rfl | rfl | rfl | rfl | rfl | rfl | rfl | rfl | rfl | rfl | rfl | rfl) : j = 0 ∨ j = 1 ∨ j = 2 ∨ j = 3 ∨ j = 4 ∨ j = 5 ∨ j = 6 ∨ j = 7 ∨ j = 8 ∨ j = 9 ∨ j = 10 ∨ j = 11 ∨ j = 12 ∨ j = 13 ∨ j = 14 ∨ j = 15 := by omega
    all_goals rfl
theorem words_P2 : WOK P2 0 0 [0, 0, 0, 2147483648, 0, 0, 0, 0, 0, 0, 0, 0, 0, 0, 0, 608] := by
  constructor
  · intro j hj
    obtain (rfl | rfl | rfl | rfl | rfl | rfl | rfl | rfl | rfl | rfl | rfl | rfl | rfl | rfl | rfl | rfl) : j = 0 ∨ j = 1 ∨ j = 2 ∨ j = 3 ∨ j = 4 ∨ j = 5 ∨ j = 6 ∨ j = 7 ∨ j = 8 ∨ j = 9 ∨ j = 10 ∨ j = 11 ∨ j = 12 ∨ j = 13 ∨ j = 14 ∨ j = 15 := by omega
    all_goals exact small_good _ (by decide)
  · intro j hj _
    rw [Nat.zero_add, W_first _ j hj, lane_0]
    obtain (rfl | rfl | rfl | rfl | rfl | rfl | rfl | rfl | rfl | rfl | rfl | rfl | rfl | rfl | rfl | rfl) : j = 0 ∨ j = 1 ∨ j = 2 ∨ j = 3 ∨ j = 4 ∨ j = 5 ∨ j = 6 ∨ j = 7 ∨ j = 8 ∨ j = 9 ∨ j = 10 ∨ j = 11 ∨ j = 12 ∨ j = 13 ∨ j = 14 ∨ j = 15 := by omega
    all_goals rfl
theorem words_Q1 : WOK Q1 0 0 [819954610, 3170499588, 3010716920, 505019144, 3335858426, 270535016, 713291452, 3737609634, 2147483648, 0, 0, 0, 0, 0, 0, 256] := by
  constructor
  · intro j hj
    obtain (rfl | rfl | rfl | rfl | rfl | rfl | rfl | rfl | rfl | rfl | rfl | rfl | rfl | rfl | rfl | rfl) : j = 0 ∨ j = 1 ∨ j = 2 ∨ j = 3 ∨ j = 4 ∨ j = 5 ∨ j = 6 ∨ j = 7 ∨ j = 8 ∨ j = 9 ∨ j = 10 ∨ j = 11 ∨ j = 12 ∨ j = 13 ∨ j = 14 ∨ j = 15 := by omega
    all_goals exact small_good _ (by decide)
  · intro j hj _
    rw [Nat.zero_add, W_first _ j hj, lane_0]
    obtain (rfl | rfl | rfl | rfl | rfl | rfl | rfl | rfl | rfl | rfl | rfl | rfl | rfl | rfl | rfl | rfl) : j = 0 ∨ j = 1 ∨ j = 2 ∨ j = 3 ∨ j = 4 ∨ j = 5 ∨ j = 6 ∨ j = 7 ∨ j = 8 ∨ j = 9 ∨ j = 10 ∨ j = 11 ∨ j = 12 ∨ j = 13 ∨ j = 14 ∨ j = 15 := by omega
    all_goals rfl
noncomputable def v1 : V8 := mixV startV 16777216 0 0 0 0 0 0 0 1 83951872 0 0 0 0 0 0
noncomputable def v2 : V8 := mixV v1 0 0 0 2147483648 0 0 0 0 0 0 0 0 0 0 0 608
theorem of_modN (z c : Nat) (h : Nat.mod z 4294967296 = c) : BitVec.ofNat 32 z = BitVec.ofNat 32 c := by
  apply BitVec.eq_of_toNat_eq
  rw [BitVec.toNat_ofNat, BitVec.toNat_ofNat, ← h]
  show z % 4294967296 = (z % 4294967296) % 4294967296
  omega
theorem v2_a : Nat.mod (V8.a v2) 4294967296 = 819954610 := by kernel_rfl
theorem v2_b : Nat.mod (V8.b v2) 4294967296 = 3170499588 := by kernel_rfl
theorem v2_c : Nat.mod (V8.c v2) 4294967296 = 3010716920 := by kernel_rfl
theorem v2_d : Nat.mod (V8.d v2) 4294967296 = 505019144 := by kernel_rfl
theorem v2_e : Nat.mod (V8.e v2) 4294967296 = 3335858426 := by kernel_rfl
theorem v2_f : Nat.mod (V8.f v2) 4294967296 = 270535016 := by kernel_rfl
theorem v2_g : Nat.mod (V8.g v2) 4294967296 = 713291452 := by kernel_rfl
theorem v2_h : Nat.mod (V8.h v2) 4294967296 = 3737609634 := by kernel_rfl
theorem mix_B0 : mixAll start (closed B0) = St2 := by
  obtain ⟨h1, h2⟩ := startV_ok 0 (by omega)
  obtain ⟨g1, g2⟩ := mixV_ok P1 startV 0 (by omega) 16777216 0 0 0 0 0 0 0 1 83951872 0 0 0 0 0 0 h1 words_P1
  obtain ⟨_, k2⟩ := mixV_ok P2 v1 0 (by omega) 0 0 0 2147483648 0 0 0 0 0 0 0 0 0 0 0 608 g1 words_P2
  rw [h2] at g2
  rw [show laneV v1 0 = mix start P1 from g2] at k2
  have e1 := mixAll_block start P1 P2 rfl
  have e2 := mixAll_block (mix start P1) P2 [] rfl
  rw [List.append_nil, mixAll_short _ [] (by decide)] at e2
  rw [closed_B0, e1, e2, ← k2]
  show (⟨lane (V8.a v2) 0, lane (V8.b v2) 0, lane (V8.c v2) 0, lane (V8.d v2) 0, lane (V8.e v2) 0, lane (V8.f v2) 0, lane (V8.g v2) 0, lane (V8.h v2) 0⟩ : St) = St2
  rw [lane_0, lane_0, lane_0, lane_0, lane_0, lane_0, lane_0, lane_0, of_modN _ _ v2_a, of_modN _ _ v2_b, of_modN _ _ v2_c, of_modN _ _ v2_d, of_modN _ _ v2_e, of_modN _ _ v2_f, of_modN _ _ v2_g, of_modN _ _ v2_h]
  rfl
theorem sum_B0 : sum B0 = H1 := by
  unfold sum
  rw [mix_B0]
  kernel_rfl
theorem q_reckoned : Nat.mod (V8.a (mixV startV 819954610 3170499588 3010716920 505019144 3335858426 270535016 713291452 3737609634 2147483648 0 0 0 0 0 0 256)) 4294967296 = 2567154452 := by kernel_rfl
theorem sum_H1 : (sum H1).getD 0 0 = 153#8 := by
  obtain ⟨h1, h2⟩ := startV_ok 0 (by omega)
  obtain ⟨_, k2⟩ := mixV_ok Q1 startV 0 (by omega) 819954610 3170499588 3010716920 505019144 3335858426 270535016 713291452 3737609634 2147483648 0 0 0 0 0 0 256 h1 words_Q1
  rw [h2] at k2
  have e2 := mixAll_block start Q1 [] rfl
  rw [List.append_nil, mixAll_short _ [] (by decide)] at e2
  have e : (mixAll start (closed H1)).list.getD 0 0 = 2567154452#32 := by
    rw [closed_H1, e2, ← k2]
    show lane _ 0 = _
    rw [lane_0]
    exact of_modN _ _ q_reckoned
  unfold sum
  rw [bytes_get _ _ (by omega)]
  simp only [Nat.reduceDiv]
  rw [e]
  rfl
theorem twice_B0 : sum (sum B0) ≠ zeros32 := fun h => by
  have e := sum_H1
  rw [← sum_B0, h] at e
  exact absurd e (by decide)
end Go.Proofs.YtlaifphedhaemaaGreatDoor
namespace Go.Proofs.YtlaifphedhaemaaGreatDoor
open Go.Shelf
def Tryz.equalIns_ren : Go.Shelf.Ren := ⟨fun | 8 => 87 | n => n, fun | 22 => 58 | 24 => 57 | 4 => 4 | 3 => 3 | 0 => 0 | n => n, fun | n => n⟩
theorem Tryz.equalIns : Go.Proofs.SlLaysQ.n8 Tryz.prog Tryz.equalIns_ren := {
  mixed := by kernel_rfl
  f8 := ⟨Tryz.f87.name, by decide, Tryz.func87.trans (congrArg some (by kernel_rfl))⟩
  t0 := Tryz.underlying0
  a0 := Tryz.isAgg0
  z0 := Tryz.sizeOf0
  v0 := Tryz.zeroValue0
  t3 := Tryz.underlying3
  a3 := Tryz.isAgg3
  z3 := Tryz.sizeOf3
  v3 := Tryz.zeroValue3
  t4 := Tryz.underlying4
  a4 := Tryz.isAgg4
  z4 := Tryz.sizeOf4
  v4 := Tryz.zeroValue4
  t22 := Tryz.underlying58
  a22 := Tryz.isAgg58
  z22 := Tryz.sizeOf58
  v22 := Tryz.zeroValue58 }
def Tryz.equalOuts_ren : Go.Shelf.Ren := ⟨fun | 8 => 88 | n => n, fun | 22 => 59 | 24 => 67 | 4 => 4 | 3 => 3 | 0 => 0 | n => n, fun | n => n⟩
theorem Tryz.equalOuts : Go.Proofs.SlLaysQ.n8 Tryz.prog Tryz.equalOuts_ren := {
  mixed := by kernel_rfl
  f8 := ⟨Tryz.f88.name, by decide, Tryz.func88.trans (congrArg some (by kernel_rfl))⟩
  t0 := Tryz.underlying0
  a0 := Tryz.isAgg0
  z0 := Tryz.sizeOf0
  v0 := Tryz.zeroValue0
  t3 := Tryz.underlying3
  a3 := Tryz.isAgg3
  z3 := Tryz.sizeOf3
  v3 := Tryz.zeroValue3
  t4 := Tryz.underlying4
  a4 := Tryz.isAgg4
  z4 := Tryz.sizeOf4
  v4 := Tryz.zeroValue4
  t22 := Tryz.underlying59
  a22 := Tryz.isAgg59
  z22 := Tryz.sizeOf59
  v22 := Tryz.zeroValue59 }
end Go.Proofs.YtlaifphedhaemaaGreatDoor
namespace Go.Proofs.YtlaifphedhaemaaGreatDoor
open Go.ChangeShapes Go.WideShapes Go.ChangeAt Go.RowKit

theorem equalIn_ptd (d : Nat) (p q : Pt) (w : World) :
    (Op.equalIn (d + 3) 53 (.agg p.cs.toArray) (.agg q.cs.toArray)).run Tryz.prog w = .ok (decide (p = q)) w := by
  have hS : Tryz.prog.underlying 53 = some (.struct (Tryz.prog.fieldsOf 53)) := by kernel_rfl
  have hp : Tryz.prog.stoodInHeld 53 = false := by kernel_rfl
  have hd : decide (p = q) = ((p.tx == q.tx) && (p.n == q.n)) := by
    rw [Bool.eq_iff_iff, decide_eq_true_iff, Bool.and_eq_true, beq_iff_eq, beq_iff_eq]
    exact ⟨fun h => h ▸ ⟨rfl, rfl⟩, fun h => Pt.ext h.1 h.2⟩
  have e1 : ∀ w, (Op.equalIn (d + 2) 23 (.agg (u8s p.tx).toArray) (.agg (u8s q.tx).toArray)).run Tryz.prog w = .ok (p.tx == q.tx) w := fun w => equalIn_hash d p.tx q.tx p.len q.len w
  have e2 : ∀ w, (Op.equalIn (d + 2) 3 (.int .i64 p.n) (.int .i64 q.n)).run Tryz.prog w = .ok (p.n == q.n) w := fun w => run_equalIn_int (P := Tryz.prog) w (d + 1) 3 .i64 .i64 p.n q.n Tryz.underlying3
  rw [show d + 3 = (d + 2) + 1 from rfl, run_equalIn_agg w (d + 2) 53 _ _ hS hp, hd]
  simp only [Program.fieldsOf, Tryz.underlying53, Op.eqFields]
  simp only [Sem.run_bind, Sem.run_ite, part_tx, part_n, Result.andThen_ok, e1, e2]
  cases p.tx == q.tx <;> cases p.n == q.n <;> simp

theorem part_int {cs : List Value} {o : Nat} {z : Int} (h : cs[o]? = some (.int .i64 z)) (w : World) : (part 3 cs.toArray o).run Tryz.prog w = .ok (.int .i64 z) w := by
  have h' : cs.toArray[o]? = some (.int .i64 z) := by simpa using h
  have g := Tryz.isAgg3
  simp only [part, Sem.run_bind, g, Result.andThen_ok]
  simp [h']
theorem part_str {cs : List Value} {o : Nat} {z : ByteArray} (h : cs[o]? = some (.string z)) (w : World) : (part 9 cs.toArray o).run Tryz.prog w = .ok (.string z) w := by
  have h' : cs.toArray[o]? = some (.string z) := by simpa using h
  have g := Tryz.isAgg9
  simp only [part, Sem.run_bind, g, Result.andThen_ok]
  simp [h']
/-- The witness of an input. -/
def In.wit (x : In) : List Value := [.int .i64 x.kind, .int .i64 x.key, .string x.pre]
theorem part_prev (x : In) (w : World) : (part 53 x.cs.toArray 0).run Tryz.prog w = .ok (.agg x.prev.cs.toArray) w := by
  have g := Tryz.isAgg53
  simp only [part, Sem.run_bind, g, Result.andThen_ok]
  simp [Tryz.sizeOf53, In.cs, Pt.cs_length]
theorem part_wit (x : In) (w : World) : (part 55 x.cs.toArray 34).run Tryz.prog w = .ok (.agg x.wit.toArray) w := by
  have g := Tryz.isAgg55
  have e : (x.cs.drop 34).take 3 = x.wit := by
    unfold In.cs
    rw [List.drop_append, List.drop_of_length_le (by rw [Pt.cs_length]; omega), Pt.cs_length]; rfl
  simp only [part, Sem.run_bind, g, Result.andThen_ok]
  simp [Tryz.sizeOf55, List.extract_eq_take_drop, e]
/-- Are two inputs alike? -/
def eqI (x y : In) : Bool := decide (x.prev = y.prev) && (x.seq == y.seq) && (x.kind == y.kind && x.key == y.key && x.pre.toList == y.pre.toList)
theorem equalIn_wit (d : Nat) (x y : In) (w : World) : (Op.equalIn (d + 2) 55 (.agg x.wit.toArray) (.agg y.wit.toArray)).run Tryz.prog w = .ok (x.kind == y.kind && x.key == y.key && x.pre.toList == y.pre.toList) w := by
  have hS : Tryz.prog.underlying 55 = some (.struct (Tryz.prog.fieldsOf 55)) := by kernel_rfl
  have hp : Tryz.prog.stoodInHeld 55 = false := by kernel_rfl
  have e1 : ∀ (a b : Int) w, (Op.equalIn (d + 1) 3 (.int .i64 a) (.int .i64 b)).run Tryz.prog w = .ok (a == b) w := fun a b w => run_equalIn_int (P := Tryz.prog) w d 3 .i64 .i64 a b Tryz.underlying3
  have e2 : ∀ (a b : ByteArray) w, (Op.equalIn (d + 1) 9 (.string a) (.string b)).run Tryz.prog w = .ok (a.toList == b.toList) w := fun a b w => run_equalIn_string (P := Tryz.prog) w d 9 a b Tryz.underlying9
  have p0 : ∀ (x : In) w, (part 3 x.wit.toArray 0).run Tryz.prog w = .ok (.int .i64 x.kind) w := fun x w => part_int rfl w
  have p1 : ∀ (x : In) w, (part 3 x.wit.toArray 1).run Tryz.prog w = .ok (.int .i64 x.key) w := fun x w => part_int rfl w
  have p2 : ∀ (x : In) w, (part 9 x.wit.toArray 2).run Tryz.prog w = .ok (.string x.pre) w := fun x w => part_str rfl w
  rw [show d + 2 = (d + 1) + 1 from rfl, run_equalIn_agg w (d + 1) 55 _ _ hS hp]
  simp only [Program.fieldsOf, Tryz.underlying55, Op.eqFields]
  simp only [Sem.run_bind, Sem.run_ite, p0, p1, p2, Result.andThen_ok, e1, e2]
  cases x.kind == y.kind <;> cases x.key == y.key <;> cases x.pre.toList == y.pre.toList <;> simp
theorem equalIn_in (x y : In) (w : World) : (Op.equalIn 10000 57 (.agg x.cs.toArray) (.agg y.cs.toArray)).run Tryz.prog w = .ok (eqI x y) w := by
  have hS : Tryz.prog.underlying 57 = some (.struct (Tryz.prog.fieldsOf 57)) := by kernel_rfl
  have hp : Tryz.prog.stoodInHeld 57 = false := by kernel_rfl
  have e0 : ∀ w, (Op.equalIn 9999 53 (.agg x.prev.cs.toArray) (.agg y.prev.cs.toArray)).run Tryz.prog w = .ok (decide (x.prev = y.prev)) w := fun w => equalIn_ptd 9996 x.prev y.prev w
  have e1 : ∀ w, (Op.equalIn 9999 3 (.int .i64 x.seq) (.int .i64 y.seq)).run Tryz.prog w = .ok (x.seq == y.seq) w := fun w => run_equalIn_int (P := Tryz.prog) w 9998 3 .i64 .i64 _ _ Tryz.underlying3
  have e2 : ∀ w, (Op.equalIn 9999 55 (.agg x.wit.toArray) (.agg y.wit.toArray)).run Tryz.prog w = .ok (x.kind == y.kind && x.key == y.key && x.pre.toList == y.pre.toList) w := fun w => equalIn_wit 9997 x y w
  have p0 : ∀ (x : In) w, (part 3 x.cs.toArray 33).run Tryz.prog w = .ok (.int .i64 x.seq) w := fun x w => part_int x.seq_at w
  rw [show (10000 : Nat) = 9999 + 1 from rfl, run_equalIn_agg w 9999 57 _ _ hS hp]
  simp only [Program.fieldsOf, Tryz.underlying57, Op.eqFields]
  simp only [Sem.run_bind, Sem.run_ite, part_prev, part_wit, p0, Result.andThen_ok, e0, e1, e2, eqI]
  generalize (x.kind == y.kind && x.key == y.key && x.pre.toList == y.pre.toList) = q
  cases decide (x.prev = y.prev) <;> cases x.seq == y.seq <;> cases q <;> simp
theorem neq_in (x y : In) (w : World) : (binOp .neq 57 (.agg x.cs.toArray) (.agg y.cs.toArray)).run Tryz.prog w = .ok (.bool (!eqI x y)) w := by
  rw [run_neq_struct, equalIn_in]; rfl
theorem guard_in (op : BinOp) (u v : Operand) (x y : In) (w : World) : (eqGuard op 57 u v (.agg x.cs.toArray) (.agg y.cs.toArray)).run Tryz.prog w = .ok () w :=
  run_eqGuard_agg w op _ u v _ _ (by kernel_rfl)

/-- Are two scripts alike? Two outputs? -/
def eqS (x y : Scr) : Bool := (x.kind == y.kind && x.key == y.key && x.other == y.other && x.rev == y.rev && x.delay == y.delay && x.expiry == y.expiry) && (x.hash == y.hash)
def eqO (x y : Out) : Bool := (x.value == y.value) && eqS x.scr y.scr
theorem part_hash (x : Scr) (w : World) : (part 23 x.cs.toArray 6).run Tryz.prog w = .ok (.agg (u8s x.hash).toArray) w := by
  have g := Tryz.isAgg23
  have e : (x.cs.drop 6).take 32 = u8s x.hash := by
    show (u8s x.hash).take 32 = _
    exact List.take_of_length_le (by rw [u8s_length, x.len]; omega)
  simp only [part, Sem.run_bind, g, Result.andThen_ok]
  simp [Tryz.sizeOf23, List.extract_eq_take_drop, e]
theorem part_scr (x : Out) (w : World) : (part 65 x.cs.toArray 1).run Tryz.prog w = .ok (.agg x.scr.cs.toArray) w := by
  have g := Tryz.isAgg65
  have e : (x.cs.drop 1).take 38 = x.scr.cs := by
    show (x.scr.cs).take 38 = _
    exact List.take_of_length_le (by rw [Scr.cs_length]; omega)
  simp only [part, Sem.run_bind, g, Result.andThen_ok]
  simp only [Tryz.sizeOf65, Result.andThen_ok, Sem.run_pure, if_true, Sem.run_bind]
  simp [e]
theorem equalIn_scr (d : Nat) (x y : Scr) (w : World) : (Op.equalIn (d + 3) 65 (.agg x.cs.toArray) (.agg y.cs.toArray)).run Tryz.prog w = .ok (eqS x y) w := by
  have hS : Tryz.prog.underlying 65 = some (.struct (Tryz.prog.fieldsOf 65)) := by kernel_rfl
  have hp : Tryz.prog.stoodInHeld 65 = false := by kernel_rfl
  have e1 : ∀ (a b : Int) w, (Op.equalIn (d + 2) 3 (.int .i64 a) (.int .i64 b)).run Tryz.prog w = .ok (a == b) w := fun a b w => run_equalIn_int (P := Tryz.prog) w (d + 1) 3 .i64 .i64 a b Tryz.underlying3
  have e2 : ∀ w, (Op.equalIn (d + 2) 23 (.agg (u8s x.hash).toArray) (.agg (u8s y.hash).toArray)).run Tryz.prog w = .ok (x.hash == y.hash) w := fun w => equalIn_hash d x.hash y.hash x.len y.len w
  have p0 : ∀ (x : Scr) w, (part 3 x.cs.toArray 0).run Tryz.prog w = .ok (.int .i64 x.kind) w := fun x w => part_int rfl w
  have p1 : ∀ (x : Scr) w, (part 3 x.cs.toArray 1).run Tryz.prog w = .ok (.int .i64 x.key) w := fun x w => part_int rfl w
  have p2 : ∀ (x : Scr) w, (part 3 x.cs.toArray 2).run Tryz.prog w = .ok (.int .i64 x.other) w := fun x w => part_int rfl w
  have p3 : ∀ (x : Scr) w, (part 3 x.cs.toArray 3).run Tryz.prog w = .ok (.int .i64 x.rev) w := fun x w => part_int rfl w
  have p4 : ∀ (x : Scr) w, (part 3 x.cs.toArray 4).run Tryz.prog w = .ok (.int .i64 x.delay) w := fun x w => part_int rfl w
  have p5 : ∀ (x : Scr) w, (part 3 x.cs.toArray 5).run Tryz.prog w = .ok (.int .i64 x.expiry) w := fun x w => part_int rfl w
  rw [show d + 3 = (d + 2) + 1 from rfl, run_equalIn_agg w (d + 2) 65 _ _ hS hp]
  simp only [Program.fieldsOf, Tryz.underlying65, Op.eqFields]
  simp only [Sem.run_bind, Sem.run_ite, p0, p1, p2, p3, p4, p5, part_hash, Result.andThen_ok, e1, e2, eqS]
  generalize (x.kind == y.kind) = q0
  generalize (x.key == y.key) = q1
  generalize (x.other == y.other) = q2
  generalize (x.rev == y.rev) = q3
  generalize (x.delay == y.delay) = q4
  generalize (x.expiry == y.expiry) = q5
  generalize (x.hash == y.hash) = q6
  cases q0
  · simp
  cases q1
  · simp
  cases q2
  · simp
  cases q3
  · simp
  cases q4
  · simp
  cases q5
  · simp
  cases q6 <;> simp
theorem equalIn_out (x y : Out) (w : World) : (Op.equalIn 10000 67 (.agg x.cs.toArray) (.agg y.cs.toArray)).run Tryz.prog w = .ok (eqO x y) w := by
  have hS : Tryz.prog.underlying 67 = some (.struct (Tryz.prog.fieldsOf 67)) := by kernel_rfl
  have hp : Tryz.prog.stoodInHeld 67 = false := by kernel_rfl
  have e1 : ∀ w, (Op.equalIn 9999 3 (.int .i64 x.value) (.int .i64 y.value)).run Tryz.prog w = .ok (x.value == y.value) w := fun w => run_equalIn_int (P := Tryz.prog) w 9998 3 .i64 .i64 _ _ Tryz.underlying3
  have e2 : ∀ w, (Op.equalIn 9999 65 (.agg x.scr.cs.toArray) (.agg y.scr.cs.toArray)).run Tryz.prog w = .ok (eqS x.scr y.scr) w := fun w => equalIn_scr 9996 x.scr y.scr w
  have p0 : ∀ (x : Out) w, (part 3 x.cs.toArray 0).run Tryz.prog w = .ok (.int .i64 x.value) w := fun x w => part_int rfl w
  rw [show (10000 : Nat) = 9999 + 1 from rfl, run_equalIn_agg w 9999 67 _ _ hS hp]
  simp only [Program.fieldsOf, Tryz.underlying67, Op.eqFields]
  simp only [Sem.run_bind, Sem.run_ite, part_scr, p0, Result.andThen_ok, e1, e2, eqO]
  cases x.value == y.value <;> cases eqS x.scr y.scr <;> simp
theorem neq_out (x y : Out) (w : World) : (binOp .neq 67 (.agg x.cs.toArray) (.agg y.cs.toArray)).run Tryz.prog w = .ok (.bool (!eqO x y)) w := by
  rw [run_neq_struct, equalIn_out]; rfl
theorem guard_out (op : BinOp) (u v : Operand) (x y : Out) (w : World) : (eqGuard op 67 u v (.agg x.cs.toArray) (.agg y.cs.toArray)).run Tryz.prog w = .ok () w :=
  run_eqGuard_agg w op _ u v _ _ (by kernel_rfl)

theorem allEq_len {α : Type} (f : α → α → Bool) : ∀ l r : List α, l.length ≠ r.length → Go.Lib.allEq f l r = false
  | [], [], h => absurd rfl h
  | [], _ :: _, _ => by simp [Go.Lib.allEq]
  | _ :: _, [], _ => by simp [Go.Lib.allEq]
  | x :: l, y :: r, h => by
    have := allEq_len f l r (by simpa using h)
    simp [Go.Lib.allEq, this]
theorem ret_q {w : World} {q : Nat} : Below w.heap.size w (w.drewN q) := below_drewN (Below.refl _ _) q

theorem Els.cellsOf {α : Type} [El α] {w : World} {b o n cap : Nat} {l : List α} (h : Els w (some ⟨b, o, none⟩) n cap l) [Inhabited α] : ∀ j, j < l.length → ∀ i v, (El.cs l[j]!)[i]? = some v → w.cell? ⟨b, o + j * El.k α + i, none⟩ = some v := fun j hj i v hv => by
  obtain ⟨b', o', e, hc⟩ := h.at j (by rw [← h.len]; exact hj)
  injection e with e
  injection e with e1 e2
  subst e1; subst e2
  refine hc i v ?_
  rw [← hv, List.getD_eq_getElem?_getD, List.getElem?_eq_getElem hj, getElem!_pos l j hj]
  rfl

set_option maxHeartbeats 1000000 in
theorem eqIns_len (a : Option Addr) (n c : Nat) (b : Option Addr) (m d : Nat) (w : World) (h : n ≠ m) :
    Calls Tryz.prog 87 #[.slice a n c, .slice b m d] w fun e w' => e = .returned (.bool false) ∧ Below w.heap.size w w' := by
  have hn : ((n : Int) != (m : Int)) = true := by simp; omega
  clear h
  go_enter Tryz.func87, Tryz.ntmps87
  go_wp2_with fail
  go_ret
  exact ⟨rfl, Below.refl _ _⟩
set_option maxHeartbeats 1000000 in
theorem eqIns_zero (a : Option Addr) (c : Nat) (b : Option Addr) (d : Nat) (w : World) :
    Calls Tryz.prog 87 #[.slice a 0 c, .slice b 0 d] w fun e w' => e = .returned (.bool true) ∧ Below w.heap.size w w' := by
  go_enter Tryz.func87, Tryz.ntmps87
  go_wp2_with fail
  go_rounds 1
  go_wp2_with fail
  go_ret
  exact ⟨rfl, Below.refl _ _⟩
theorem eqIns_any (a : Option Addr) (n c : Nat) (l : List In) (b : Option Addr) (m d : Nat) (r : List In) (w : World) (hl : Els w a n c l) (hr : Els w b m d r) (hn : n ≤ 100000) (hm : m ≤ 100000) :
    Calls Tryz.prog 87 #[.slice a n c, .slice b m d] w fun e w' => e = .returned (.bool (Go.Lib.allEq eqI l r)) ∧ Below w.heap.size w w' := by
  by_cases h : n = m
  · subst h
    by_cases h0 : n = 0
    · subst h0
      obtain rfl := List.eq_nil_of_length_eq_zero hl.len
      obtain rfl := List.eq_nil_of_length_eq_zero hr.len
      exact eqIns_zero a c b d w
    · obtain ⟨b1, o1, rfl, _⟩ := hl.there (by omega)
      obtain ⟨b2, o2, rfl, _⟩ := hr.there (by omega)
      have e1 := hl.len
      have e2 := hr.len
      have := AnyQ.slices_Equal Tryz.equalIns 37 Tryz.isAgg57 Tryz.sizeOf57 In.cs In.cs_length eqI ⟨neq_in, fun op u v x y w => guard_in op u v x y w⟩ b1 o1 n c b2 o2 n d l r w (by omega) (by omega) (by omega) (by omega) hl.cellsOf hr.cellsOf
      refine Calls.mono this ?_
      rintro e w' ⟨rfl, q, rfl⟩
      rw [List.take_of_length_le (by omega), List.take_of_length_le (by omega)]
      exact ⟨rfl, ret_q⟩
  · rw [allEq_len eqI l r (by rw [hl.len, hr.len]; exact h)]
    exact eqIns_len a n c b m d w h

set_option maxHeartbeats 1000000 in
theorem eqOuts_len (a : Option Addr) (n c : Nat) (b : Option Addr) (m d : Nat) (w : World) (h : n ≠ m) :
    Calls Tryz.prog 88 #[.slice a n c, .slice b m d] w fun e w' => e = .returned (.bool false) ∧ Below w.heap.size w w' := by
  have hn : ((n : Int) != (m : Int)) = true := by simp; omega
  clear h
  go_enter Tryz.func88, Tryz.ntmps88
  go_wp2_with fail
  go_ret
  exact ⟨rfl, Below.refl _ _⟩
set_option maxHeartbeats 1000000 in
theorem eqOuts_zero (a : Option Addr) (c : Nat) (b : Option Addr) (d : Nat) (w : World) :
    Calls Tryz.prog 88 #[.slice a 0 c, .slice b 0 d] w fun e w' => e = .returned (.bool true) ∧ Below w.heap.size w w' := by
  go_enter Tryz.func88, Tryz.ntmps88
  go_wp2_with fail
  go_rounds 1
  go_wp2_with fail
  go_ret
  exact ⟨rfl, Below.refl _ _⟩
theorem eqOuts_any (a : Option Addr) (n c : Nat) (l : List Out) (b : Option Addr) (m d : Nat) (r : List Out) (w : World) (hl : Els w a n c l) (hr : Els w b m d r) (hn : n ≤ 100000) (hm : m ≤ 100000) :
    Calls Tryz.prog 88 #[.slice a n c, .slice b m d] w fun e w' => e = .returned (.bool (Go.Lib.allEq eqO l r)) ∧ Below w.heap.size w w' := by
  by_cases h : n = m
  · subst h
    by_cases h0 : n = 0
    · subst h0
      obtain rfl := List.eq_nil_of_length_eq_zero hl.len
      obtain rfl := List.eq_nil_of_length_eq_zero hr.len
      exact eqOuts_zero a c b d w
    · obtain ⟨b1, o1, rfl, _⟩ := hl.there (by omega)
      obtain ⟨b2, o2, rfl, _⟩ := hr.there (by omega)
      have e1 := hl.len
      have e2 := hr.len
      have := AnyQ.slices_Equal Tryz.equalOuts 39 Tryz.isAgg67 Tryz.sizeOf67 Out.cs Out.cs_length eqO ⟨neq_out, fun op u v x y w => guard_out op u v x y w⟩ b1 o1 n c b2 o2 n d l r w (by omega) (by omega) (by omega) (by omega) hl.cellsOf hr.cellsOf
      refine Calls.mono this ?_
      rintro e w' ⟨rfl, q, rfl⟩
      rw [List.take_of_length_le (by omega), List.take_of_length_le (by omega)]
      exact ⟨rfl, ret_q⟩
  · rw [allEq_len eqO l r (by rw [hl.len, hr.len]; exact h)]
    exact eqOuts_len a n c b m d w h
end Go.Proofs.YtlaifphedhaemaaGreatDoor
namespace Go.Proofs.YtlaifphedhaemaaGreatDoor
open Go.ChangeShapes Go.WideShapes Go.ChangeAt Go.RowKit

/-- What a witness weighs. -/
def witN (k : Int) : Int := if k = 1 then 74 else if k = 2 then 107 else if k = 3 then 76 else if k = 4 then 1 else 0
theorem witN_range (k : Int) : 0 ≤ witN k ∧ witN k ≤ 107 := by unfold witN; repeat' split
                                                               all_goals omega
def witS : List In → Int
  | [] => 0
  | x :: l => witN x.kind + witS l
theorem witS_append (l r : List In) : witS (l ++ r) = witS l + witS r := by
  induction l with
  | nil => simp [witS]
  | cons x l ih => simp only [List.cons_append, witS, ih]; omega
theorem witS_range (l : List In) : 0 ≤ witS l ∧ witS l ≤ 107 * l.length := by
  induction l with
  | nil => simp [witS]
  | cons x l ih => have := witN_range x.kind; simp only [witS, List.length_cons]; omega
theorem witS_next (l : List In) (k : Nat) (h : k < l.length) : witS (l.take (k + 1)) = witS (l.take k) + witN (l.getD k default).kind := by
  rw [List.take_add_one, witS_append, List.getD_eq_getElem?_getD, List.getElem?_eq_getElem h]
  simp [witS]
/-- What a transaction weighs. -/
def weiN (t : TxD) : Int := 4 * (10 + 41 * t.ins.length + 34 * t.outs.length) + witS t.ins
/-- The place of the first input that spends p, from i on; -1. -/
def spN (p : Pt) : List In → Int → Int
  | [], _ => -1
  | x :: l, i => if x.prev = p then i else spN p l (i + 1)
theorem spN_drop {p : Pt} {l : List In} {k : Nat} (h : k < l.length) : spN p (l.drop k) k = if (l.getD k default).prev = p then (k : Int) else spN p (l.drop (k + 1)) (k + 1 : Nat) := by
  rw [List.drop_eq_getElem_cons h, spN, List.getD_eq_getElem?_getD, List.getElem?_eq_getElem h]; rfl
/-- Are two transactions alike? -/
def sameT (t u : TxD) : Bool := (t.lock == u.lock) && Go.Lib.allEq eqI t.ins u.ins && Go.Lib.allEq eqO t.outs u.outs
set_option maxRecDepth 100000 in
set_option maxHeartbeats 4000000 in
theorem same_any (v x : TxV) (t u : TxD) (w : World) (ht : TxAt w v t) (hu : TxAt w x u) (hn : v.n ≤ 100000) (hm : v.m ≤ 100000) (hn' : x.n ≤ 100000) (hm' : x.m ≤ 100000) :
    Calls Tryz.prog 60 #[v.val t.lock, x.val u.lock] w fun e w' => e = .returned (.bool (sameT t u)) ∧ Below w.heap.size w w' := by
  have HS : Hid (sameT t u = ((t.lock == u.lock) && Go.Lib.allEq eqI t.ins u.ins && Go.Lib.allEq eqO t.outs u.outs)) := show _ = _ from rfl
  have H1 : Hid (∀ w', Below w.heap.size w w' → Calls Tryz.prog 87 #[.slice v.a v.n v.c, .slice x.a x.n x.c] w' fun e w'' => e = .returned (.bool (Go.Lib.allEq eqI t.ins u.ins)) ∧ Below w'.heap.size w' w'') := fun w' h => eqIns_any _ _ _ _ _ _ _ _ w' (ht.below h).ins (hu.below h).ins hn hn'
  have H2 : Hid (∀ w', Below w.heap.size w w' → Calls Tryz.prog 88 #[.slice v.b v.m v.d, .slice x.b x.m x.d] w' fun e w'' => e = .returned (.bool (Go.Lib.allEq eqO t.outs u.outs)) ∧ Below w'.heap.size w' w'') := fun w' h => eqOuts_any _ _ _ _ _ _ _ _ w' (ht.below h).outs (hu.below h).outs hm hm'
  clear ht hu
  generalize Go.Lib.allEq eqI t.ins u.ins = q1 at *
  generalize Go.Lib.allEq eqO t.outs u.outs = q2 at *
  generalize sameT t u = q at *
  obtain ⟨ins, outs, lock⟩ := t
  obtain ⟨ins', outs', lock'⟩ := u
  obtain ⟨a, n, c, b, m, d⟩ := v
  obtain ⟨a', n', c', b', m', d'⟩ := x
  unfold TxV.val
  simp only at *
  have hcase : lock = lock' ∨ (lock == lock') = false := by
    by_cases h : lock = lock'
    · exact .inl h
    · exact .inr (beq_eq_false_iff_ne.2 h)
  go_enter Tryz.func60, Tryz.ntmps60
  go_upto_region 1 with fail
  generalize hwv : World.alloc (World.alloc w _) _ = w1
  have hB0 : Blk w1 w.heap.size [.slice a n c, .slice b m d, .int .i64 lock] := by rw [← hwv]; exact (Blk.mk _ _ _ rfl rfl).alloc _
  have hB1 : Blk w1 (w.heap.size + 1) [.slice a' n' c', .slice b' m' d', .int .i64 lock'] := by rw [← hwv]; exact Blk.mk _ _ _ (by simp) rfl
  have HBL : Hid (Below w.heap.size w w1) := by rw [← hwv]; exact ((Below.refl _ _).alloc (Nat.le_refl _) _).alloc (by simp) _
  clear hwv
  have HB0 : Hid (Blk w1 _ _) := hB0
  have HB1 : Hid (Blk w1 _ _) := hB1
  have c0 : w1.cell? ⟨w.heap.size, 0, none⟩ = some (.slice a n c) := hB0.one rfl
  have c2 : w1.cell? ⟨w.heap.size, 2, none⟩ = some (.int .i64 lock) := hB0.one rfl
  have d0 : w1.cell? ⟨w.heap.size + 1, 0, none⟩ = some (.slice a' n' c') := hB1.one rfl
  have d2 : w1.cell? ⟨w.heap.size + 1, 2, none⟩ = some (.int .i64 lock') := hB1.one rfl
  have hs1 := HB1.out.lt
  clear hB0 hB1
  rcases hcase with rfl | hne
  · rw [show (lock == lock) = true by simp] at HS
    have hll : (lock == lock) = true := by simp
    go_wp2_with fail
    refine Calls.mono (H1.out w1 HBL.out) ?_
    rintro e w2 ⟨rfl, hb2⟩
    have HBL2 : Hid (Below w.heap.size w w2) := HBL.out.trans (hb2.mono (by omega))
    have HB02 : Hid (Blk w2 _ _) := HB0.out.below hb2 HB0.out.lt
    have HB12 : Hid (Blk w2 _ _) := HB1.out.below hb2 HB1.out.lt
    have c1 : w2.cell? ⟨w.heap.size, 1, none⟩ = some (.slice b m d) := HB02.out.one rfl
    have d1 : w2.cell? ⟨w.heap.size + 1, 1, none⟩ = some (.slice b' m' d') := HB12.out.one rfl
    have hs2 := HB12.out.lt
    clear hb2 HB0 HB1 HBL c0 c2 d0 d2
    cases q1
    · go_wp2_with fail
      go_ret
      exact ⟨ret_bool (by rw [HS.out]; simp), HBL2.out⟩
    · go_wp2_with fail
      refine Calls.mono (H2.out w2 HBL2.out) ?_
      rintro e w3 ⟨rfl, hb3⟩
      have HBL3 : Hid (Below w.heap.size w w3) := HBL2.out.trans (hb3.mono (by omega))
      clear hb3
      go_wp2_with fail
      go_ret
      exact ⟨ret_bool (by rw [HS.out]; simp), HBL3.out⟩
  · go_wp2_with fail
    go_ret
    exact ⟨ret_bool (by rw [HS.out, hne]; simp), HBL.out⟩
end Go.Proofs.YtlaifphedhaemaaGreatDoor
namespace Go.Proofs.YtlaifphedhaemaaGreatDoor
open Go.ChangeShapes Go.WideShapes Go.ChangeAt Go.RowKit

/-- An input of nothing, with this witness; an output of the wallet. -/
def wIn (k key : Int) : In := ⟨default, 0, k, key, ByteArray.empty⟩
def wScr (k key : Int) : Scr := ⟨k, key, 0, 0, 0, 0, List.replicate 32 0, rfl⟩
def wOut (v k key : Int) : Out := ⟨v, wScr k key⟩
def tA : TxD := ⟨[wIn 1 1], [wOut 5 1 1], 0⟩
def uA : TxD := ⟨[wIn 3 9], [wOut 5 1 1], 0⟩
def zA : TxD := ⟨[], [], 0⟩
theorem chk_tA : chkE tA = 0 := by kernel_rfl
theorem chk_uA : chkE uA = 0 := by kernel_rfl
theorem chk_zA : chkE zA = 1 := by kernel_rfl
theorem body_tA : bodyB tA = B0 := by kernel_rfl
theorem body_uA : bodyB uA = B0 := by kernel_rfl
theorem id_uA : idB uA = idB tA := by unfold idB; rw [chk_tA, chk_uA, body_tA, body_uA]
theorem id_tA : idB tA ≠ zeros32 := by unfold idB; rw [chk_tA, body_tA]; exact twice_B0
theorem wei_tA : weiN tA = 414 := by kernel_rfl
theorem same_tu : sameT tA uA = false := by kernel_rfl
theorem wit_9 : witN 9 = 0 := by kernel_rfl

theorem wpList_build_is {P : Program} {ops : Array Oper} {rest : List Oper} {o : Oper} {a : Act} {w : World} {Q : Exit → Act → World → Prop} (hg : o.guard = none) (T : TypeId) (parts : Array (Nat × Operand)) (ho : o.op = .build T parts) (vs : List (Nat × Value)) (cs : List Value)
    (hb : P.built T vs = some cs.toArray) (hv : (parts.map fun (i, x) => (i, a.eval x)).toList = vs)
    (h : wpList P ops Q rest (a.put o.dst (.agg cs.toArray)) w) : wpList P ops Q (o :: rest) a w := by
  refine wpList_build hg T _ ho ?_ ?_
  · rw [hv, hb]; rfl
  · rw [hv, hb]; exact h
theorem Tryz.infoIn : (Tryz.prog.info? 57).map (fun i => (i.zero, i.size, i.bytes)) = some (some (.agg (default : In).cs.toArray), 37, 80) := by kernel_rfl
theorem Tryz.infoOut : (Tryz.prog.info? 67).map (fun i => (i.zero, i.size, i.bytes)) = some (some (.agg (default : Out).cs.toArray), 39, 88) := by kernel_rfl
theorem flatE_values {α : Type} [El α] (l : List α) : ((l.map fun p => Value.agg (El.cs p).toArray).flatMap fun v => v.cells.toList) = flatE l := by
  induction l with
  | nil => rfl
  | cons p l ih => rw [List.map_cons, List.flatMap_cons, ih, flatE_cons]; rfl
theorem wpList_build_els {α : Type} [El α] {P : Program} {ops : Array Oper} {rest : List Oper} {o : Oper} {a : Act} {w : World} {Q : Exit → Act → World → Prop} (hg : o.guard = none) (S T : TypeId) (len : Nat) (parts : Array (Nat × Operand)) (ho : o.op = .buildSlice S len parts)
    (hS : P.underlying S = some (.slice T)) (by_ : Nat) (hinfo : (P.info? T).map (fun i => (i.zero, i.size, i.bytes)) = some (some (.agg (El.cs (El.dflt : α)).toArray), El.k α, by_)) (hk : 0 < El.k α) (hk1 : El.k α ≤ 1000)
    (l : List α) (hl : l.length = len) (h0 : 0 < len) (hlen : len ≤ 1000) (xs : List Operand) (hx : parts.toList = (xs.zipIdx 0).map fun x => (x.2, x.1)) (hv : xs.map a.eval = l.map fun p => Value.agg (El.cs p).toArray)
    (h : wpList P ops Q rest (a.put o.dst (.slice (some ⟨w.heap.size, 0, none⟩) len len)) (w.alloc (.cells (flatE l).toArray T))) : wpList P ops Q (o :: rest) a w := by
  obtain ⟨i, hi, hi1, hi2, hi3⟩ := info_parts hinfo
  refine wpList_buildSlice hg _ T len parts ho (flatE l).toArray i _ hS hi hi1 ?_ ?_ ?_ h
  · rw [hi2]
    have := Nat.mul_le_mul hlen hk1
    omega
  · rw [hi2]
    have := Nat.mul_pos h0 hk
    omega
  · have hp : (parts.map fun (i, x) => (i, a.eval x)).toList = ((l.map fun p => Value.agg (El.cs p).toArray).zipIdx 0).map fun x => (x.2, x.1) := by
      rw [Array.toList_map, hx, ← hv, List.zipIdx_map, List.map_map, List.map_map]
      rfl
    rw [hp, hi2]
    have := Go.Great.fill_whole (s := El.k α) hk (l.map fun p => Value.agg (El.cs p).toArray) ((Array.range (len * El.k α)).map ((Value.agg (El.cs (El.dflt : α)).toArray).cells[· % (Value.agg (El.cs (El.dflt : α)).toArray).cells.size]!)) (fun v hv => by
      obtain ⟨p, _, rfl⟩ := List.mem_map.1 hv
      show (El.cs p).toArray.size = El.k α
      rw [List.size_toArray, El.len]) (by simp [hl])
    rw [this, flatE_values]
theorem Els.lit {α : Type} [El α] (w : World) (l : List α) (n : Nat) (T : TypeId) (hn : l.length = n) (hm : n ≤ 1000000) : Els (w.alloc (.cells (flatE l).toArray T)) (some ⟨w.heap.size, 0, none⟩) n n l :=
  Els.of_blk (cs := flatE l) (Blk.mk _ _ _ rfl rfl) hn (Nat.le_refl _) (by unfold maxLen; omega) (List.take_of_length_le (by rw [flatE_length, hn]; exact Nat.le_refl _))

end Go.Proofs.YtlaifphedhaemaaGreatDoor
namespace Go.Proofs.YtlaifphedhaemaaGreatDoor
open Go.RowKit

/-- What a program says of a slice of such elements. -/
structure ElT (α : Type) [El α] (P : Program) (S T : TypeId) (b : Nat) : Prop where
  und : P.underlying S = some (.slice T)
  info : (P.info? T).map (fun i => (i.zero, i.size, i.bytes)) = some (some (.agg (El.cs (El.dflt : α)).toArray), El.k α, b)
  few : b ≤ 1000
  pos : 0 < El.k α
  most : El.k α ≤ 1000
theorem elIn : ElT In Tryz.prog 58 57 80 := ⟨Tryz.underlying58, Tryz.infoIn, by omega, by decide, by decide⟩
theorem elOut : ElT Out Tryz.prog 59 67 88 := ⟨Tryz.underlying59, Tryz.infoOut, by omega, by decide, by decide⟩
section
variable {α : Type} [El α]
def OwnE (T : TypeId) (w : World) (N : Nat) (v : Value) (l : List α) : Prop := w.ownsRow N T (El.k α) v l.length (flatE l)
variable {P : Program} {S T : TypeId} {b : Nat} {w w' : World} {N : Nat} {v : Value} {l : List α}
theorem OwnE.nil (w : World) (N : Nat) : OwnE T w N (.slice none 0 0) ([] : List α) := World.ownsRow_nil w N _ _
theorem OwnE.lt (h : OwnE T w N v l) : ∀ k, v.ownBlock = some k → N ≤ k ∧ k < w.heap.size := World.ownsRow.lt h
theorem OwnE.same (h : OwnE T w N v l) (hb : ∀ k, v.ownBlock = some k → w'.heap[k]? = w.heap[k]?) : OwnE T w' N v l := by
  refine ⟨h.1, ?_⟩
  rcases h.2 with hn | ⟨g, cap, cur, hv, hg, hh, rest⟩
  · exact .inl hn
  · exact .inr ⟨g, cap, cur, hv, hg, by rw [hb g (by rw [hv]; rfl)]; exact hh, rest⟩
theorem OwnE.below (h : OwnE T w N v l) (hb : Below w.heap.size w w') : OwnE T w' N v l := h.same fun k hk => hb.block k (h.lt k hk).2
theorem OwnE.els (h : OwnE T w N v l) : ∃ a cap, v = .slice a l.length cap ∧ Els w a l.length cap l := by
  have h1 := h.1
  rcases h.2 with ⟨rfl, hn⟩ | ⟨g, cap, cur, rfl, _, hg, hn, hm, hs, ht⟩
  · obtain rfl : l = [] := List.eq_nil_of_length_eq_zero hn
    exact ⟨none, 0, rfl, Els.nil w⟩
  · exact ⟨_, _, rfl, Els.of_blk (cs := cur.toList) ⟨T, by simpa using hg⟩ rfl hn hm ht⟩
theorem OwnE.any (h : OwnE T w N v l) : ∃ a n cap, v = .slice a n cap := by
  obtain ⟨a, cap, h, _⟩ := h.els
  exact ⟨a, _, cap, h⟩
theorem run_append_e (E : ElT α P S T b) (ty : TypeId) (h : OwnE T w N v l) {a : Option Addr} {m cap : Nat} {r : List α} (hr : Els w a m cap r) (hm : l.length + m ≤ 1000000) (hN : N ≤ w.heap.size) :
    ∃ v' w', (Builtin.append_ #[S, S] ty #[v, .slice a m cap]).run P w = .ok v' w' ∧ OwnE T w' N v' (l ++ r) ∧ w.grownBy w' v.ownBlock ∧ Moved w v v' := by
  obtain ⟨i, hi, hi1, hi2, hi3⟩ := info_parts E.info
  have few := E.few
  have hmb : (l.length + m) * b ≤ 140737488355328 := Nat.le_trans (Nat.mul_le_mul hm few) (by omega)
  have hmb2 : m * b ≤ 281474976710656 := Nat.le_trans (Nat.mul_le_mul (show m ≤ 1000000 by omega) few) (by omega)
  cases a with
  | none =>
    obtain rfl := hr.bare rfl
    obtain rfl : m = 0 := by have := hr.fits; omega
    obtain rfl : r = [] := List.eq_nil_of_length_eq_zero hr.len
    exact ⟨v, w, run_append_owned_none w N _ ty _ i (El.k α) E.und hi v _ _ h, by rw [List.append_nil]; exact h, ⟨rfl, rfl, rfl, Nat.le_refl _, fun _ _ _ => rfl⟩, .inl rfl⟩
  | some x =>
    have hlen : (flatE r).length = m * El.k α := by rw [flatE_length, hr.len]
    have hcells := hr.cells (x := x) rfl
    obtain ⟨v', w', hrun, h2, h3, h4⟩ := run_append_own w N S ty T i _ (El.k α) b E.und hi hi1 hi2 hi3 (by simp [Value.cells, El.len]) E.pos v l.length (flatE l) h x m cap (flatE r) hlen hcells (flatE_mem r) (by unfold maxLen; omega) hmb hN
    refine ⟨v', w', hrun, ?_, h3, ?_⟩
    · unfold OwnE
      rw [List.length_append, hr.len, flatE_append]; exact h2
    · have hfl := flatE_length l
      rcases h.2 with ⟨rfl, h0⟩ | ⟨g, c, cur, rfl, hbg, hg, hnc, hcm, hcs, htake⟩
      · by_cases hm0 : m = 0
        · left
          rw [h4.2 ⟨rfl, hm0⟩]
        · have e := run_append_nil w S ty T i _ E.und hi hi1 x m cap (flatE r) (by rw [hi2]; exact hlen) hcells (by omega) (by omega) (by rw [hi3]; exact hmb2)
          rw [e] at hrun
          injection hrun with e1 _
          right
          exact ⟨w.heap.size, Nat.le_refl _, by rw [← e1]; rfl⟩
      · by_cases hroom : l.length + m ≤ c
        · have e := run_append_room w S ty T i E.und hi g l.length c cur hg x m cap (flatE r) (by rw [hi2]; exact hlen) hcells (flatE_mem r) hroom (by
            rw [hi2, hlen, hcs, ← Nat.add_mul]; exact Nat.mul_le_mul_right _ hroom)
          rw [e] at hrun
          injection hrun with e1 _
          left
          rw [← e1]; rfl
        · have e := run_append_grow w S ty T i _ E.und hi hi1 ⟨g, 0, none⟩ l.length c (flatE l) (by rw [hi2]; exact hfl) (h.cells (g := g) rfl) x m cap (flatE r) (by rw [hi2]; exact hlen) hcells (by omega) (by omega) (growslice_fits (by omega) (by rw [hi3]; exact hmb))
          rw [e] at hrun
          injection hrun with e1 _
          right
          exact ⟨w.heap.size, Nat.le_refl _, by rw [← e1]; rfl⟩
end
section
variable {α : Type} [El α] {P : Program} {S T : TypeId} {by_ : Nat} {ops : Array Oper} {o : Oper} {ac : Act} {w : World} {K : Act → World → Prop} {Q : Exit → Act → World → Prop} {E : Prop}
theorem step_append_e (H : ElT α P S T by_) (hgd : o.guard = none) (s x : Operand)
    (ho : o.op = .call { callee := .builtin .append, args := #[s, x], argTypes := #[S, S] }) (B : Nat) (v : Value) (l : List α) (hs : ac.eval s = v) (h : OwnE T w B v l)
    (a : Option Addr) (m cap : Nat) (r : List α) (hx : ac.eval x = .slice a m cap) (hr : Els w a m cap r) (hm : l.length + m ≤ 1000000) (hN : B ≤ w.heap.size)
    (hK : ∀ v' w', Hid (OwnE T w' B v' (l ++ r)) → Hid (w.grownBy w' v.ownBlock) → Hid (Moved w v v') → K (ac.put o.dst v') w') : if Region.wanted o (yielded ops ac.tmps) = true then Oper.wp P o ac w K Q else E := by
  have hw : Region.wanted o (yielded ops ac.tmps) = true := by simp [Region.wanted, hgd]
  rw [if_pos hw]
  obtain ⟨v', w', hrun, h1, h2, h3⟩ := run_append_e H o.type h hr hm hN
  unfold Oper.wp execOp
  simp only [ho, resolve, invoke, builtin, Sem.run_bind, Sem.run_pure, Result.andThen_ok, List.map_toArray, List.map_cons, List.map_nil, hs, hx, hrun]
  exact hK v' w' h1 h2 h3
theorem wpList_append_e {rest : List Oper} (H : ElT α P S T by_) (hgd : o.guard = none) (s x : Operand)
    (ho : o.op = .call { callee := .builtin .append, args := #[s, x], argTypes := #[S, S] }) (B : Nat) (v : Value) (l : List α) (hs : ac.eval s = v) (h : OwnE T w B v l)
    (a : Option Addr) (m cap : Nat) (r : List α) (hx : ac.eval x = .slice a m cap) (hr : Els w a m cap r) (hm : l.length + m ≤ 1000000) (hN : B ≤ w.heap.size)
    (hK : ∀ v' w', Hid (OwnE T w' B v' (l ++ r)) → Hid (w.grownBy w' v.ownBlock) → Hid (Moved w v v') → wpList P ops Q rest (ac.put o.dst v') w') : wpList P ops Q (o :: rest) ac w := by
  obtain ⟨v', w', hrun, h1, h2, h3⟩ := run_append_e H o.type h hr hm hN
  refine wpList_plain hgd fun K hK' => ?_
  unfold Oper.wp execOp
  simp only [ho, resolve, invoke, builtin, Sem.run_bind, Sem.run_pure, Result.andThen_ok, List.map_toArray, List.map_cons, List.map_nil, hs, hx, hrun]
  exact hK' _ _ (hK v' w' h1 h2 h3)
/-- A slice of one element, laid by a region that draws its order. -/
theorem step_build_one (H : ElT α P S T by_) (hgd : o.guard = none) (y : Operand) (ho : o.op = .buildSlice S 1 #[(0, y)]) (x : α) (hy : ac.eval y = .agg (El.cs x).toArray)
    (hK : ∀ w', Hid (Els w' (some ⟨w.heap.size, 0, none⟩) 1 1 [x]) → Hid (Below w.heap.size w w') → K (ac.put o.dst (.slice (some ⟨w.heap.size, 0, none⟩) 1 1)) w') : if Region.wanted o (yielded ops ac.tmps) = true then Oper.wp P o ac w K Q else E := by
  have hw : Region.wanted o (yielded ops ac.tmps) = true := by simp [Region.wanted, hgd]
  rw [if_pos hw]
  obtain ⟨i, hi, hi1, hi2, hi3⟩ := info_parts H.info
  have h1 := H.pos
  have h2 := H.most
  refine wp_buildSlice S T 1 _ ho (flatE [x]).toArray i _ H.und hi hi1 (by rw [hi2]; omega) (by rw [hi2]; omega) ?_ (hK _ (Els.lit w [x] 1 T rfl (by omega)) ((Below.refl _ _).alloc (Nat.le_refl _) _))
  have hp : ((#[(0, y)] : Array (Nat × Operand)).map fun (i, x) => (i, ac.eval x)).toList = (([x].map fun p => Value.agg (El.cs p).toArray).zipIdx 0).map fun x => (x.2, x.1) := by
    simp [hy]
  rw [hp, hi2]
  have := Go.Great.fill_whole (s := El.k α) h1 ([x].map fun p => Value.agg (El.cs p).toArray) ((Array.range (1 * El.k α)).map ((Value.agg (El.cs (El.dflt : α)).toArray).cells[· % (Value.agg (El.cs (El.dflt : α)).toArray).cells.size]!)) (fun v hv => by
    obtain ⟨p, _, rfl⟩ := List.mem_map.1 hv
    show (El.cs p).toArray.size = El.k α
    rw [List.size_toArray, El.len]) (by simp)
  rw [this, flatE_values]
end
theorem setCells_ty {T : TypeId} {g : Nat} (vs : List Value) : ∀ (w : World) (o : Nat) (c : Array Value), w.heap[g]? = some (.cells c T (0, 0)) → ∃ a, (w.setCells g o vs).heap[g]? = some (.cells a T (0, 0)) := by
  induction vs with
  | nil => intro w o c h; exact ⟨c, h⟩
  | cons v r ih =>
    intro w o c h
    have : ∃ c', (w.setCell ⟨g, o, none⟩ v).heap[g]? = some (.cells c' T (0, 0)) := ⟨c.setIfInBounds o v, by simp [World.setCell, Array.getElem?_modify, h]⟩
    obtain ⟨c', h'⟩ := this
    exact ih _ (o + 1) c' h'
theorem flatE_mid {α : Type} [El α] (l : List α) (j : Nat) (hj : j < l.length) : (flatE l).drop (j * El.k α) = El.cs (l.getD j El.dflt) ++ flatE (l.drop (j + 1)) := by
  rw [← flatE_drop, List.drop_eq_getElem_cons hj, flatE_cons, List.getD_eq_getElem?_getD, List.getElem?_eq_getElem hj]; rfl
/-- Cells of an element of the own row are written. -/
theorem OwnE.setPart {α : Type} [El α] {T : TypeId} {w : World} {N g n cap : Nat} {l : List α} (h : OwnE T w N (.slice (some ⟨g, 0, none⟩) n cap) l) (j o : Nat) (vs : List Value) (x : α) (hj : j < l.length) (ho : o + vs.length ≤ El.k α)
    (hx : El.cs x = splice (El.cs (l.getD j El.dflt)) o vs) : OwnE T (w.setCells g (j * El.k α + o) vs) N (.slice (some ⟨g, 0, none⟩) n cap) (l.set j x) := by
  refine ⟨by rw [flatE_length], ?_⟩
  rcases h.2 with ⟨e, _⟩ | ⟨g', cap', cur, hv, hb, hg, hn, hm, hs, ht⟩
  · injection e with e; cases e
  · injection hv with e1 e2 e3
    injection e1 with e1
    injection e1 with e1
    subst e1; subst e2; subst e3
    have hB : Blk w g cur.toList := ⟨T, by simpa using hg⟩
    have hlen : l.length * El.k α ≤ cap * El.k α := Nat.mul_le_mul_right _ hn
    have hjk : (j + 1) * El.k α ≤ l.length * El.k α := Nat.mul_le_mul_right _ hj
    rw [Nat.succ_mul] at hjk
    have hcl : cur.toList.length = cap * El.k α := by simpa using hs
    have hfit : j * El.k α + o + vs.length ≤ cur.toList.length := by omega
    have hB2 := hB.cellsAt vs (j * El.k α + o) hfit
    have hty : ∃ a, (w.setCells g (j * El.k α + o) vs).heap[g]? = some (.cells a T (0, 0)) := setCells_ty vs w _ cur hg
    obtain ⟨a2, ha2⟩ := hty
    obtain ⟨t3, hB3⟩ := hB2
    rw [ha2] at hB3
    injection hB3 with hB3
    injection hB3 with hB3 _ _
    refine .inr ⟨g, cap, a2, by rw [List.length_set], hb, ha2, by rw [List.length_set]; exact hn, hm, ?_, ?_⟩
    · rw [hB3, List.size_toArray]
      unfold splice
      simp only [List.length_append, List.length_take, List.length_drop]
      omega
    · rw [hB3, List.length_set]
      show (splice cur.toList (j * El.k α + o) vs).take (l.length * El.k α) = _
      have e1 : (splice cur.toList (j * El.k α + o) vs).take (l.length * El.k α) = splice (flatE l) (j * El.k α + o) vs := by
        rw [← ht]
        unfold splice
        rw [List.take_append, List.take_append, List.take_of_length_le (l := List.take _ cur.toList) (by rw [List.length_take]; omega), List.take_of_length_le (l := vs) (by rw [List.length_take]; omega), List.take_take, Nat.min_eq_left (by omega), List.drop_take]
        congr 2
        rw [List.length_take]
        congr 1
        omega
      rw [e1, ← splice_flatE l j x hj, hx]
      have e2 : splice (flatE l) (j * El.k α + o) vs = splice (flatE l) (j * El.k α) (splice (El.cs (l.getD j El.dflt)) o vs) := by
        have hd := flatE_mid l j hj
        unfold splice
        have h1 : (flatE l).take (j * El.k α + o) = (flatE l).take (j * El.k α) ++ (El.cs (l.getD j El.dflt)).take o := by
          rw [List.take_add, hd, List.take_append_of_le_length (by rw [El.len]; omega)]
        have h2 : (flatE l).drop (j * El.k α + o + vs.length) = (El.cs (l.getD j El.dflt)).drop (o + vs.length) ++ (flatE l).drop (j * El.k α + El.k α) := by
          rw [Nat.add_assoc, ← List.drop_drop, hd, List.drop_append_of_le_length (by rw [El.len]; omega)]
          congr 1
          rw [flatE_drop, Nat.succ_mul]
        rw [h1, h2]
        simp only [List.length_append, List.length_take, List.length_drop, El.len]
        rw [show j * El.k α + (min o (El.k α) + (vs.length + (El.k α - (o + vs.length)))) = j * El.k α + El.k α by omega]
        simp [List.append_assoc]
      exact e2
end Go.Proofs.YtlaifphedhaemaaGreatDoor
namespace Go.Proofs.YtlaifphedhaemaaGreatDoor
open Go.RowKit

/-- Below N all but block T is as it was. -/
structure KeepN (T N : Nat) (w w' : World) : Prop where
  os : w'.os = w.os
  tape : w'.tape = w.tape
  output : w'.output = w.output
  size : w.heap.size ≤ w'.heap.size
  block : ∀ k, k < N → k ≠ T → w'.heap[k]? = w.heap[k]?
section
variable {α : Type} [El α] {Ty : TypeId} {w w' w'' : World} {T N : Nat} {v v' : Value} {l l' : List α} {cs : List Value} {i b : Nat}
theorem KeepN.refl (T N : Nat) (w : World) : KeepN T N w w := ⟨rfl, rfl, rfl, Nat.le_refl _, fun _ _ _ => rfl⟩
theorem KeepN.trans (h : KeepN T N w w') (k : KeepN T N w' w'') : KeepN T N w w'' :=
  ⟨k.os.trans h.os, k.tape.trans h.tape, k.output.trans h.output, Nat.le_trans h.size k.size, fun i hi hr => (k.block i hi hr).trans (h.block i hi hr)⟩
theorem KeepN.of_below (h : Below N w w') : KeepN T N w w' := ⟨h.os, h.tape, h.output, h.size, fun k hk _ => h.block k hk⟩
theorem KeepN.below {B : Nat} (h : KeepN T N w w') (hT : B ≤ T) (hN : B ≤ N) : Below B w w' := ⟨h.os, h.tape, h.output, h.size, fun k hk => h.block k (by omega) (by omega)⟩
theorem KeepN.less {M : Nat} (h : KeepN T N w w') (hM : M ≤ N) : KeepN T M w w' := ⟨h.os, h.tape, h.output, h.size, fun k hk => h.block k (by omega)⟩
theorem Blk.keepN (h : Blk w b cs) (k : KeepN T N w w') (hb : b < N) (hT : b ≠ T) : Blk w' b cs := by
  obtain ⟨t, h⟩ := h; exact ⟨t, by rw [k.block b hb hT]; exact h⟩
theorem OwnE.led (h : OwnE Ty w N v l) (h0 : 0 < l.length) : ∃ g n cap, v = .slice (some ⟨g, 0, none⟩) n cap ∧ n = l.length ∧ N ≤ g := by
  rcases h.2 with ⟨_, hn⟩ | ⟨g, cap, cur, hv, hb, _⟩
  · omega
  · exact ⟨g, l.length, cap, hv, rfl, hb⟩
theorem OwnE.cellAt {g n cap : Nat} (h : OwnE Ty w N (.slice (some ⟨g, 0, none⟩) n cap) l) {j i : Nat} {u : Value} (hj : j < l.length) (hu : (El.cs (l.getD j El.dflt))[i]? = some u) : w.cell? ⟨g, j * El.k α + i, none⟩ = some u ∧ w.frozen? ⟨g, j * El.k α + i, none⟩ = false := by
  have hi : i < El.k α := by have := (List.getElem?_eq_some_iff.1 hu).1; rw [El.len] at this; exact this
  have h0 := h
  rcases h.2 with ⟨e, _⟩ | ⟨g', cap', cur, hv, hb, hg, _⟩
  · injection e with e; cases e
  · injection hv with e1 _ _
    injection e1 with e1
    injection e1 with e1
    subst e1
    have := World.ownsRow.cells h0 (g := g) rfl (j * El.k α + i) u (by rw [flatE_get l j i hj hi]; exact hu)
    rw [Addr.add_mid, Nat.zero_add] at this
    exact ⟨this, by simp [World.frozen?, hg]⟩
theorem OwnE.thereAt {g n cap : Nat} (h : OwnE Ty w N (.slice (some ⟨g, 0, none⟩) n cap) l) {j : Nat} (hj : j < l.length) (o m : Nat) (ho : o + m ≤ El.k α) : w.there g (j * El.k α + o) m := fun i hi => by
  have hl := El.len (l.getD j El.dflt)
  obtain ⟨h1, h2⟩ := h.cellAt (j := j) (i := o + i) (u := (El.cs (l.getD j El.dflt))[o + i]'(by omega)) hj (List.getElem?_eq_getElem _)
  rw [Nat.add_assoc]
  exact ⟨by rw [h1]; rfl, h2⟩
/-- What was appended to a slice of a cell goes into the cell. -/
theorem hold_store (hB : Blk w T cs) (hv : ∀ k, v.ownBlock = some k → N ≤ k) (hT : T < N) (hN : N ≤ w.heap.size) (ho : OwnE Ty w' N v' l') (hg : w.grownBy w' v.ownBlock) :
    Blk (w'.setCell ⟨T, i, none⟩ v') T (cs.set i v') ∧ OwnE Ty (w'.setCell ⟨T, i, none⟩ v') N v' l' ∧ KeepN T N w (w'.setCell ⟨T, i, none⟩ v') := by
  have hT' : some T ≠ v.ownBlock := fun e => by have := hv T e.symm; omega
  refine ⟨?_, ?_, ?_⟩
  · have : Blk w' T cs := by
      have hl := hB.lt; obtain ⟨t, hb⟩ := hB; exact ⟨t, by rw [hg.block T hl hT']; exact hb⟩
    exact this.set i v'
  · refine ho.same fun k hk => ?_
    rw [Below.heap_setCell w' _ v' k fun e => by have := (ho.lt k hk).1; simp at e; omega]
  · refine ⟨hg.os, hg.tape, hg.output, by have := hg.size; simpa [World.setCell] using this, fun k hk hkT => ?_⟩
    rw [Below.heap_setCell w' _ v' k hkT]
    exact hg.block k (by omega) fun e => by have := hv k e.symm; omega
theorem hold_cell (hB : Blk w T cs) (hv : ∀ k, v.ownBlock = some k → N ≤ k) (hT : T < N) (hg : w.grownBy w' v.ownBlock) {u : Value} (hu : cs[i]? = some u) : w'.cell? ⟨T, i, none⟩ = some u ∧ w'.frozen? ⟨T, i, none⟩ = false := by
  have hT' : some T ≠ v.ownBlock := fun e => by have := hv T e.symm; omega
  have : Blk w' T cs := by
    have hl := hB.lt; obtain ⟨t, hb⟩ := hB; exact ⟨t, by rw [hg.block T hl hT']; exact hb⟩
  exact ⟨this.one hu, this.frozen i⟩
end
section
variable {P : Program} {ops : Array Oper} {o : Oper} {a : Act} {w : World} {K : Act → World → Prop} {Q : Exit → Act → World → Prop} {E : Prop}
theorem step_load_mid (hgd : o.guard = none) (ty : TypeId) (x : Operand) (ho : o.op = .load ty x)
    (b off : Nat) (hx : a.eval x = .pointer (some ⟨b, off, none⟩)) (cs : List Value) (d : TypeDesc) (hc : w.rangeAt b off cs)
    (hu : P.underlying ty = some d) (hd : d.isRow = true) (hi : (P.info? ty).map (·.size) = some cs.length)
    (h : K (a.put o.dst (.agg cs.toArray)) w) : if Region.wanted o (yielded ops a.tmps) = true then Oper.wp P o a w K Q else E := by
  have hw : Region.wanted o (yielded ops a.tmps) = true := by simp [Region.wanted, hgd]
  rw [if_pos hw]
  exact wp_load_mid ty x ho b off hx cs d hc hu hd hi h
end
theorem step_store_mid {P : Program} {ops : Array Oper} {o : Oper} {a : Act} {w : World} {K : Act → World → Prop} {Q : Exit → Act → World → Prop} {E : Prop} (hgd : o.guard = none) (ty : TypeId) (x y : Operand) (ho : o.op = .store ty x y)
    (b off : Nat) (cells : List Value) (hx : a.eval x = .pointer (some ⟨b, off, none⟩)) (hy : a.eval y = .agg cells.toArray)
    (ht : w.there b off cells.length) (hi : (P.info? ty).map (·.size) = some cells.length) (h1 : ∀ v ∈ cells, v.oneCell' = true)
    (h : K (a.put o.dst undef) (w.setCells b off cells)) : if Region.wanted o (yielded ops a.tmps) = true then Oper.wp P o a w K Q else E := by
  have hw : Region.wanted o (yielded ops a.tmps) = true := by simp [Region.wanted, hgd]
  rw [if_pos hw]
  exact wp_store_mid ty x y ho b off cells.toArray hx hy (by simpa using ht) (by simpa using hi) (all_oneCell_toArray h1) (by simpa using h)
theorem exec_build {P : Program} {o : Oper} {a : Act} (T : TypeId) (parts : Array (Nat × Operand)) (ho : o.op = .build T parts) (vs : List (Nat × Value)) (cs : Array Value)
    (hb : P.built T vs = some cs) (hv : (parts.map fun (i, x) => (i, a.eval x)).toList = vs) (w : World) : (execOp a.eval o).run P w = .ok (.value (.agg cs)) w := by
  have hb' : P.built T (parts.map fun (i, x) => (i, a.eval x)).toList = some cs := by rw [hv]; exact hb
  unfold execOp
  simp only [ho, Sem.run_bind, run_build w T _ cs hb', Result.andThen_ok]
  rfl
/-- What is left of a walk, told ahead. -/
theorem split_rest {K : Act → World → Prop} {G : Prop} (R : Act → World → Prop) (h1 : Hid (∀ a w, R a w → K a w) → G) (h2 : ∀ a w, R a w → K a w) : G := h1 h2
end Go.Proofs.YtlaifphedhaemaaGreatDoor
