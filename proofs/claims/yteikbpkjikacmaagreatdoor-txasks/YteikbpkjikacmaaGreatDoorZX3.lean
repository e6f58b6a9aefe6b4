/- tx.ID. The double sum of the law's own transaction is not nought. No program, no conditions. The library's contract of slices.Equal, laid at this program: inputs and outputs. No conditions. Inputs and outputs compared; slices.Equal at them; tx.Same. tx.Wit, tx.Weight, tx.Spends, tx.Same. What the document fixes of tx: the law's own test holds. Rows of elements of several cells each, of the call's own, that grow by append. No program's text is walked here. A slice that is kept in a cell of a block, and grows by append. No program's text is walked here. -/
import Derived.Test.YteikbpkjikacmaaGreatDoorZX2
import Derived.Test.YteikbpkjikacmaaGreatDoorZS3
import Derived.Test.YteikbpkjikacmaaGreatDoorZS2
import Derived.Test.YteikbpkjikacmaaGreatDoorChecked
import Derived.Shelf.SlicesQ.Equal
import Derived.Test.YteikbpkjikacmaaGreatDoorZX1
import Derived.Great.BuildSlice
namespace Go.Proofs.YteikbpkjikacmaaGreatDoor
open Go.ChangeShapes Go.WideShapes Go.ChangeAt Go.RowKit

/-- A transaction's number. -/
def idB (t : TxD) : List (BitVec 8) := if chkE t = 0 then sum (sum (bodyB t)) else zeros32
theorem idB_length (t : TxD) : (idB t).length = 32 := by
  unfold idB; split
  · exact sum_length _
  · rfl
theorem OwnB.bytes {w : World} {B : Nat} {v : Value} {bs : List (BitVec 8)} (h : OwnB w B v bs) : ∃ a cap, v = .slice a bs.length cap ∧ Bytes w a cap bs := by
  have h0 := h
  rcases h.2 with ⟨rfl, hn⟩ | ⟨g, cap, cur, rfl, _, _, hnc, hcm, _⟩
  · obtain rfl := List.eq_nil_of_length_eq_zero hn
    exact ⟨none, 0, rfl, ⟨Nat.le_refl _, Nat.zero_le _, fun e => absurd rfl e⟩⟩
  · refine ⟨_, _, rfl, ⟨hnc, hcm, fun _ => ⟨g, 0, rfl, fun j hj => ?_⟩⟩⟩
    have := World.ownsRow.cells h0 (g := g) rfl j _ (u8s_get bs j hj)
    rwa [Addr.add_mid] at this
theorem bodyB_length (t : TxD) (h : t.ins.length ≤ 100) (h' : t.outs.length ≤ 100) : (bodyB t).length ≤ 20000 := by
  have h1 := flatMap_length inB 50 inB_length t.ins
  have h2 := flatMap_length outB 95 outB_length t.outs
  have h3 := numB_length t.ins.length
  have h4 := numB_length t.outs.length
  have h5 := numB_length t.lock
  unfold bodyB
  simp only [List.length_append]; omega
theorem chk_small {t : TxD} (h : chkE t = 0) : t.ins.length ≤ 100 ∧ t.outs.length ≤ 100 := by
  by_cases hb : 100 < t.ins.length ∨ 100 < t.outs.length
  · rw [chk_big hb] at h; cases h
  · omega
theorem size_h (h : List (BitVec 8)) (hl : h.length = 32) : (Tryz.prog.info? 28).map (·.size) = some (u8s h).toArray.size := by
  rw [show (u8s h).toArray.size = 32 by simp [hl]]; kernel_rfl
theorem zh_size (h : List (BitVec 8)) (hl : h.length = 32) : (u8s zeros32).toArray.size = (u8s h).toArray.size := by simp [hl, zeros32]

set_option maxRecDepth 100000 in
set_option maxHeartbeats 4000000 in
theorem id_any (tv : TxV) (t : TxD) (w : World) (hT : TxAt w tv t) (hK : Kw w) :
    Calls Tryz.prog 13 #[tv.val t.lock] w fun e w' => e = .returned (.agg (u8s (idB t)).toArray) ∧ Below w.heap.size w w' := by
  have HUH : Hid (_ = _) := Tryz.underlying28
  have HT : Hid (TxAt w tv t) := hT
  have HK : Hid (Kw w) := hK
  have hpos := hK.pos
  have HLI : Hid (t.ins.length = tv.n) := hT.ins.len
  have HLO : Hid (t.outs.length = tv.m) := hT.outs.len
  clear hT hK
  obtain ⟨lk, hlk⟩ : ∃ z, z = t.lock := ⟨_, rfl⟩
  have HLK : Hid (lk = t.lock) := hlk
  have HCHK : Hid (∀ w', TxAt w' tv t → Calls Tryz.prog 10 #[tv.val lk] w' fun e w'' => e = .returned (.int .i64 (chkE t)) ∧ Below w'.heap.size w' w'') := fun w' h => by rw [hlk]; exact check_any tv t w' h
  have HBODY : Hid (∀ (R N : Nat) (w1 : World), Wr w1 R N (.slice none 0 0) [] → w.heap.size ≤ R → Below w.heap.size w w1 → tv.n ≤ 100 → tv.m ≤ 100 → Calls Tryz.prog 24 #[.pointer (some ⟨R, 0, none⟩), tv.val lk] w1 fun e w' => e = .returned (.tuple #[]) ∧ ∃ v', Wr w' R N v' (bodyB t) ∧ Grew R (.slice none 0 0) v' w1 w') := fun R N w1 h1 h2 h3 h4 h5 => by
    rw [hlk]
    have := wbody_any R N (.slice none 0 0) [] tv t w1 w h1 HT.out h2 h3 h4 h5 (by simp)
    simpa using this
  rw [← hlk]
  clear hlk
  unfold TxV.val at *
  go_enter Tryz.func13, Tryz.ntmps13
  go_wp2_with fail
  refine wp_scope_hops 1 ?_
  go_hide hQ
  go_upto_region 3 with fail
  generalize hwv : World.alloc (World.alloc (World.alloc (World.alloc w _) _) _) _ = w1
  have hB0 : Blk w1 w.heap.size [.slice tv.a tv.n tv.c, .slice tv.b tv.m tv.d, .int .i64 lk] := by rw [← hwv]; exact (((Blk.mk _ _ _ rfl rfl).alloc _).alloc _).alloc _
  have hB1 : Blk w1 (w.heap.size + 1) (u8s zeros32) := by rw [← hwv]; exact ((Blk.mk _ _ _ (by simp) rfl).alloc _).alloc _
  have hB2 : Blk w1 (w.heap.size + 2) (u8s zeros32) := by rw [← hwv]; exact (Blk.mk _ _ _ (by simp) rfl).alloc _
  have hB3 : Blk w1 (w.heap.size + 3) [.slice none 0 0] := by rw [← hwv]; exact Blk.mk _ _ _ (by simp) rfl
  have hbl : Below w.heap.size w w1 := by rw [← hwv]; exact ((((Below.refl _ _).alloc (Nat.le_refl _) _).alloc (by simp) _).alloc (by simp; omega) _).alloc (by simp; omega) _
  clear hwv
  have hsz1 := hB3.lt
  have HB0 : Hid (Blk _ _ _) := hB0
  have HB1 : Hid (Blk _ _ _) := hB1
  have HB2 : Hid (Blk _ _ _) := hB2
  have HB3 : Hid (Blk _ _ _) := hB3
  have HBL : Hid (Below _ _ _) := hbl
  have c0 : w1.cell? ⟨w.heap.size, 0, none⟩ = some (.slice tv.a tv.n tv.c) := hB0.one rfl
  have c1 : w1.cell? ⟨w.heap.size, 1, none⟩ = some (.slice tv.b tv.m tv.d) := hB0.one rfl
  have c2 : w1.cell? ⟨w.heap.size, 2, none⟩ = some (.int .i64 lk) := hB0.one rfl
  clear hB0 hB1 hB2 hB3 hbl
  generalize hN : w.heap.size = T at *
  go_wp2_with fail
  refine Calls.mono (HCHK.out w1 (HT.out.below (hN ▸ HBL.out))) ?_
  rintro e w2 ⟨rfl, hb2⟩
  have HB0' : Hid (Blk _ _ _) := HB0.out.below hb2 HB0.out.lt
  have HB1' : Hid (Blk _ _ _) := HB1.out.below hb2 HB1.out.lt
  have HB2' : Hid (Blk _ _ _) := HB2.out.below hb2 HB2.out.lt
  have HB3' : Hid (Blk _ _ _) := HB3.out.below hb2 HB3.out.lt
  have HBL2 : Hid (Below T w w2) := HBL.out.trans (hb2.mono (by omega))
  have hsz2 := HB3'.out.lt
  clear hb2 c0 c1 c2 HB0 HB1 HB2 HB3 HBL hsz1
  by_cases hz : chkE t = 0
  · have HID : Hid (idB t = sum (sum (bodyB t))) := show _ = _ from if_pos hz
    obtain ⟨hi100, ho100⟩ := chk_small hz
    rw [HLI.out] at hi100
    rw [HLO.out] at ho100
    have HLB : Hid ((bodyB t).length ≤ 20000) := bodyB_length t (by rw [HLI.out]; exact hi100) (by rw [HLO.out]; exact ho100)
    rw [hz]
    have c0 : w2.cell? ⟨T, 0, none⟩ = some (.slice tv.a tv.n tv.c) := HB0'.out.one rfl
    have c1 : w2.cell? ⟨T, 1, none⟩ = some (.slice tv.b tv.m tv.d) := HB0'.out.one rfl
    have c2 : w2.cell? ⟨T, 2, none⟩ = some (.int .i64 lk) := HB0'.out.one rfl
    go_wp2_with fail
    have HWR : Hid (Wr w2 (T + 3) w2.heap.size (.slice none 0 0) []) := ⟨HB3'.out, OwnB.nil _ _, by omega, Nat.le_refl _⟩
    refine Calls.mono (HBODY.out (T + 3) w2.heap.size w2 HWR.out (by omega) HBL2.out hi100 ho100) ?_
    rintro e w3 ⟨rfl, v3, hW3, hG3⟩
    have HW3 : Hid (Wr _ _ _ _ _) := hW3
    have HB13 : Hid (Blk w3 (T + 1) (u8s zeros32)) := HB1'.out.grew hG3 (by omega) (by simp [Value.ownBlock])
    have HB23 : Hid (Blk w3 (T + 2) (u8s zeros32)) := HB2'.out.grew hG3 (by omega) (by simp [Value.ownBlock])
    have HBL3 : Hid (Below T w w3) := HBL2.out.trans (hG3.below (by omega) (by omega) (by simp [Value.ownBlock]))
    clear hW3 hG3 c0 c1 c2 HB0' HB1' HB2' HB3' HWR
    have hsz3 := HB23.out.lt
    go_wp2_with fail
    refine (wbytes_any (T + 3) _ v3 (bodyB t) w3 HW3.out (by have := HLB.out; omega)).mono ?_
    rintro e w4 ⟨v4, rfl, hO4, hb4⟩
    obtain ⟨a4, cap4, rfl, hby⟩ := hO4.bytes
    have HBY : Hid (Bytes w4 a4 cap4 (bodyB t)) := hby
    have HB14 : Hid (Blk _ _ _) := HB13.out.below hb4 HB13.out.lt
    have HB24 : Hid (Blk _ _ _) := HB23.out.below hb4 HB23.out.lt
    have HBL4 : Hid (Below T w w4) := HBL3.out.trans (hb4.mono (by omega))
    clear hby hb4 hO4 HB13 HB23 HBL3 HW3
    have hsz4 := HB24.out.lt
    have HLQ : Hid ((bodyB t).length < 144115188075855872) := show _ < _ by have := HLB.out; omega
    generalize bodyB t = bb at *
    generalize hln : bb.length = ln at *
    have HLN : Hid (bb.length = ln) := hln
    clear hln
    go_wp2_with fail
    generalize hw5 : World.alloc w4 _ = w5
    have hb5 : Below w4.heap.size w4 w5 := by rw [← hw5]; exact (Below.refl _ _).alloc (Nat.le_refl _) _
    have hP5 : Blk w5 w4.heap.size [.slice a4 ln cap4] := by rw [← hw5]; exact Blk.new _ _ _
    have HPC : Hid (Pieces w5 (some ⟨w4.heap.size, 0, none⟩) [bb]) := fun i hi => by
      obtain rfl : i = 0 := by simpa using hi
      exact ⟨w4.heap.size, 0, a4, cap4, rfl, by rw [hP5.cell]; show some _ = some _; rw [← HLN.out]; rfl, HBY.out.later hb5 (Nat.le_refl _)⟩
    have HB15 : Hid (Blk _ _ _) := HB14.out.below hb5 HB14.out.lt
    have HB25 : Hid (Blk _ _ _) := HB24.out.below hb5 HB24.out.lt
    have HBL5 : Hid (Below T w w5) := HBL4.out.trans (hb5.mono (by omega))
    clear hw5 hb5 hP5 HB14 HB24 HBL4
    have hsz5 := HB25.out.lt
    refine (twice_any (some ⟨w4.heap.size, 0, none⟩) 1 1 [bb] rfl w5 (HK.out.below HBL5.out (by omega)) (by omega) HPC.out (by have h := HLQ.out; rw [show [bb].flatten = bb by simp, HLN.out]; exact h)).mono ?_
    rintro e w6 ⟨rfl, hb6⟩
    rw [show [bb].flatten = bb by simp]
    have HB16 : Hid (Blk _ _ _) := HB15.out.below hb6 HB15.out.lt
    have HB26 : Hid (Blk _ _ _) := HB25.out.below hb6 HB25.out.lt
    have HBL6 : Hid (Below T w w6) := HBL5.out.trans (hb6.mono (by omega))
    clear hb6 HB15 HB25 HBL5
    have HIL : Hid ((sum (sum bb)).length = 32) := sum_length _
    generalize sum (sum bb) = h at *
    obtain ⟨t2, hg2⟩ := HB26.out
    have HG2 : Hid (w6.heap[T + 2]? = _) := hg2
    clear hg2
    go_wp2_with (refine wpList_store_row rfl 28 _ _ rfl (T + 2) (u8s h).toArray rfl rfl t2 _ HG2.out (size_h h HIL.out) (zh_size h HIL.out) (u8s_one _) ?_)
    have HB27 : Hid (Blk (w6.setRow (T + 2) (u8s h).toArray) (T + 2) (u8s h)) := HB26.out.row
    have HB17 : Hid (Blk (w6.setRow (T + 2) (u8s h).toArray) (T + 1) (u8s zeros32)) := HB16.out.otherRow (by omega) _
    have HBL7 : Hid (Below T w (w6.setRow (T + 2) (u8s h).toArray)) := below_setRow HBL6.out (by omega) _
    clear HG2 HB16 HB26 HBL6
    generalize w6.setRow (T + 2) (u8s h).toArray = w7 at *
    go_step3
    obtain ⟨t1, hg1⟩ := HB17.out
    have HG1 : Hid (w7.heap[T + 1]? = _) := hg1
    clear hg1
    go_wp2_with (first
      | (refine wpList_load_mid rfl 28 _ rfl (T + 2) 0 rfl (u8s h) _ HB27.out.whole HUH.out rfl (size_hashL h HIL.out) ?_)
      | (refine wpList_store_row rfl 28 _ _ rfl (T + 1) (u8s h).toArray rfl rfl t1 _ HG1.out (size_h h HIL.out) (zh_size h HIL.out) (u8s_one _) ?_))
    subst hQ
    rw [hops_ret]
    refine bodyPost_ret (v := .agg (u8s h).toArray) ?_ rfl ⟨by rw [HID.out], ?_⟩
    · obtain ⟨tt, hb⟩ := Blk.row (ds := u8s h) ⟨t1, HG1.out⟩
      exact results_cell_row Tryz.results13 _ _ (T + 1) tt _ _ _ rfl hb Tryz.underlying28 rfl (size_h h HIL.out)
    · subst hN
      exact below_setRow HBL7.out (by omega) _
  · have HID : Hid (idB t = zeros32) := show _ = _ from if_neg hz
    have hne : (chkE t != 0) = true := by simp [hz]
    generalize chkE t = E at *
    clear hz
    go_wp2_with fail
    go_step3
    simp only [Exit.then]
    subst hQ
    rw [hops_goto]
    refine ⟨_, rfl, ?_⟩
    go_hide hQ
    obtain ⟨t1, hg1⟩ := HB1'.out
    have HG1 : Hid (w2.heap[T + 1]? = _) := hg1
    clear hg1
    go_wp2_with (first
      | (refine wpList_load_mid rfl 28 _ rfl (T + 2) 0 rfl (u8s zeros32) _ HB2'.out.whole HUH.out rfl (size_hashL zeros32 rfl) ?_)
      | (refine wpList_store_row rfl 28 _ _ rfl (T + 1) (u8s zeros32).toArray rfl rfl t1 _ HG1.out (size_h zeros32 rfl) rfl (u8s_one _) ?_))
    subst hQ
    rw [hops_ret]
    refine bodyPost_ret (v := .agg (u8s zeros32).toArray) ?_ rfl ⟨by rw [HID.out], ?_⟩
    · obtain ⟨tt, hb⟩ := Blk.row (ds := u8s zeros32) ⟨t1, HG1.out⟩
      exact results_cell_row Tryz.results13 _ _ (T + 1) tt _ _ _ rfl hb Tryz.underlying28 rfl (size_h zeros32 rfl)
    · subst hN
      exact below_setRow HBL2.out (by omega) _
end Go.Proofs.YteikbpkjikacmaaGreatDoor
namespace Go.Proofs.YteikbpkjikacmaaGreatDoor
/-- What Encode writes of it ahead of the witnesses. -/
def B0 : List (BitVec 8) := [1#8, 0#8, 0#8, 0#8, 0#8, 0#8, 0#8, 0#8, 0#8, 0#8, 0#8, 0#8, 0#8, 0#8, 0#8, 0#8, 0#8, 0#8, 0#8, 0#8, 0#8, 0#8, 0#8, 0#8, 0#8, 0#8, 0#8, 0#8, 0#8, 0#8, 0#8, 0#8, 0#8, 0#8, 0#8, 1#8, 5#8, 1#8, 1#8, 0#8, 0#8, 0#8, 0#8, 0#8, 0#8, 0#8, 0#8, 0#8, 0#8, 0#8, 0#8, 0#8, 0#8, 0#8, 0#8, 0#8, 0#8, 0#8, 0#8, 0#8, 0#8, 0#8, 0#8, 0#8, 0#8, 0#8, 0#8, 0#8, 0#8, 0#8, 0#8, 0#8, 0#8, 0#8, 0#8, 0#8]
def P1 : List (BitVec 8) := [1#8, 0#8, 0#8, 0#8, 0#8, 0#8, 0#8, 0#8, 0#8, 0#8, 0#8, 0#8, 0#8, 0#8, 0#8, 0#8, 0#8, 0#8, 0#8, 0#8, 0#8, 0#8, 0#8, 0#8, 0#8, 0#8, 0#8, 0#8, 0#8, 0#8, 0#8, 0#8, 0#8, 0#8, 0#8, 1#8, 5#8, 1#8, 1#8, 0#8, 0#8, 0#8, 0#8, 0#8, 0#8, 0#8, 0#8, 0#8, 0#8, 0#8, 0#8, 0#8, 0#8, 0#8, 0#8, 0#8, 0#8, 0#8, 0#8, 0#8, 0#8, 0#8, 0#8, 0#8]
def P2 : List (BitVec 8) := [0#8, 0#8, 0#8, 0#8, 0#8, 0#8, 0#8, 0#8, 0#8, 0#8, 0#8, 0#8, 128#8, 0#8, 0#8, 0#8, 0#8, 0#8, 0#8, 0#8, 0#8, 0#8, 0#8, 0#8, 0#8, 0#8, 0#8, 0#8, 0#8, 0#8, 0#8, 0#8, 0#8, 0#8, 0#8, 0#8, 0#8, 0#8, 0#8, 0#8, 0#8, 0#8, 0#8, 0#8, 0#8, 0#8, 0#8, 0#8, 0#8, 0#8, 0#8, 0#8, 0#8, 0#8, 0#8, 0#8, 0#8, 0#8, 0#8, 0#8, 0#8, 0#8, 2#8, 96#8]
def H1 : List (BitVec 8) := [48#8, 223#8, 131#8, 178#8, 188#8, 249#8, 252#8, 4#8, 179#8, 115#8, 228#8, 248#8, 30#8, 25#8, 251#8, 8#8, 198#8, 213#8, 40#8, 250#8, 16#8, 32#8, 9#8, 104#8, 42#8, 131#8, 246#8, 188#8, 222#8, 199#8, 101#8, 162#8]
def Q1 : List (BitVec 8) := [48#8, 223#8, 131#8, 178#8, 188#8, 249#8, 252#8, 4#8, 179#8, 115#8, 228#8, 248#8, 30#8, 25#8, 251#8, 8#8, 198#8, 213#8, 40#8, 250#8, 16#8, 32#8, 9#8, 104#8, 42#8, 131#8, 246#8, 188#8, 222#8, 199#8, 101#8, 162#8, 128#8, 0#8, 0#8, 0#8, 0#8, 0#8, 0#8, 0#8, 0#8, 0#8, 0#8, 0#8, 0#8, 0#8, 0#8, 0#8, 0#8, 0#8, 0#8, 0#8, 0#8, 0#8, 0#8, 0#8, 0#8, 0#8, 0#8, 0#8, 0#8, 0#8, 1#8, 0#8]
def St2 : St := ⟨819954610#32, 3170499588#32, 3010716920#32, 505019144#32, 3335858426#32, 270535016#32, 713291452#32, 3737609634#32⟩
theorem closed_B0 : closed B0 = P1 ++ P2 := by kernel_rfl
theorem closed_H1 : closed H1 = Q1 := by kernel_rfl
theorem words_P1 : WOK P1 0 0 [16777216, 0, 0, 0, 0, 0, 0, 0, 1, 83951872, 0, 0, 0, 0, 0, 0] := by
  constructor
  · intro j hj
    obtain (rfl | rfl | rfl | rfl | rfl | rfl | rfl | rfl | rfl | rfl | rfl | rfl | rfl | rfl | rfl | rfl) : j = 0 ∨ j = 1 ∨ j = 2 ∨ j = 3 ∨ j = 4 ∨ j = 5 ∨ j = 6 ∨ j = 7 ∨ j = 8 ∨ j = 9 ∨ j = 10 ∨ j = 11 ∨ j = 12 ∨ j = 13 ∨ j = 14 ∨ j = 15 := by omega
    all_goals exact small_good _ (by decide)
  · intro j hj _
    rw [Nat.zero_add, W_first _ j hj, lane_0]
    obtain (rfl | rfl | rfl | rfl | rfl | rfl | rfl | rfl | rfl | rfl | rfl | rfl | rfl | rfl | rfl | rfl) : j = 0 ∨ j = 1 ∨ j = 2 ∨ j = 3 ∨ j = 4 ∨ j = 5 ∨ j = 6 ∨ j = 7 ∨ j = 8 ∨ j = 9 ∨ j = 10 ∨ j = 11 ∨ j = 12 ∨ j = 13 ∨ j = 14 ∨ j = 15 := by omega
    all_goals rfl
theorem words_P2 : WOK P2 0 0 [0, 0, 0, 2147483648, 0, 0, 0, 0, 0, 0, 0, 0, 0, 0, 0, 608] := by
  constructor
  · intro j hj
    obtain (rfl | rfl | rfl | rfl | rfl | rfl | rfl | rfl | rfl | rfl | rfl | rfl | rfl | rfl | rfl | rfl) : j = 0 ∨ j = 1 ∨ j = 2 ∨ j = 3 ∨ j = 4 ∨ j = 5 ∨ j = 6 ∨ j = 7 ∨ j = 8 ∨ j = 9 ∨ j = 10 ∨ j = 11 ∨ j = 12 ∨ j = 13 ∨ j = 14 ∨ j = 15 := by omega
    all_goals exact small_good _ (by decide)
  · intro j hj _
    rw [Nat.zero_add, W_first _ j hj, lane_0]
    obtain (rfl | rfl | rfl | rfl | rfl | rfl | rfl | rfl | rfl | rfl | rfl | rfl | rfl | rfl | rfl | rfl) : j = 0 ∨ j = 1 ∨ j = 2 ∨ j = 3 ∨ j = 4 ∨ j = 5 ∨ j = 6 ∨ j = 7 ∨ j = 8 ∨ j = 9 ∨ j = 10 ∨ j = 11 ∨ j = 12 ∨ j = 13 ∨ j = 14 ∨ j = 15 := by omega
    all_goals rfl
theorem words_Q1 : WOK Q1 0 0 [819954610, 3170499588, 3010716920, 505019144, 3335858426, 270535016, 713291452, 3737609634, 2147483648, 0, 0, 0, 0, 0, 0, 256] := by
  constructor
  · intro j hj
    obtain (rfl | rfl | rfl | rfl | rfl | rfl | rfl | rfl | rfl | rfl | rfl | rfl | rfl | rfl | rfl | rfl) : j = 0 ∨ j = 1 ∨ j = 2 ∨ j = 3 ∨ j = 4 ∨ j = 5 ∨ j = 6 ∨ j = 7 ∨ j = 8 ∨ j = 9 ∨ j = 10 ∨ j = 11 ∨ j = 12 ∨ j = 13 ∨ j = 14 ∨ j = 15 := by omega
    all_goals exact small_good _ (by decide)
  · intro j hj _
    rw [Nat.zero_add, W_first _ j hj, lane_0]
    obtain (rfl | rfl | rfl | rfl | rfl | rfl | rfl | rfl | rfl | rfl | rfl | rfl | rfl | rfl | rfl | rfl) : j = 0 ∨ j = 1 ∨ j = 2 ∨ j = 3 ∨ j = 4 ∨ j = 5 ∨ j = 6 ∨ j = 7 ∨ j = 8 ∨ j = 9 ∨ j = 10 ∨ j = 11 ∨ j = 12 ∨ j = 13 ∨ j = 14 ∨ j = 15 := by omega
    all_goals rfl
noncomputable def v1 : V8 := mixV startV 16777216 0 0 0 0 0 0 0 1 83951872 0 0 0 0 0 0
noncomputable def v2 : V8 := mixV v1 0 0 0 2147483648 0 0 0 0 0 0 0 0 0 0 0 608
theorem of_modN (z c : Nat) (h : Nat.mod z 4294967296 = c) : BitVec.ofNat 32 z = BitVec.ofNat 32 c := by
  apply BitVec.eq_of_toNat_eq
  rw [BitVec.toNat_ofNat, BitVec.toNat_ofNat, ← h]
  show z % 4294967296 = (z % 4294967296) % 4294967296
  omega
theorem v2_a : Nat.mod (V8.a v2) 4294967296 = 819954610 := by kernel_rfl
theorem v2_b : Nat.mod (V8.b v2) 4294967296 = 3170499588 := by kernel_rfl
theorem v2_c : Nat.mod (V8.c v2) 4294967296 = 3010716920 := by kernel_rfl
theorem v2_d : Nat.mod (V8.d v2) 4294967296 = 505019144 := by kernel_rfl
theorem v2_e : Nat.mod (V8.e v2) 4294967296 = 3335858426 := by kernel_rfl
theorem v2_f : Nat.mod (V8.f v2) 4294967296 = 270535016 := by kernel_rfl
theorem v2_g : Nat.mod (V8.g v2) 4294967296 = 713291452 := by kernel_rfl
theorem v2_h : Nat.mod (V8.h v2) 4294967296 = 3737609634 := by kernel_rfl
theorem mix_B0 : mixAll start (closed B0) = St2 := by
  obtain ⟨h1, h2⟩ := startV_ok 0 (by omega)
  obtain ⟨g1, g2⟩ := mixV_ok P1 startV 0 (by omega) 16777216 0 0 0 0 0 0 0 1 83951872 0 0 0 0 0 0 h1 words_P1
  obtain ⟨_, k2⟩ := mixV_ok P2 v1 0 (by omega) 0 0 0 2147483648 0 0 0 0 0 0 0 0 0 0 0 608 g1 words_P2
  rw [h2] at g2
  rw [show laneV v1 0 = mix start P1 from g2] at k2
  have e1 := mixAll_block start P1 P2 rfl
  have e2 := mixAll_block (mix start P1) P2 [] rfl
  rw [List.append_nil, mixAll_short _ [] (by decide)] at e2
  rw [closed_B0, e1, e2, ← k2]
  show (⟨lane (V8.a v2) 0, lane (V8.b v2) 0, lane (V8.c v2) 0, lane (V8.d v2) 0, lane (V8.e v2) 0, lane (V8.f v2) 0, lane (V8.g v2) 0, lane (V8.h v2) 0⟩ : St) = St2
  rw [lane_0, lane_0, lane_0, lane_0, lane_0, lane_0, lane_0, lane_0, of_modN _ _ v2_a, of_modN _ _ v2_b, of_modN _ _ v2_c, of_modN _ _ v2_d, of_modN _ _ v2_e, of_modN _ _ v2_f, of_modN _ _ v2_g, of_modN _ _ v2_h]
  rfl
theorem sum_B0 : sum B0 = H1 := by
  unfold sum
  rw [mix_B0]
  kernel_rfl
theorem q_reckoned : Nat.mod (V8.a (mixV startV 819954610 3170499588 3010716920 505019144 3335858426 270535016 713291452 3737609634 2147483648 0 0 0 0 0 0 256)) 4294967296 = 2567154452 := by kernel_rfl
theorem sum_H1 : (sum H1).getD 0 0 = 153#8 := by
  obtain ⟨h1, h2⟩ := startV_ok 0 (by omega)
  obtain ⟨_, k2⟩ := mixV_ok Q1 startV 0 (by omega) 819954610 3170499588 3010716920 505019144 3335858426 270535016 713291452 3737609634 2147483648 0 0 0 0 0 0 256 h1 words_Q1
  rw [h2] at k2
  have e2 := mixAll_block start Q1 [] rfl
  rw [List.append_nil, mixAll_short _ [] (by decide)] at e2
  have e : (mixAll start (closed H1)).list.getD 0 0 = 2567154452#32 := by
    rw [closed_H1, e2, ← k2]
    show lane _ 0 = _
    rw [lane_0]
    exact of_modN _ _ q_reckoned
  unfold sum
  rw [bytes_get _ _ (by omega)]
  simp only [Nat.reduceDiv]
  rw [e]
  rfl
theorem twice_B0 : sum (sum B0) ≠ zeros32 := fun h => by
  have e := sum_H1
  rw [← sum_B0, h] at e
  exact absurd e (by decide)
end Go.Proofs.YteikbpkjikacmaaGreatDoor
namespace Go.Proofs.YteikbpkjikacmaaGreatDoor
open Go.Shelf
def Tryz.equalIns_ren : Go.Shelf.Ren := ⟨fun | 8 => 51 | n => n, fun | 22 => 22 | 24 => 52 | 4 => 4 | 3 => 3 | 0 => 0 | n => n, fun | n => n⟩
theorem Tryz.equalIns : Go.Proofs.SlLaysQ.n8 Tryz.prog Tryz.equalIns_ren := {
  mixed := by kernel_rfl
  f8 := ⟨Tryz.f51.name, by decide, Tryz.func51.trans (congrArg some (by kernel_rfl))⟩
  t0 := Tryz.underlying0
  a0 := Tryz.isAgg0
  z0 := Tryz.sizeOf0
  v0 := Tryz.zeroValue0
  t3 := Tryz.underlying3
  a3 := Tryz.isAgg3
  z3 := Tryz.sizeOf3
  v3 := Tryz.zeroValue3
  t4 := Tryz.underlying4
  a4 := Tryz.isAgg4
  z4 := Tryz.sizeOf4
  v4 := Tryz.zeroValue4
  t22 := Tryz.underlying22
  a22 := Tryz.isAgg22
  z22 := Tryz.sizeOf22
  v22 := Tryz.zeroValue22 }
def Tryz.equalOuts_ren : Go.Shelf.Ren := ⟨fun | 8 => 52 | n => n, fun | 22 => 23 | 24 => 56 | 4 => 4 | 3 => 3 | 0 => 0 | n => n, fun | n => n⟩
theorem Tryz.equalOuts : Go.Proofs.SlLaysQ.n8 Tryz.prog Tryz.equalOuts_ren := {
  mixed := by kernel_rfl
  f8 := ⟨Tryz.f52.name, by decide, Tryz.func52.trans (congrArg some (by kernel_rfl))⟩
  t0 := Tryz.underlying0
  a0 := Tryz.isAgg0
  z0 := Tryz.sizeOf0
  v0 := Tryz.zeroValue0
  t3 := Tryz.underlying3
  a3 := Tryz.isAgg3
  z3 := Tryz.sizeOf3
  v3 := Tryz.zeroValue3
  t4 := Tryz.underlying4
  a4 := Tryz.isAgg4
  z4 := Tryz.sizeOf4
  v4 := Tryz.zeroValue4
  t22 := Tryz.underlying23
  a22 := Tryz.isAgg23
  z22 := Tryz.sizeOf23
  v22 := Tryz.zeroValue23 }
end Go.Proofs.YteikbpkjikacmaaGreatDoor
namespace Go.Proofs.YteikbpkjikacmaaGreatDoor
open Go.ChangeShapes Go.WideShapes Go.ChangeAt Go.RowKit

theorem equalIn_ptd (d : Nat) (p q : Pt) (w : World) :
    (Op.equalIn (d + 3) 30 (.agg p.cs.toArray) (.agg q.cs.toArray)).run Tryz.prog w = .ok (decide (p = q)) w := by
  have hS : Tryz.prog.underlying 30 = some (.struct (Tryz.prog.fieldsOf 30)) := by kernel_rfl
  have hp : Tryz.prog.stoodInHeld 30 = false := by kernel_rfl
  have hd : decide (p = q) = ((p.tx == q.tx) && (p.n == q.n)) := by
    rw [Bool.eq_iff_iff, decide_eq_true_iff, Bool.and_eq_true, beq_iff_eq, beq_iff_eq]
    exact ⟨fun h => h ▸ ⟨rfl, rfl⟩, fun h => Pt.ext h.1 h.2⟩
  have e1 : ∀ w, (Op.equalIn (d + 2) 28 (.agg (u8s p.tx).toArray) (.agg (u8s q.tx).toArray)).run Tryz.prog w = .ok (p.tx == q.tx) w := fun w => equalIn_hash d p.tx q.tx p.len q.len w
  have e2 : ∀ w, (Op.equalIn (d + 2) 3 (.int .i64 p.n) (.int .i64 q.n)).run Tryz.prog w = .ok (p.n == q.n) w := fun w => run_equalIn_int (P := Tryz.prog) w (d + 1) 3 .i64 .i64 p.n q.n Tryz.underlying3
  rw [show d + 3 = (d + 2) + 1 from rfl, run_equalIn_agg w (d + 2) 30 _ _ hS hp, hd]
  simp only [Program.fieldsOf, Tryz.underlying30, Op.eqFields]
  simp only [Sem.run_bind, Sem.run_ite, part_tx, part_n, Result.andThen_ok, e1, e2]
  cases p.tx == q.tx <;> cases p.n == q.n <;> simp

theorem part_int {cs : List Value} {o : Nat} {z : Int} (h : cs[o]? = some (.int .i64 z)) (w : World) : (part 3 cs.toArray o).run Tryz.prog w = .ok (.int .i64 z) w := by
  have h' : cs.toArray[o]? = some (.int .i64 z) := by simpa using h
  have g := Tryz.isAgg3
  simp only [part, Sem.run_bind, g, Result.andThen_ok]
  simp [h']
theorem part_str {cs : List Value} {o : Nat} {z : ByteArray} (h : cs[o]? = some (.string z)) (w : World) : (part 9 cs.toArray o).run Tryz.prog w = .ok (.string z) w := by
  have h' : cs.toArray[o]? = some (.string z) := by simpa using h
  have g := Tryz.isAgg9
  simp only [part, Sem.run_bind, g, Result.andThen_ok]
  simp [h']
/-- The witness of an input. -/
def In.wit (x : In) : List Value := [.int .i64 x.kind, .int .i64 x.key, .string x.pre]
theorem part_prev (x : In) (w : World) : (part 30 x.cs.toArray 0).run Tryz.prog w = .ok (.agg x.prev.cs.toArray) w := by
  have g := Tryz.isAgg30
  simp only [part, Sem.run_bind, g, Result.andThen_ok]
  simp [Tryz.sizeOf30, In.cs, Pt.cs_length]
theorem part_wit (x : In) (w : World) : (part 50 x.cs.toArray 34).run Tryz.prog w = .ok (.agg x.wit.toArray) w := by
  have g := Tryz.isAgg50
  have e : (x.cs.drop 34).take 3 = x.wit := by
    unfold In.cs
    rw [List.drop_append, List.drop_of_length_le (by rw [Pt.cs_length]; omega), Pt.cs_length]; rfl
  simp only [part, Sem.run_bind, g, Result.andThen_ok]
  simp [Tryz.sizeOf50, List.extract_eq_take_drop, e]
/-- Are two inputs alike? -/
def eqI (x y : In) : Bool := decide (x.prev = y.prev) && (x.seq == y.seq) && (x.kind == y.kind && x.key == y.key && x.pre.toList == y.pre.toList)
theorem equalIn_wit (d : Nat) (x y : In) (w : World) : (Op.equalIn (d + 2) 50 (.agg x.wit.toArray) (.agg y.wit.toArray)).run Tryz.prog w = .ok (x.kind == y.kind && x.key == y.key && x.pre.toList == y.pre.toList) w := by
  have hS : Tryz.prog.underlying 50 = some (.struct (Tryz.prog.fieldsOf 50)) := by kernel_rfl
  have hp : Tryz.prog.stoodInHeld 50 = false := by kernel_rfl
  have e1 : ∀ (a b : Int) w, (Op.equalIn (d + 1) 3 (.int .i64 a) (.int .i64 b)).run Tryz.prog w = .ok (a == b) w := fun a b w => run_equalIn_int (P := Tryz.prog) w d 3 .i64 .i64 a b Tryz.underlying3
  have e2 : ∀ (a b : ByteArray) w, (Op.equalIn (d + 1) 9 (.string a) (.string b)).run Tryz.prog w = .ok (a.toList == b.toList) w := fun a b w => run_equalIn_string (P := Tryz.prog) w d 9 a b Tryz.underlying9
  have p0 : ∀ (x : In) w, (part 3 x.wit.toArray 0).run Tryz.prog w = .ok (.int .i64 x.kind) w := fun x w => part_int rfl w
  have p1 : ∀ (x : In) w, (part 3 x.wit.toArray 1).run Tryz.prog w = .ok (.int .i64 x.key) w := fun x w => part_int rfl w
  have p2 : ∀ (x : In) w, (part 9 x.wit.toArray 2).run Tryz.prog w = .ok (.string x.pre) w := fun x w => part_str rfl w
  rw [show d + 2 = (d + 1) + 1 from rfl, run_equalIn_agg w (d + 1) 50 _ _ hS hp]
  simp only [Program.fieldsOf, Tryz.underlying50, Op.eqFields]
  simp only [Sem.run_bind, Sem.run_ite, p0, p1, p2, Result.andThen_ok, e1, e2]
  cases x.kind == y.kind <;> cases x.key == y.key <;> cases x.pre.toList == y.pre.toList <;> simp
theorem equalIn_in (x y : In) (w : World) : (Op.equalIn 10000 52 (.agg x.cs.toArray) (.agg y.cs.toArray)).run Tryz.prog w = .ok (eqI x y) w := by
  have hS : Tryz.prog.underlying 52 = some (.struct (Tryz.prog.fieldsOf 52)) := by kernel_rfl
  have hp : Tryz.prog.stoodInHeld 52 = false := by kernel_rfl
  have e0 : ∀ w, (Op.equalIn 9999 30 (.agg x.prev.cs.toArray) (.agg y.prev.cs.toArray)).run Tryz.prog w = .ok (decide (x.prev = y.prev)) w := fun w => equalIn_ptd 9996 x.prev y.prev w
  have e1 : ∀ w, (Op.equalIn 9999 3 (.int .i64 x.seq) (.int .i64 y.seq)).run Tryz.prog w = .ok (x.seq == y.seq) w := fun w => run_equalIn_int (P := Tryz.prog) w 9998 3 .i64 .i64 _ _ Tryz.underlying3
  have e2 : ∀ w, (Op.equalIn 9999 50 (.agg x.wit.toArray) (.agg y.wit.toArray)).run Tryz.prog w = .ok (x.kind == y.kind && x.key == y.key && x.pre.toList == y.pre.toList) w := fun w => equalIn_wit 9997 x y w
  have p0 : ∀ (x : In) w, (part 3 x.cs.toArray 33).run Tryz.prog w = .ok (.int .i64 x.seq) w := fun x w => part_int x.seq_at w
  rw [show (10000 : Nat) = 9999 + 1 from rfl, run_equalIn_agg w 9999 52 _ _ hS hp]
  simp only [Program.fieldsOf, Tryz.underlying52, Op.eqFields]
  simp only [Sem.run_bind, Sem.run_ite, part_prev, part_wit, p0, Result.andThen_ok, e0, e1, e2, eqI]
  generalize (x.kind == y.kind && x.key == y.key && x.pre.toList == y.pre.toList) = q
  cases decide (x.prev = y.prev) <;> cases x.seq == y.seq <;> cases q <;> simp
theorem neq_in (x y : In) (w : World) : (binOp .neq 52 (.agg x.cs.toArray) (.agg y.cs.toArray)).run Tryz.prog w = .ok (.bool (!eqI x y)) w := by
  rw [run_neq_struct, equalIn_in]; rfl
theorem guard_in (op : BinOp) (u v : Operand) (x y : In) (w : World) : (eqGuard op 52 u v (.agg x.cs.toArray) (.agg y.cs.toArray)).run Tryz.prog w = .ok () w :=
  run_eqGuard_agg w op _ u v _ _ (by kernel_rfl)

/-- Are two scripts alike? Two outputs? -/
def eqS (x y : Scr) : Bool := (x.kind == y.kind && x.key == y.key && x.other == y.other && x.rev == y.rev && x.delay == y.delay && x.expiry == y.expiry) && (x.hash == y.hash)
def eqO (x y : Out) : Bool := (x.value == y.value) && eqS x.scr y.scr
theorem part_hash (x : Scr) (w : World) : (part 28 x.cs.toArray 6).run Tryz.prog w = .ok (.agg (u8s x.hash).toArray) w := by
  have g := Tryz.isAgg28
  have e : (x.cs.drop 6).take 32 = u8s x.hash := by
    show (u8s x.hash).take 32 = _
    exact List.take_of_length_le (by rw [u8s_length, x.len]; omega)
  simp only [part, Sem.run_bind, g, Result.andThen_ok]
  simp [Tryz.sizeOf28, List.extract_eq_take_drop, e]
theorem part_scr (x : Out) (w : World) : (part 54 x.cs.toArray 1).run Tryz.prog w = .ok (.agg x.scr.cs.toArray) w := by
  have g := Tryz.isAgg54
  have e : (x.cs.drop 1).take 38 = x.scr.cs := by
    show (x.scr.cs).take 38 = _
    exact List.take_of_length_le (by rw [Scr.cs_length]; omega)
  simp only [part, Sem.run_bind, g, Result.andThen_ok]
  simp only [Tryz.sizeOf54, Result.andThen_ok, Sem.run_pure, if_true, Sem.run_bind]
  simp [e]
theorem equalIn_scr (d : Nat) (x y : Scr) (w : World) : (Op.equalIn (d + 3) 54 (.agg x.cs.toArray) (.agg y.cs.toArray)).run Tryz.prog w = .ok (eqS x y) w := by
  have hS : Tryz.prog.underlying 54 = some (.struct (Tryz.prog.fieldsOf 54)) := by kernel_rfl
  have hp : Tryz.prog.stoodInHeld 54 = false := by kernel_rfl
  have e1 : ∀ (a b : Int) w, (Op.equalIn (d + 2) 3 (.int .i64 a) (.int .i64 b)).run Tryz.prog w = .ok (a == b) w := fun a b w => run_equalIn_int (P := Tryz.prog) w (d + 1) 3 .i64 .i64 a b Tryz.underlying3
  have e2 : ∀ w, (Op.equalIn (d + 2) 28 (.agg (u8s x.hash).toArray) (.agg (u8s y.hash).toArray)).run Tryz.prog w = .ok (x.hash == y.hash) w := fun w => equalIn_hash d x.hash y.hash x.len y.len w
  have p0 : ∀ (x : Scr) w, (part 3 x.cs.toArray 0).run Tryz.prog w = .ok (.int .i64 x.kind) w := fun x w => part_int rfl w
  have p1 : ∀ (x : Scr) w, (part 3 x.cs.toArray 1).run Tryz.prog w = .ok (.int .i64 x.key) w := fun x w => part_int rfl w
  have p2 : ∀ (x : Scr) w, (part 3 x.cs.toArray 2).run Tryz.prog w = .ok (.int .i64 x.other) w := fun x w => part_int rfl w
  have p3 : ∀ (x : Scr) w, (part 3 x.cs.toArray 3).run Tryz.prog w = .ok (.int .i64 x.rev) w := fun x w => part_int rfl w
  have p4 : ∀ (x : Scr) w, (part 3 x.cs.toArray 4).run Tryz.prog w = .ok (.int .i64 x.delay) w := fun x w => part_int rfl w
  have p5 : ∀ (x : Scr) w, (part 3 x.cs.toArray 5).run Tryz.prog w = .ok (.int .i64 x.expiry) w := fun x w => part_int rfl w
  rw [show d + 3 = (d + 2) + 1 from rfl, run_equalIn_agg w (d + 2) 54 _ _ hS hp]
  simp only [Program.fieldsOf, Tryz.underlying54, Op.eqFields]
  simp only [Sem.run_bind, Sem.run_ite, p0, p1, p2, p3, p4, p5, part_hash, Result.andThen_ok, e1, e2, eqS]
  generalize (x.kind == y.kind) = q0
  generalize (x.key == y.key) = q1
  generalize (x.other == y.other) = q2
  generalize (x.rev == y.rev) = q3
  generalize (x.delay == y.delay) = q4
  generalize (x.expiry == y.expiry) = q5
  generalize (x.hash == y.hash) = q6
  cases q0
  · simp
  cases q1
  · simp
  cases q2
  · simp
  cases q3
  · simp
  cases q4
  · simp
  cases q5
  · simp
  cases q6 <;> simp
theorem equalIn_out (x y : Out) (w : World) : (Op.equalIn 10000 56 (.agg x.cs.toArray) (.agg y.cs.toArray)).run Tryz.prog w = .ok (eqO x y) w := by
  have hS : Tryz.prog.underlying 56 = some (.struct (Tryz.prog.fieldsOf 56)) := by kernel_rfl
  have hp : Tryz.prog.stoodInHeld 56 = false := by kernel_rfl
  have e1 : ∀ w, (Op.equalIn 9999 3 (.int .i64 x.value) (.int .i64 y.value)).run Tryz.prog w = .ok (x.value == y.value) w := fun w => run_equalIn_int (P := Tryz.prog) w 9998 3 .i64 .i64 _ _ Tryz.underlying3
  have e2 : ∀ w, (Op.equalIn 9999 54 (.agg x.scr.cs.toArray) (.agg y.scr.cs.toArray)).run Tryz.prog w = .ok (eqS x.scr y.scr) w := fun w => equalIn_scr 9996 x.scr y.scr w
  have p0 : ∀ (x : Out) w, (part 3 x.cs.toArray 0).run Tryz.prog w = .ok (.int .i64 x.value) w := fun x w => part_int rfl w
  rw [show (10000 : Nat) = 9999 + 1 from rfl, run_equalIn_agg w 9999 56 _ _ hS hp]
  simp only [Program.fieldsOf, Tryz.underlying56, Op.eqFields]
  simp only [Sem.run_bind, Sem.run_ite, part_scr, p0, Result.andThen_ok, e1, e2, eqO]
  cases x.value == y.value <;> cases eqS x.scr y.scr <;> simp
theorem neq_out (x y : Out) (w : World) : (binOp .neq 56 (.agg x.cs.toArray) (.agg y.cs.toArray)).run Tryz.prog w = .ok (.bool (!eqO x y)) w := by
  rw [run_neq_struct, equalIn_out]; rfl
theorem guard_out (op : BinOp) (u v : Operand) (x y : Out) (w : World) : (eqGuard op 56 u v (.agg x.cs.toArray) (.agg y.cs.toArray)).run Tryz.prog w = .ok () w :=
  run_eqGuard_agg w op _ u v _ _ (by kernel_rfl)

theorem allEq_len {α : Type} (f : α → α → Bool) : ∀ l r : List α, l.length ≠ r.length → Go.Lib.allEq f l r = false
  | [], [], h => absurd rfl h
  | [], _ :: _, _ => by simp [Go.Lib.allEq]
  | _ :: _, [], _ => by simp [Go.Lib.allEq]
  | x :: l, y :: r, h => by
    have := allEq_len f l r (by simpa using h)
    simp [Go.Lib.allEq, this]
theorem ret_q {w : World} {q : Nat} : Below w.heap.size w (w.drewN q) := below_drewN (Below.refl _ _) q

theorem Els.cellsOf {α : Type} [El α] {w : World} {b o n cap : Nat} {l : List α} (h : Els w (some ⟨b, o, none⟩) n cap l) [Inhabited α] : ∀ j, j < l.length → ∀ i v, (El.cs l[j]!)[i]? = some v → w.cell? ⟨b, o + j * El.k α + i, none⟩ = some v := fun j hj i v hv => by
  obtain ⟨b', o', e, hc⟩ := h.at j (by rw [← h.len]; exact hj)
  injection e with e
  injection e with e1 e2
  subst e1; subst e2
  refine hc i v ?_
  rw [← hv, List.getD_eq_getElem?_getD, List.getElem?_eq_getElem hj, getElem!_pos l j hj]
  rfl

set_option maxHeartbeats 1000000 in
theorem eqIns_len (a : Option Addr) (n c : Nat) (b : Option Addr) (m d : Nat) (w : World) (h : n ≠ m) :
    Calls Tryz.prog 51 #[.slice a n c, .slice b m d] w fun e w' => e = .returned (.bool false) ∧ Below w.heap.size w w' := by
  have hn : ((n : Int) != (m : Int)) = true := by simp; omega
  clear h
  go_enter Tryz.func51, Tryz.ntmps51
  go_wp2_with fail
  go_ret
  exact ⟨rfl, Below.refl _ _⟩
set_option maxHeartbeats 1000000 in
theorem eqIns_zero (a : Option Addr) (c : Nat) (b : Option Addr) (d : Nat) (w : World) :
    Calls Tryz.prog 51 #[.slice a 0 c, .slice b 0 d] w fun e w' => e = .returned (.bool true) ∧ Below w.heap.size w w' := by
  go_enter Tryz.func51, Tryz.ntmps51
  go_wp2_with fail
  go_rounds 1
  go_wp2_with fail
  go_ret
  exact ⟨rfl, Below.refl _ _⟩
theorem eqIns_any (a : Option Addr) (n c : Nat) (l : List In) (b : Option Addr) (m d : Nat) (r : List In) (w : World) (hl : Els w a n c l) (hr : Els w b m d r) (hn : n ≤ 100000) (hm : m ≤ 100000) :
    Calls Tryz.prog 51 #[.slice a n c, .slice b m d] w fun e w' => e = .returned (.bool (Go.Lib.allEq eqI l r)) ∧ Below w.heap.size w w' := by
  by_cases h : n = m
  · subst h
    by_cases h0 : n = 0
    · subst h0
      obtain rfl := List.eq_nil_of_length_eq_zero hl.len
      obtain rfl := List.eq_nil_of_length_eq_zero hr.len
      exact eqIns_zero a c b d w
    · obtain ⟨b1, o1, rfl, _⟩ := hl.there (by omega)
      obtain ⟨b2, o2, rfl, _⟩ := hr.there (by omega)
      have e1 := hl.len
      have e2 := hr.len
      have := AnyQ.slices_Equal Tryz.equalIns 37 Tryz.isAgg52 Tryz.sizeOf52 In.cs In.cs_length eqI ⟨neq_in, fun op u v x y w => guard_in op u v x y w⟩ b1 o1 n c b2 o2 n d l r w (by omega) (by omega) (by omega) (by omega) hl.cellsOf hr.cellsOf
      refine Calls.mono this ?_
      rintro e w' ⟨rfl, q, rfl⟩
      rw [List.take_of_length_le (by omega), List.take_of_length_le (by omega)]
      exact ⟨rfl, ret_q⟩
  · rw [allEq_len eqI l r (by rw [hl.len, hr.len]; exact h)]
    exact eqIns_len a n c b m d w h

set_option maxHeartbeats 1000000 in
theorem eqOuts_len (a : Option Addr) (n c : Nat) (b : Option Addr) (m d : Nat) (w : World) (h : n ≠ m) :
    Calls Tryz.prog 52 #[.slice a n c, .slice b m d] w fun e w' => e = .returned (.bool false) ∧ Below w.heap.size w w' := by
  have hn : ((n : Int) != (m : Int)) = true := by simp; omega
  clear h
  go_enter Tryz.func52, Tryz.ntmps52
  go_wp2_with fail
  go_ret
  exact ⟨rfl, Below.refl _ _⟩
set_option maxHeartbeats 1000000 in
theorem eqOuts_zero (a : Option Addr) (c : Nat) (b : Option Addr) (d : Nat) (w : World) :
    Calls Tryz.prog 52 #[.slice a 0 c, .slice b 0 d] w fun e w' => e = .returned (.bool true) ∧ Below w.heap.size w w' := by
  go_enter Tryz.func52, Tryz.ntmps52
  go_wp2_with fail
  go_rounds 1
  go_wp2_with fail
  go_ret
  exact ⟨rfl, Below.refl _ _⟩
theorem eqOuts_any (a : Option Addr) (n c : Nat) (l : List Out) (b : Option Addr) (m d : Nat) (r : List Out) (w : World) (hl : Els w a n c l) (hr : Els w b m d r) (hn : n ≤ 100000) (hm : m ≤ 100000) :
    Calls Tryz.prog 52 #[.slice a n c, .slice b m d] w fun e w' => e = .returned (.bool (Go.Lib.allEq eqO l r)) ∧ Below w.heap.size w w' := by
  by_cases h : n = m
  · subst h
    by_cases h0 : n = 0
    · subst h0
      obtain rfl := List.eq_nil_of_length_eq_zero hl.len
      obtain rfl := List.eq_nil_of_length_eq_zero hr.len
      exact eqOuts_zero a c b d w
    · obtain ⟨b1, o1, rfl, _⟩ := hl.there (by omega)
      obtain ⟨b2, o2, rfl, _⟩ := hr.there (by omega)
      have e1 := hl.len
      have e2 := hr.len
      have := AnyQ.slices_Equal Tryz.equalOuts 39 Tryz.isAgg56 Tryz.sizeOf56 Out.cs Out.cs_length eqO ⟨neq_out, fun op u v x y w => guard_out op u v x y w⟩ b1 o1 n c b2 o2 n d l r w (by omega) (by omega) (by omega) (by omega) hl.cellsOf hr.cellsOf
      refine Calls.mono this ?_
      rintro e w' ⟨rfl, q, rfl⟩
      rw [List.take_of_length_le (by omega), List.take_of_length_le (by omega)]
      exact ⟨rfl, ret_q⟩
  · rw [allEq_len eqO l r (by rw [hl.len, hr.len]; exact h)]
    exact eqOuts_len a n c b m d w h
end Go.Proofs.YteikbpkjikacmaaGreatDoor
namespace Go.Proofs.YteikbpkjikacmaaGreatDoor
open Go.ChangeShapes Go.WideShapes Go.ChangeAt Go.RowKit

/-- What a witness weighs. -/
def witN (k : Int) : Int := if k = 1 then 74 else if k = 2 then 107 else if k = 3 then 76 else if k = 4 then 1 else 0
theorem witN_range (k : Int) : 0 ≤ witN k ∧ witN k ≤ 107 := by unfold witN; repeat' split
                                                               all_goals omega
set_option maxHeartbeats 1000000 in
theorem wit_any (k : Int) (w : World) :
    Calls Tryz.prog 17 #[.int .i64 k] w fun e w' => e = .returned (.int .i64 (witN k)) ∧ w = w' := by
  by_cases h1 : k = 1
  · subst h1
    go_enter Tryz.func17, Tryz.ntmps17
    go_wp2
    go_ret
    exact ⟨rfl, rfl⟩
  by_cases h2 : k = 2
  · subst h2
    go_enter Tryz.func17, Tryz.ntmps17
    go_wp2
    go_ret
    exact ⟨rfl, rfl⟩
  by_cases h3 : k = 3
  · subst h3
    go_enter Tryz.func17, Tryz.ntmps17
    go_wp2
    go_ret
    exact ⟨rfl, rfl⟩
  by_cases h4 : k = 4
  · subst h4
    go_enter Tryz.func17, Tryz.ntmps17
    go_wp2
    go_ret
    exact ⟨rfl, rfl⟩
  have hw : witN k = 0 := by unfold witN; rw [if_neg h1, if_neg h2, if_neg h3, if_neg h4]
  rw [hw]
  have e1 : (k == 1) = false := beq_eq_false_iff_ne.2 h1
  have e2 : (k == 2) = false := beq_eq_false_iff_ne.2 h2
  have e3 : (k == 3) = false := beq_eq_false_iff_ne.2 h3
  have e4 : (k == 4) = false := beq_eq_false_iff_ne.2 h4
  clear h1 h2 h3 h4 hw
  go_enter Tryz.func17, Tryz.ntmps17
  go_wp2
  go_ret
  exact ⟨rfl, rfl⟩

def witS : List In → Int
  | [] => 0
  | x :: l => witN x.kind + witS l
theorem witS_append (l r : List In) : witS (l ++ r) = witS l + witS r := by
  induction l with
  | nil => simp [witS]
  | cons x l ih => simp only [List.cons_append, witS, ih]; omega
theorem witS_range (l : List In) : 0 ≤ witS l ∧ witS l ≤ 107 * l.length := by
  induction l with
  | nil => simp [witS]
  | cons x l ih => have := witN_range x.kind; simp only [witS, List.length_cons]; omega
theorem witS_next (l : List In) (k : Nat) (h : k < l.length) : witS (l.take (k + 1)) = witS (l.take k) + witN (l.getD k default).kind := by
  rw [List.take_add_one, witS_append, List.getD_eq_getElem?_getD, List.getElem?_eq_getElem h]
  simp [witS]
/-- What a transaction weighs. -/
def weiN (t : TxD) : Int := 4 * (10 + 41 * t.ins.length + 34 * t.outs.length) + witS t.ins
set_option maxRecDepth 100000 in
set_option maxHeartbeats 4000000 in
theorem weight_any (v : TxV) (t : TxD) (w : World) (h : TxAt w v t) (hn : v.n ≤ 100000) (hm : v.m ≤ 100000) :
    Calls Tryz.prog 15 #[v.val t.lock] w fun e w' => e = .returned (.int .i64 (weiN t)) ∧ Below w.heap.size w w' := by
  obtain ⟨dI, HDI, HRI⟩ := und_in
  have HWN : Hid (weiN t = 4 * (10 + 41 * v.n + 34 * v.m) + witS t.ins) := show _ = _ by unfold weiN; rw [h.ins.len, h.outs.len]
  have HLI : Hid (t.ins.length = v.n) := h.ins.len
  have HIN : Hid (Els w v.a v.n v.c t.ins) := h.ins
  have HBW : Hid (Below w.heap.size w (w.alloc (.cells #[.slice v.a v.n v.c, .slice v.b v.m v.d, .int .i64 t.lock] 25)) ∧ Blk (w.alloc (.cells #[.slice v.a v.n v.c, .slice v.b v.m v.d, .int .i64 t.lock] 25)) w.heap.size [.slice v.a v.n v.c, .slice v.b v.m v.d, .int .i64 t.lock]) := ⟨(Below.refl _ _).alloc (Nat.le_refl _) _, Blk.new _ _ _⟩
  clear h
  obtain ⟨ins, outs, lock⟩ := t
  obtain ⟨a, n, c, b, m, d⟩ := v
  generalize weiN _ = E at *
  unfold TxV.val
  simp only at *
  go_enter Tryz.func15, Tryz.ntmps15
  go_upto_region 1 with fail
  generalize World.alloc w _ = w1 at *
  have HB1 : Hid (Below w.heap.size w w1) := HBW.out.1
  generalize hN : w.heap.size = N at *
  have c0 : w1.cell? ⟨N, 0, none⟩ = some (.slice a n c) := HBW.out.2.one rfl
  have c1 : w1.cell? ⟨N, 1, none⟩ = some (.slice b m d) := HBW.out.2.one rfl
  have hs1 := HBW.out.2.lt
  have HI1 : Hid (Els w1 a n c ins) := HIN.out.below (hN ▸ HB1.out)
  clear HBW HIN
  go_wp2_with fail
  clear c0 c1
  go_loopw [3, 20] (fun s i wr => ∃ (k : Nat) (z : Int), k ≤ n ∧ s = .int .i64 z ∧ i = .int .i64 k ∧ 0 ≤ z ∧ z ≤ 30000040 + 107 * k ∧ Hid (z = 4 * (10 + 41 * (n : Int) + 34 * (m : Int)) + witS (ins.take k)) ∧ Hid (Below w1.heap.size w1 wr)) (fun _ i _ => n - (intOf i).toNat)
  case atStart => exact ⟨0, 4 * (10 + 41 * (n : Int) + 34 * (m : Int)), by omega, by first | rfl | (congr 1; omega), rfl, by omega, by omega, show _ = _ by simp [witS], Below.refl _ _⟩
  case round =>
    obtain ⟨k, z, hk, rfl, rfl, hz0, hz1, HZ, HBR⟩ := hrel
    by_cases hlt : k < n
    · have e0 : (0 : Int) ≤ (k : Int) := by omega
      have e1 : (k : Int) < (n : Int) := by omega
      obtain ⟨bb, o, rfl, hc⟩ := (HI1.out.below HBR.out).at k hlt
      obtain ⟨x, hx⟩ : ∃ x, x = ins.getD k default := ⟨_, rfl⟩
      change wr.rangeAt bb (o + k * 37) (In.cs (ins.getD k default)) at hc
      rw [← hx] at hc
      have HNX : Hid (witS (ins.take (k + 1)) = witS (ins.take k) + witN x.kind) := by
        show _ = _
        rw [hx]; exact witS_next ins k (by rw [HLI.out]; exact hlt)
      have HC : Hid (wr.rangeAt bb (o + k * 37) x.cs) := hc
      clear hc hx
      go_upto_region 5 with (first
        | (refine wpList_load_mid rfl 52 _ rfl bb (o + k * 37) rfl x.cs _ HC.out HDI.out HRI.out (size_in x) ?_)
        | (refine wpList_store_fresh rfl 52 _ _ rfl x.cs _ 52 rfl rfl (size_ina x) (zin_size x) x.cs_all ?_; intro w2 HB2 Hb2))
      have hszr := HBR.out.size
      have HBR2 : Hid (Below w1.heap.size w1 w2) := HBR.out.trans (Hb2.out.mono hszr)
      have c2 : w2.cell? ⟨wr.heap.size, 34, none⟩ = some (.int .i64 x.kind) := HB2.out.one x.kind_at
      clear HC HBR hszr
      obtain ⟨r0, r1⟩ := witN_range x.kind
      have HWT : Hid (∀ w, Calls Tryz.prog 17 #[.int .i64 x.kind] w fun e w' => e = .returned (.int .i64 (witN x.kind)) ∧ w = w') := fun w => wit_any x.kind w
      generalize witN x.kind = y at *
      go_wp2_with fail
      refine Calls.mono (HWT.out _) ?_
      rintro e w3 ⟨rfl, rfl⟩
      go_wp2_with fail
      go_roundw
      case rel => exact ⟨k + 1, z + y, by omega, rfl, by go_num, by omega, by omega, show _ = _ by rw [HNX.out]; have := HZ.out; omega, HBR2.out⟩
      case measure => simp [intOf]; omega
    · obtain rfl : k = n := by omega
      rw [List.take_of_length_le (by rw [HLI.out]; exact Nat.le_refl _)] at HZ
      go_wp2_with fail
      go_ret
      subst hN
      exact ⟨ret_int (by rw [HWN.out]; exact HZ.out), HB1.out.trans (HBR.out.mono (Nat.le_of_lt hs1))⟩

/-- The place of the first input that spends p, from i on; -1. -/
def spN (p : Pt) : List In → Int → Int
  | [], _ => -1
  | x :: l, i => if x.prev = p then i else spN p l (i + 1)
theorem spN_drop {p : Pt} {l : List In} {k : Nat} (h : k < l.length) : spN p (l.drop k) k = if (l.getD k default).prev = p then (k : Int) else spN p (l.drop (k + 1)) (k + 1 : Nat) := by
  rw [List.drop_eq_getElem_cons h, spN, List.getD_eq_getElem?_getD, List.getElem?_eq_getElem h]; rfl
set_option maxRecDepth 100000 in
set_option maxHeartbeats 4000000 in
theorem spends_any (v : TxV) (t : TxD) (p : Pt) (w : World) (h : TxAt w v t) (hn : v.n ≤ 100000) :
    Calls Tryz.prog 19 #[v.val t.lock, .agg p.cs.toArray] w fun e w' => e = .returned (.int .i64 (spN p t.ins 0)) ∧ Below w.heap.size w w' := by
  obtain ⟨dI, HDI, HRI⟩ := und_in
  have HLI : Hid (t.ins.length = v.n) := h.ins.len
  have HIN : Hid (Els w v.a v.n v.c t.ins) := h.ins
  clear h
  obtain ⟨ins, outs, lock⟩ := t
  obtain ⟨a, n, c, b, m, d⟩ := v
  unfold TxV.val
  simp only at *
  go_enter Tryz.func19, Tryz.ntmps19
  go_wp2_with fail
  generalize hwv : World.alloc (World.alloc w _) _ = w1
  have hB0 : Blk w1 w.heap.size [.slice a n c, .slice b m d, .int .i64 lock] := by rw [← hwv]; exact (Blk.mk _ _ _ rfl rfl).alloc _
  have HB1 : Hid (Blk w1 (w.heap.size + 1) p.cs) := by rw [← hwv]; exact Blk.mk _ _ _ (by simp) rfl
  have HBL : Hid (Below w.heap.size w w1) := by rw [← hwv]; exact ((Below.refl _ _).alloc (Nat.le_refl _) _).alloc (by simp) _
  clear hwv
  generalize hN : w.heap.size = N at *
  have c0 : w1.cell? ⟨N, 0, none⟩ = some (.slice a n c) := hB0.one rfl
  have hs1 := HB1.out.lt
  have HI1 : Hid (Els w1 a n c ins) := HIN.out.below (hN ▸ HBL.out)
  clear hB0 HIN
  refine wp_scope_hops 1 ?_
  go_hide hQ
  go_wp2_with fail
  clear c0
  go_loopw [5, 11] (fun q i wr => ∃ (k : Nat), k ≤ n ∧ q = .int .i64 (-1) ∧ i = .int .i64 k ∧ Hid (spN p ins 0 = spN p (ins.drop k) k) ∧ Hid (Below w1.heap.size w1 wr)) (fun _ i _ => n - (intOf i).toNat)
  case atStart => exact ⟨0, by omega, rfl, rfl, show _ = _ by simp, Below.refl _ _⟩
  case round =>
    obtain ⟨k, hk, rfl, rfl, HZ, HBR⟩ := hrel
    by_cases hlt : k < n
    · have e0 : (0 : Int) ≤ (k : Int) := by omega
      have e1 : (k : Int) < (n : Int) := by omega
      obtain ⟨bb, o, rfl, hc⟩ := (HI1.out.below HBR.out).at k hlt
      obtain ⟨x, hx⟩ : ∃ x, x = ins.getD k default := ⟨_, rfl⟩
      change wr.rangeAt bb (o + k * 37) (In.cs (ins.getD k default)) at hc
      rw [← hx] at hc
      have HNX : Hid (spN p ins 0 = if x.prev = p then (k : Int) else spN p (ins.drop (k + 1)) (k + 1 : Nat)) := by
        show _ = _
        rw [hx, HZ.out]; exact spN_drop (by rw [HLI.out]; exact hlt)
      have HC : Hid (wr.rangeAt bb (o + k * 37) x.cs) := hc
      clear hc hx
      go_upto_region 5 with (first
        | (refine wpList_load_mid rfl 52 _ rfl bb (o + k * 37) rfl x.cs _ HC.out HDI.out HRI.out (size_in x) ?_)
        | (refine wpList_store_fresh rfl 52 _ _ rfl x.cs _ 52 rfl rfl (size_ina x) (zin_size x) x.cs_all ?_; intro w2 HB2 Hb2))
      have hszr := HBR.out.size
      have HBR2 : Hid (Below w1.heap.size w1 w2) := HBR.out.trans (Hb2.out.mono hszr)
      have HPT : Hid (w2.rangeAt wr.heap.size 0 x.prev.cs) := In.prev_at HB2.out.whole
      have HPP : Hid (w2.rangeAt (N + 1) 0 p.cs) := (HB1.out.below HBR2.out hs1).whole
      clear HC HBR hszr
      have q1 : ∀ w', (binOp .eql 30 (.agg x.prev.cs.toArray) (.agg p.cs.toArray)).run Tryz.prog w' = .ok (.bool (decide (x.prev = p))) w' := eql_pt x.prev p
      have q2 : ∀ (op : BinOp) (u v : Operand) w', (eqGuard op 30 u v (.agg x.prev.cs.toArray) (.agg p.cs.toArray)).run Tryz.prog w' = .ok () w' := fun op u v => guard_pt op u v x.prev p
      have q3 : ∀ w', (Op.equalIn 10000 30 (.agg x.prev.cs.toArray) (.agg p.cs.toArray)).run Tryz.prog w' = .ok (decide (x.prev = p)) w' := equalIn_pt x.prev p
      by_cases hxp : x.prev = p
      · have HE : Hid (spN p ins 0 = k) := show _ = _ by rw [HNX.out, if_pos hxp]
        rw [show decide (x.prev = p) = true from decide_eq_true hxp] at q1 q3
        clear hxp
        go_wp2_with (first
          | (refine wpList_load_mid rfl 30 _ rfl wr.heap.size 0 rfl x.prev.cs _ HPT.out und_pt.out rfl (size_pt x.prev) ?_)
          | (refine wpList_load_mid rfl 30 _ rfl (N + 1) 0 rfl p.cs _ HPP.out und_pt.out rfl (size_pt p) ?_))
        go_step3
        subst hQ
        refine show hops _ _ _ 1 (Exit.goto 0) _ _ from ?_
        rw [hops_goto]
        refine ⟨_, rfl, ?_⟩
        go_hide hQ
        go_wp2_with fail
        subst hQ
        rw [hops_ret]
        go_ret
        subst hN
        exact ⟨ret_int HE.out.symm, HBL.out.trans (HBR2.out.mono (by omega))⟩
      · have HE : Hid (spN p ins 0 = spN p (ins.drop (k + 1)) (k + 1 : Nat)) := show _ = _ by rw [HNX.out, if_neg hxp]
        rw [show decide (x.prev = p) = false from decide_eq_false hxp] at q1 q3
        clear hxp
        go_wp2_with (first
          | (refine wpList_load_mid rfl 30 _ rfl wr.heap.size 0 rfl x.prev.cs _ HPT.out und_pt.out rfl (size_pt x.prev) ?_)
          | (refine wpList_load_mid rfl 30 _ rfl (N + 1) 0 rfl p.cs _ HPP.out und_pt.out rfl (size_pt p) ?_))
        go_roundw
        case rel => exact ⟨k + 1, by omega, rfl, by go_num, HE.out, HBR2.out⟩
        case measure => simp [intOf]; omega
    · obtain rfl : k = n := by omega
      have HE : Hid (spN p ins 0 = -1) := show _ = _ by rw [HZ.out, List.drop_of_length_le (by rw [HLI.out]; exact Nat.le_refl _)]; rfl
      go_wp2_with fail
      go_step3
      go_wp2_with fail
      subst hQ
      rw [hops_ret]
      go_ret
      subst hN
      exact ⟨ret_int HE.out.symm, HBL.out.trans (HBR.out.mono (by omega))⟩

/-- Are two transactions alike? -/
def sameT (t u : TxD) : Bool := (t.lock == u.lock) && Go.Lib.allEq eqI t.ins u.ins && Go.Lib.allEq eqO t.outs u.outs
set_option maxRecDepth 100000 in
set_option maxHeartbeats 4000000 in
theorem same_any (v x : TxV) (t u : TxD) (w : World) (ht : TxAt w v t) (hu : TxAt w x u) (hn : v.n ≤ 100000) (hm : v.m ≤ 100000) (hn' : x.n ≤ 100000) (hm' : x.m ≤ 100000) :
    Calls Tryz.prog 23 #[v.val t.lock, x.val u.lock] w fun e w' => e = .returned (.bool (sameT t u)) ∧ Below w.heap.size w w' := by
  have HS : Hid (sameT t u = ((t.lock == u.lock) && Go.Lib.allEq eqI t.ins u.ins && Go.Lib.allEq eqO t.outs u.outs)) := show _ = _ from rfl
  have H1 : Hid (∀ w', Below w.heap.size w w' → Calls Tryz.prog 51 #[.slice v.a v.n v.c, .slice x.a x.n x.c] w' fun e w'' => e = .returned (.bool (Go.Lib.allEq eqI t.ins u.ins)) ∧ Below w'.heap.size w' w'') := fun w' h => eqIns_any _ _ _ _ _ _ _ _ w' (ht.below h).ins (hu.below h).ins hn hn'
  have H2 : Hid (∀ w', Below w.heap.size w w' → Calls Tryz.prog 52 #[.slice v.b v.m v.d, .slice x.b x.m x.d] w' fun e w'' => e = .returned (.bool (Go.Lib.allEq eqO t.outs u.outs)) ∧ Below w'.heap.size w' w'') := fun w' h => eqOuts_any _ _ _ _ _ _ _ _ w' (ht.below h).outs (hu.below h).outs hm hm'
  clear ht hu
  generalize Go.Lib.allEq eqI t.ins u.ins = q1 at *
  generalize Go.Lib.allEq eqO t.outs u.outs = q2 at *
  generalize sameT t u = q at *
  obtain ⟨ins, outs, lock⟩ := t
  obtain ⟨ins', outs', lock'⟩ := u
  obtain ⟨a, n, c, b, m, d⟩ := v
  obtain ⟨a', n', c', b', m', d'⟩ := x
  unfold TxV.val
  simp only at *
  have hcase : lock = lock' ∨ (lock == lock') = false := by
    by_cases h : lock = lock'
    · exact .inl h
    · exact .inr (beq_eq_false_iff_ne.2 h)
  go_enter Tryz.func23, Tryz.ntmps23
  go_upto_region 1 with fail
  generalize hwv : World.alloc (World.alloc w _) _ = w1
  have hB0 : Blk w1 w.heap.size [.slice a n c, .slice b m d, .int .i64 lock] := by rw [← hwv]; exact (Blk.mk _ _ _ rfl rfl).alloc _
  have hB1 : Blk w1 (w.heap.size + 1) [.slice a' n' c', .slice b' m' d', .int .i64 lock'] := by rw [← hwv]; exact Blk.mk _ _ _ (by simp) rfl
  have HBL : Hid (Below w.heap.size w w1) := by rw [← hwv]; exact ((Below.refl _ _).alloc (Nat.le_refl _) _).alloc (by simp) _
  clear hwv
  have HB0 : Hid (Blk w1 _ _) := hB0
  have HB1 : Hid (Blk w1 _ _) := hB1
  have c0 : w1.cell? ⟨w.heap.size, 0, none⟩ = some (.slice a n c) := hB0.one rfl
  have c2 : w1.cell? ⟨w.heap.size, 2, none⟩ = some (.int .i64 lock) := hB0.one rfl
  have d0 : w1.cell? ⟨w.heap.size + 1, 0, none⟩ = some (.slice a' n' c') := hB1.one rfl
  have d2 : w1.cell? ⟨w.heap.size + 1, 2, none⟩ = some (.int .i64 lock') := hB1.one rfl
  have hs1 := HB1.out.lt
  clear hB0 hB1
  rcases hcase with rfl | hne
  · rw [show (lock == lock) = true by simp] at HS
    have hll : (lock == lock) = true := by simp
    go_wp2_with fail
    refine Calls.mono (H1.out w1 HBL.out) ?_
    rintro e w2 ⟨rfl, hb2⟩
    have HBL2 : Hid (Below w.heap.size w w2) := HBL.out.trans (hb2.mono (by omega))
    have HB02 : Hid (Blk w2 _ _) := HB0.out.below hb2 HB0.out.lt
    have HB12 : Hid (Blk w2 _ _) := HB1.out.below hb2 HB1.out.lt
    have c1 : w2.cell? ⟨w.heap.size, 1, none⟩ = some (.slice b m d) := HB02.out.one rfl
    have d1 : w2.cell? ⟨w.heap.size + 1, 1, none⟩ = some (.slice b' m' d') := HB12.out.one rfl
    have hs2 := HB12.out.lt
    clear hb2 HB0 HB1 HBL c0 c2 d0 d2
    cases q1
    · go_wp2_with fail
      go_ret
      exact ⟨ret_bool (by rw [HS.out]; simp), HBL2.out⟩
    · go_wp2_with fail
      refine Calls.mono (H2.out w2 HBL2.out) ?_
      rintro e w3 ⟨rfl, hb3⟩
      have HBL3 : Hid (Below w.heap.size w w3) := HBL2.out.trans (hb3.mono (by omega))
      clear hb3
      go_wp2_with fail
      go_ret
      exact ⟨ret_bool (by rw [HS.out]; simp), HBL3.out⟩
  · go_wp2_with fail
    go_ret
    exact ⟨ret_bool (by rw [HS.out, hne]; simp), HBL.out⟩
end Go.Proofs.YteikbpkjikacmaaGreatDoor
namespace Go.Proofs.YteikbpkjikacmaaGreatDoor
open Go.ChangeShapes Go.WideShapes Go.ChangeAt Go.RowKit

/-- An input of nothing, with this witness; an output of the wallet. -/
def wIn (k key : Int) : In := ⟨default, 0, k, key, ByteArray.empty⟩
def wScr (k key : Int) : Scr := ⟨k, key, 0, 0, 0, 0, List.replicate 32 0, rfl⟩
def wOut (v k key : Int) : Out := ⟨v, wScr k key⟩
def tA : TxD := ⟨[wIn 1 1], [wOut 5 1 1], 0⟩
def uA : TxD := ⟨[wIn 3 9], [wOut 5 1 1], 0⟩
def zA : TxD := ⟨[], [], 0⟩
theorem chk_tA : chkE tA = 0 := by kernel_rfl
theorem chk_uA : chkE uA = 0 := by kernel_rfl
theorem chk_zA : chkE zA = 1 := by kernel_rfl
theorem body_tA : bodyB tA = B0 := by kernel_rfl
theorem body_uA : bodyB uA = B0 := by kernel_rfl
theorem id_uA : idB uA = idB tA := by unfold idB; rw [chk_tA, chk_uA, body_tA, body_uA]
theorem id_tA : idB tA ≠ zeros32 := by unfold idB; rw [chk_tA, body_tA]; exact twice_B0
theorem wei_tA : weiN tA = 414 := by kernel_rfl
theorem same_tu : sameT tA uA = false := by kernel_rfl
theorem wit_9 : witN 9 = 0 := by kernel_rfl

theorem wpList_build_is {P : Program} {ops : Array Oper} {rest : List Oper} {o : Oper} {a : Act} {w : World} {Q : Exit → Act → World → Prop} (hg : o.guard = none) (T : TypeId) (parts : Array (Nat × Operand)) (ho : o.op = .build T parts) (vs : List (Nat × Value)) (cs : List Value)
    (hb : P.built T vs = some cs.toArray) (hv : (parts.map fun (i, x) => (i, a.eval x)).toList = vs)
    (h : wpList P ops Q rest (a.put o.dst (.agg cs.toArray)) w) : wpList P ops Q (o :: rest) a w := by
  refine wpList_build hg T _ ho ?_ ?_
  · rw [hv, hb]; rfl
  · rw [hv, hb]; exact h
theorem Tryz.infoIn : (Tryz.prog.info? 52).map (fun i => (i.zero, i.size, i.bytes)) = some (some (.agg (default : In).cs.toArray), 37, 80) := by kernel_rfl
theorem Tryz.infoOut : (Tryz.prog.info? 56).map (fun i => (i.zero, i.size, i.bytes)) = some (some (.agg (default : Out).cs.toArray), 39, 88) := by kernel_rfl
theorem flatE_values {α : Type} [El α] (l : List α) : ((l.map fun p => Value.agg (El.cs p).toArray).flatMap fun v => v.cells.toList) = flatE l := by
  induction l with
  | nil => rfl
  | cons p l ih => rw [List.map_cons, List.flatMap_cons, ih, flatE_cons]; rfl
theorem wpList_build_els {α : Type} [El α] {P : Program} {ops : Array Oper} {rest : List Oper} {o : Oper} {a : Act} {w : World} {Q : Exit → Act → World → Prop} (hg : o.guard = none) (S T : TypeId) (len : Nat) (parts : Array (Nat × Operand)) (ho : o.op = .buildSlice S len parts)
    (hS : P.underlying S = some (.slice T)) (by_ : Nat) (hinfo : (P.info? T).map (fun i => (i.zero, i.size, i.bytes)) = some (some (.agg (El.cs (El.dflt : α)).toArray), El.k α, by_)) (hk : 0 < El.k α) (hk1 : El.k α ≤ 1000)
    (l : List α) (hl : l.length = len) (h0 : 0 < len) (hlen : len ≤ 1000) (xs : List Operand) (hx : parts.toList = (xs.zipIdx 0).map fun x => (x.2, x.1)) (hv : xs.map a.eval = l.map fun p => Value.agg (El.cs p).toArray)
    (h : wpList P ops Q rest (a.put o.dst (.slice (some ⟨w.heap.size, 0, none⟩) len len)) (w.alloc (.cells (flatE l).toArray T))) : wpList P ops Q (o :: rest) a w := by
  obtain ⟨i, hi, hi1, hi2, hi3⟩ := info_parts hinfo
  refine wpList_buildSlice hg _ T len parts ho (flatE l).toArray i _ hS hi hi1 ?_ ?_ ?_ h
  · rw [hi2]
    have := Nat.mul_le_mul hlen hk1
    omega
  · rw [hi2]
    have := Nat.mul_pos h0 hk
    omega
  · have hp : (parts.map fun (i, x) => (i, a.eval x)).toList = ((l.map fun p => Value.agg (El.cs p).toArray).zipIdx 0).map fun x => (x.2, x.1) := by
      rw [Array.toList_map, hx, ← hv, List.zipIdx_map, List.map_map, List.map_map]
      rfl
    rw [hp, hi2]
    have := Go.Great.fill_whole (s := El.k α) hk (l.map fun p => Value.agg (El.cs p).toArray) ((Array.range (len * El.k α)).map ((Value.agg (El.cs (El.dflt : α)).toArray).cells[· % (Value.agg (El.cs (El.dflt : α)).toArray).cells.size]!)) (fun v hv => by
      obtain ⟨p, _, rfl⟩ := List.mem_map.1 hv
      show (El.cs p).toArray.size = El.k α
      rw [List.size_toArray, El.len]) (by simp [hl])
    rw [this, flatE_values]
theorem Els.lit {α : Type} [El α] (w : World) (l : List α) (n : Nat) (T : TypeId) (hn : l.length = n) (hm : n ≤ 1000000) : Els (w.alloc (.cells (flatE l).toArray T)) (some ⟨w.heap.size, 0, none⟩) n n l :=
  Els.of_blk (cs := flatE l) (Blk.mk _ _ _ rfl rfl) hn (Nat.le_refl _) (by unfold maxLen; omega) (List.take_of_length_le (by rw [flatE_length, hn]; exact Nat.le_refl _))

set_option maxRecDepth 100000 in
set_option maxHeartbeats 4000000 in
theorem awake_any (w : World) (hK : Kw w) :
    Calls Tryz.prog 5 #[] w fun e w' => e = .returned (.bool true) ∧ Below w.heap.size w w' := by
  have HMO := follows_mixed
  have HK : Hid (Kw w) := hK
  have hpos := hK.pos
  clear hK
  go_enter Tryz.func5, Tryz.ntmps5
  go_upto_region 4 with fail
  simp only [Nat.add_assoc, Nat.reduceAdd]
  generalize hwv : World.alloc (World.alloc (World.alloc (World.alloc (World.alloc w _) _) _) _) _ = w1
  have hB0 : Blk w1 w.heap.size (flatE [wIn 1 1]) := by rw [← hwv]; exact ((((Blk.mk _ _ _ rfl rfl).alloc _).alloc _).alloc _).alloc _
  have hB1 : Blk w1 (w.heap.size + 1) (flatE [wOut 5 1 1]) := by rw [← hwv]; exact (((Blk.mk _ _ _ (by simp) rfl).alloc _).alloc _).alloc _
  have hB2 : Blk w1 (w.heap.size + 2) [.slice (some ⟨w.heap.size, 0, none⟩) 1 1, .slice (some ⟨w.heap.size + 1, 0, none⟩) 1 1, .int .i64 0] := by rw [← hwv]; exact ((Blk.mk _ _ _ (by simp) rfl).alloc _).alloc _
  have hB3 : Blk w1 (w.heap.size + 3) [.slice (some ⟨w.heap.size + 4, 0, none⟩) 1 1, .slice (some ⟨w.heap.size + 1, 0, none⟩) 1 1, .int .i64 0] := by rw [← hwv]; exact (Blk.mk _ _ _ (by simp) rfl).alloc _
  have hB4 : Blk w1 (w.heap.size + 4) (flatE [wIn 3 9]) := by rw [← hwv]; exact Blk.mk _ _ _ (by simp) rfl
  have hbl : Below w.heap.size w w1 := by rw [← hwv]; exact (((((Below.refl _ _).alloc (Nat.le_refl _) _).alloc (by simp) _).alloc (by simp; omega) _).alloc (by simp; omega) _).alloc (by simp; omega) _
  clear hwv
  generalize hN : w.heap.size = T at *
  have hTA : TxAt w1 ⟨some ⟨T, 0, none⟩, 1, 1, some ⟨T + 1, 0, none⟩, 1, 1⟩ tA := ⟨Els.of_blk hB0 rfl (Nat.le_refl _) (by show 1 ≤ maxLen; unfold maxLen; omega) rfl, Els.of_blk hB1 rfl (Nat.le_refl _) (by show 1 ≤ maxLen; unfold maxLen; omega) rfl⟩
  have hUA : TxAt w1 ⟨some ⟨T + 4, 0, none⟩, 1, 1, some ⟨T + 1, 0, none⟩, 1, 1⟩ uA := ⟨Els.of_blk hB4 rfl (Nat.le_refl _) (by show 1 ≤ maxLen; unfold maxLen; omega) rfl, Els.of_blk hB1 rfl (Nat.le_refl _) (by show 1 ≤ maxLen; unfold maxLen; omega) rfl⟩
  have hsz := hB4.lt
  have HKW : Hid (∀ w', Below w1.heap.size w1 w' → Kw w') := fun w' hb => (HK.out.below hbl (by omega)).below hb (by omega)
  obtain ⟨h, hh⟩ : ∃ h, idB tA = h := ⟨_, rfl⟩
  have hhl : h.length = 32 := hh ▸ idB_length tA
  have hnz : h ≠ zeros32 := hh ▸ id_tA
  have HCT : Hid (∀ w', Below w1.heap.size w1 w' → Calls Tryz.prog 10 #[.agg #[.slice (some ⟨T, 0, none⟩) 1 1, .slice (some ⟨T + 1, 0, none⟩) 1 1, .int .i64 0]] w' fun e w'' => e = .returned (.int .i64 0) ∧ Below w'.heap.size w' w'') := fun w' hb => by
    have := check_any _ _ w' (hTA.below hb); rwa [chk_tA] at this
  have HCZ : Hid (∀ w', Calls Tryz.prog 10 #[.agg #[.slice none 0 0, .slice none 0 0, .int .i64 0]] w' fun e w'' => e = .returned (.int .i64 1) ∧ Below w'.heap.size w' w'') := fun w' => by
    have := check_any ⟨none, 0, 0, none, 0, 0⟩ zA w' ⟨Els.nil _, Els.nil _⟩; rwa [chk_zA] at this
  have HWT : Hid (∀ w', Below w1.heap.size w1 w' → Calls Tryz.prog 15 #[.agg #[.slice (some ⟨T, 0, none⟩) 1 1, .slice (some ⟨T + 1, 0, none⟩) 1 1, .int .i64 0]] w' fun e w'' => e = .returned (.int .i64 414) ∧ Below w'.heap.size w' w'') := fun w' hb => by
    have := weight_any _ _ w' (hTA.below hb) (by show 1 ≤ _; omega) (by show 1 ≤ _; omega); rwa [wei_tA] at this
  have HIT : Hid (∀ w', Below w1.heap.size w1 w' → Calls Tryz.prog 13 #[.agg #[.slice (some ⟨T, 0, none⟩) 1 1, .slice (some ⟨T + 1, 0, none⟩) 1 1, .int .i64 0]] w' fun e w'' => e = .returned (.agg (u8s h).toArray) ∧ Below w'.heap.size w' w'') := fun w' hb => by
    have := id_any _ _ w' (hTA.below hb) (HKW.out w' hb); rwa [hh] at this
  have HIU : Hid (∀ w', Below w1.heap.size w1 w' → Calls Tryz.prog 13 #[.agg #[.slice (some ⟨T + 4, 0, none⟩) 1 1, .slice (some ⟨T + 1, 0, none⟩) 1 1, .int .i64 0]] w' fun e w'' => e = .returned (.agg (u8s h).toArray) ∧ Below w'.heap.size w' w'') := fun w' hb => by
    have := id_any _ _ w' (hUA.below hb) (HKW.out w' hb); rwa [id_uA, hh] at this
  have HSM : Hid (∀ w', Below w1.heap.size w1 w' → Calls Tryz.prog 23 #[.agg #[.slice (some ⟨T, 0, none⟩) 1 1, .slice (some ⟨T + 1, 0, none⟩) 1 1, .int .i64 0], .agg #[.slice (some ⟨T + 4, 0, none⟩) 1 1, .slice (some ⟨T + 1, 0, none⟩) 1 1, .int .i64 0]] w' fun e w'' => e = .returned (.bool false) ∧ Below w'.heap.size w' w'') := fun w' hb => by
    have := same_any _ _ _ _ w' (hTA.below hb) (hUA.below hb) (by show 1 ≤ _; omega) (by show 1 ≤ _; omega) (by show 1 ≤ _; omega) (by show 1 ≤ _; omega); rwa [same_tu] at this
  have HS : Hid (∀ w', Below w1.heap.size w1 w' → w'.cell? ⟨T + 2, 0, none⟩ = some (.slice (some ⟨T, 0, none⟩) 1 1) ∧ w'.cell? ⟨T + 2, 1, none⟩ = some (.slice (some ⟨T + 1, 0, none⟩) 1 1) ∧ w'.cell? ⟨T + 2, 2, none⟩ = some (.int .i64 0) ∧ w'.cell? ⟨T + 3, 0, none⟩ = some (.slice (some ⟨T + 4, 0, none⟩) 1 1) ∧ w'.cell? ⟨T + 3, 1, none⟩ = some (.slice (some ⟨T + 1, 0, none⟩) 1 1) ∧ w'.cell? ⟨T + 3, 2, none⟩ = some (.int .i64 0)) := fun w' hb => by
    have h2 := hB2.below hb hB2.lt
    have h3 := hB3.below hb hB3.lt
    exact ⟨h2.one rfl, h2.one rfl, h2.one rfl, h3.one rfl, h3.one rfl, h3.one rfl⟩
  have HBL : Hid (Below T w w1) := hbl
  have HHL : Hid (h.length = 32) := hhl
  have q1 : ∀ w', (binOp .eql 28 (.agg (u8s h).toArray) (.agg (u8s h).toArray)).run Tryz.prog w' = .ok (.bool true) w' := fun w' => by rw [eql_hash h h hhl hhl, beq_self_eq_true]
  have q2 : ∀ w', (binOp .neq 28 (.agg (u8s h).toArray) (.agg (u8s zeros32).toArray)).run Tryz.prog w' = .ok (.bool true) w' := fun w' => by
    rw [neq_hash h zeros32 hhl rfl, beq_eq_false_iff_ne.2 hnz]; rfl
  have Q1 : Hid (∀ w', (binOp .eql 28 (.agg (u8s h).toArray) (.agg (u8s h).toArray)).run Tryz.prog w' = .ok (.bool true) w') := q1
  have Q2 : Hid (∀ w', (binOp .neq 28 (.agg (u8s h).toArray) (.agg (u8s zeros32).toArray)).run Tryz.prog w' = .ok (.bool true) w') := q2
  have q3 : ∀ (op : BinOp) (u v : Operand) (xs ys : Array Value) w', (eqGuard op 28 u v (.agg xs) (.agg ys)).run Tryz.prog w' = .ok () w' := fun op u v xs ys w' => run_eqGuard_agg w' op _ u v _ _ (by kernel_rfl)
  clear hTA hUA hB0 hB1 hB2 hB3 hB4 hbl hh hhl hnz
  refine wp_region_noPanic ?_
  refine wp_region_held_drew (S := fun w' => w'.cell? ⟨T + 2, 0, none⟩ = some (.slice (some ⟨T, 0, none⟩) 1 1) ∧ w'.cell? ⟨T + 2, 1, none⟩ = some (.slice (some ⟨T + 1, 0, none⟩) 1 1) ∧ w'.cell? ⟨T + 2, 2, none⟩ = some (.int .i64 0) ∧ w'.cell? ⟨T + 3, 0, none⟩ = some (.slice (some ⟨T + 4, 0, none⟩) 1 1) ∧ w'.cell? ⟨T + 3, 1, none⟩ = some (.slice (some ⟨T + 1, 0, none⟩) 1 1) ∧ w'.cell? ⟨T + 3, 2, none⟩ = some (.int .i64 0)) HMO.out (HS.out _ (Below.refl _ _).drew) (fun hHeld => ?_)
  refine wpAnyH_take (i := 0) (oi := { dst := some 15, op := .load 25 (.tmp 1), type := 25, pos := "law.go:16", after := #[], guard := none }) (v := ?_) rfl (by kernel_rfl) (by kernel_rfl) (by kernel_rfl) (fun _ _ _ h => h) (Or.inl ⟨by rfl, ?_⟩) (by assumption) ?_
  rotate_left
  · intro _ _; go_simp; first | done | with_reducible rfl
  simp only [Act.put, List.setIfInBounds_toArray, List.set_cons_zero, List.set_cons_succ]
  refine wpAnyH_ready (rs := [1]) (by kernel_rfl) (by simp) ?_
  refine AllReadyH.cons (o := { dst := some 16, op := .call { callee := .value (.func 10), args := #[.tmp 15], argTypes := #[25] }, type := 33, pos := "law.go:16", after := #[{ on := 0, ground := .data }], guard := none }) rfl (fun K hK => ?_) AllReadyH.nil
  go_simp
  refine Calls.mono (HCT.out _ (Below.refl _ _).drew) ?_; rintro e w2 ⟨rfl, hb2⟩; have HB2 : Hid (Below w1.heap.size w1 w2) := (Below.refl _ w1).drew.trans hb2; clear hb2
  go_simp
  refine hK.out _ _ (HS.out _ HB2.out) (fun hHeld => ?_)
  clear hK K
  refine wpAnyH_take (i := 2) (oi := { dst := some 17, op := .binOp Go.BinOp.eql 33 (.tmp 16) (.const (.int .i64 0)) 33, type := 4, pos := "law.go:16", after := #[{ on := 1, ground := .data }], guard := none }) (v := ?_) rfl (by kernel_rfl) (by kernel_rfl) (by kernel_rfl) (fun _ _ _ h => h) (Or.inl ⟨by rfl, ?_⟩) (by assumption) ?_
  rotate_left
  · intro _ _; go_simp; first | done | with_reducible rfl
  simp only [Act.put, List.setIfInBounds_toArray, List.set_cons_zero, List.set_cons_succ]
  refine wpAnyH_take (i := 3) (oi := { dst := some 18, op := .move (.tmp 17), type := 4, pos := "law.go:16", after := #[{ on := 2, ground := .data }, { on := 1, ground := .chain }], guard := none }) (v := ?_) rfl (by kernel_rfl) (by kernel_rfl) (by kernel_rfl) (fun _ _ _ h => h) (Or.inl ⟨by rfl, ?_⟩) (by assumption) ?_
  rotate_left
  · intro _ _; go_simp; first | done | with_reducible rfl
  simp only [Act.put, List.setIfInBounds_toArray, List.set_cons_zero, List.set_cons_succ]
  refine wpAnyH_take (i := 4) (oi := { dst := some 19, op := .load 25 (.tmp 1), type := 25, pos := "law.go:16", after := #[{ on := 3, ground := .guard }], guard := some (3, true) }) (v := ?_) rfl (by kernel_rfl) (by kernel_rfl) (by kernel_rfl) (fun _ _ _ h => h) (Or.inl ⟨by rfl, ?_⟩) (by assumption) ?_
  rotate_left
  · intro _ _; go_simp; first | done | with_reducible rfl
  simp only [Act.put, List.setIfInBounds_toArray, List.set_cons_zero, List.set_cons_succ]
  refine wpAnyH_ready (rs := [5]) (by kernel_rfl) (by simp) ?_
  refine AllReadyH.cons (o := { dst := some 20, op := .call { callee := .value (.func 15), args := #[.tmp 19], argTypes := #[25] }, type := 3, pos := "law.go:16", after := #[{ on := 4, ground := .data }, { on := 3, ground := .chain }, { on := 3, ground := .guard }], guard := some (3, true) }) rfl (fun K hK => ?_) AllReadyH.nil
  go_simp
  refine Calls.mono (HWT.out _ HB2.out) ?_; rintro e w3 ⟨rfl, hb3⟩; have HB3 : Hid (Below w1.heap.size w1 w3) := HB2.out.trans (hb3.mono HB2.out.size); clear hb3
  go_simp
  refine hK.out _ _ (HS.out _ HB3.out) (fun hHeld => ?_)
  clear hK K
  refine wpAnyH_take (i := 6) (oi := { dst := some 21, op := .binOp Go.BinOp.eql 3 (.tmp 20) (.const (.int .i64 414)) 3, type := 4, pos := "law.go:16", after := #[{ on := 5, ground := .data }, { on := 3, ground := .guard }], guard := some (3, true) }) (v := ?_) rfl (by kernel_rfl) (by kernel_rfl) (by kernel_rfl) (fun _ _ _ h => h) (Or.inl ⟨by rfl, ?_⟩) (by assumption) ?_
  rotate_left
  · intro _ _; go_simp; first | done | with_reducible rfl
  simp only [Act.put, List.setIfInBounds_toArray, List.set_cons_zero, List.set_cons_succ]
  refine wpAnyH_take (i := 7) (oi := { dst := some 22, op := .pick (.tmp 18) (.tmp 21) (.const (.bool false)), type := 4, pos := "law.go:16", after := #[{ on := 3, ground := .data }, { on := 6, ground := .data }], guard := none }) (v := ?_) rfl (by kernel_rfl) (by kernel_rfl) (by kernel_rfl) (fun _ _ _ h => h) (Or.inl ⟨by rfl, ?_⟩) (by assumption) ?_
  rotate_left
  · intro _ _; go_simp; first | done | with_reducible rfl
  simp only [Act.put, List.setIfInBounds_toArray, List.set_cons_zero, List.set_cons_succ]
  refine wpAnyH_take (i := 8) (oi := { dst := some 23, op := .move (.tmp 22), type := 4, pos := "law.go:16", after := #[{ on := 7, ground := .data }, { on := 5, ground := .chain }], guard := none }) (v := ?_) rfl (by kernel_rfl) (by kernel_rfl) (by kernel_rfl) (fun _ _ _ h => h) (Or.inl ⟨by rfl, ?_⟩) (by assumption) ?_
  rotate_left
  · intro _ _; go_simp; first | done | with_reducible rfl
  simp only [Act.put, List.setIfInBounds_toArray, List.set_cons_zero, List.set_cons_succ]
  refine wpAnyH_take (i := 9) (oi := { dst := some 24, op := .load 25 (.tmp 1), type := 25, pos := "law.go:16", after := #[{ on := 8, ground := .guard }], guard := some (8, true) }) (v := ?_) rfl (by kernel_rfl) (by kernel_rfl) (by kernel_rfl) (fun _ _ _ h => h) (Or.inl ⟨by rfl, ?_⟩) (by assumption) ?_
  rotate_left
  · intro _ _; go_simp; first | done | with_reducible rfl
  simp only [Act.put, List.setIfInBounds_toArray, List.set_cons_zero, List.set_cons_succ]
  refine wpAnyH_take (i := 11) (oi := { dst := some 26, op := .load 25 (.tmp 2), type := 25, pos := "law.go:16", after := #[{ on := 8, ground := .guard }], guard := some (8, true) }) (v := ?_) rfl (by kernel_rfl) (by kernel_rfl) (by kernel_rfl) (fun _ _ _ h => h) (Or.inl ⟨by rfl, ?_⟩) (by assumption) ?_
  rotate_left
  · intro _ _; go_simp; first | done | with_reducible rfl
  simp only [Act.put, List.setIfInBounds_toArray, List.set_cons_zero, List.set_cons_succ]
  refine wpAnyH_ready (rs := [10]) (by kernel_rfl) (by simp) ?_
  refine AllReadyH.cons (o := { dst := some 25, op := .call { callee := .value (.func 13), args := #[.tmp 24], argTypes := #[25] }, type := 28, pos := "law.go:16", after := #[{ on := 9, ground := .data }, { on := 8, ground := .chain }, { on := 8, ground := .guard }], guard := some (8, true) }) rfl (fun K hK => ?_) AllReadyH.nil
  go_simp
  refine Calls.mono (HIT.out _ HB3.out) ?_; rintro e w4 ⟨rfl, hb4⟩; have HB4 : Hid (Below w1.heap.size w1 w4) := HB3.out.trans (hb4.mono HB3.out.size); clear hb4
  go_simp
  refine hK.out _ _ (HS.out _ HB4.out) (fun hHeld => ?_)
  clear hK K
  refine wpAnyH_ready (rs := [12]) (by kernel_rfl) (by simp) ?_
  refine AllReadyH.cons (o := { dst := some 27, op := .call { callee := .value (.func 13), args := #[.tmp 26], argTypes := #[25] }, type := 28, pos := "law.go:16", after := #[{ on := 11, ground := .data }, { on := 10, ground := .chain }, { on := 8, ground := .guard }], guard := some (8, true) }) rfl (fun K hK => ?_) AllReadyH.nil
  go_simp
  refine Calls.mono (HIU.out _ HB4.out) ?_; rintro e w5 ⟨rfl, hb5⟩; have HB5 : Hid (Below w1.heap.size w1 w5) := HB4.out.trans (hb5.mono HB4.out.size); clear hb5
  go_simp
  refine hK.out _ _ (HS.out _ HB5.out) (fun hHeld => ?_)
  clear hK K
  refine wpAnyH_take (i := 13) (oi := { dst := some 28, op := .binOp Go.BinOp.eql 28 (.tmp 25) (.tmp 27) 28, type := 4, pos := "law.go:16", after := #[{ on := 10, ground := .data }, { on := 12, ground := .data }, { on := 8, ground := .guard }], guard := some (8, true) }) (v := ?_) rfl (by kernel_rfl) (by kernel_rfl) (by kernel_rfl) (fun _ _ _ h => h) (Or.inl ⟨by rfl, ?_⟩) (by assumption) ?_
  rotate_left
  · intro _ _; go_simp; first | done | with_reducible rfl
  simp only [Act.put, List.setIfInBounds_toArray, List.set_cons_zero, List.set_cons_succ]
  refine wpAnyH_take (i := 14) (oi := { dst := some 29, op := .pick (.tmp 23) (.tmp 28) (.const (.bool false)), type := 4, pos := "law.go:16", after := #[{ on := 8, ground := .data }, { on := 13, ground := .data }], guard := none }) (v := ?_) rfl (by kernel_rfl) (by kernel_rfl) (by kernel_rfl) (fun _ _ _ h => h) (Or.inl ⟨by rfl, ?_⟩) (by assumption) ?_
  rotate_left
  · intro _ _; go_simp; first | done | with_reducible rfl
  simp only [Act.put, List.setIfInBounds_toArray, List.set_cons_zero, List.set_cons_succ]
  refine wpAnyH_take (i := 15) (oi := { dst := some 30, op := .move (.tmp 29), type := 4, pos := "law.go:16", after := #[{ on := 14, ground := .data }, { on := 12, ground := .chain }], guard := none }) (v := ?_) rfl (by kernel_rfl) (by kernel_rfl) (by kernel_rfl) (fun _ _ _ h => h) (Or.inl ⟨by rfl, ?_⟩) (by assumption) ?_
  rotate_left
  · intro _ _; go_simp; first | done | with_reducible rfl
  simp only [Act.put, List.setIfInBounds_toArray, List.set_cons_zero, List.set_cons_succ]
  refine wpAnyH_take (i := 16) (oi := { dst := some 31, op := .load 25 (.tmp 1), type := 25, pos := "law.go:16", after := #[{ on := 15, ground := .guard }], guard := some (15, true) }) (v := ?_) rfl (by kernel_rfl) (by kernel_rfl) (by kernel_rfl) (fun _ _ _ h => h) (Or.inl ⟨by rfl, ?_⟩) (by assumption) ?_
  rotate_left
  · intro _ _; go_simp; first | done | with_reducible rfl
  simp only [Act.put, List.setIfInBounds_toArray, List.set_cons_zero, List.set_cons_succ]
  refine wpAnyH_take (i := 18) (oi := { dst := some 33, op := .build 28 #[], type := 28, pos := "law.go:16", after := #[{ on := 15, ground := .guard }], guard := some (15, true) }) (v := .agg (u8s zeros32).toArray) rfl (by kernel_rfl) (by kernel_rfl) (by kernel_rfl) (fun _ _ _ h => h) (Or.inl ⟨by rfl, ?_⟩) (by assumption) ?_
  · intro _ _; go_simp; rfl
  simp only [Act.put, List.setIfInBounds_toArray, List.set_cons_zero, List.set_cons_succ]
  refine wpAnyH_ready (rs := [17]) (by kernel_rfl) (by simp) ?_
  refine AllReadyH.cons (o := { dst := some 32, op := .call { callee := .value (.func 13), args := #[.tmp 31], argTypes := #[25] }, type := 28, pos := "law.go:16", after := #[{ on := 16, ground := .data }, { on := 15, ground := .chain }, { on := 15, ground := .guard }], guard := some (15, true) }) rfl (fun K hK => ?_) AllReadyH.nil
  go_simp
  refine Calls.mono (HIT.out _ HB5.out) ?_; rintro e w6 ⟨rfl, hb6⟩; have HB6 : Hid (Below w1.heap.size w1 w6) := HB5.out.trans (hb6.mono HB5.out.size); clear hb6
  go_simp
  refine hK.out _ _ (HS.out _ HB6.out) (fun hHeld => ?_)
  clear hK K
  refine wpAnyH_take (i := 19) (oi := { dst := some 34, op := .binOp Go.BinOp.neq 28 (.tmp 32) (.tmp 33) 28, type := 4, pos := "law.go:16", after := #[{ on := 17, ground := .data }, { on := 18, ground := .data }, { on := 15, ground := .guard }], guard := some (15, true) }) (v := ?_) rfl (by kernel_rfl) (by kernel_rfl) (by kernel_rfl) (fun _ _ _ h => h) (Or.inl ⟨by rfl, ?_⟩) (by assumption) ?_
  rotate_left
  · intro _ _; go_simp; first | done | with_reducible rfl
  simp only [Act.put, List.setIfInBounds_toArray, List.set_cons_zero, List.set_cons_succ]
  refine wpAnyH_take (i := 20) (oi := { dst := some 35, op := .pick (.tmp 30) (.tmp 34) (.const (.bool false)), type := 4, pos := "law.go:16", after := #[{ on := 15, ground := .data }, { on := 19, ground := .data }], guard := none }) (v := ?_) rfl (by kernel_rfl) (by kernel_rfl) (by kernel_rfl) (fun _ _ _ h => h) (Or.inl ⟨by rfl, ?_⟩) (by assumption) ?_
  rotate_left
  · intro _ _; go_simp; first | done | with_reducible rfl
  simp only [Act.put, List.setIfInBounds_toArray, List.set_cons_zero, List.set_cons_succ]
  refine wpAnyH_take (i := 21) (oi := { dst := some 36, op := .move (.tmp 35), type := 4, pos := "law.go:16", after := #[{ on := 20, ground := .data }, { on := 17, ground := .chain }], guard := none }) (v := ?_) rfl (by kernel_rfl) (by kernel_rfl) (by kernel_rfl) (fun _ _ _ h => h) (Or.inl ⟨by rfl, ?_⟩) (by assumption) ?_
  rotate_left
  · intro _ _; go_simp; first | done | with_reducible rfl
  simp only [Act.put, List.setIfInBounds_toArray, List.set_cons_zero, List.set_cons_succ]
  refine wpAnyH_take (i := 22) (oi := { dst := some 37, op := .load 25 (.tmp 1), type := 25, pos := "law.go:16", after := #[{ on := 21, ground := .guard }], guard := some (21, true) }) (v := ?_) rfl (by kernel_rfl) (by kernel_rfl) (by kernel_rfl) (fun _ _ _ h => h) (Or.inl ⟨by rfl, ?_⟩) (by assumption) ?_
  rotate_left
  · intro _ _; go_simp; first | done | with_reducible rfl
  simp only [Act.put, List.setIfInBounds_toArray, List.set_cons_zero, List.set_cons_succ]
  refine wpAnyH_take (i := 23) (oi := { dst := some 38, op := .load 25 (.tmp 2), type := 25, pos := "law.go:16", after := #[{ on := 21, ground := .guard }], guard := some (21, true) }) (v := ?_) rfl (by kernel_rfl) (by kernel_rfl) (by kernel_rfl) (fun _ _ _ h => h) (Or.inl ⟨by rfl, ?_⟩) (by assumption) ?_
  rotate_left
  · intro _ _; go_simp; first | done | with_reducible rfl
  simp only [Act.put, List.setIfInBounds_toArray, List.set_cons_zero, List.set_cons_succ]
  refine wpAnyH_ready (rs := [24]) (by kernel_rfl) (by simp) ?_
  refine AllReadyH.cons (o := { dst := some 39, op := .call { callee := .value (.func 23), args := #[.tmp 37, .tmp 38], argTypes := #[25, 25] }, type := 4, pos := "law.go:16", after := #[{ on := 22, ground := .data }, { on := 23, ground := .data }, { on := 21, ground := .chain }, { on := 21, ground := .guard }], guard := some (21, true) }) rfl (fun K hK => ?_) AllReadyH.nil
  go_simp
  refine Calls.mono (HSM.out _ HB6.out) ?_; rintro e w7 ⟨rfl, hb7⟩; have HB7 : Hid (Below w1.heap.size w1 w7) := HB6.out.trans (hb7.mono HB6.out.size); clear hb7
  go_simp
  refine hK.out _ _ (HS.out _ HB7.out) (fun hHeld => ?_)
  clear hK K
  refine wpAnyH_take (i := 25) (oi := { dst := some 40, op := .unOp Go.UnOp.not 4 (.tmp 39), type := 4, pos := "law.go:16", after := #[{ on := 24, ground := .data }, { on := 21, ground := .guard }], guard := some (21, true) }) (v := ?_) rfl (by kernel_rfl) (by kernel_rfl) (by kernel_rfl) (fun _ _ _ h => h) (Or.inl ⟨by rfl, ?_⟩) (by assumption) ?_
  rotate_left
  · intro _ _; go_simp; first | done | with_reducible rfl
  simp only [Act.put, List.setIfInBounds_toArray, List.set_cons_zero, List.set_cons_succ]
  refine wpAnyH_take (i := 26) (oi := { dst := some 41, op := .pick (.tmp 36) (.tmp 40) (.const (.bool false)), type := 4, pos := "law.go:16", after := #[{ on := 21, ground := .data }, { on := 25, ground := .data }], guard := none }) (v := ?_) rfl (by kernel_rfl) (by kernel_rfl) (by kernel_rfl) (fun _ _ _ h => h) (Or.inl ⟨by rfl, ?_⟩) (by assumption) ?_
  rotate_left
  · intro _ _; go_simp; first | done | with_reducible rfl
  simp only [Act.put, List.setIfInBounds_toArray, List.set_cons_zero, List.set_cons_succ]
  refine wpAnyH_take (i := 27) (oi := { dst := some 42, op := .move (.tmp 41), type := 4, pos := "law.go:16", after := #[{ on := 26, ground := .data }, { on := 24, ground := .chain }], guard := none }) (v := ?_) rfl (by kernel_rfl) (by kernel_rfl) (by kernel_rfl) (fun _ _ _ h => h) (Or.inl ⟨by rfl, ?_⟩) (by assumption) ?_
  rotate_left
  · intro _ _; go_simp; first | done | with_reducible rfl
  simp only [Act.put, List.setIfInBounds_toArray, List.set_cons_zero, List.set_cons_succ]
  refine wpAnyH_take (i := 28) (oi := { dst := some 43, op := .build 25 #[], type := 25, pos := "law.go:16", after := #[{ on := 27, ground := .guard }], guard := some (27, true) }) (v := ?_) rfl (by kernel_rfl) (by kernel_rfl) (by kernel_rfl) (fun _ _ _ h => h) (Or.inl ⟨by rfl, ?_⟩) (by assumption) ?_
  rotate_left
  · intro _ _; go_simp; first | done | with_reducible rfl
  simp only [Act.put, List.setIfInBounds_toArray, List.set_cons_zero, List.set_cons_succ]
  refine wpAnyH_ready (rs := [29]) (by kernel_rfl) (by simp) ?_
  refine AllReadyH.cons (o := { dst := some 44, op := .call { callee := .value (.func 10), args := #[.tmp 43], argTypes := #[25] }, type := 33, pos := "law.go:16", after := #[{ on := 28, ground := .data }, { on := 27, ground := .chain }, { on := 27, ground := .guard }], guard := some (27, true) }) rfl (fun K hK => ?_) AllReadyH.nil
  go_simp
  refine Calls.mono (HCZ.out _) ?_; rintro e w8 ⟨rfl, hb8⟩; have HB8 : Hid (Below w1.heap.size w1 w8) := HB7.out.trans (hb8.mono HB7.out.size); clear hb8
  go_simp
  refine hK.out _ _ (HS.out _ HB8.out) (fun hHeld => ?_)
  clear hK K
  refine wpAnyH_take (i := 30) (oi := { dst := some 45, op := .binOp Go.BinOp.eql 33 (.tmp 44) (.const (.int .i64 1)) 33, type := 4, pos := "law.go:16", after := #[{ on := 29, ground := .data }, { on := 27, ground := .guard }], guard := some (27, true) }) (v := ?_) rfl (by kernel_rfl) (by kernel_rfl) (by kernel_rfl) (fun _ _ _ h => h) (Or.inl ⟨by rfl, ?_⟩) (by assumption) ?_
  rotate_left
  · intro _ _; go_simp; first | done | with_reducible rfl
  simp only [Act.put, List.setIfInBounds_toArray, List.set_cons_zero, List.set_cons_succ]
  refine wpAnyH_take (i := 31) (oi := { dst := some 46, op := .pick (.tmp 42) (.tmp 45) (.const (.bool false)), type := 4, pos := "law.go:16", after := #[{ on := 27, ground := .data }, { on := 30, ground := .data }], guard := none }) (v := ?_) rfl (by kernel_rfl) (by kernel_rfl) (by kernel_rfl) (fun _ _ _ h => h) (Or.inl ⟨by rfl, ?_⟩) (by assumption) ?_
  rotate_left
  · intro _ _; go_simp; first | done | with_reducible rfl
  simp only [Act.put, List.setIfInBounds_toArray, List.set_cons_zero, List.set_cons_succ]
  refine wpAnyH_take (i := 32) (oi := { dst := some 47, op := .move (.tmp 46), type := 4, pos := "law.go:16", after := #[{ on := 31, ground := .data }, { on := 29, ground := .chain }], guard := none }) (v := ?_) rfl (by kernel_rfl) (by kernel_rfl) (by kernel_rfl) (fun _ _ _ h => h) (Or.inl ⟨by rfl, ?_⟩) (by assumption) ?_
  rotate_left
  · intro _ _; go_simp; first | done | with_reducible rfl
  simp only [Act.put, List.setIfInBounds_toArray, List.set_cons_zero, List.set_cons_succ]
  refine wpAnyH_ready (rs := [33]) (by kernel_rfl) (by simp) ?_
  refine AllReadyH.cons (o := { dst := some 48, op := .call { callee := .value (.func 17), args := #[.const (.int .i64 9)], argTypes := #[3] }, type := 3, pos := "law.go:16", after := #[{ on := 32, ground := .chain }, { on := 32, ground := .guard }], guard := some (32, true) }) rfl (fun K hK => ?_) AllReadyH.nil
  go_simp
  refine (wit_any 9 _).mono ?_; rintro e w9 ⟨rfl, rfl⟩; rw [wit_9]
  go_simp
  refine hK.out _ _ (HS.out _ HB8.out) (fun hHeld => ?_)
  clear hK K
  refine wpAnyH_take (i := 34) (oi := { dst := some 49, op := .binOp Go.BinOp.eql 3 (.tmp 48) (.const (.int .i64 0)) 3, type := 4, pos := "law.go:16", after := #[{ on := 33, ground := .data }, { on := 32, ground := .guard }], guard := some (32, true) }) (v := ?_) rfl (by kernel_rfl) (by kernel_rfl) (by kernel_rfl) (fun _ _ _ h => h) (Or.inl ⟨by rfl, ?_⟩) (by assumption) ?_
  rotate_left
  · intro _ _; go_simp; first | done | with_reducible rfl
  simp only [Act.put, List.setIfInBounds_toArray, List.set_cons_zero, List.set_cons_succ]
  refine wpAnyH_take (i := 35) (oi := { dst := some 50, op := .pick (.tmp 47) (.tmp 49) (.const (.bool false)), type := 4, pos := "law.go:16", after := #[{ on := 32, ground := .data }, { on := 34, ground := .data }], guard := none }) (v := ?_) rfl (by kernel_rfl) (by kernel_rfl) (by kernel_rfl) (fun _ _ _ h => h) (Or.inl ⟨by rfl, ?_⟩) (by assumption) ?_
  rotate_left
  · intro _ _; go_simp; first | done | with_reducible rfl
  simp only [Act.put, List.setIfInBounds_toArray, List.set_cons_zero, List.set_cons_succ]
  refine wpAnyH_ready (rs := [36]) (by kernel_rfl) (by simp) ?_
  refine AllReadyH.cons (o := { dst := some 0, op := .assign (.tmp 50), type := 4, pos := "law.go:16", after := #[{ on := 35, ground := .data }, { on := 33, ground := .chain }, { on := 0, ground := .phase }, { on := 1, ground := .phase }, { on := 2, ground := .phase }, { on := 3, ground := .phase }, { on := 4, ground := .phase }, { on := 5, ground := .phase }, { on := 6, ground := .phase }, { on := 7, ground := .phase }, { on := 8, ground := .phase }, { on := 9, ground := .phase }, { on := 10, ground := .phase }, { on := 11, ground := .phase }, { on := 12, ground := .phase }, { on := 13, ground := .phase }, { on := 14, ground := .phase }, { on := 15, ground := .phase }, { on := 16, ground := .phase }, { on := 17, ground := .phase }, { on := 18, ground := .phase }, { on := 19, ground := .phase }, { on := 20, ground := .phase }, { on := 21, ground := .phase }, { on := 22, ground := .phase }, { on := 23, ground := .phase }, { on := 24, ground := .phase }, { on := 25, ground := .phase }, { on := 26, ground := .phase }, { on := 27, ground := .phase }, { on := 28, ground := .phase }, { on := 29, ground := .phase }, { on := 30, ground := .phase }, { on := 31, ground := .phase }, { on := 32, ground := .phase }, { on := 33, ground := .phase }, { on := 34, ground := .phase }, { on := 35, ground := .phase }], guard := none }) rfl (fun K hK => ?_) AllReadyH.nil
  go_simp
  skip
  go_simp
  refine hK.out _ _ (HS.out _ HB8.out) (fun hHeld => ?_)
  clear hK K
  refine wpAnyH_done (by kernel_rfl) ?_ _
  refine NoPanic.normal ?_
  clear hHeld
  go_wp2_with fail
  go_ret
  subst hN
  exact ⟨rfl, HBL.out.trans (HB8.out.mono (by omega))⟩
end Go.Proofs.YteikbpkjikacmaaGreatDoor
namespace Go.Proofs.YteikbpkjikacmaaGreatDoor
open Go.RowKit

/-- What a program says of a slice of such elements. -/
structure ElT (α : Type) [El α] (P : Program) (S T : TypeId) (b : Nat) : Prop where
  und : P.underlying S = some (.slice T)
  info : (P.info? T).map (fun i => (i.zero, i.size, i.bytes)) = some (some (.agg (El.cs (El.dflt : α)).toArray), El.k α, b)
  few : b ≤ 1000
  pos : 0 < El.k α
  most : El.k α ≤ 1000
theorem elIn : ElT In Tryz.prog 22 52 80 := ⟨Tryz.underlying22, Tryz.infoIn, by omega, by decide, by decide⟩
theorem elOut : ElT Out Tryz.prog 23 56 88 := ⟨Tryz.underlying23, Tryz.infoOut, by omega, by decide, by decide⟩
section
variable {α : Type} [El α]
def OwnE (T : TypeId) (w : World) (N : Nat) (v : Value) (l : List α) : Prop := w.ownsRow N T (El.k α) v l.length (flatE l)
variable {P : Program} {S T : TypeId} {b : Nat} {w w' : World} {N : Nat} {v : Value} {l : List α}
theorem OwnE.nil (w : World) (N : Nat) : OwnE T w N (.slice none 0 0) ([] : List α) := World.ownsRow_nil w N _ _
theorem OwnE.lt (h : OwnE T w N v l) : ∀ k, v.ownBlock = some k → N ≤ k ∧ k < w.heap.size := World.ownsRow.lt h
theorem OwnE.same (h : OwnE T w N v l) (hb : ∀ k, v.ownBlock = some k → w'.heap[k]? = w.heap[k]?) : OwnE T w' N v l := by
  refine ⟨h.1, ?_⟩
  rcases h.2 with hn | ⟨g, cap, cur, hv, hg, hh, rest⟩
  · exact .inl hn
  · exact .inr ⟨g, cap, cur, hv, hg, by rw [hb g (by rw [hv]; rfl)]; exact hh, rest⟩
theorem OwnE.below (h : OwnE T w N v l) (hb : Below w.heap.size w w') : OwnE T w' N v l := h.same fun k hk => hb.block k (h.lt k hk).2
theorem OwnE.els (h : OwnE T w N v l) : ∃ a cap, v = .slice a l.length cap ∧ Els w a l.length cap l := by
  have h1 := h.1
  rcases h.2 with ⟨rfl, hn⟩ | ⟨g, cap, cur, rfl, _, hg, hn, hm, hs, ht⟩
  · obtain rfl : l = [] := List.eq_nil_of_length_eq_zero hn
    exact ⟨none, 0, rfl, Els.nil w⟩
  · exact ⟨_, _, rfl, Els.of_blk (cs := cur.toList) ⟨T, by simpa using hg⟩ rfl hn hm ht⟩
theorem OwnE.any (h : OwnE T w N v l) : ∃ a n cap, v = .slice a n cap := by
  obtain ⟨a, cap, h, _⟩ := h.els
  exact ⟨a, _, cap, h⟩
theorem run_append_e (E : ElT α P S T b) (ty : TypeId) (h : OwnE T w N v l) {a : Option Addr} {m cap : Nat} {r : List α} (hr : Els w a m cap r) (hm : l.length + m ≤ 1000000) (hN : N ≤ w.heap.size) :
    ∃ v' w', (Builtin.append_ #[S, S] ty #[v, .slice a m cap]).run P w = .ok v' w' ∧ OwnE T w' N v' (l ++ r) ∧ w.grownBy w' v.ownBlock ∧ Moved w v v' := by
  obtain ⟨i, hi, hi1, hi2, hi3⟩ := info_parts E.info
  have few := E.few
  have hmb : (l.length + m) * b ≤ 140737488355328 := Nat.le_trans (Nat.mul_le_mul hm few) (by omega)
  have hmb2 : m * b ≤ 281474976710656 := Nat.le_trans (Nat.mul_le_mul (show m ≤ 1000000 by omega) few) (by omega)
  cases a with
  | none =>
    obtain rfl := hr.bare rfl
    obtain rfl : m = 0 := by have := hr.fits; omega
    obtain rfl : r = [] := List.eq_nil_of_length_eq_zero hr.len
    exact ⟨v, w, run_append_owned_none w N _ ty _ i (El.k α) E.und hi v _ _ h, by rw [List.append_nil]; exact h, ⟨rfl, rfl, rfl, Nat.le_refl _, fun _ _ _ => rfl⟩, .inl rfl⟩
  | some x =>
    have hlen : (flatE r).length = m * El.k α := by rw [flatE_length, hr.len]
    have hcells := hr.cells (x := x) rfl
    obtain ⟨v', w', hrun, h2, h3, h4⟩ := run_append_own w N S ty T i _ (El.k α) b E.und hi hi1 hi2 hi3 (by simp [Value.cells, El.len]) E.pos v l.length (flatE l) h x m cap (flatE r) hlen hcells (flatE_mem r) (by unfold maxLen; omega) hmb hN
    refine ⟨v', w', hrun, ?_, h3, ?_⟩
    · unfold OwnE
      rw [List.length_append, hr.len, flatE_append]; exact h2
    · have hfl := flatE_length l
      rcases h.2 with ⟨rfl, h0⟩ | ⟨g, c, cur, rfl, hbg, hg, hnc, hcm, hcs, htake⟩
      · by_cases hm0 : m = 0
        · left
          rw [h4.2 ⟨rfl, hm0⟩]
        · have e := run_append_nil w S ty T i _ E.und hi hi1 x m cap (flatE r) (by rw [hi2]; exact hlen) hcells (by omega) (by omega) (by rw [hi3]; exact hmb2)
          rw [e] at hrun
          injection hrun with e1 _
          right
          exact ⟨w.heap.size, Nat.le_refl _, by rw [← e1]; rfl⟩
      · by_cases hroom : l.length + m ≤ c
        · have e := run_append_room w S ty T i E.und hi g l.length c cur hg x m cap (flatE r) (by rw [hi2]; exact hlen) hcells (flatE_mem r) hroom (by
            rw [hi2, hlen, hcs, ← Nat.add_mul]; exact Nat.mul_le_mul_right _ hroom)
          rw [e] at hrun
          injection hrun with e1 _
          left
          rw [← e1]; rfl
        · have e := run_append_grow w S ty T i _ E.und hi hi1 ⟨g, 0, none⟩ l.length c (flatE l) (by rw [hi2]; exact hfl) (h.cells (g := g) rfl) x m cap (flatE r) (by rw [hi2]; exact hlen) hcells (by omega) (by omega) (growslice_fits (by omega) (by rw [hi3]; exact hmb))
          rw [e] at hrun
          injection hrun with e1 _
          right
          exact ⟨w.heap.size, Nat.le_refl _, by rw [← e1]; rfl⟩
end
section
variable {α : Type} [El α] {P : Program} {S T : TypeId} {by_ : Nat} {ops : Array Oper} {o : Oper} {ac : Act} {w : World} {K : Act → World → Prop} {Q : Exit → Act → World → Prop} {E : Prop}
theorem step_append_e (H : ElT α P S T by_) (hgd : o.guard = none) (s x : Operand)
    (ho : o.op = .call { callee := .builtin .append, args := #[s, x], argTypes := #[S, S] }) (B : Nat) (v : Value) (l : List α) (hs : ac.eval s = v) (h : OwnE T w B v l)
    (a : Option Addr) (m cap : Nat) (r : List α) (hx : ac.eval x = .slice a m cap) (hr : Els w a m cap r) (hm : l.length + m ≤ 1000000) (hN : B ≤ w.heap.size)
    (hK : ∀ v' w', Hid (OwnE T w' B v' (l ++ r)) → Hid (w.grownBy w' v.ownBlock) → Hid (Moved w v v') → K (ac.put o.dst v') w') : if Region.wanted o (yielded ops ac.tmps) = true then Oper.wp P o ac w K Q else E := by
  have hw : Region.wanted o (yielded ops ac.tmps) = true := by simp [Region.wanted, hgd]
  rw [if_pos hw]
  obtain ⟨v', w', hrun, h1, h2, h3⟩ := run_append_e H o.type h hr hm hN
  unfold Oper.wp execOp
  simp only [ho, resolve, invoke, builtin, Sem.run_bind, Sem.run_pure, Result.andThen_ok, List.map_toArray, List.map_cons, List.map_nil, hs, hx, hrun]
  exact hK v' w' h1 h2 h3
theorem wpList_append_e {rest : List Oper} (H : ElT α P S T by_) (hgd : o.guard = none) (s x : Operand)
    (ho : o.op = .call { callee := .builtin .append, args := #[s, x], argTypes := #[S, S] }) (B : Nat) (v : Value) (l : List α) (hs : ac.eval s = v) (h : OwnE T w B v l)
    (a : Option Addr) (m cap : Nat) (r : List α) (hx : ac.eval x = .slice a m cap) (hr : Els w a m cap r) (hm : l.length + m ≤ 1000000) (hN : B ≤ w.heap.size)
    (hK : ∀ v' w', Hid (OwnE T w' B v' (l ++ r)) → Hid (w.grownBy w' v.ownBlock) → Hid (Moved w v v') → wpList P ops Q rest (ac.put o.dst v') w') : wpList P ops Q (o :: rest) ac w := by
  obtain ⟨v', w', hrun, h1, h2, h3⟩ := run_append_e H o.type h hr hm hN
  refine wpList_plain hgd fun K hK' => ?_
  unfold Oper.wp execOp
  simp only [ho, resolve, invoke, builtin, Sem.run_bind, Sem.run_pure, Result.andThen_ok, List.map_toArray, List.map_cons, List.map_nil, hs, hx, hrun]
  exact hK' _ _ (hK v' w' h1 h2 h3)
/-- A slice of one element, laid by a region that draws its order. -/
theorem step_build_one (H : ElT α P S T by_) (hgd : o.guard = none) (y : Operand) (ho : o.op = .buildSlice S 1 #[(0, y)]) (x : α) (hy : ac.eval y = .agg (El.cs x).toArray)
    (hK : ∀ w', Hid (Els w' (some ⟨w.heap.size, 0, none⟩) 1 1 [x]) → Hid (Below w.heap.size w w') → K (ac.put o.dst (.slice (some ⟨w.heap.size, 0, none⟩) 1 1)) w') : if Region.wanted o (yielded ops ac.tmps) = true then Oper.wp P o ac w K Q else E := by
  have hw : Region.wanted o (yielded ops ac.tmps) = true := by simp [Region.wanted, hgd]
  rw [if_pos hw]
  obtain ⟨i, hi, hi1, hi2, hi3⟩ := info_parts H.info
  have h1 := H.pos
  have h2 := H.most
  refine wp_buildSlice S T 1 _ ho (flatE [x]).toArray i _ H.und hi hi1 (by rw [hi2]; omega) (by rw [hi2]; omega) ?_ (hK _ (Els.lit w [x] 1 T rfl (by omega)) ((Below.refl _ _).alloc (Nat.le_refl _) _))
  have hp : ((#[(0, y)] : Array (Nat × Operand)).map fun (i, x) => (i, ac.eval x)).toList = (([x].map fun p => Value.agg (El.cs p).toArray).zipIdx 0).map fun x => (x.2, x.1) := by
    simp [hy]
  rw [hp, hi2]
  have := Go.Great.fill_whole (s := El.k α) h1 ([x].map fun p => Value.agg (El.cs p).toArray) ((Array.range (1 * El.k α)).map ((Value.agg (El.cs (El.dflt : α)).toArray).cells[· % (Value.agg (El.cs (El.dflt : α)).toArray).cells.size]!)) (fun v hv => by
    obtain ⟨p, _, rfl⟩ := List.mem_map.1 hv
    show (El.cs p).toArray.size = El.k α
    rw [List.size_toArray, El.len]) (by simp)
  rw [this, flatE_values]
end
theorem setCells_ty {T : TypeId} {g : Nat} (vs : List Value) : ∀ (w : World) (o : Nat) (c : Array Value), w.heap[g]? = some (.cells c T (0, 0)) → ∃ a, (w.setCells g o vs).heap[g]? = some (.cells a T (0, 0)) := by
  induction vs with
  | nil => intro w o c h; exact ⟨c, h⟩
  | cons v r ih =>
    intro w o c h
    have : ∃ c', (w.setCell ⟨g, o, none⟩ v).heap[g]? = some (.cells c' T (0, 0)) := ⟨c.setIfInBounds o v, by simp [World.setCell, Array.getElem?_modify, h]⟩
    obtain ⟨c', h'⟩ := this
    exact ih _ (o + 1) c' h'
theorem flatE_mid {α : Type} [El α] (l : List α) (j : Nat) (hj : j < l.length) : (flatE l).drop (j * El.k α) = El.cs (l.getD j El.dflt) ++ flatE (l.drop (j + 1)) := by
  rw [← flatE_drop, List.drop_eq_getElem_cons hj, flatE_cons, List.getD_eq_getElem?_getD, List.getElem?_eq_getElem hj]; rfl
/-- Cells of an element of the own row are written. -/
theorem OwnE.setPart {α : Type} [El α] {T : TypeId} {w : World} {N g n cap : Nat} {l : List α} (h : OwnE T w N (.slice (some ⟨g, 0, none⟩) n cap) l) (j o : Nat) (vs : List Value) (x : α) (hj : j < l.length) (ho : o + vs.length ≤ El.k α)
    (hx : El.cs x = splice (El.cs (l.getD j El.dflt)) o vs) : OwnE T (w.setCells g (j * El.k α + o) vs) N (.slice (some ⟨g, 0, none⟩) n cap) (l.set j x) := by
  refine ⟨by rw [flatE_length], ?_⟩
  rcases h.2 with ⟨e, _⟩ | ⟨g', cap', cur, hv, hb, hg, hn, hm, hs, ht⟩
  · injection e with e; cases e
  · injection hv with e1 e2 e3
    injection e1 with e1
    injection e1 with e1
    subst e1; subst e2; subst e3
    have hB : Blk w g cur.toList := ⟨T, by simpa using hg⟩
    have hlen : l.length * El.k α ≤ cap * El.k α := Nat.mul_le_mul_right _ hn
    have hjk : (j + 1) * El.k α ≤ l.length * El.k α := Nat.mul_le_mul_right _ hj
    rw [Nat.succ_mul] at hjk
    have hcl : cur.toList.length = cap * El.k α := by simpa using hs
    have hfit : j * El.k α + o + vs.length ≤ cur.toList.length := by omega
    have hB2 := hB.cellsAt vs (j * El.k α + o) hfit
    have hty : ∃ a, (w.setCells g (j * El.k α + o) vs).heap[g]? = some (.cells a T (0, 0)) := setCells_ty vs w _ cur hg
    obtain ⟨a2, ha2⟩ := hty
    obtain ⟨t3, hB3⟩ := hB2
    rw [ha2] at hB3
    injection hB3 with hB3
    injection hB3 with hB3 _ _
    refine .inr ⟨g, cap, a2, by rw [List.length_set], hb, ha2, by rw [List.length_set]; exact hn, hm, ?_, ?_⟩
    · rw [hB3, List.size_toArray]
      unfold splice
      simp only [List.length_append, List.length_take, List.length_drop]
      omega
    · rw [hB3, List.length_set]
      show (splice cur.toList (j * El.k α + o) vs).take (l.length * El.k α) = _
      have e1 : (splice cur.toList (j * El.k α + o) vs).take (l.length * El.k α) = splice (flatE l) (j * El.k α + o) vs := by
        rw [← ht]
        unfold splice
        rw [List.take_append, List.take_append, List.take_of_length_le (l := List.take _ cur.toList) (by rw [List.length_take]; omega), List.take_of_length_le (l := vs) (by rw [List.length_take]; omega), List.take_take, Nat.min_eq_left (by omega), List.drop_take]
        congr 2
        rw [List.length_take]
        congr 1
        omega
      rw [e1, ← splice_flatE l j x hj, hx]
      have e2 : splice (flatE l) (j * El.k α + o) vs = splice (flatE l) (j * El.k α) (splice (El.cs (l.getD j El.dflt)) o vs) := by
        have hd := flatE_mid l j hj
        unfold splice
        have h1 : (flatE l).take (j * El.k α + o) = (flatE l).take (j * El.k α) ++ (El.cs (l.getD j El.dflt)).take o := by
          rw [List.take_add, hd, List.take_append_of_le_length (by rw [El.len]; omega)]
        have h2 : (flatE l).drop (j * El.k α + o + vs.length) = (El.cs (l.getD j El.dflt)).drop (o + vs.length) ++ (flatE l).drop (j * El.k α + El.k α) := by
          rw [Nat.add_assoc, ← List.drop_drop, hd, List.drop_append_of_le_length (by rw [El.len]; omega)]
          congr 1
          rw [flatE_drop, Nat.succ_mul]
        rw [h1, h2]
        simp only [List.length_append, List.length_take, List.length_drop, El.len]
        rw [show j * El.k α + (min o (El.k α) + (vs.length + (El.k α - (o + vs.length)))) = j * El.k α + El.k α by omega]
        simp [List.append_assoc]
      exact e2
end Go.Proofs.YteikbpkjikacmaaGreatDoor
namespace Go.Proofs.YteikbpkjikacmaaGreatDoor
open Go.RowKit

/-- Below N all but block T is as it was. -/
structure KeepN (T N : Nat) (w w' : World) : Prop where
  os : w'.os = w.os
  tape : w'.tape = w.tape
  output : w'.output = w.output
  size : w.heap.size ≤ w'.heap.size
  block : ∀ k, k < N → k ≠ T → w'.heap[k]? = w.heap[k]?
section
variable {α : Type} [El α] {Ty : TypeId} {w w' w'' : World} {T N : Nat} {v v' : Value} {l l' : List α} {cs : List Value} {i b : Nat}
theorem KeepN.refl (T N : Nat) (w : World) : KeepN T N w w := ⟨rfl, rfl, rfl, Nat.le_refl _, fun _ _ _ => rfl⟩
theorem KeepN.trans (h : KeepN T N w w') (k : KeepN T N w' w'') : KeepN T N w w'' :=
  ⟨k.os.trans h.os, k.tape.trans h.tape, k.output.trans h.output, Nat.le_trans h.size k.size, fun i hi hr => (k.block i hi hr).trans (h.block i hi hr)⟩
theorem KeepN.of_below (h : Below N w w') : KeepN T N w w' := ⟨h.os, h.tape, h.output, h.size, fun k hk _ => h.block k hk⟩
theorem KeepN.below {B : Nat} (h : KeepN T N w w') (hT : B ≤ T) (hN : B ≤ N) : Below B w w' := ⟨h.os, h.tape, h.output, h.size, fun k hk => h.block k (by omega) (by omega)⟩
theorem KeepN.less {M : Nat} (h : KeepN T N w w') (hM : M ≤ N) : KeepN T M w w' := ⟨h.os, h.tape, h.output, h.size, fun k hk => h.block k (by omega)⟩
theorem Blk.keepN (h : Blk w b cs) (k : KeepN T N w w') (hb : b < N) (hT : b ≠ T) : Blk w' b cs := by
  obtain ⟨t, h⟩ := h; exact ⟨t, by rw [k.block b hb hT]; exact h⟩
theorem OwnE.led (h : OwnE Ty w N v l) (h0 : 0 < l.length) : ∃ g n cap, v = .slice (some ⟨g, 0, none⟩) n cap ∧ n = l.length ∧ N ≤ g := by
  rcases h.2 with ⟨_, hn⟩ | ⟨g, cap, cur, hv, hb, _⟩
  · omega
  · exact ⟨g, l.length, cap, hv, rfl, hb⟩
theorem OwnE.cellAt {g n cap : Nat} (h : OwnE Ty w N (.slice (some ⟨g, 0, none⟩) n cap) l) {j i : Nat} {u : Value} (hj : j < l.length) (hu : (El.cs (l.getD j El.dflt))[i]? = some u) : w.cell? ⟨g, j * El.k α + i, none⟩ = some u ∧ w.frozen? ⟨g, j * El.k α + i, none⟩ = false := by
  have hi : i < El.k α := by have := (List.getElem?_eq_some_iff.1 hu).1; rw [El.len] at this; exact this
  have h0 := h
  rcases h.2 with ⟨e, _⟩ | ⟨g', cap', cur, hv, hb, hg, _⟩
  · injection e with e; cases e
  · injection hv with e1 _ _
    injection e1 with e1
    injection e1 with e1
    subst e1
    have := World.ownsRow.cells h0 (g := g) rfl (j * El.k α + i) u (by rw [flatE_get l j i hj hi]; exact hu)
    rw [Addr.add_mid, Nat.zero_add] at this
    exact ⟨this, by simp [World.frozen?, hg]⟩
theorem OwnE.thereAt {g n cap : Nat} (h : OwnE Ty w N (.slice (some ⟨g, 0, none⟩) n cap) l) {j : Nat} (hj : j < l.length) (o m : Nat) (ho : o + m ≤ El.k α) : w.there g (j * El.k α + o) m := fun i hi => by
  have hl := El.len (l.getD j El.dflt)
  obtain ⟨h1, h2⟩ := h.cellAt (j := j) (i := o + i) (u := (El.cs (l.getD j El.dflt))[o + i]'(by omega)) hj (List.getElem?_eq_getElem _)
  rw [Nat.add_assoc]
  exact ⟨by rw [h1]; rfl, h2⟩
/-- What was appended to a slice of a cell goes into the cell. -/
theorem hold_store (hB : Blk w T cs) (hv : ∀ k, v.ownBlock = some k → N ≤ k) (hT : T < N) (hN : N ≤ w.heap.size) (ho : OwnE Ty w' N v' l') (hg : w.grownBy w' v.ownBlock) :
    Blk (w'.setCell ⟨T, i, none⟩ v') T (cs.set i v') ∧ OwnE Ty (w'.setCell ⟨T, i, none⟩ v') N v' l' ∧ KeepN T N w (w'.setCell ⟨T, i, none⟩ v') := by
  have hT' : some T ≠ v.ownBlock := fun e => by have := hv T e.symm; omega
  refine ⟨?_, ?_, ?_⟩
  · have : Blk w' T cs := by
      have hl := hB.lt; obtain ⟨t, hb⟩ := hB; exact ⟨t, by rw [hg.block T hl hT']; exact hb⟩
    exact this.set i v'
  · refine ho.same fun k hk => ?_
    rw [Below.heap_setCell w' _ v' k fun e => by have := (ho.lt k hk).1; simp at e; omega]
  · refine ⟨hg.os, hg.tape, hg.output, by have := hg.size; simpa [World.setCell] using this, fun k hk hkT => ?_⟩
    rw [Below.heap_setCell w' _ v' k hkT]
    exact hg.block k (by omega) fun e => by have := hv k e.symm; omega
theorem hold_cell (hB : Blk w T cs) (hv : ∀ k, v.ownBlock = some k → N ≤ k) (hT : T < N) (hg : w.grownBy w' v.ownBlock) {u : Value} (hu : cs[i]? = some u) : w'.cell? ⟨T, i, none⟩ = some u ∧ w'.frozen? ⟨T, i, none⟩ = false := by
  have hT' : some T ≠ v.ownBlock := fun e => by have := hv T e.symm; omega
  have : Blk w' T cs := by
    have hl := hB.lt; obtain ⟨t, hb⟩ := hB; exact ⟨t, by rw [hg.block T hl hT']; exact hb⟩
  exact ⟨this.one hu, this.frozen i⟩
end
section
variable {P : Program} {ops : Array Oper} {o : Oper} {a : Act} {w : World} {K : Act → World → Prop} {Q : Exit → Act → World → Prop} {E : Prop}
theorem step_load_mid (hgd : o.guard = none) (ty : TypeId) (x : Operand) (ho : o.op = .load ty x)
    (b off : Nat) (hx : a.eval x = .pointer (some ⟨b, off, none⟩)) (cs : List Value) (d : TypeDesc) (hc : w.rangeAt b off cs)
    (hu : P.underlying ty = some d) (hd : d.isRow = true) (hi : (P.info? ty).map (·.size) = some cs.length)
    (h : K (a.put o.dst (.agg cs.toArray)) w) : if Region.wanted o (yielded ops a.tmps) = true then Oper.wp P o a w K Q else E := by
  have hw : Region.wanted o (yielded ops a.tmps) = true := by simp [Region.wanted, hgd]
  rw [if_pos hw]
  exact wp_load_mid ty x ho b off hx cs d hc hu hd hi h
end
theorem step_store_mid {P : Program} {ops : Array Oper} {o : Oper} {a : Act} {w : World} {K : Act → World → Prop} {Q : Exit → Act → World → Prop} {E : Prop} (hgd : o.guard = none) (ty : TypeId) (x y : Operand) (ho : o.op = .store ty x y)
    (b off : Nat) (cells : List Value) (hx : a.eval x = .pointer (some ⟨b, off, none⟩)) (hy : a.eval y = .agg cells.toArray)
    (ht : w.there b off cells.length) (hi : (P.info? ty).map (·.size) = some cells.length) (h1 : ∀ v ∈ cells, v.oneCell' = true)
    (h : K (a.put o.dst undef) (w.setCells b off cells)) : if Region.wanted o (yielded ops a.tmps) = true then Oper.wp P o a w K Q else E := by
  have hw : Region.wanted o (yielded ops a.tmps) = true := by simp [Region.wanted, hgd]
  rw [if_pos hw]
  exact wp_store_mid ty x y ho b off cells.toArray hx hy (by simpa using ht) (by simpa using hi) (all_oneCell_toArray h1) (by simpa using h)
theorem exec_build {P : Program} {o : Oper} {a : Act} (T : TypeId) (parts : Array (Nat × Operand)) (ho : o.op = .build T parts) (vs : List (Nat × Value)) (cs : Array Value)
    (hb : P.built T vs = some cs) (hv : (parts.map fun (i, x) => (i, a.eval x)).toList = vs) (w : World) : (execOp a.eval o).run P w = .ok (.value (.agg cs)) w := by
  have hb' : P.built T (parts.map fun (i, x) => (i, a.eval x)).toList = some cs := by rw [hv]; exact hb
  unfold execOp
  simp only [ho, Sem.run_bind, run_build w T _ cs hb', Result.andThen_ok]
  rfl
/-- What is left of a walk, told ahead. -/
theorem split_rest {K : Act → World → Prop} {G : Prop} (R : Act → World → Prop) (h1 : Hid (∀ a w, R a w → K a w) → G) (h2 : ∀ a w, R a w → K a w) : G := h1 h2
end Go.Proofs.YteikbpkjikacmaaGreatDoor
