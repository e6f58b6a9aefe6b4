/- sha.Twice is the sum of the sum. -/
import Derived.Test.YtbjndfnpfmeioaaDoorSum
namespace Go.Proofs.YtbjndfnpfmeioaaDoor
open Go.ChangeShapes Go.WideShapes Go.ChangeAt Go.RowKit

theorem Bytes.blk {w : World} {b : Nat} {bs : List (BitVec 8)} (h : Blk w b (u8s bs)) (hl : bs.length ≤ 1000000) : Bytes w (some ⟨b, 0, none⟩) bs.length bs :=
  ⟨Nat.le_refl _, by unfold maxLen; omega, fun _ => ⟨b, 0, rfl, fun j hj => by rw [Nat.zero_add, h.cell, u8s_get bs j hj]⟩⟩
/-- One piece, over a block of 32 bytes that is known whole. -/
theorem Pieces.one {w : World} {p b : Nat} {bs : List (BitVec 8)} {cap : Nat} (hp : Blk w p [.slice (some ⟨b, 0, none⟩) cap cap]) (h : Blk w b (u8s bs)) (hl : bs.length = cap) (hc : cap ≤ 1000000) : Pieces w (some ⟨p, 0, none⟩) [bs] := by
  intro i hi
  obtain rfl : i = 0 := by simpa using hi
  exact ⟨p, 0, some ⟨b, 0, none⟩, cap, rfl, by rw [hp.cell]; show some _ = some _; rw [← hl]; rfl, by rw [← hl]; exact Bytes.blk h (by omega)⟩

set_option maxRecDepth 100000 in
set_option maxHeartbeats 4000000 in
theorem twice_any (a : Option Addr) (m cap : Nat) (ps : List (List (BitVec 8))) (hm : ps.length = m) (w : World) (hK : Kw w) (hcap : m ≤ 1000000) (hp : Pieces w a ps) (hn : ps.flatten.length < 144115188075855872) :
    Calls Tryd.prog 10 #[.slice a m cap] w fun e w' => e = .returned (.agg (u8s (sum (sum ps.flatten))).toArray) ∧ Below w.heap.size w w' := by
  have HK : Hid (Kw w) := hK
  have HP : Hid (Pieces w a ps) := hp
  have hpos := hK.pos
  clear hK hp
  go_enter Tryd.func10, Tryd.ntmps10
  go_wp2_with fail
  generalize hw1 : World.alloc w _ = w1
  have hN1 : Blk w1 w.heap.size (u8s zeros32) := by rw [← hw1]; exact Blk.mk _ _ _ rfl rfl
  have hb1 : Below w.heap.size w w1 := by rw [← hw1]; exact (Below.refl _ _).alloc (Nat.le_refl _) _
  clear hw1
  refine (sum_any a m cap ps hm w1 (HK.out.below hb1 hpos) hcap (HP.out.later hb1 (Nat.le_refl _)) hn).mono ?_
  rintro e w2 ⟨rfl, hb2⟩
  have hN2 := hN1.below hb2 hN1.lt
  have hb02 : Below w.heap.size w w2 := hb1.trans (hb2.mono hb1.size)
  have hz2 := hN2.lt
  obtain ⟨l, hl⟩ : ∃ x, x = sum ps.flatten := ⟨_, rfl⟩
  have hll : l.length = 32 := by rw [hl]; exact sum_length _
  rw [← hl]
  have HL : Hid (l = sum ps.flatten) := hl
  clear hN1 hb1 hb2 hl HP hn hm
  have i28 : (Tryd.prog.info? 28).map (·.size) = some (u8s l).toArray.size := by
    rw [show (u8s l).toArray.size = 32 by simp [hll]]; kernel_rfl
  have I28 : Hid (_ = _) := i28
  have hsz : (u8s zeros32).toArray.size = (u8s l).toArray.size := by simp [hll, zeros32]
  have HS28 : Hid (_ = _) := hsz
  clear i28 hsz
  go_wp2_with (refine wpList_store_row rfl 28 _ _ rfl w2.heap.size (u8s l).toArray rfl rfl 28 (u8s zeros32).toArray (heap_alloc_new _ _) I28.out HS28.out (u8s_one _) ?_)
  generalize hw3 : World.alloc (World.setRow _ _ _) _ = w3
  have hL3 : Blk w3 w2.heap.size (u8s l) := by rw [← hw3]; exact ((Blk.new w2 _ _).row).alloc _
  have hP3 : Blk w3 (w2.heap.size + 1) [.slice (some ⟨w2.heap.size, 0, none⟩) 32 32] := by rw [← hw3]; exact Blk.mk _ _ _ (by simp [World.setRow]) rfl
  have hb3 : Below w2.heap.size w2 w3 := by rw [← hw3]; exact (below_setRow ((Below.refl _ _).alloc (Nat.le_refl _) _) (Nat.le_refl _) _).alloc (by simp [World.setRow]) _
  clear hw3
  have hb03 : Below w.heap.size w w3 := hb02.trans (hb3.mono hb02.size)
  have hN3 := hN2.below hb3 hz2
  refine (sum_any (some ⟨w2.heap.size + 1, 0, none⟩) 1 1 [l] rfl w3 (HK.out.below hb03 hpos) (by omega) (Pieces.one hP3 hL3 hll (by omega)) (by simp [hll])).mono ?_
  rintro e w4 ⟨rfl, hb4⟩
  have hN4 := hN3.below hb4 hN3.lt
  have hb04 : Below w.heap.size w w4 := hb03.trans (hb4.mono hb03.size)
  rw [show [l].flatten = l by simp]
  have i28 : (Tryd.prog.info? 28).map (·.size) = some (u8s (sum l)).toArray.size := by
    rw [show (u8s (sum l)).toArray.size = 32 by simp [sum_length]]; kernel_rfl
  have J28 : Hid (_ = _) := i28
  have hsz : (u8s zeros32).toArray.size = (u8s (sum l)).toArray.size := by simp [sum_length, zeros32]
  have HT28 : Hid (_ = _) := hsz
  obtain ⟨tN, hgN⟩ := hN4
  have HgN : Hid (w4.heap[w.heap.size]? = _) := hgN
  clear i28 hsz hgN
  go_wp2_with (refine wpList_store_row rfl 28 _ _ rfl w.heap.size (u8s (sum l)).toArray rfl rfl tN _ HgN.out J28.out HT28.out (u8s_one _) ?_)
  refine bodyPost_ret (v := .agg (u8s (sum l)).toArray) ?_ rfl ⟨by rw [HL.out], ?_⟩
  · obtain ⟨t, hb⟩ := Blk.row (ds := u8s (sum l)) ⟨tN, HgN.out⟩
    exact results_cell_row Tryd.results10 _ _ w.heap.size t _ _ _ rfl hb Tryd.underlying28 rfl J28.out
  · exact below_setRow hb04 (Nat.le_refl _) _
end Go.Proofs.YtbjndfnpfmeioaaDoor
