/- The document's own Twice is the sum of the sum. -/
import Derived.Test.YtbjndfnpfmeioaaDoorRefSum
namespace Go.Proofs.YtbjndfnpfmeioaaDoor
open Go.ChangeShapes Go.WideShapes Go.ChangeAt Go.RowKit

set_option maxRecDepth 100000 in
set_option maxHeartbeats 4000000 in
theorem reftwice_any (a : Option Addr) (cap : Nat) (bs : List (BitVec 8)) (w : World) (hb : Bytes w a cap bs) (hn : bs.length < 144115188075855872) :
    Calls Tryd.prog 12 #[.slice a bs.length cap] w fun e w' => e = .returned (.agg (u8s (sum (sum bs))).toArray) ∧ Below w.heap.size w w' := by
  have HB : Hid (Bytes w a cap bs) := hb
  clear hb
  go_enter Tryd.func12, Tryd.ntmps12
  go_wp2_with fail
  generalize hw1 : World.alloc w _ = w1
  have hN1 : Blk w1 w.heap.size (u8s zeros32) := by rw [← hw1]; exact Blk.mk _ _ _ rfl rfl
  have hb1 : Below w.heap.size w w1 := by rw [← hw1]; exact (Below.refl _ _).alloc (Nat.le_refl _) _
  clear hw1
  refine (refsum_any a cap bs w1 (HB.out.later hb1 (Nat.le_refl _)) hn).mono ?_
  rintro e w2 ⟨rfl, hb2⟩
  have hN2 := hN1.below hb2 hN1.lt
  have hb02 : Below w.heap.size w w2 := hb1.trans (hb2.mono hb1.size)
  have hz2 := hN2.lt
  obtain ⟨l, hl⟩ : ∃ x, x = sum bs := ⟨_, rfl⟩
  have hll : l.length = 32 := by rw [hl]; exact sum_length _
  rw [← hl]
  have HL : Hid (l = sum bs) := hl
  clear hN1 hb1 hb2 hl HB hn
  have I28 : Hid ((Tryd.prog.info? 28).map (·.size) = some (u8s l).toArray.size) := by
    show _ = _
    rw [show (u8s l).toArray.size = 32 by simp [hll]]; kernel_rfl
  have HS28 : Hid ((u8s zeros32).toArray.size = (u8s l).toArray.size) := by show _ = _; simp [hll, zeros32]
  go_wp2_with (refine wpList_store_row rfl 28 _ _ rfl w2.heap.size (u8s l).toArray rfl rfl 28 (u8s zeros32).toArray (heap_alloc_new _ _) I28.out HS28.out (u8s_one _) ?_)
  generalize hw3 : World.setRow _ _ _ = w3
  have hL3 : Blk w3 w2.heap.size (u8s l) := by rw [← hw3]; exact (Blk.new w2 _ _).row
  have hb3 : Below w2.heap.size w2 w3 := by rw [← hw3]; exact below_setRow ((Below.refl _ _).alloc (Nat.le_refl _) _) (Nat.le_refl _) _
  clear hw3
  have hb03 : Below w.heap.size w w3 := hb02.trans (hb3.mono hb02.size)
  have hN3 := hN2.below hb3 hz2
  have hB3 : Bytes w3 (some ⟨w2.heap.size, 0, none⟩) 32 l := by have := Bytes.blk hL3 (by omega); rw [hll] at this; exact this
  have hc := refsum_any (some ⟨w2.heap.size, 0, none⟩) 32 l w3 hB3 (by omega)
  rw [hll] at hc
  refine hc.mono ?_
  clear hc hB3
  rintro e w4 ⟨rfl, hb4⟩
  have hN4 := hN3.below hb4 hN3.lt
  have hb04 : Below w.heap.size w w4 := hb03.trans (hb4.mono hb03.size)
  have J28 : Hid ((Tryd.prog.info? 28).map (·.size) = some (u8s (sum l)).toArray.size) := by
    show _ = _
    rw [show (u8s (sum l)).toArray.size = 32 by simp [sum_length]]; kernel_rfl
  have HT28 : Hid ((u8s zeros32).toArray.size = (u8s (sum l)).toArray.size) := by show _ = _; simp [sum_length, zeros32]
  obtain ⟨tN, hgN⟩ := hN4
  have HgN : Hid (w4.heap[w.heap.size]? = _) := hgN
  clear hgN
  go_wp2_with (refine wpList_store_row rfl 28 _ _ rfl w.heap.size (u8s (sum l)).toArray rfl rfl tN _ HgN.out J28.out HT28.out (u8s_one _) ?_)
  refine bodyPost_ret (v := .agg (u8s (sum l)).toArray) ?_ rfl ⟨by rw [HL.out], ?_⟩
  · obtain ⟨t, hb⟩ := Blk.row (ds := u8s (sum l)) ⟨tN, HgN.out⟩
    exact results_cell_row Tryd.results12 _ _ w.heap.size t _ _ _ rfl hb Tryd.underlying28 rfl J28.out
  · exact below_setRow hb04 (Nat.le_refl _) _
end Go.Proofs.YtbjndfnpfmeioaaDoor
