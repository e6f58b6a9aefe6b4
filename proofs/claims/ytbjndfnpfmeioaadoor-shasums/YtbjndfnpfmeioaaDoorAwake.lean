/- What the document fixes of sha: the law's own test holds. -/
import Derived.Test.YtbjndfnpfmeioaaDoorSum
import Derived.Test.YtbjndfnpfmeioaaDoorTwice
import Derived.Test.YtbjndfnpfmeioaaDoorAbc
import Derived.Test.YtbjndfnpfmeioaaDoorParseShort
import Derived.Lib.SlBytesConst
import Derived.Test.YtbjndfnpfmeioaaDoorKit3
namespace Go.Proofs.YtbjndfnpfmeioaaDoor
open Go.ChangeShapes Go.WideShapes Go.ChangeAt Go.RowKit

set_option maxRecDepth 100000 in
set_option maxHeartbeats 4000000 in
theorem awake_any (w : World) (hK : Kw w) :
    Calls Tryd.prog 7 #[] w fun e w' => e = .returned (.bool true) ∧ Below w.heap.size w w' := by
  have HK : Hid (Kw w) := hK
  have hpos := hK.pos
  clear hK
  have kc := fun (w : World) (C : Array Value) (n c : Nat) => Lib.run_convert_bytes_const (P := Tryd.prog) w 22 5 C n c Tryd.underlying22 Tryd.underlying5
  go_enter Tryd.func7, Tryd.ntmps7
  go_wp2_with fail
  generalize hw1 : World.alloc (World.alloc w _) _ = w1
  have hP1 : Pieces w1 (some ⟨w.heap.size + 1, 0, none⟩) [abc] := by
    have hA : w1.heap[w.heap.size]? = some (.cells (u8s abc).toArray 5 (3, 4)) := by
      rw [← hw1, heap_alloc_old (h := by simp)]; exact heap_alloc_new _ _
    have hB : Blk w1 (w.heap.size + 1) [.slice (some ⟨w.heap.size, 0, none⟩) 3 3] := by rw [← hw1]; exact Blk.mk _ _ _ (by simp) rfl
    intro i hi
    obtain rfl : i = 0 := by simpa using hi
    refine ⟨w.heap.size + 1, 0, some ⟨w.heap.size, 0, none⟩, 3, rfl, by rw [hB.cell]; rfl, ⟨by show 3 ≤ 3; omega, by unfold maxLen; omega, fun _ => ⟨w.heap.size, 0, rfl, fun j hj => ?_⟩⟩⟩
    rw [cell_of_row w1 w.heap.size (0 + j) _ 5 _ hA, Nat.zero_add]
    have := u8s_get abc j hj
    simpa using this
  have hb1 : Below w.heap.size w w1 := by rw [← hw1]; exact ((Below.refl _ _).alloc (Nat.le_refl _) _).alloc (by simp) _
  clear hw1 kc
  refine (sum_any (some ⟨w.heap.size + 1, 0, none⟩) 1 1 [abc] rfl w1 (HK.out.below hb1 hpos) (by omega) hP1 (by decide)).mono ?_
  rintro e w2 ⟨rfl, hb2⟩
  have hb02 : Below w.heap.size w w2 := hb1.trans (hb2.mono hb1.size)
  rw [show [abc].flatten = abc from rfl]
  obtain ⟨l, hl⟩ : ∃ x, x = sum abc := ⟨_, rfl⟩
  have hll : l.length = 32 := by rw [hl]; exact sum_length _
  obtain ⟨s0, s1, s2, s3⟩ := sum_abc
  rw [← hl] at s0 s1 s2 s3 ⊢
  have HLL : Hid (l.length = 32) := hll
  clear hb1 hb2 hP1 hl
  have I28 : Hid ((Tryd.prog.info? 28).map (·.size) = some (u8s l).toArray.size) := by
    show _ = _
    rw [show (u8s l).toArray.size = 32 by simp [hll]]; kernel_rfl
  have HS28 : Hid ((u8s zeros32).toArray.size = (u8s l).toArray.size) := by show _ = _; simp [hll, zeros32]
  have J28 : Hid ((Tryd.prog.info? 28).map (·.size) = some (u8s zeros32).toArray.size) := by
    show _ = _
    rw [show (u8s zeros32).toArray.size = 32 from rfl]; kernel_rfl
  clear hll
  go_wp2_with (refine wpList_store_row rfl 28 _ _ rfl w2.heap.size (u8s l).toArray rfl rfl 28 (u8s zeros32).toArray (heap_alloc_new _ _) I28.out HS28.out (u8s_one _) ?_)
  generalize hw3 : World.setRow _ _ _ = w3
  have hL3 : Blk w3 w2.heap.size (u8s l) := by rw [← hw3]; exact (Blk.new w2 _ _).row
  have hb3 : Below w2.heap.size w2 w3 := by rw [← hw3]; exact below_setRow ((Below.refl _ _).alloc (Nat.le_refl _) _) (Nat.le_refl _) _
  clear hw3
  have hb03 : Below w.heap.size w w3 := hb02.trans (hb3.mono hb02.size)
  refine (parse_short ⟨#[48, 48]⟩ w3 (by decide)).mono ?_
  rintro e w4 ⟨rfl, hb4⟩
  have hL4 := hL3.below hb4 hL3.lt
  have hL4l := hL4.lt
  have hb04 : Below w.heap.size w w4 := hb03.trans (hb4.mono hb03.size)
  clear hb3 hL3 hb4 hb02 hb03
  generalize hH : w2.heap.size = H at *
  go_upto_region 3 with (refine wpList_store_row rfl 28 _ _ rfl w4.heap.size (u8s zeros32).toArray rfl rfl 28 (u8s zeros32).toArray (heap_alloc_new _ _) J28.out rfl (u8s_one _) ?_)
  generalize hw5 : World.setRow _ _ _ = w5
  have hb5 : Below w4.heap.size w4 w5 := by rw [← hw5]; exact below_setRow ((Below.refl _ _).alloc (Nat.le_refl _) _) (Nat.le_refl _) _
  clear hw5
  have hL5 := hL4.below hb5 hL4l
  have hb05 : Below w.heap.size w w5 := hb04.trans (hb5.mono hb04.size)
  clear hb5 hL4 hb04
  have h32 := HLL.out
  have c0 : w5.cell? ⟨H, 0, none⟩ = some (.int .u8 186) := by rw [hL5.cell, u8s_get l 0 (by omega), s0]; rfl
  have c1 : w5.cell? ⟨H, 1, none⟩ = some (.int .u8 120) := by rw [hL5.cell, u8s_get l 1 (by omega), s1]; rfl
  have c2 : w5.cell? ⟨H, 2, none⟩ = some (.int .u8 22) := by rw [hL5.cell, u8s_get l 2 (by omega), s2]; rfl
  have c3 : w5.cell? ⟨H, 3, none⟩ = some (.int .u8 191) := by rw [hL5.cell, u8s_get l 3 (by omega), s3]; rfl
  obtain ⟨tH, hgH⟩ := hL5
  have HgH : Hid (w5.heap[H]? = _) := hgH
  have hless : lessB zeros32 l = true := by
    rw [lessB_at zeros32 l 0 (by decide) (by rw [HLL.out]; rfl) (fun j hj => by omega) (by rw [s0]; decide), s0]; rfl
  have HLESS : Hid (lessB zeros32 l = true) := hless
  clear hless s0 s1 s2 s3 hgH h32
  go_wp2_with (first
    | (refine wpList_load_wanted (by rfl) 28 _ rfl H rfl tH _ _ _ HgH.out Tryd.underlying28 rfl I28.out ?_)
    | (go_at_call 17; refine (less_any zeros32 l rfl HLL.out _).mono ?_; rintro e w6 ⟨rfl, hb6⟩; rw [HLESS.out]))
  go_ret
  exact ⟨rfl, hb05.trans (hb6.mono hb05.size)⟩
end Go.Proofs.YtbjndfnpfmeioaaDoor
