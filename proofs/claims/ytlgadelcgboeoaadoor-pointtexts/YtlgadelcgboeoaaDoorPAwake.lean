/- point.Parse of a text whose first part is no hash; what the document fixes of point: the law's own test holds. -/
import Derived.Test.YtlgadelcgboeoaaDoorPParseS
namespace Go.Proofs.YtlgadelcgboeoaaDoor
open Go.ChangeShapes Go.WideShapes Go.ChangeAt Go.RowKit

theorem size_zeros : (Tryd.prog.info? 24).map (·.size) = some (u8s zeros32).toArray.size := by
  rw [show (u8s zeros32).toArray.size = 32 from rfl]; kernel_rfl
theorem size_zpt : (Tryd.prog.info? 26).map (·.size) = some (default : Pt).cs.toArray.size := by
  rw [show (default : Pt).cs.toArray.size = 33 from rfl]; kernel_rfl

set_option maxRecDepth 100000 in
set_option maxHeartbeats 4000000 in
theorem parse_none (s : ByteArray) (w : World) (hs : s.size ≤ 1000000) (hm : Mx w) (h64 : (Go.Lib.cut s.data.toList [58]).1.length ≠ 64) :
    Calls Tryd.prog 20 #[.string s] w fun e w' => e = .returned (.tuple #[.agg (default : Pt).cs.toArray, .bool false]) ∧ Below w.heap.size w w' := by
  have HM : Hid (Mx w) := hm
  have H64 : Hid (_ ≠ 64) := h64
  clear hm h64
  go_enter Tryd.func20, Tryd.ntmps20
  go_upto_region 1 with fail
  generalize hw1 : World.alloc w _ = w1
  have hR1 : Blk w1 w.heap.size (default : Pt).cs := by rw [← hw1]; exact Blk.mk _ _ _ rfl rfl
  have hb1 : Below w.heap.size w w1 := by rw [← hw1]; exact (Below.refl _ _).alloc (Nat.le_refl _) _
  clear hw1
  have HM1 : Hid (Mx w1) := HM.out.below hb1
  generalize hN : w.heap.size = N at *
  have H1 : Hid (Blk w1 N (default : Pt).cs ∧ Below N w w1) := ⟨hR1, hb1⟩
  clear hR1 hb1 HM
  go_wp2_with fail
  refine (cut_any s ⟨#[58]⟩ w1 (by omega) HM1.out).mono ?_
  rintro e w2 ⟨rfl, hb2⟩
  have HS2 : Hid ((⟨(Go.Lib.cut s.data.toList [58]).1.toArray⟩ : ByteArray).size ≠ 64) := by
    show (Go.Lib.cut s.data.toList [58]).1.toArray.size ≠ 64
    simpa using H64.out
  have H2 : Hid (Blk w2 N (default : Pt).cs ∧ Below N w w2) := ⟨H1.out.1.below hb2 H1.out.1.lt, H1.out.2.trans (hb2.mono (Nat.le_of_lt H1.out.1.lt))⟩
  clear hb2 H1 H64 HM1
  generalize hA : (⟨(Go.Lib.cut s.data.toList [58]).1.toArray⟩ : ByteArray) = A at *
  generalize hC : (⟨(Go.Lib.cut s.data.toList [58]).2.1.toArray⟩ : ByteArray) = C at *
  generalize (Go.Lib.cut s.data.toList [58]).2.2 = bb at *
  clear hA hC
  go_wp2_with fail
  refine (parse_short A w2 HS2.out).mono ?_
  rintro e w3 ⟨rfl, hb3⟩
  have H3 : Hid (Blk w3 N (default : Pt).cs ∧ Below N w w3) := ⟨H2.out.1.below hb3 H2.out.1.lt, H2.out.2.trans (hb3.mono (Nat.le_of_lt H2.out.1.lt))⟩
  clear hb3 H2 HS2
  go_upto_region 3 with (refine wpList_store_row rfl 24 _ _ rfl w3.heap.size (u8s zeros32).toArray rfl rfl 24 (u8s zeros32).toArray (heap_alloc_new _ _) size_zeros rfl (u8s_one _) ?_)
  generalize hw4 : World.setRow _ _ _ = w4
  have hb4 : Below w3.heap.size w3 w4 := by rw [← hw4]; exact below_setRow ((Below.refl _ _).alloc (Nat.le_refl _) _) (Nat.le_refl _) _
  clear hw4
  obtain ⟨tN, hgN⟩ := H3.out.1.below hb4 H3.out.1.lt
  have HgN : Hid (w4.heap[N]? = _) := hgN
  have HB4 : Hid (Below N w w4) := H3.out.2.trans (hb4.mono (Nat.le_of_lt H3.out.1.lt))
  clear hgN hb4 H3
  go_wp2_with (refine wpList_store_row rfl 26 _ _ rfl N (default : Pt).cs.toArray rfl rfl tN _ HgN.out size_zpt rfl (default : Pt).cs_all ?_)
  refine bodyPost_ret (v := .tuple #[.agg (default : Pt).cs.toArray, .bool false]) ?_ rfl ⟨rfl, ?_⟩
  · obtain ⟨t, hb⟩ := Blk.row (ds := (default : Pt).cs) ⟨tN, HgN.out⟩
    exact results_row_tmp Tryd.results20 _ _ N t _ _ _ rfl hb Tryd.underlying26 rfl size_zpt
  · subst hN
    exact below_setRow HB4.out (Nat.le_refl _) _

end Go.Proofs.YtlgadelcgboeoaaDoor
