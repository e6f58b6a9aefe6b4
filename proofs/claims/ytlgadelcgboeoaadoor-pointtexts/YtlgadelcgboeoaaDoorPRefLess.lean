/- The document's own Less and PointLess. -/
import Derived.Test.YtlgadelcgboeoaaDoorPtS
namespace Go.Proofs.YtlgadelcgboeoaaDoor
open Go.ChangeShapes Go.WideShapes Go.ChangeAt Go.RowKit

set_option maxRecDepth 100000 in
set_option maxHeartbeats 4000000 in
theorem refless_any (a b : List (BitVec 8)) (ha : a.length = 32) (hb : b.length = 32) (w : World) :
    Calls Tryd.prog 40 #[.agg (u8s a).toArray, .agg (u8s b).toArray] w fun e w' => e = .returned (.bool (lessB a b)) ∧ Below w.heap.size w w' := by
  have HMO := follows_mixed
  go_enter Tryd.func40, Tryd.ntmps40
  go_wp2_with fail
  generalize hw1 : World.alloc (World.alloc w _) _ = w1
  have hA1 : Blk w1 w.heap.size (u8s a) := by rw [← hw1]; exact (Blk.new _ _ _).alloc _
  have hB1 : Blk w1 (w.heap.size + 1) (u8s b) := by rw [← hw1]; exact Blk.mk _ _ _ (by simp) rfl
  have hb1 : Below w.heap.size w w1 := by rw [← hw1]; exact ((Below.refl _ _).alloc (Nat.le_refl _) _).alloc (by simp) _
  clear hw1
  generalize hN : w.heap.size = N at *
  have c1 : (convert 62 9 (.slice (some ⟨N, 0, none⟩) 32 32)).run Tryd.prog w1.drew = .ok (.string (str a)) w1.drew := conv_str hA1.drew ha
  have c2 : (convert 62 9 (.slice (some ⟨N + 1, 0, none⟩) 32 32)).run Tryd.prog w1.drew = .ok (.string (str b)) w1.drew := conv_str hB1.drew hb
  have hless : Op.bytesLess (str a).toList (str b).toList = lessB a b := by rw [str_list, str_list]; exact bytesLess_eq a b (by rw [ha, hb])
  have HLESS : Hid (_ = _) := hless
  have HB1 : Hid (Below N w w1.drew) := hb1.drew
  clear hA1 hB1 ha hb hless hb1
  refine wp_region_reads HMO.out (by kernel_rfl) ?_
  generalize w1.drew = w2 at *
  iterate 6 still_step
  refine wpStill_nil ?_
  rw [HLESS.out]
  go_wp2_with fail
  go_ret
  subst hN
  exact ⟨rfl, HB1.out⟩

set_option maxRecDepth 100000 in
set_option maxHeartbeats 4000000 in
theorem refpless_any (p q : Pt) (w : World) :
    Calls Tryd.prog 26 #[.agg p.cs.toArray, .agg q.cs.toArray] w fun e w' => e = .returned (.bool (ltPt p q)) ∧ Below w.heap.size w w' := by
  have U24 := Tryd.underlying24
  have HU : Hid (_ = _) := U24
  clear U24
  have hn : ∀ w, (binOp .neq 24 (.agg (u8s p.tx).toArray) (.agg (u8s q.tx).toArray)).run Tryd.prog w = .ok (.bool (!(p.tx == q.tx))) w := neq_hash _ _ p.len q.len
  have hg : ∀ (op : BinOp) (x y : Operand) (w : World), (eqGuard op 24 x y (.agg (u8s p.tx).toArray) (.agg (u8s q.tx).toArray)).run Tryd.prog w = .ok () w := fun op x y w => run_eqGuard_agg w op _ x y _ _ (by kernel_rfl)
  go_enter Tryd.func26, Tryd.ntmps26
  go_upto_region 1 with fail
  generalize hw1 : World.alloc (World.alloc w _) _ = w1
  have hA1 : Blk w1 w.heap.size p.cs := by rw [← hw1]; exact (Blk.new _ _ _).alloc _
  have hB1 : Blk w1 (w.heap.size + 1) q.cs := by rw [← hw1]; exact Blk.mk _ _ _ (by simp) rfl
  have hb1 : Below w.heap.size w w1 := by rw [← hw1]; exact ((Below.refl _ _).alloc (Nat.le_refl _) _).alloc (by simp) _
  clear hw1
  generalize hN : w.heap.size = N at *
  have HA : Hid (w1.rangeAt N 0 (u8s p.tx)) := hA1.tx
  have HB : Hid (w1.rangeAt (N + 1) 0 (u8s q.tx)) := hB1.tx
  have ca := hA1.cell 32
  have cb := hB1.cell 32
  rw [Pt.cell_n] at ca cb
  clear hA1 hB1
  have HG : Hid (Below N w w1) := hb1
  clear hb1
  by_cases htx : p.tx = q.tx
  · have HR : Hid (ltPt p q = decide (p.n < q.n)) := by show _ = _; rw [ltPt, if_pos htx]
    have hd : (p.tx == q.tx) = true := by simpa using htx
    rw [hd] at hn
    clear hd htx
    go_wp2_with (first
      | (refine wpList_load_mid rfl 24 _ rfl N 0 rfl _ _ HA.out HU.out rfl (size_hash p) ?_)
      | (refine wpList_load_mid rfl 24 _ rfl (N + 1) 0 rfl _ _ HB.out HU.out rfl (size_hash q) ?_))
    go_ret
    subst hN
    exact ⟨ret_bool HR.out.symm, HG.out⟩
  · have HR : Hid (ltPt p q = lessB p.tx q.tx) := by show _ = _; rw [ltPt, if_neg htx]
    have hd : (p.tx == q.tx) = false := by simpa using htx
    rw [hd] at hn
    clear hd htx
    go_wp2_with (first
      | (refine wpList_load_mid rfl 24 _ rfl N 0 rfl _ _ HA.out HU.out rfl (size_hash p) ?_)
      | (refine wpList_load_mid rfl 24 _ rfl (N + 1) 0 rfl _ _ HB.out HU.out rfl (size_hash q) ?_)
      | (go_at_call 40; refine (refless_any p.tx q.tx p.len q.len _).mono ?_; rintro e w2 ⟨rfl, hb2⟩))
    go_ret
    subst hN
    exact ⟨ret_bool HR.out.symm, HG.out.trans (hb2.mono HG.out.size)⟩

end Go.Proofs.YtlgadelcgboeoaaDoor
