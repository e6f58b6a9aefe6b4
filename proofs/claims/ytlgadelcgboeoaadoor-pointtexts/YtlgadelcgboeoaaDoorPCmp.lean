/- point.Less, point.compare: outpoints by Tx, then by N. -/
import Derived.Test.YtlgadelcgboeoaaDoorPLess
import Derived.Deep.Cut
namespace Go.Proofs.YtlgadelcgboeoaaDoor
open Go.ChangeShapes Go.WideShapes Go.ChangeAt Go.RowKit

/-- Which comes first. -/
def ltPt (p q : Pt) : Bool := if p.tx = q.tx then decide (p.n < q.n) else lessB p.tx q.tx
theorem size_hash (p : Pt) : (Tryd.prog.info? 24).map (·.size) = some (u8s p.tx).length := by rw [u8s_length, p.len]; kernel_rfl
theorem Pt.cell_n (p : Pt) : p.cs[32]? = some (.int .i64 p.n) := by simp [Pt.cs, p.len]
theorem Blk.tx {w : World} {b : Nat} {p : Pt} (h : Blk w b p.cs) : w.rangeAt b 0 (u8s p.tx) := fun j v hv => by
  rw [Nat.zero_add, h.cell, Pt.cs, List.getElem?_append_left (List.getElem?_eq_some_iff.1 hv).1]; exact hv
theorem Blk.whole {w : World} {b : Nat} {cs : List Value} (h : Blk w b cs) : w.rangeAt b 0 cs := fun j v hv => by
  rw [Nat.zero_add, h.cell]; exact hv

set_option maxRecDepth 100000 in
set_option maxHeartbeats 4000000 in
theorem pless_any (p q : Pt) (w : World) :
    Calls Tryd.prog 19 #[.agg p.cs.toArray, .agg q.cs.toArray] w fun e w' => e = .returned (.bool (ltPt p q)) ∧ Gr w.heap.size w w' := by
  have U24 := Tryd.underlying24
  have HU : Hid (_ = _) := U24
  clear U24
  have hn : ∀ w, (binOp .neq 24 (.agg (u8s p.tx).toArray) (.agg (u8s q.tx).toArray)).run Tryd.prog w = .ok (.bool (!(p.tx == q.tx))) w := neq_hash _ _ p.len q.len
  have hg : ∀ (op : BinOp) (x y : Operand) (w : World), (eqGuard op 24 x y (.agg (u8s p.tx).toArray) (.agg (u8s q.tx).toArray)).run Tryd.prog w = .ok () w := fun op x y w => run_eqGuard_agg w op _ x y _ _ (by kernel_rfl)
  go_enter Tryd.func19, Tryd.ntmps19
  go_upto_region 1 with fail
  generalize hw1 : World.alloc (World.alloc w _) _ = w1
  have hA1 : Blk w1 w.heap.size p.cs := by rw [← hw1]; exact (Blk.new _ _ _).alloc _
  have hB1 : Blk w1 (w.heap.size + 1) q.cs := by rw [← hw1]; exact Blk.mk _ _ _ (by simp) rfl
  have hb1 : Gr w.heap.size w w1 := by rw [← hw1]; exact ((Gr.refl _ _).alloc (Nat.le_refl _) _).alloc (by simp) _
  clear hw1
  generalize hN : w.heap.size = N at *
  have HA : Hid (w1.rangeAt N 0 (u8s p.tx)) := hA1.tx
  have HB : Hid (w1.rangeAt (N + 1) 0 (u8s q.tx)) := hB1.tx
  have ca := hA1.cell 32
  have cb := hB1.cell 32
  rw [Pt.cell_n] at ca cb
  clear hA1 hB1
  have HG : Hid (Gr N w w1) := hb1
  clear hb1
  by_cases htx : p.tx = q.tx
  · have HR : Hid (ltPt p q = decide (p.n < q.n)) := by show _ = _; rw [ltPt, if_pos htx]
    have hd : (p.tx == q.tx) = true := by simpa using htx
    rw [hd] at hn
    clear hd htx
    go_wp2_with (first
      | (refine wpList_load_mid rfl 24 _ rfl N 0 rfl _ _ HA.out HU.out rfl (size_hash p) ?_)
      | (refine wpList_load_mid rfl 24 _ rfl (N + 1) 0 rfl _ _ HB.out HU.out rfl (size_hash q) ?_))
    go_ret
    subst hN
    exact ⟨ret_bool HR.out.symm, HG.out⟩
  · have HR : Hid (ltPt p q = lessB p.tx q.tx) := by show _ = _; rw [ltPt, if_neg htx]
    have hd : (p.tx == q.tx) = false := by simpa using htx
    rw [hd] at hn
    clear hd htx
    go_wp2_with (first
      | (refine wpList_load_mid rfl 24 _ rfl N 0 rfl _ _ HA.out HU.out rfl (size_hash p) ?_)
      | (refine wpList_load_mid rfl 24 _ rfl (N + 1) 0 rfl _ _ HB.out HU.out rfl (size_hash q) ?_)
      | (go_at_call 29; refine (less_any p.tx q.tx p.len q.len _).mono ?_; rintro e w2 ⟨rfl, hb2⟩))
    go_ret
    subst hN
    exact ⟨ret_bool HR.out.symm, HG.out.then hb2 (Nat.le_refl _)⟩

/-- As sorting asks for it. -/
def cmpPt (p q : Pt) : Int := if ltPt p q then -1 else if ltPt q p then 1 else 0

set_option maxRecDepth 100000 in
set_option maxHeartbeats 4000000 in
theorem cmp_any (p q : Pt) (w : World) :
    Calls Tryd.prog 39 #[.agg p.cs.toArray, .agg q.cs.toArray] w fun e w' => e = .returned (.int .i64 (cmpPt p q)) ∧ Gr w.heap.size w w' := by
  have HU : Hid (_ = _) := Tryd.underlying26
  go_enter Tryd.func39, Tryd.ntmps39
  go_upto_region 1 with fail
  generalize hw1 : World.alloc (World.alloc w _) _ = w1
  have hA1 : Blk w1 w.heap.size p.cs := by rw [← hw1]; exact (Blk.new _ _ _).alloc _
  have hB1 : Blk w1 (w.heap.size + 1) q.cs := by rw [← hw1]; exact Blk.mk _ _ _ (by simp) rfl
  have hb1 : Gr w.heap.size w w1 := by rw [← hw1]; exact ((Gr.refl _ _).alloc (Nat.le_refl _) _).alloc (by simp) _
  clear hw1
  generalize hN : w.heap.size = N at *
  have HA : Hid (Blk w1 N p.cs) := hA1
  have HB : Hid (Blk w1 (N + 1) q.cs) := hB1
  clear hA1 hB1
  have HG : Hid (Gr N w w1) := hb1
  clear hb1
  go_wp2_with (first
    | (refine wpList_load_mid rfl 26 _ rfl N 0 rfl _ _ HA.out.whole HU.out rfl (size_pt p) ?_)
    | (refine wpList_load_mid rfl 26 _ rfl (N + 1) 0 rfl _ _ HB.out.whole HU.out rfl (size_pt q) ?_)
    | fail)
  refine (pless_any p q w1).mono ?_
  rintro e w2 ⟨rfl, hb2⟩
  have HA2 : Hid (Blk w2 N p.cs) := HA.out.below hb2.1 HA.out.lt
  have HB2 : Hid (Blk w2 (N + 1) q.cs) := HB.out.below hb2.1 HB.out.lt
  have HG2 : Hid (Gr N w w2) := HG.out.then hb2 (by omega)
  clear hb2 HA HB HG
  cases h1 : ltPt p q with
  | true =>
    have HR : Hid (cmpPt p q = -1) := by show _ = _; rw [cmpPt, h1]; rfl
    clear h1
    go_wp2_with fail
    go_ret
    subst hN
    exact ⟨ret_int HR.out.symm, HG2.out⟩
  | false =>
    go_wp2_with (first
      | (refine wpList_load_mid rfl 26 _ rfl N 0 rfl _ _ HA2.out.whole HU.out rfl (size_pt p) ?_)
      | (refine wpList_load_mid rfl 26 _ rfl (N + 1) 0 rfl _ _ HB2.out.whole HU.out rfl (size_pt q) ?_)
      | fail)
    refine (pless_any q p w2).mono ?_
    rintro e w3 ⟨rfl, hb3⟩
    have HG3 : Hid (Gr N w w3) := HG2.out.then hb3 (by omega)
    clear hb3 HA2 HB2 HG2
    cases h2 : ltPt q p with
    | true =>
      have HR : Hid (cmpPt p q = 1) := by show _ = _; rw [cmpPt, h1, h2]; rfl
      clear h1 h2
      go_wp2_with fail
      go_ret
      subst hN
      exact ⟨ret_int HR.out.symm, HG3.out⟩
    | false =>
      have HR : Hid (cmpPt p q = 0) := by show _ = _; rw [cmpPt, h1, h2]; rfl
      clear h1 h2
      go_wp2_with fail
      go_ret
      subst hN
      exact ⟨ret_int HR.out.symm, HG3.out⟩
end Go.Proofs.YtlgadelcgboeoaaDoor
