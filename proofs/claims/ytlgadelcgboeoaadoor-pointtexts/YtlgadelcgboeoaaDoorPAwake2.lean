/- What the document fixes of point: the law's own test holds. -/
import Derived.Test.YtlgadelcgboeoaaDoorPAwake
namespace Go.Proofs.YtlgadelcgboeoaaDoor
open Go.ChangeShapes Go.WideShapes Go.ChangeAt Go.RowKit

/-- Of no transaction, at this place. -/
def ptN (z : Int) : Pt := ⟨zeros32, z, rfl⟩
theorem built_n (z : Int) : Tryd.prog.built 26 [(1, .int .i64 z)] = some (ptN z).cs.toArray := by kernel_rfl
theorem wpList_build_n {ops : Array Oper} {rest : List Oper} {o : Oper} {a : Act} {w : World} {Q : Exit → Act → World → Prop} (hg : o.guard = none) (y : Operand) (ho : o.op = .build 26 #[(1, y)]) (z : Int) (hy : a.eval y = .int .i64 z)
    (h : wpList Tryd.prog ops Q rest (a.put o.dst (.agg (ptN z).cs.toArray)) w) : wpList Tryd.prog ops Q (o :: rest) a w := by
  have e : ((#[(1, y)] : Array (Nat × Operand)).map fun (i, x) => (i, a.eval x)).toList = [(1, .int .i64 z)] := by rw [Array.toList_map]; simp [hy]
  refine wpList_build hg 26 _ ho ?_ ?_
  · rw [e, built_n]; rfl
  · rw [e, built_n]; exact h
theorem two_x (w : World) (a b : Obj) : ((w.alloc a).alloc b).heap[w.heap.size]? = some a := by
  rw [heap_alloc_old (h := by simp)]; exact heap_alloc_new _ _
theorem two_y (w : World) (a b : Obj) (cs : Array Value) : (((w.alloc a).alloc b).setRow w.heap.size cs).heap[w.heap.size + 1]? = some b := by
  rw [heap_setRow _ _ _ _ (by omega)]; exact heap_alloc2_new _ _ _
theorem lt_12 : ltPt (ptN 1) (ptN 2) = true := by decide
theorem lt_21 : ltPt (ptN 2) (ptN 1) = false := by decide

set_option maxRecDepth 100000 in
set_option maxHeartbeats 4000000 in
theorem awake_any (w : World) (hm : Mx w) :
    Calls Tryd.prog 7 #[] w fun e w' => e = .returned (.bool true) ∧ Below w.heap.size w w' := by
  have HM : Hid (Mx w) := hm
  have HU := und_pt
  have HMO := follows_mixed
  clear hm
  obtain ⟨pa, hpa⟩ : ∃ p : Pt, ptN 1 = p := ⟨_, rfl⟩
  obtain ⟨pb, hpb⟩ : ∃ p : Pt, ptN 2 = p := ⟨_, rfl⟩
  have HB1 : Hid (∀ {ops : Array Oper} {rest : List Oper} {o : Oper} {a : Act} {w : World} {Q : Exit → Act → World → Prop} (_ : o.guard = none) (y : Operand) (_ : o.op = .build 26 #[(1, y)]) (_ : a.eval y = .int .i64 1)
    (_ : wpList Tryd.prog ops Q rest (a.put o.dst (.agg pa.cs.toArray)) w), wpList Tryd.prog ops Q (o :: rest) a w) := by subst hpa; exact fun hg y ho hy h => wpList_build_n hg y ho 1 hy h
  have HB2 : Hid (∀ {ops : Array Oper} {rest : List Oper} {o : Oper} {a : Act} {w : World} {Q : Exit → Act → World → Prop} (_ : o.guard = none) (y : Operand) (_ : o.op = .build 26 #[(1, y)]) (_ : a.eval y = .int .i64 2)
    (_ : wpList Tryd.prog ops Q rest (a.put o.dst (.agg pb.cs.toArray)) w), wpList Tryd.prog ops Q (o :: rest) a w) := by subst hpb; exact fun hg y ho hy h => wpList_build_n hg y ho 2 hy h
  have HAB : Hid (ltPt pa pb = true ∧ ltPt pb pa = false) := by subst hpa; subst hpb; exact ⟨lt_12, lt_21⟩
  clear hpa hpb
  go_enter Tryd.func7, Tryd.ntmps7
  go_upto_region 2 with (first
    | (refine HB1.out rfl _ rfl rfl ?_)
    | (refine HB2.out rfl _ rfl rfl ?_)
    | (refine wpList_store_row rfl 26 _ _ rfl w.heap.size pa.cs.toArray rfl rfl 26 (default : Pt).cs.toArray (two_x _ _ _) (size_pta pa) (by rw [List.size_toArray, List.size_toArray, Pt.cs_length, Pt.cs_length]) pa.cs_all ?_)
    | (refine wpList_store_row rfl 26 _ _ rfl (w.heap.size + 1) pb.cs.toArray rfl rfl 26 (default : Pt).cs.toArray (two_y _ _ _ _) (size_pta pb) (by rw [List.size_toArray, List.size_toArray, Pt.cs_length, Pt.cs_length]) pb.cs_all ?_))
  generalize hw1 : World.setRow (World.setRow _ _ _) _ _ = w1
  have hX1 : Blk w1 w.heap.size pa.cs := by rw [← hw1]; exact (((Blk.mk w _ _ rfl rfl : Blk _ w.heap.size (default : Pt).cs).alloc _).row).otherRow (by omega) _
  have hY1 : Blk w1 (w.heap.size + 1) pb.cs := by rw [← hw1]; exact ((Blk.mk (w.alloc _) _ _ (by simp) rfl : Blk _ (w.heap.size + 1) (default : Pt).cs).otherRow (by omega) _).row
  have hb1 : Below w.heap.size w w1 := by rw [← hw1]; exact below_setRow (below_setRow (((Below.refl _ _).alloc (Nat.le_refl _) _).alloc (by simp) _) (Nat.le_refl _) _) (by omega) _
  clear hw1 HB1 HB2
  have HM1 : Hid (Mx w1) := HM.out.below hb1
  generalize hN : w.heap.size = N at *
  have H1 : Hid (Blk w1 N pa.cs ∧ Blk w1 (N + 1) pb.cs ∧ Below N w w1) := ⟨hX1, hY1, hb1⟩
  clear hX1 hY1 hb1 HM
  go_wp2_with (first
    | (refine wpList_load_mid rfl 26 _ rfl N 0 rfl pa.cs _ H1.out.1.whole HU.out rfl (size_pt pa) ?_)
    | (refine wpList_load_mid rfl 26 _ rfl (N + 1) 0 rfl pb.cs _ H1.out.2.1.whole HU.out rfl (size_pt pb) ?_)
    | (refine wpList_build_pts rfl 3 _ rfl [pb, pa, pb] rfl (by omega) (by omega) [.tmp 8, .tmp 9, .tmp 10] rfl rfl ?_))
  generalize hw2 : World.alloc w1 _ = w2
  have hP2 : Pts w2 (some ⟨w1.heap.size, 0, none⟩) 3 3 [pb, pa, pb] := by rw [← hw2]; exact Pts.lit w1 _ 3 rfl (by omega)
  have hb2 : Below w1.heap.size w1 w2 := by rw [← hw2]; exact (Below.refl _ _).alloc (Nat.le_refl _) _
  clear hw2
  refine (sort_any _ 3 3 [pb, pa, pb] w2 hP2 (by omega)).mono ?_
  rintro e w3 ⟨a3, m3, cap3, r, rfl, hinc, hmem, hpr, hm3, hb3⟩
  have hr : r = [pa, pb] := inc_ext hinc (by
    refine List.pairwise_cons.2 ⟨fun q hq => ?_, List.pairwise_singleton _ _⟩
    rw [List.mem_singleton.1 hq]; exact HAB.out.1) (fun q => by rw [hmem q]; simp only [List.mem_cons, List.not_mem_nil, or_false]; exact ⟨fun h => h.elim .inr id, fun h => h.elim (fun h => .inr (.inl h)) .inl⟩)
  subst hr
  obtain rfl : 2 = m3 := hpr.len
  have hb13 : Below w1.heap.size w1 w3 := hb2.trans (hb3.mono hb2.size)
  have hlt := H1.out.2.1.lt
  have H3 : Hid (Blk w3 N pa.cs ∧ Blk w3 (N + 1) pb.cs ∧ Below N w w3) := ⟨H1.out.1.below hb13 H1.out.1.lt, H1.out.2.1.below hb13 H1.out.2.1.lt, H1.out.2.2.trans (hb13.mono (by omega))⟩
  have HM3 : Hid (Mx w3) := HM1.out.below hb13
  have HR3 : Hid (Pts w3 a3 2 cap3 [pa, pb]) := hpr
  clear hinc hmem hpr hm3 hb3 hP2 hb2 hb13 H1 HM1 hlt
  go_wp2_with fail
  refine (parse_none ⟨#[120, 58, 49]⟩ w3 (by show 3 ≤ _; omega) HM3.out (by decide)).mono ?_
  rintro e w4 ⟨rfl, hb4⟩
  have hlt := H3.out.2.1.lt
  have H4 : Hid (Blk w4 N pa.cs ∧ Blk w4 (N + 1) pb.cs ∧ Below N w w4) := ⟨H3.out.1.below hb4 H3.out.1.lt, H3.out.2.1.below hb4 H3.out.2.1.lt, H3.out.2.2.trans (hb4.mono (by omega))⟩
  have HR4 : Hid (Pts w4 a3 2 cap3 [pa, pb]) := HR3.out.below hb4
  clear hb4 H3 HR3 HM3 hlt
  go_upto_region 4 with (refine wpList_store_new rfl _ _ rfl default _ rfl rfl rfl ?_; intro w5 HB5 Hb5)
  have hlt := H4.out.2.1.lt
  have H5 : Hid (Blk w5 N pa.cs ∧ Blk w5 (N + 1) pb.cs ∧ Below N w w5) := ⟨H4.out.1.below Hb5.out H4.out.1.lt, H4.out.2.1.below Hb5.out H4.out.2.1.lt, H4.out.2.2.trans (Hb5.out.mono (by omega))⟩
  have HR5 : Hid (Pts w5 a3 2 cap3 [pa, pb]) := HR4.out.below Hb5.out
  have h5N : N ≤ w5.heap.size := by have := H5.out.2.1.lt; omega
  clear H4 HR4 Hb5 HB5 hlt
  obtain ⟨rb, ro, rfl, hrc⟩ := HR5.out.at 0 (by omega)
  have HRC : Hid (w5.rangeAt rb ro pa.cs) := by
    show w5.rangeAt rb ro pa.cs
    rw [show ro + 0 * 33 = ro by omega] at hrc
    exact hrc
  clear hrc
  have HSK : Hid (∀ w', Below w5.heap.size w5 w' → w'.rangeAt N 0 pa.cs ∧ w'.rangeAt (N + 1) 0 pb.cs ∧ w'.rangeAt rb ro pa.cs) := fun w' hw' => ⟨(H5.out.1.below hw' H5.out.1.lt).whole, (H5.out.2.1.below hw' H5.out.2.1.lt).whole, rangeAt_below HRC.out hw' (Nat.le_refl _)⟩
  have q1 : ∀ w', (binOp .eql 26 (.agg pa.cs.toArray) (.agg pa.cs.toArray)).run Tryd.prog w' = .ok (.bool true) w' := fun w' => by rw [eql_pt]; simp
  have q2 : ∀ (op : BinOp) (u v : Operand) w', (eqGuard op 26 u v (.agg pa.cs.toArray) (.agg pa.cs.toArray)).run Tryd.prog w' = .ok () w' := fun op u v => guard_pt op u v pa pa
  have q3 : ∀ w', (Op.equalIn 10000 26 (.agg pa.cs.toArray) (.agg pa.cs.toArray)).run Tryd.prog w' = .ok true w' := fun w' => by rw [equalIn_pt]; simp
  have u26 := HU.out
  have ia := size_pt pa
  have ib := size_pt pb
  refine wp_region_noPanic ?_
  refine wp_region_held_drew (S := fun w' => w'.rangeAt N 0 pa.cs ∧ w'.rangeAt (N + 1) 0 pb.cs ∧ w'.rangeAt rb ro pa.cs) HMO.out (HSK.out _ (Below.refl _ _).drew) (fun hHeld => ?_)
  refine wpAnyH_take (i := 0) (oi := { dst := some 17, op := .move (.tmp 3), type := 22, pos := "law.go:16", after := #[], guard := none }) (v := ?_) rfl (by kernel_rfl) (by kernel_rfl) (by kernel_rfl) (fun _ _ _ h => h) (Or.inl ⟨by rfl, ?_⟩) (by assumption) ?_
  rotate_left
  · intro _ _; go_simp; first | done | with_reducible rfl
  simp only [Act.put, List.setIfInBounds_toArray, List.set_cons_zero, List.set_cons_succ]
  refine wpAnyH_take (i := 1) (oi := { dst := some 18, op := .call { callee := .builtin Go.Builtin.len, args := #[.tmp 17], argTypes := #[22] }, type := 3, pos := "law.go:16", after := #[{ on := 0, ground := .data }], guard := none }) (v := ?_) rfl (by kernel_rfl) (by kernel_rfl) (by kernel_rfl) (fun _ _ _ h => h) (Or.inl ⟨by rfl, ?_⟩) (by assumption) ?_
  rotate_left
  · intro _ _; go_simp; first | done | with_reducible rfl
  simp only [Act.put, List.setIfInBounds_toArray, List.set_cons_zero, List.set_cons_succ]
  refine wpAnyH_take (i := 2) (oi := { dst := some 19, op := .binOp Go.BinOp.eql 3 (.tmp 18) (.const (.int .i64 2)) 3, type := 4, pos := "law.go:16", after := #[{ on := 1, ground := .data }], guard := none }) (v := .bool true) rfl (by kernel_rfl) (by kernel_rfl) (by kernel_rfl) (fun _ _ _ h => h) (Or.inl ⟨by rfl, ?_⟩) (by assumption) ?_
  · intro _ _; go_simp
  simp only [Act.put, List.setIfInBounds_toArray, List.set_cons_zero, List.set_cons_succ]
  refine wpAnyH_take (i := 3) (oi := { dst := some 20, op := .move (.tmp 19), type := 4, pos := "law.go:16", after := #[{ on := 2, ground := .data }], guard := none }) (v := ?_) rfl (by kernel_rfl) (by kernel_rfl) (by kernel_rfl) (fun _ _ _ h => h) (Or.inl ⟨by rfl, ?_⟩) (by assumption) ?_
  rotate_left
  · intro _ _; go_simp; first | done | with_reducible rfl
  simp only [Act.put, List.setIfInBounds_toArray, List.set_cons_zero, List.set_cons_succ]
  refine wpAnyH_take (i := 4) (oi := { dst := some 21, op := .move (.tmp 3), type := 22, pos := "law.go:16", after := #[{ on := 3, ground := .guard }], guard := some (3, true) }) (v := ?_) rfl (by kernel_rfl) (by kernel_rfl) (by kernel_rfl) (fun _ _ _ h => h) (Or.inl ⟨by rfl, ?_⟩) (by assumption) ?_
  rotate_left
  · intro _ _; go_simp; first | done | with_reducible rfl
  simp only [Act.put, List.setIfInBounds_toArray, List.set_cons_zero, List.set_cons_succ]
  refine wpAnyH_take (i := 5) (oi := { dst := some 22, op := .indexAddr 22 (.tmp 21) (.const (.int .i64 0)), type := 0, pos := "law.go:16", after := #[{ on := 4, ground := .data }, { on := 3, ground := .guard }], guard := some (3, true) }) (v := ?_) rfl (by kernel_rfl) (by kernel_rfl) (by kernel_rfl) (fun _ _ _ h => h) (Or.inl ⟨by rfl, ?_⟩) (by assumption) ?_
  rotate_left
  · intro _ _; go_simp; first | done | with_reducible rfl
  simp only [Act.put, List.setIfInBounds_toArray, List.set_cons_zero, List.set_cons_succ]
  refine wpAnyH_take (i := 6) (oi := { dst := some 23, op := .load 26 (.tmp 22), type := 26, pos := "law.go:16", after := #[{ on := 5, ground := .data }, { on := 3, ground := .guard }], guard := some (3, true) }) (v := _) rfl (by kernel_rfl) (by kernel_rfl) (by kernel_rfl) (fun _ _ _ h => h) (yieldsIf_load_mid (by rfl) _ _ rfl (rb) (ro) rfl (pa.cs) _ (fun _ h => h.2.2) (u26) rfl (ia)) (by assumption) ?_
  simp only [Act.put, List.setIfInBounds_toArray, List.set_cons_zero, List.set_cons_succ]
  refine wpAnyH_take (i := 7) (oi := { dst := some 24, op := .load 26 (.tmp 1), type := 26, pos := "law.go:16", after := #[{ on := 3, ground := .guard }], guard := some (3, true) }) (v := _) rfl (by kernel_rfl) (by kernel_rfl) (by kernel_rfl) (fun _ _ _ h => h) (yieldsIf_load_mid (by rfl) _ _ rfl (N) (0) rfl (pa.cs) _ (fun _ h => h.1) (u26) rfl (ia)) (by assumption) ?_
  simp only [Act.put, List.setIfInBounds_toArray, List.set_cons_zero, List.set_cons_succ]
  refine wpAnyH_take (i := 8) (oi := { dst := some 25, op := .binOp Go.BinOp.eql 26 (.tmp 23) (.tmp 24) 26, type := 4, pos := "law.go:16", after := #[{ on := 6, ground := .data }, { on := 7, ground := .data }, { on := 3, ground := .guard }], guard := some (3, true) }) (v := .bool true) rfl (by kernel_rfl) (by kernel_rfl) (by kernel_rfl) (fun _ _ _ h => h) (Or.inl ⟨by rfl, ?_⟩) (by assumption) ?_
  · intro _ _; go_simp
  simp only [Act.put, List.setIfInBounds_toArray, List.set_cons_zero, List.set_cons_succ]
  refine wpAnyH_take (i := 9) (oi := { dst := some 26, op := .pick (.tmp 20) (.tmp 25) (.const (.bool false)), type := 4, pos := "law.go:16", after := #[{ on := 3, ground := .data }, { on := 8, ground := .data }], guard := none }) (v := ?_) rfl (by kernel_rfl) (by kernel_rfl) (by kernel_rfl) (fun _ _ _ h => h) (Or.inl ⟨by rfl, ?_⟩) (by assumption) ?_
  rotate_left
  · intro _ _; go_simp; first | done | with_reducible rfl
  simp only [Act.put, List.setIfInBounds_toArray, List.set_cons_zero, List.set_cons_succ]
  refine wpAnyH_take (i := 10) (oi := { dst := some 27, op := .move (.tmp 26), type := 4, pos := "law.go:16", after := #[{ on := 9, ground := .data }, { on := 3, ground := .chain }], guard := none }) (v := ?_) rfl (by kernel_rfl) (by kernel_rfl) (by kernel_rfl) (fun _ _ _ h => h) (Or.inl ⟨by rfl, ?_⟩) (by assumption) ?_
  rotate_left
  · intro _ _; go_simp; first | done | with_reducible rfl
  simp only [Act.put, List.setIfInBounds_toArray, List.set_cons_zero, List.set_cons_succ]
  refine wpAnyH_take (i := 11) (oi := { dst := some 28, op := .load 26 (.tmp 1), type := 26, pos := "law.go:16", after := #[{ on := 10, ground := .guard }], guard := some (10, true) }) (v := _) rfl (by kernel_rfl) (by kernel_rfl) (by kernel_rfl) (fun _ _ _ h => h) (yieldsIf_load_mid (by rfl) _ _ rfl (N) (0) rfl (pa.cs) _ (fun _ h => h.1) (u26) rfl (ia)) (by assumption) ?_
  simp only [Act.put, List.setIfInBounds_toArray, List.set_cons_zero, List.set_cons_succ]
  refine wpAnyH_take (i := 12) (oi := { dst := some 29, op := .load 26 (.tmp 2), type := 26, pos := "law.go:16", after := #[{ on := 10, ground := .guard }], guard := some (10, true) }) (v := _) rfl (by kernel_rfl) (by kernel_rfl) (by kernel_rfl) (fun _ _ _ h => h) (yieldsIf_load_mid (by rfl) _ _ rfl (N + 1) (0) rfl (pb.cs) _ (fun _ h => h.2.1) (u26) rfl (ib)) (by assumption) ?_
  simp only [Act.put, List.setIfInBounds_toArray, List.set_cons_zero, List.set_cons_succ]
  refine wpAnyH_ready (rs := [13]) (by kernel_rfl) (by simp) ?_
  refine AllReadyH.cons (o := { dst := some 30, op := .call { callee := .value (.func 19), args := #[.tmp 28, .tmp 29], argTypes := #[26, 26] }, type := 4, pos := "law.go:16", after := #[{ on := 11, ground := .data }, { on := 12, ground := .data }, { on := 10, ground := .chain }, { on := 10, ground := .guard }], guard := some (10, true) }) rfl (fun K hK => ?_) AllReadyH.nil
  go_simp
  refine (pless_any pa pb _).mono ?_; rw [HAB.out.1]; rintro e w6 ⟨rfl, hb6⟩; have h6 : Below w5.heap.size w5 w6 := ⟨hb6.1.os, hb6.1.tape, hb6.1.output, hb6.1.size, hb6.1.block⟩
  go_simp
  refine hK.out _ _ (HSK.out _ h6) (fun hHeld => ?_)
  clear hK K
  refine wpAnyH_take (i := 14) (oi := { dst := some 31, op := .pick (.tmp 27) (.tmp 30) (.const (.bool false)), type := 4, pos := "law.go:16", after := #[{ on := 10, ground := .data }, { on := 13, ground := .data }], guard := none }) (v := ?_) rfl (by kernel_rfl) (by kernel_rfl) (by kernel_rfl) (fun _ _ _ h => h) (Or.inl ⟨by rfl, ?_⟩) (by assumption) ?_
  rotate_left
  · intro _ _; go_simp; first | done | with_reducible rfl
  simp only [Act.put, List.setIfInBounds_toArray, List.set_cons_zero, List.set_cons_succ]
  refine wpAnyH_take (i := 15) (oi := { dst := some 32, op := .move (.tmp 31), type := 4, pos := "law.go:16", after := #[{ on := 14, ground := .data }, { on := 13, ground := .chain }], guard := none }) (v := ?_) rfl (by kernel_rfl) (by kernel_rfl) (by kernel_rfl) (fun _ _ _ h => h) (Or.inl ⟨by rfl, ?_⟩) (by assumption) ?_
  rotate_left
  · intro _ _; go_simp; first | done | with_reducible rfl
  simp only [Act.put, List.setIfInBounds_toArray, List.set_cons_zero, List.set_cons_succ]
  refine wpAnyH_take (i := 16) (oi := { dst := some 33, op := .load 26 (.tmp 2), type := 26, pos := "law.go:16", after := #[{ on := 15, ground := .guard }], guard := some (15, true) }) (v := _) rfl (by kernel_rfl) (by kernel_rfl) (by kernel_rfl) (fun _ _ _ h => h) (yieldsIf_load_mid (by rfl) _ _ rfl (N + 1) (0) rfl (pb.cs) _ (fun _ h => h.2.1) (u26) rfl (ib)) (by assumption) ?_
  simp only [Act.put, List.setIfInBounds_toArray, List.set_cons_zero, List.set_cons_succ]
  refine wpAnyH_take (i := 17) (oi := { dst := some 34, op := .load 26 (.tmp 1), type := 26, pos := "law.go:16", after := #[{ on := 15, ground := .guard }], guard := some (15, true) }) (v := _) rfl (by kernel_rfl) (by kernel_rfl) (by kernel_rfl) (fun _ _ _ h => h) (yieldsIf_load_mid (by rfl) _ _ rfl (N) (0) rfl (pa.cs) _ (fun _ h => h.1) (u26) rfl (ia)) (by assumption) ?_
  simp only [Act.put, List.setIfInBounds_toArray, List.set_cons_zero, List.set_cons_succ]
  refine wpAnyH_ready (rs := [18]) (by kernel_rfl) (by simp) ?_
  refine AllReadyH.cons (o := { dst := some 35, op := .call { callee := .value (.func 19), args := #[.tmp 33, .tmp 34], argTypes := #[26, 26] }, type := 4, pos := "law.go:16", after := #[{ on := 16, ground := .data }, { on := 17, ground := .data }, { on := 15, ground := .chain }, { on := 15, ground := .guard }], guard := some (15, true) }) rfl (fun K hK => ?_) AllReadyH.nil
  go_simp
  refine (pless_any pb pa _).mono ?_; rw [HAB.out.2]; rintro e w7 ⟨rfl, hb7⟩; have h7 : Below w5.heap.size w5 w7 := h6.trans (hb7.1.mono h6.size)
  go_simp
  refine hK.out _ _ (HSK.out _ h7) (fun hHeld => ?_)
  clear hK K
  refine wpAnyH_take (i := 19) (oi := { dst := some 36, op := .unOp Go.UnOp.not 4 (.tmp 35), type := 4, pos := "law.go:16", after := #[{ on := 18, ground := .data }, { on := 15, ground := .guard }], guard := some (15, true) }) (v := ?_) rfl (by kernel_rfl) (by kernel_rfl) (by kernel_rfl) (fun _ _ _ h => h) (Or.inl ⟨by rfl, ?_⟩) (by assumption) ?_
  rotate_left
  · intro _ _; go_simp; first | done | with_reducible rfl
  simp only [Act.put, List.setIfInBounds_toArray, List.set_cons_zero, List.set_cons_succ]
  refine wpAnyH_take (i := 20) (oi := { dst := some 37, op := .pick (.tmp 32) (.tmp 36) (.const (.bool false)), type := 4, pos := "law.go:16", after := #[{ on := 15, ground := .data }, { on := 19, ground := .data }], guard := none }) (v := ?_) rfl (by kernel_rfl) (by kernel_rfl) (by kernel_rfl) (fun _ _ _ h => h) (Or.inl ⟨by rfl, ?_⟩) (by assumption) ?_
  rotate_left
  · intro _ _; go_simp; first | done | with_reducible rfl
  simp only [Act.put, List.setIfInBounds_toArray, List.set_cons_zero, List.set_cons_succ]
  refine wpAnyH_take (i := 21) (oi := { dst := some 38, op := .move (.tmp 37), type := 4, pos := "law.go:16", after := #[{ on := 20, ground := .data }, { on := 18, ground := .chain }], guard := none }) (v := ?_) rfl (by kernel_rfl) (by kernel_rfl) (by kernel_rfl) (fun _ _ _ h => h) (Or.inl ⟨by rfl, ?_⟩) (by assumption) ?_
  rotate_left
  · intro _ _; go_simp; first | done | with_reducible rfl
  simp only [Act.put, List.setIfInBounds_toArray, List.set_cons_zero, List.set_cons_succ]
  refine wpAnyH_take (i := 22) (oi := { dst := some 39, op := .move (.tmp 3), type := 22, pos := "law.go:16", after := #[{ on := 21, ground := .guard }], guard := some (21, true) }) (v := ?_) rfl (by kernel_rfl) (by kernel_rfl) (by kernel_rfl) (fun _ _ _ h => h) (Or.inl ⟨by rfl, ?_⟩) (by assumption) ?_
  rotate_left
  · intro _ _; go_simp; first | done | with_reducible rfl
  simp only [Act.put, List.setIfInBounds_toArray, List.set_cons_zero, List.set_cons_succ]
  refine wpAnyH_take (i := 23) (oi := { dst := some 40, op := .load 26 (.tmp 2), type := 26, pos := "law.go:16", after := #[{ on := 21, ground := .guard }], guard := some (21, true) }) (v := _) rfl (by kernel_rfl) (by kernel_rfl) (by kernel_rfl) (fun _ _ _ h => h) (yieldsIf_load_mid (by rfl) _ _ rfl (N + 1) (0) rfl (pb.cs) _ (fun _ h => h.2.1) (u26) rfl (ib)) (by assumption) ?_
  simp only [Act.put, List.setIfInBounds_toArray, List.set_cons_zero, List.set_cons_succ]
  refine wpAnyH_ready (rs := [24]) (by kernel_rfl) (by simp) ?_
  refine AllReadyH.cons (o := { dst := some 41, op := .call { callee := .value (.func 16), args := #[.tmp 39, .tmp 40], argTypes := #[22, 26] }, type := 4, pos := "law.go:16", after := #[{ on := 22, ground := .data }, { on := 23, ground := .data }, { on := 21, ground := .chain }, { on := 21, ground := .guard }], guard := some (21, true) }) rfl (fun K hK => ?_) AllReadyH.nil
  go_simp
  refine (has_any _ 2 cap3 [pa, pb] pb _ (HR5.out.below h7) (by omega)).mono ?_; rw [show decide (pb ∈ [pa, pb]) = true by simp]; rintro e w8 ⟨rfl, hb8⟩; have h8 : Below w5.heap.size w5 w8 := h7.trans (hb8.mono h7.size)
  go_simp
  refine hK.out _ _ (HSK.out _ h8) (fun hHeld => ?_)
  clear hK K
  refine wpAnyH_take (i := 25) (oi := { dst := some 42, op := .pick (.tmp 38) (.tmp 41) (.const (.bool false)), type := 4, pos := "law.go:16", after := #[{ on := 21, ground := .data }, { on := 24, ground := .data }], guard := none }) (v := ?_) rfl (by kernel_rfl) (by kernel_rfl) (by kernel_rfl) (fun _ _ _ h => h) (Or.inl ⟨by rfl, ?_⟩) (by assumption) ?_
  rotate_left
  · intro _ _; go_simp; first | done | with_reducible rfl
  simp only [Act.put, List.setIfInBounds_toArray, List.set_cons_zero, List.set_cons_succ]
  refine wpAnyH_take (i := 26) (oi := { dst := some 43, op := .move (.tmp 42), type := 4, pos := "law.go:16", after := #[{ on := 25, ground := .data }, { on := 24, ground := .chain }], guard := none }) (v := ?_) rfl (by kernel_rfl) (by kernel_rfl) (by kernel_rfl) (fun _ _ _ h => h) (Or.inl ⟨by rfl, ?_⟩) (by assumption) ?_
  rotate_left
  · intro _ _; go_simp; first | done | with_reducible rfl
  simp only [Act.put, List.setIfInBounds_toArray, List.set_cons_zero, List.set_cons_succ]
  refine wpAnyH_take (i := 27) (oi := { dst := some 44, op := .build 26 #[(1, .const (.int .i64 (-1)))], type := 26, pos := "law.go:16", after := #[{ on := 26, ground := .guard }], guard := some (26, true) }) (v := .agg (ptN (-1)).cs.toArray) rfl (by kernel_rfl) (by kernel_rfl) (by kernel_rfl) (fun _ _ _ h => h) (Or.inl ⟨by rfl, ?_⟩) (by assumption) ?_
  · intro _ _; (go_simp; rfl)
  simp only [Act.put, List.setIfInBounds_toArray, List.set_cons_zero, List.set_cons_succ]
  refine wpAnyH_ready (rs := [28]) (by kernel_rfl) (by simp) ?_
  refine AllReadyH.cons (o := { dst := some 45, op := .call { callee := .value (.func 22), args := #[.tmp 44], argTypes := #[26] }, type := 9, pos := "law.go:16", after := #[{ on := 27, ground := .data }, { on := 26, ground := .chain }, { on := 26, ground := .guard }], guard := some (26, true) }) rfl (fun K hK => ?_) AllReadyH.nil
  go_simp
  refine (text_none (ptN (-1)) _ (.inl (by decide))).mono ?_; rintro e w9 ⟨rfl, hb9⟩; have h9 : Below w5.heap.size w5 w9 := h8.trans (hb9.mono h8.size)
  go_simp
  refine hK.out _ _ (HSK.out _ h9) (fun hHeld => ?_)
  clear hK K
  refine wpAnyH_take (i := 29) (oi := { dst := some 46, op := .binOp Go.BinOp.eql 9 (.tmp 45) (.const (.string { data := #[] })) 9, type := 4, pos := "law.go:16", after := #[{ on := 28, ground := .data }, { on := 26, ground := .guard }], guard := some (26, true) }) (v := ?_) rfl (by kernel_rfl) (by kernel_rfl) (by kernel_rfl) (fun _ _ _ h => h) (Or.inl ⟨by rfl, ?_⟩) (by assumption) ?_
  rotate_left
  · intro _ _; go_simp; first | done | with_reducible rfl
  simp only [Act.put, List.setIfInBounds_toArray, List.set_cons_zero, List.set_cons_succ]
  refine wpAnyH_take (i := 30) (oi := { dst := some 47, op := .pick (.tmp 43) (.tmp 46) (.const (.bool false)), type := 4, pos := "law.go:16", after := #[{ on := 26, ground := .data }, { on := 29, ground := .data }], guard := none }) (v := ?_) rfl (by kernel_rfl) (by kernel_rfl) (by kernel_rfl) (fun _ _ _ h => h) (Or.inl ⟨by rfl, ?_⟩) (by assumption) ?_
  rotate_left
  · intro _ _; go_simp; first | done | with_reducible rfl
  simp only [Act.put, List.setIfInBounds_toArray, List.set_cons_zero, List.set_cons_succ]
  refine wpAnyH_take (i := 31) (oi := { dst := some 48, op := .move (.tmp 47), type := 4, pos := "law.go:16", after := #[{ on := 30, ground := .data }, { on := 28, ground := .chain }], guard := none }) (v := ?_) rfl (by kernel_rfl) (by kernel_rfl) (by kernel_rfl) (fun _ _ _ h => h) (Or.inl ⟨by rfl, ?_⟩) (by assumption) ?_
  rotate_left
  · intro _ _; go_simp; first | done | with_reducible rfl
  simp only [Act.put, List.setIfInBounds_toArray, List.set_cons_zero, List.set_cons_succ]
  refine wpAnyH_take (i := 32) (oi := { dst := some 49, op := .move (.tmp 5), type := 4, pos := "law.go:16", after := #[{ on := 31, ground := .guard }], guard := some (31, true) }) (v := ?_) rfl (by kernel_rfl) (by kernel_rfl) (by kernel_rfl) (fun _ _ _ h => h) (Or.inl ⟨by rfl, ?_⟩) (by assumption) ?_
  rotate_left
  · intro _ _; go_simp; first | done | with_reducible rfl
  simp only [Act.put, List.setIfInBounds_toArray, List.set_cons_zero, List.set_cons_succ]
  refine wpAnyH_take (i := 33) (oi := { dst := some 50, op := .unOp Go.UnOp.not 4 (.tmp 49), type := 4, pos := "law.go:16", after := #[{ on := 32, ground := .data }, { on := 31, ground := .guard }], guard := some (31, true) }) (v := ?_) rfl (by kernel_rfl) (by kernel_rfl) (by kernel_rfl) (fun _ _ _ h => h) (Or.inl ⟨by rfl, ?_⟩) (by assumption) ?_
  rotate_left
  · intro _ _; go_simp; first | done | with_reducible rfl
  simp only [Act.put, List.setIfInBounds_toArray, List.set_cons_zero, List.set_cons_succ]
  refine wpAnyH_take (i := 34) (oi := { dst := some 51, op := .pick (.tmp 48) (.tmp 50) (.const (.bool false)), type := 4, pos := "law.go:16", after := #[{ on := 31, ground := .data }, { on := 33, ground := .data }], guard := none }) (v := ?_) rfl (by kernel_rfl) (by kernel_rfl) (by kernel_rfl) (fun _ _ _ h => h) (Or.inl ⟨by rfl, ?_⟩) (by assumption) ?_
  rotate_left
  · intro _ _; go_simp; first | done | with_reducible rfl
  simp only [Act.put, List.setIfInBounds_toArray, List.set_cons_zero, List.set_cons_succ]
  refine wpAnyH_take (i := 35) (oi := { dst := some 0, op := .assign (.tmp 51), type := 4, pos := "law.go:16", after := #[{ on := 34, ground := .data }, { on := 31, ground := .chain }, { on := 0, ground := .phase }, { on := 1, ground := .phase }, { on := 2, ground := .phase }, { on := 3, ground := .phase }, { on := 4, ground := .phase }, { on := 5, ground := .phase }, { on := 6, ground := .phase }, { on := 7, ground := .phase }, { on := 8, ground := .phase }, { on := 9, ground := .phase }, { on := 10, ground := .phase }, { on := 11, ground := .phase }, { on := 12, ground := .phase }, { on := 13, ground := .phase }, { on := 14, ground := .phase }, { on := 15, ground := .phase }, { on := 16, ground := .phase }, { on := 17, ground := .phase }, { on := 18, ground := .phase }, { on := 19, ground := .phase }, { on := 20, ground := .phase }, { on := 21, ground := .phase }, { on := 22, ground := .phase }, { on := 23, ground := .phase }, { on := 24, ground := .phase }, { on := 25, ground := .phase }, { on := 26, ground := .phase }, { on := 27, ground := .phase }, { on := 28, ground := .phase }, { on := 29, ground := .phase }, { on := 30, ground := .phase }, { on := 31, ground := .phase }, { on := 32, ground := .phase }, { on := 33, ground := .phase }, { on := 34, ground := .phase }], guard := none }) (v := ?_) rfl (by kernel_rfl) (by kernel_rfl) (by kernel_rfl) (fun _ _ _ h => h) (Or.inl ⟨by rfl, ?_⟩) (by assumption) ?_
  rotate_left
  · intro _ _; go_simp; first | done | with_reducible rfl
  simp only [Act.put, List.setIfInBounds_toArray, List.set_cons_zero]
  refine wpAnyH_done (by kernel_rfl) ?_ _
  refine NoPanic.normal ?_
  have HEND : Hid (Below N w w9) := H5.out.2.2.trans (h9.mono h5N)
  clear hHeld q1 q2 q3 u26 ia ib HSK h6 h7 h8 h9 hb6 hb7 hb8 hb9
  go_wp2_with fail
  go_ret
  subst hN
  exact ⟨rfl, HEND.out⟩
end Go.Proofs.YtlgadelcgboeoaaDoor
