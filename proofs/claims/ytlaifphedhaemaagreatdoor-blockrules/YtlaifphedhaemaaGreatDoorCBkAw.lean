/- What the document fixes of block: the law's own test holds. -/
import Derived.Test.YtlaifphedhaemaaGreatDoorCBkN
import Derived.Test.YtlaifphedhaemaaGreatDoorCBkReck
import Derived.Test.YtlaifphedhaemaaGreatDoorCLNm
namespace Go.Proofs.YtlaifphedhaemaaGreatDoor
open Go.ChangeShapes Go.WideShapes Go.ChangeAt Go.RowKit

theorem wpList_load_if {P : Program} {ops : Array Oper} {rest : List Oper} {o : Oper} {a : Act} {w : World} {Q : Exit → Act → World → Prop} (hw : Region.wanted o (yielded ops a.tmps) = true) (ty : TypeId) (x : Operand) (ho : o.op = .load ty x)
    (b off : Nat) (hx : a.eval x = .pointer (some ⟨b, off, none⟩)) (cs : List Value) (d : TypeDesc) (hc : w.rangeAt b off cs)
    (hu : P.underlying ty = some d) (hd : d.isRow = true) (hi : (P.info? ty).map (·.size) = some cs.length)
    (h : wpList P ops Q rest (a.put o.dst (.agg cs.toArray)) w) : wpList P ops Q (o :: rest) a w :=
  wpList_step fun _ hK => by rw [if_pos hw]; exact wp_load_mid ty x ho b off hx cs d hc hu hd hi (hK _ _ h)
theorem wpList_bld_if {P : Program} {ops : Array Oper} {rest : List Oper} {o : Oper} {a : Act} {w : World} {Q : Exit → Act → World → Prop} (hw : Region.wanted o (yielded ops a.tmps) = true) (T : TypeId) (parts : Array (Nat × Operand)) (ho : o.op = .build T parts) (vs : List (Nat × Value)) (cs : Array Value)
    (hb : P.built T vs = some cs) (hv : (parts.map fun (i, x) => (i, a.eval x)).toList = vs) (hK : wpList P ops Q rest (a.put o.dst (.agg cs)) w) : wpList P ops Q (o :: rest) a w :=
  wpList_step fun _ hK' => by
    rw [if_pos hw]
    unfold Oper.wp
    rw [exec_build T parts ho vs cs hb hv w]
    exact hK' _ _ hK
theorem wpList_eqH {ops : Array Oper} {rest : List Oper} {o : Oper} {a : Act} {w : World} {Q : Exit → Act → World → Prop} (hw : Region.wanted o (yielded ops a.tmps) = true) (X Y : Operand) (ho : o.op = .binOp .eql 23 X Y 23) (x y : H32)
    (hx : a.eval X = .agg x.cs.toArray) (hy : a.eval Y = .agg y.cs.toArray) (h : wpList Tryz.prog ops Q rest (a.put o.dst (.bool (decide (x = y)))) w) : wpList Tryz.prog ops Q (o :: rest) a w :=
  wpList_step fun _ hK' => by
    rw [if_pos hw]
    have := eql_h x y w
    unfold H32.val at this
    unfold Oper.wp execOp
    simp only [ho, hx, hy, Sem.run_bind, Sem.run_pure, guard_h, this, Result.andThen_ok]
    exact hK' _ _ h
theorem wpList_neH {ops : Array Oper} {rest : List Oper} {o : Oper} {a : Act} {w : World} {Q : Exit → Act → World → Prop} (hw : Region.wanted o (yielded ops a.tmps) = true) (X Y : Operand) (ho : o.op = .binOp .neq 23 X Y 23) (x y : H32)
    (hx : a.eval X = .agg x.cs.toArray) (hy : a.eval Y = .agg y.cs.toArray) (h : wpList Tryz.prog ops Q rest (a.put o.dst (.bool (!decide (x = y)))) w) : wpList Tryz.prog ops Q (o :: rest) a w :=
  wpList_step fun _ hK' => by
    rw [if_pos hw]
    have := neq_h x y w
    unfold Oper.wp execOp
    simp only [ho, hx, hy, Sem.run_bind, Sem.run_pure, guard_h, this, Result.andThen_ok]
    exact hK' _ _ h
def nmH (i : Nat) : H32 := ⟨nameB i, nameB_length i⟩
theorem root_nil : rootT [] = default := topH_one [] (by simp)
theorem mk1 : mkE default 1 0 [] = 0 := by decide
theorem mk1H : mkH default 1 0 [] = ⟨default, default, 1, 0⟩ := by unfold mkH; rw [if_pos mk1, root_nil]
theorem mk0 : mkE default 0 0 [] = 1 := by decide
theorem dec_nil : decK [] = ((default, []), 2) := by
  have h : rD (rTxs []).2 = false := by decide
  unfold decK
  rw [if_neg (by rw [h]; simp)]
theorem chk1 : chkB ⟨default, nmH 1, 1, 0⟩ [] = 2 := by
  have h : setE ⟨default, nmH 1, 1, 0⟩ [] = 0 := by decide
  unfold chkB
  rw [h, if_neg (by simp), root_nil, if_neg (fun e => by have := congrArg H32.b e; exact absurd this (by decide))]
theorem bid1 : bidH ⟨default, default, 1, 0⟩ ≠ default := fun e => by
  have h : bidH ⟨default, default, 1, 0⟩ = ⟨sum (sum (hdB ⟨default, default, 1, 0⟩)), sum_length _⟩ := by
    unfold bidH; rw [if_neg (by decide)]
  rw [h] at e
  have := congrArg H32.b e
  have hb : hdB ⟨default, default, 1, 0⟩ = kb_B0 := by decide
  rw [hb] at this
  exact kb_twice_B0 this
theorem txl_nil (w : World) : TxL w none 0 0 [] := ⟨Els.nil _, fun r hr => by cases hr⟩
theorem built_hdN (g : Nat → BitVec 8) : Tryz.prog.built 25 [(1, .agg (u8s ((List.range 32).map g)).toArray), (2, .int .i64 1)] = some (u8s zeros32 ++ (u8s ((List.range 32).map g) ++ [Value.int .i64 1, .int .i64 0])).toArray := by kernel_rfl
theorem built_hdR (p : H32) : Tryz.prog.built 25 [(1, .agg p.cs.toArray), (2, .int .i64 1)] = some (Hd.cs ⟨default, p, 1, 0⟩).toArray := by
  have := built_hdN (fun i => p.b.getD i 0)
  rw [← h32_range p] at this
  exact this

set_option maxRecDepth 100000 in
set_option maxHeartbeats 8000000 in
theorem bawake_any (w : World) (hK : Kw w) :
    Calls Tryz.prog 8 #[] w fun e w' => e = .returned (.bool true) ∧ Below w.heap.size w w' := by
  obtain ⟨dB, HDB, HRB⟩ := undBk
  obtain ⟨dH, HDH, HRH⟩ := undHd
  have HK : Hid (Kw w) := hK
  have hpos := hK.pos
  clear hK
  go_enter Tryz.func8, Tryz.ntmps8
  go_wp2_with fail
  refine (make_any default 1 0 none 0 0 [] w (txl_nil w) HK.out).mono ?_
  rintro e w1 ⟨⟨a1, n1, c1, l1, rfl, _, _, _⟩, hb1⟩
  have HB1 : Hid (Below w.heap.size w w1) := hb1
  clear hb1
  rw [show List.map TxR.t [] = [] from rfl, mk1, mk1H]
  generalize hN : w.heap.size = N at *
  have hs1 : N ≤ w1.heap.size := by have := HB1.out.size; rw [hN] at this; exact this
  obtain ⟨Z, hZ⟩ : ∃ Z, Z = blkCs ⟨default, default, 1, 0⟩ a1 n1 c1 := ⟨_, rfl⟩
  rw [← hZ]
  have HZE : Hid (Z = blkCs ⟨default, default, 1, 0⟩ a1 n1 c1) := hZ
  have HZS : Hid ((Tryz.prog.info? 28).map (·.size) = some Z.toArray.size ∧ (blkCs default none 0 0).toArray.size = Z.toArray.size ∧ Z.toArray.all (·.oneCell') = true) := by
    rw [hZ]; exact ⟨sizeBka _ _ _ _, by simp [blkCs_length], blkCs_all _ _ _ _⟩
  clear hZ
  go_upto_region 2 with (refine wpList_store_fresh rfl 28 _ _ rfl Z _ 28 rfl rfl HZS.out.1 HZS.out.2.1 HZS.out.2.2 ?_; intro w2 HG2 Hb2)
  have HB2 : Hid (Below N w w2) := HB1.out.trans (Hb2.out.mono hs1)
  have HZ2 : Hid (Blk w2 w1.heap.size Z) := HG2.out
  have hs2 : N ≤ w2.heap.size := by have := HB2.out.size; rw [hN] at this; exact this
  clear HG2 Hb2 HB1
  generalize w1.heap.size = G at *
  go_wp2_with fail
  refine (make_any default 0 0 none 0 0 [] w2 (txl_nil w2) (HK.out.below HB2.out hpos)).mono ?_
  rintro e w3 ⟨⟨a3, n3, c3, l3, rfl, _, _, _⟩, hb3⟩
  rw [show List.map TxR.t [] = [] from rfl, mk0]
  have HB3 : Hid (Below N w w3) := HB2.out.trans (hb3.mono hs2)
  have HZ3 : Hid (Blk w3 G Z) := HZ2.out.below hb3 HZ2.out.lt
  have hs3 : N ≤ w3.heap.size := by have := HB3.out.size; rw [hN] at this; exact this
  clear hb3 HB2 HZ2
  obtain ⟨Y, hY⟩ : ∃ Y, Y = blkCs (mkH default 0 0 []) a3 n3 c3 := ⟨_, rfl⟩
  rw [← hY]
  have HYS : Hid ((Tryz.prog.info? 28).map (·.size) = some Y.toArray.size ∧ (blkCs default none 0 0).toArray.size = Y.toArray.size ∧ Y.toArray.all (·.oneCell') = true) := by
    rw [hY]; exact ⟨sizeBka _ _ _ _, by simp [blkCs_length], blkCs_all _ _ _ _⟩
  clear hY
  go_upto_region 3 with (refine wpList_store_fresh rfl 28 _ _ rfl Y _ 28 rfl rfl HYS.out.1 HYS.out.2.1 HYS.out.2.2 ?_; intro w4 HG4 Hb4)
  have HB4 : Hid (Below N w w4) := HB3.out.trans (Hb4.out.mono hs3)
  have HZ4 : Hid (Blk w4 G Z) := HZ3.out.below Hb4.out HZ3.out.lt
  have hs4 : N ≤ w4.heap.size := by have := HB4.out.size; rw [hN] at this; exact this
  clear HG4 Hb4 HB3 HZ3
  go_wp2_with fail
  refine (bdecode_any (.slice none 0 0) [] w4 (.inl ⟨rfl, rfl⟩) (by simp) (HK.out.below HB4.out hpos)).mono ?_
  rintro e w5 ⟨⟨a5, n5, c5, l5, rfl, _, _, _⟩, hb5⟩
  rw [dec_nil]
  have HB5 : Hid (Below N w w5) := HB4.out.trans (hb5.mono hs4)
  have HZ5 : Hid (Blk w5 G Z) := HZ4.out.below hb5 HZ4.out.lt
  have hs5 : N ≤ w5.heap.size := by have := HB5.out.size; rw [hN] at this; exact this
  clear hb5 HB4 HZ4
  simp only
  obtain ⟨X, hX⟩ : ∃ X, X = blkCs default a5 n5 c5 := ⟨_, rfl⟩
  rw [← hX]
  have HXS : Hid ((Tryz.prog.info? 28).map (·.size) = some X.toArray.size ∧ (blkCs default none 0 0).toArray.size = X.toArray.size ∧ X.toArray.all (·.oneCell') = true) := by
    rw [hX]; exact ⟨sizeBka _ _ _ _, by simp [blkCs_length], blkCs_all _ _ _ _⟩
  clear hX
  go_upto_region 4 with (refine wpList_store_fresh rfl 28 _ _ rfl X _ 28 rfl rfl HXS.out.1 HXS.out.2.1 HXS.out.2.2 ?_; intro w6 HG6 Hb6)
  have HB6 : Hid (Below N w w6) := HB5.out.trans (Hb6.out.mono hs5)
  have HZ6 : Hid (Blk w6 G Z) := HZ5.out.below Hb6.out HZ5.out.lt
  have hs6 : N ≤ w6.heap.size := by have := HB6.out.size; rw [hN] at this; exact this
  clear HG6 Hb6 HB5 HZ5
  have HLH : Hid (w6.rangeAt G 0 (Hd.cs ⟨default, default, 1, 0⟩)) := by
    have := HZ6.out.whole
    rw [HZE.out] at this
    exact blkCs_head this
  have HLR : Hid (w6.rangeAt G 32 (default : H32).cs) := by
    have := Hd.root_at HLH.out
    rw [Nat.zero_add] at this
    exact this
  obtain ⟨h0, hh0⟩ : ∃ h0 : Hd, h0 = ⟨default, default, 1, 0⟩ := ⟨_, rfl⟩
  rw [← hh0] at HLH
  have HID : Hid (Calls Tryz.prog 18 #[.agg h0.cs.toArray] w6 fun e w' => e = .returned (.agg (bidH h0).cs.toArray) ∧ Below w6.heap.size w6 w') := bid_any h0 w6 (HK.out.below HB6.out hpos)
  have HNE : Hid (bidH h0 ≠ default) := show _ ≠ _ by rw [hh0]; exact bid1
  clear hh0
  generalize bidH h0 = x0 at *
  have q1 : Hid (decide ((default : H32) = default) = true) := decide_eq_true rfl
  have q3 : Hid ((!decide (x0 = (default : H32))) = true) := show _ = _ by rw [decide_eq_false HNE.out]; rfl
  have b0 : Tryz.prog.built 23 [] = some (default : H32).cs.toArray := by kernel_rfl
  have HB0 : Hid (Tryz.prog.built 23 [] = some (default : H32).cs.toArray) := b0
  clear b0
  go_wp2_with (first
    | (refine wpList_load_if (by rfl) 23 _ rfl G 32 rfl (default : H32).cs _ HLR.out Tryz.underlying23 rfl (sizeH default) ?_)
    | (refine wpList_load_if (by rfl) 25 _ rfl G 0 rfl h0.cs _ HLH.out HDH.out HRH.out (sizeHd h0) ?_)
    | (refine wpList_bld_if (by rfl) 23 _ rfl _ _ HB0.out rfl ?_)
    | (refine wpList_eqH (by rfl) _ _ rfl default default rfl rfl ?_; rw [q1.out]))
  refine Calls.mono HID.out ?_
  rintro e w7 ⟨rfl, hb7⟩
  have HB7 : Hid (Below N w w7) := HB6.out.trans (hb7.mono hs6)
  have hs7 : N ≤ w7.heap.size := by have := HB7.out.size; rw [hN] at this; exact this
  clear hb7 HB6 HZ6 HLH HLR HID
  go_wp2_with (first
    | (refine wpList_bld_if (by rfl) 23 _ rfl _ _ HB0.out rfl ?_)
    | (refine wpList_neH (by rfl) _ _ rfl x0 default rfl rfl ?_; rw [q3.out]))
  refine (name_any 1 w7 (by omega)).mono ?_
  rintro e w8 ⟨rfl, hb8⟩
  have HB8 : Hid (Below N w w8) := HB7.out.trans (hb8.mono hs7)
  have hs8 : N ≤ w8.heap.size := by have := HB8.out.size; rw [hN] at this; exact this
  have HNM : Hid (u8s (nameB 1) = (nmH 1).cs) := show _ = _ from rfl
  rw [HNM.out]
  clear hb8 HB7 HNM
  have hb1 : Hid (Tryz.prog.built 25 [(1, .agg (nmH 1).cs.toArray), (2, .int .i64 1)] = some (Hd.cs ⟨default, nmH 1, 1, 0⟩).toArray) := built_hdR (nmH 1)
  have hb2 : Hid (Tryz.prog.built 28 [(0, .agg (Hd.cs ⟨default, nmH 1, 1, 0⟩).toArray)] = some (blkCs ⟨default, nmH 1, 1, 0⟩ none 0 0).toArray) := built_bkH _
  have HCK : Hid (Calls Tryz.prog 16 #[.agg (blkCs ⟨default, nmH 1, 1, 0⟩ none 0 0).toArray] w8 fun e w' => e = .returned (.int .i64 (chkB ⟨default, nmH 1, 1, 0⟩ [])) ∧ Below w8.heap.size w8 w') := bcheck_any ⟨default, nmH 1, 1, 0⟩ none 0 0 [] w8 (txl_nil w8) (HK.out.below HB8.out hpos)
  rw [chk1] at HCK
  generalize Hd.cs ⟨default, nmH 1, 1, 0⟩ = U at *
  generalize blkCs ⟨default, nmH 1, 1, 0⟩ none 0 0 = V at *
  generalize nmH 1 = nm at *
  go_wp2_with (first
    | (refine wpList_bld_if (by rfl) 25 _ rfl _ _ hb1.out (by rw [Array.toList_map]; rfl) ?_)
    | (refine wpList_bld_if (by rfl) 28 _ rfl _ _ hb2.out (by rw [Array.toList_map]; rfl) ?_))
  refine Calls.mono HCK.out ?_
  rintro e w9 ⟨rfl, hb9⟩
  have HB9 : Hid (Below N w w9) := HB8.out.trans (hb9.mono hs8)
  clear hb9
  go_wp2_with fail
  go_ret
  subst hN
  exact ⟨rfl, HB9.out⟩
end Go.Proofs.YtlaifphedhaemaaGreatDoor
