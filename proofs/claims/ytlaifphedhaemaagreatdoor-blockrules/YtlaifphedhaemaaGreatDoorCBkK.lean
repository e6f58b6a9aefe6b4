/- block.Make. -/
import Derived.Test.YtlaifphedhaemaaGreatDoorCBkJ
namespace Go.Proofs.YtlaifphedhaemaaGreatDoor
open Go.ChangeShapes Go.WideShapes Go.ChangeAt Go.RowKit

theorem wpList_bld {P : Program} {ops : Array Oper} {rest : List Oper} {o : Oper} {a : Act} {w : World} {Q : Exit → Act → World → Prop} (hg : o.guard = none) (T : TypeId) (parts : Array (Nat × Operand)) (ho : o.op = .build T parts) (vs : List (Nat × Value)) (cs : Array Value)
    (hb : P.built T vs = some cs) (hv : (parts.map fun (i, x) => (i, a.eval x)).toList = vs) (hK : wpList P ops Q rest (a.put o.dst (.agg cs)) w) : wpList P ops Q (o :: rest) a w := by
  refine wpList_plain hg fun K hK' => ?_
  unfold Oper.wp
  rw [exec_build T parts ho vs cs hb hv w]
  exact hK' _ _ hK
theorem h32_range (h : H32) : h.b = (List.range 32).map fun i => h.b.getD i 0 := by
  apply List.ext_getElem
  · rw [h.len]; simp
  · intro i h1 h2
    simp [List.getElem?_eq_getElem h1]
theorem built_hd3 (g : Nat → BitVec 8) (u v : Int) : Tryz.prog.built 25 [(0, .agg (u8s ((List.range 32).map g)).toArray), (2, .int .i64 u), (3, .int .i64 v)] = some (u8s ((List.range 32).map g) ++ (u8s zeros32 ++ [Value.int .i64 u, .int .i64 v])).toArray := by kernel_rfl
theorem built_hd4 (g g' : Nat → BitVec 8) (u v : Int) : Tryz.prog.built 25 [(0, .agg (u8s ((List.range 32).map g)).toArray), (1, .agg (u8s ((List.range 32).map g')).toArray), (2, .int .i64 u), (3, .int .i64 v)] = some (u8s ((List.range 32).map g) ++ (u8s ((List.range 32).map g') ++ [Value.int .i64 u, .int .i64 v])).toArray := by kernel_rfl
theorem built_bk2 (g g' : Nat → BitVec 8) (u v : Int) (x : Option Addr) (n c : Nat) : Tryz.prog.built 28 [(0, .agg (u8s ((List.range 32).map g) ++ (u8s ((List.range 32).map g') ++ [Value.int .i64 u, .int .i64 v])).toArray), (1, .slice x n c)] = some ((u8s ((List.range 32).map g) ++ (u8s ((List.range 32).map g') ++ [Value.int .i64 u, .int .i64 v])) ++ [Value.slice x n c]).toArray := by kernel_rfl
theorem built_bk1 (g g' : Nat → BitVec 8) (u v : Int) : Tryz.prog.built 28 [(0, .agg (u8s ((List.range 32).map g) ++ (u8s ((List.range 32).map g') ++ [Value.int .i64 u, .int .i64 v])).toArray)] = some ((u8s ((List.range 32).map g) ++ (u8s ((List.range 32).map g') ++ [Value.int .i64 u, .int .i64 v])) ++ [Value.slice none 0 0]).toArray := by kernel_rfl
theorem built_hdM (p : H32) (u v : Int) : Tryz.prog.built 25 [(0, .agg p.cs.toArray), (2, .int .i64 u), (3, .int .i64 v)] = some (Hd.cs ⟨p, default, u, v⟩).toArray := by
  have := built_hd3 (fun i => p.b.getD i 0) u v
  rw [← h32_range p] at this
  exact this
theorem built_hdA (p q : H32) (u v : Int) : Tryz.prog.built 25 [(0, .agg p.cs.toArray), (1, .agg q.cs.toArray), (2, .int .i64 u), (3, .int .i64 v)] = some (Hd.cs ⟨p, q, u, v⟩).toArray := by
  have := built_hd4 (fun i => p.b.getD i 0) (fun i => q.b.getD i 0) u v
  rw [← h32_range p, ← h32_range q] at this
  exact this
theorem built_bkA (h : Hd) (x : Option Addr) (n c : Nat) : Tryz.prog.built 28 [(0, .agg h.cs.toArray), (1, .slice x n c)] = some (blkCs h x n c).toArray := by
  have := built_bk2 (fun i => h.prev.b.getD i 0) (fun i => h.root.b.getD i 0) h.work h.nonce x n c
  rw [← h32_range h.prev, ← h32_range h.root] at this
  exact this
theorem built_bkH (h : Hd) : Tryz.prog.built 28 [(0, .agg h.cs.toArray)] = some (blkCs h none 0 0).toArray := by
  have := built_bk1 (fun i => h.prev.b.getD i 0) (fun i => h.root.b.getD i 0) h.work h.nonce
  rw [← h32_range h.prev, ← h32_range h.root] at this
  exact this
instance : Inhabited Hd := ⟨⟨default, default, 0, 0⟩⟩
theorem blkCs_splice_root (p q r : H32) (u v : Int) (x : Option Addr) (n c : Nat) : splice (blkCs ⟨p, q, u, v⟩ x n c) 32 r.cs = blkCs ⟨p, r, u, v⟩ x n c := by
  unfold splice blkCs Hd.cs
  simp only [List.append_assoc]
  rw [List.take_append_of_le_length (by rw [H32.cs_length]; omega), List.take_of_length_le (by rw [H32.cs_length]; omega), H32.cs_length, List.drop_append, H32.cs_length, List.drop_of_length_le (by rw [H32.cs_length]; omega), List.nil_append, show 32 + 32 - 32 = 32 by omega, List.drop_append, H32.cs_length, List.drop_of_length_le (by rw [H32.cs_length]; omega)]
  simp
theorem blkCs_set_txs (h : Hd) (x y : Option Addr) (n c m d : Nat) : (blkCs h x n c).set 66 (.slice y m d) = blkCs h y m d := by
  unfold blkCs
  rw [List.set_append_right _ _ (by rw [Hd.cs_length]; omega), Hd.cs_length]; rfl
def hdOf (p : H32) (u v : Int) : Hd := ⟨p, default, u, v⟩
def mkE (p : H32) (u v : Int) (ts : List TxD) : Int := setE (hdOf p u v) ts
def mkH (p : H32) (u v : Int) (ts : List TxD) : Hd := if mkE p u v ts = 0 then ⟨p, rootT ts, u, v⟩ else default
/-- A block that was made: its error, its value, its list. -/
def Made (w' : World) (N : Nat) (p : H32) (u v : Int) (ts : List TxD) (e : Ending) : Prop :=
  ∃ a n c l', e = .returned (.tuple #[.agg (blkCs (mkH p u v ts) a n c).toArray, .int .i64 (mkE p u v ts)]) ∧ TxL w' a n c l' ∧ l'.map TxR.t = (if mkE p u v ts = 0 then ts else []) ∧ TxsNew N a l'

set_option maxRecDepth 100000 in
set_option maxHeartbeats 8000000 in
theorem make_any (p : H32) (u v : Int) (a : Option Addr) (n cap : Nat) (l : List TxR) (w : World) (hp : TxL w a n cap l) (hK : Kw w) :
    Calls Tryz.prog 13 #[.agg p.cs.toArray, .int .i64 u, .int .i64 v, .slice a n cap] w fun e w' => Made w' w.heap.size p u v (l.map TxR.t) e ∧ Below w.heap.size w w' := by
  obtain ⟨dB, HDB, HRB⟩ := undBk
  have HP : Hid (TxL w a n cap l) := hp
  have HK : Hid (Kw w) := hK
  have HLN : Hid (l.length = n) := hp.row.len
  have hpos := hK.pos
  clear hp hK
  have hb1 : Hid (Tryz.prog.built 25 [(0, .agg p.cs.toArray), (2, .int .i64 u), (3, .int .i64 v)] = some (hdOf p u v).cs.toArray) := built_hdM p u v
  have hb2 : Hid (Tryz.prog.built 28 [(0, .agg (hdOf p u v).cs.toArray), (1, .slice a n cap)] = some (blkCs (hdOf p u v) a n cap).toArray) := built_bkA (hdOf p u v) a n cap
  obtain ⟨H, hH⟩ : ∃ H, H = hdOf p u v := ⟨_, rfl⟩
  rw [← hH] at hb1 hb2
  have HHE : Hid (H = hdOf p u v) := hH
  obtain ⟨Z, hZ⟩ : ∃ Z, Z = blkCs H a n cap := ⟨_, rfl⟩
  rw [← hZ] at hb2
  have HZE : Hid (Z = blkCs H a n cap) := hZ
  have HZS : Hid ((Tryz.prog.info? 28).map (·.size) = some Z.length ∧ (Tryz.prog.info? 28).map (·.size) = some Z.toArray.size ∧ (blkCs default none 0 0).toArray.size = Z.toArray.size ∧ Z.toArray.all (·.oneCell') = true) := by
    rw [hZ]; exact ⟨sizeBk _ _ _ _, sizeBka _ _ _ _, by simp [blkCs_length], blkCs_all _ _ _ _⟩
  clear hZ hH
  go_enter Tryz.func13, Tryz.ntmps13
  go_upto_region 1 with fail
  generalize hw1 : World.alloc (World.alloc w _) _ = w1
  have HB0 : Hid (Blk w1 w.heap.size p.cs) := by rw [← hw1]; exact (Blk.mk _ _ _ rfl rfl).alloc _
  have HR0 : Hid (Blk w1 (w.heap.size + 1) (blkCs default none 0 0)) := by rw [← hw1]; exact Blk.mk _ _ _ (by simp) rfl
  have HB : Hid (Below w.heap.size w w1) := by rw [← hw1]; exact ((Below.refl _ _).alloc (Nat.le_refl _) _).alloc (by simp) _
  clear hw1
  generalize hN : w.heap.size = N at *
  refine wp_scope_hops 1 ?_
  go_hide hQ
  have HLD : Hid (w1.rangeAt N 0 p.cs) := HB0.out.whole
  go_upto_region 2 with (first
    | (refine wpList_load_mid rfl 23 _ rfl N 0 rfl p.cs _ HLD.out Tryz.underlying23 rfl (sizeH p) ?_)
    | (refine wpList_bld rfl 25 _ rfl _ _ hb1.out (by rw [Array.toList_map]; rfl) ?_)
    | (refine wpList_bld rfl 28 _ rfl _ _ hb2.out (by rw [Array.toList_map]; rfl) ?_)
    | (refine wpList_store_fresh rfl 28 _ _ rfl Z _ 28 rfl rfl HZS.out.2.1 HZS.out.2.2.1 HZS.out.2.2.2 ?_; intro w2 HB2 Hb2))
  have hs1 : N + 1 < w1.heap.size := HR0.out.lt
  have HR2 : Hid (Blk w2 (N + 1) (blkCs default none 0 0)) := HR0.out.below Hb2.out (by omega)
  have HW2 : Hid (Below N w w2) := HB.out.trans (Hb2.out.mono (by omega))
  have hb2s := Hb2.out.size
  have hb2l := HB2.out.lt
  generalize hG : w1.heap.size = G at *
  have HLD2 : Hid (w2.rangeAt G 0 Z) := HB2.out.whole
  have HBK2 : Hid (Blk w2 G Z) := HB2.out
  have HST : Hid (Calls Tryz.prog 46 #[.agg Z.toArray] w2 fun e w' => e = .returned (.tuple #[.agg (setH H (l.map TxR.t)).cs.toArray, .int .i64 (setE H (l.map TxR.t))]) ∧ Below w2.heap.size w2 w') := by
    rw [HZE.out]; exact settle_any H a n cap l w2 (HP.out.below (hN ▸ HW2.out)) (HK.out.below HW2.out hpos)
  have HSH : Hid (setE H (l.map TxR.t) = 0 → setH H (l.map TxR.t) = rootT (l.map TxR.t)) := fun e => by unfold setH; rw [if_pos e]
  have HME : Hid (mkE p u v (l.map TxR.t) = setE H (l.map TxR.t)) := show _ = _ by rw [HHE.out]; rfl
  have HFW : Hid (setE H (l.map TxR.t) = 0 → n ≤ 100 ∧ ∀ r ∈ l, r.v.n ≤ 100000 ∧ r.v.m ≤ 100000) := fun e => by
    unfold setE at e
    split at e
    · cases e
    · split at e
      · cases e
      · rename_i h100
        rw [List.length_map, HLN.out] at h100
        split at e
        · rename_i hne; exact absurd e hne
        · rename_i hne
          have h0 : firstE (l.map TxR.t) = 0 := by simpa using hne
          refine ⟨by omega, fun r hr => ?_⟩
          have h1 := chk_few (firstE_all h0 r.t (List.mem_map_of_mem hr))
          have h2 := (HP.out.each r hr).ins.len
          have h3 := (HP.out.each r hr).outs.len
          omega
  clear HB2 Hb2 HR0 HB HB0 HLD hb1 hb2
  generalize setE H (l.map TxR.t) = z at *
  generalize setH H (l.map TxR.t) = x at *
  go_upto_region 3 with (refine wpList_load_mid rfl 28 _ rfl G 0 rfl Z _ HLD2.out HDB.out HRB.out HZS.out.1 ?_)
  refine Calls.mono HST.out ?_
  rintro e w3 ⟨rfl, hb3⟩
  have HB3 : Hid (Blk w3 G Z) := HBK2.out.below hb3 hb2l
  have HR3 : Hid (Blk w3 (N + 1) (blkCs default none 0 0)) := HR2.out.below hb3 (by omega)
  have HW3 : Hid (Below N w w3) := HW2.out.trans (hb3.mono (by omega))
  have hs3 := hb3.size
  clear hb3 HST HLD2 HBK2 HR2 HW2
  go_upto_region 3 with (refine wpList_store_fresh rfl 23 _ _ rfl x.cs _ 23 rfl rfl (sizeHa x) (zsizeH x) x.cs_all ?_; intro w4 HX4 Hb4)
  have HB4 : Hid (Blk w4 G Z) := HB3.out.below Hb4.out HB3.out.lt
  have HR4 : Hid (Blk w4 (N + 1) (blkCs default none 0 0)) := HR3.out.below Hb4.out HR3.out.lt
  have HW4 : Hid (Below N w w4) := HW3.out.trans (Hb4.out.mono (by omega))
  have hs4 := Hb4.out.size
  generalize hX : w3.heap.size = X at *
  have HLX : Hid (w4.rangeAt X 0 x.cs) := HX4.out.whole
  clear Hb4 HB3 HR3 HW3 HX4
  by_cases hz : z = 0
  · subst hz
    have hx := HSH.out rfl
    obtain ⟨hn100, hvs⟩ := HFW.out rfl
    have HVS : Hid (∀ r ∈ l, r.v.n ≤ 100000 ∧ r.v.m ≤ 100000) := hvs
    have HXR : Hid (x = rootT (l.map TxR.t)) := hx
    clear HSH HFW hx hvs
    have HTH : Hid (w4.there G 32 x.cs.toArray.size) := by
      show w4.there _ _ _
      rw [List.size_toArray, H32.cs_length]
      exact HB4.out.there _ _ (by rw [HZE.out, blkCs_length]; omega)
    go_upto_region 5 with (first
      | (refine wpList_load_mid rfl 23 _ rfl X 0 rfl x.cs _ HLX.out Tryz.underlying23 rfl (sizeH x) ?_)
      | (refine wpList_store_mid rfl 23 _ _ rfl G 32 x.cs.toArray rfl rfl HTH.out (sizeHa x) x.cs_all ?_))
    have HB5 : Hid (Blk (w4.setCells G 32 x.cs) G (blkCs ⟨p, x, u, v⟩ a n cap)) := by
      have := HB4.out.cellsAt x.cs 32 (by rw [H32.cs_length, HZE.out, blkCs_length]; omega)
      rw [HZE.out, HHE.out] at this
      unfold hdOf at this
      rw [blkCs_splice_root] at this
      exact this
    have HR5 : Hid (Blk (w4.setCells G 32 x.cs) (N + 1) (blkCs default none 0 0)) := by
      obtain ⟨t, ht⟩ := HR4.out
      exact ⟨t, by rw [heap_setCells _ _ _ _ _ (by omega)]; exact ht⟩
    have HW5 : Hid (Below N w (w4.setCells G 32 x.cs)) := below_setCells (by omega) _ HW4.out _
    have hs5 : w4.heap.size ≤ (w4.setCells G 32 x.cs).heap.size := ((Keep.refl G w4).setCells x.cs 32).size
    generalize w4.setCells G 32 x.cs = w5 at *
    clear HB4 HR4 HW4 HTH HLX
    go_wp2_with fail
    refine (clone_txs a n cap l w5 (HP.out.below (hN ▸ HW5.out)) (by omega) HVS.out).mono ?_
    rintro e w6 ⟨g, l', rfl, hl6, hm6, hn6, hb6⟩
    have HB6 : Hid (Blk w6 G (blkCs ⟨p, x, u, v⟩ a n cap)) := HB5.out.below hb6 HB5.out.lt
    have HR6 : Hid (Blk w6 (N + 1) (blkCs default none 0 0)) := HR5.out.below hb6 HR5.out.lt
    have HW6 : Hid (Below N w w6) := HW5.out.trans (hb6.mono (by omega))
    have HL6 : Hid (TxL w6 (some ⟨g, 0, none⟩) n n l' ∧ l'.map TxR.t = l.map TxR.t ∧ TxsNew w5.heap.size (some ⟨g, 0, none⟩) l') := ⟨hl6, hm6, hn6⟩
    have f6 : w6.frozen? ⟨G, 66, none⟩ = false := HB6.out.frozen 66
    have c6 : w6.cell? ⟨G, 66, none⟩ = some (.slice a n cap) := HB6.out.one (blkCs_txs _ _ _ _)
    have hs6 := hb6.size
    clear hl6 hm6 hn6 hb6 HB5 HR5
    go_upto_region 6 with fail
    have HB7 : Hid (Blk (w6.setCell ⟨G, 66, none⟩ (.slice (some ⟨g, 0, none⟩) n n)) G (blkCs ⟨p, x, u, v⟩ (some ⟨g, 0, none⟩) n n)) := by
      have := HB6.out.set 66 (.slice (some ⟨g, 0, none⟩) n n)
      rw [blkCs_set_txs] at this
      exact this
    have HR7 : Hid (Blk (w6.setCell ⟨G, 66, none⟩ (.slice (some ⟨g, 0, none⟩) n n)) (N + 1) (blkCs default none 0 0)) := HR6.out.other (by simp; omega) _
    have HW7 : Hid (Below N w (w6.setCell ⟨G, 66, none⟩ (.slice (some ⟨g, 0, none⟩) n n))) := HW6.out.setCell (by simp; omega) _
    have HL7 : Hid (TxL (w6.setCell ⟨G, 66, none⟩ (.slice (some ⟨g, 0, none⟩) n n)) (some ⟨g, 0, none⟩) n n l') := HL6.out.1.kept HL6.out.2.2 fun b hb => Below.heap_setCell _ _ _ _ (by simp; omega)
    generalize w6.setCell ⟨G, 66, none⟩ (.slice (some ⟨g, 0, none⟩) n n) = w7 at *
    clear f6 c6 HB6 HR6 HW6
    obtain ⟨Y, hY⟩ : ∃ Y, Y = blkCs ⟨p, x, u, v⟩ (some ⟨g, 0, none⟩) n n := ⟨_, rfl⟩
    rw [← hY] at HB7
    have HYE : Hid (Y = blkCs ⟨p, x, u, v⟩ (some ⟨g, 0, none⟩) n n) := hY
    have HYS : Hid ((Tryz.prog.info? 28).map (·.size) = some Y.length ∧ (Tryz.prog.info? 28).map (·.size) = some Y.toArray.size ∧ (blkCs default none 0 0).toArray.size = Y.toArray.size ∧ Y.toArray.all (·.oneCell') = true) := by
      rw [hY]; exact ⟨sizeBk _ _ _ _, sizeBka _ _ _ _, by simp [blkCs_length], blkCs_all _ _ _ _⟩
    clear hY
    have HLY : Hid (w7.rangeAt G 0 Y) := HB7.out.whole
    obtain ⟨t, ht⟩ := HR7.out
    have HT : Hid (w7.heap[N + 1]? = some (.cells (blkCs default none 0 0).toArray t (0, 0))) := ht
    clear ht
    go_wp2_with (first
      | (refine wpList_load_mid rfl 28 _ rfl G 0 rfl Y _ HLY.out HDB.out HRB.out HYS.out.1 ?_)
      | (refine wpList_store_row rfl 28 _ _ rfl (N + 1) Y.toArray rfl rfl t _ HT.out HYS.out.2.1 HYS.out.2.2.1 HYS.out.2.2.2 ?_))
    subst hQ
    rw [hops_ret]
    have hm0 : mkE p u v (l.map TxR.t) = 0 := HME.out
    have hmh : mkH p u v (l.map TxR.t) = ⟨p, x, u, v⟩ := by unfold mkH; rw [if_pos hm0, HXR.out]
    refine bodyPost_ret (v := .tuple #[.agg Y.toArray, .int .i64 0]) ?_ rfl ⟨⟨some ⟨g, 0, none⟩, n, n, l', by rw [hmh, hm0, HYE.out], ?_, by rw [if_pos hm0]; exact HL6.out.2.1, ?_⟩, ?_⟩
    · obtain ⟨t', hb⟩ := Blk.row (ds := Y) ⟨t, HT.out⟩
      exact results_row_tmp Tryz.results13 _ _ (N + 1) t' _ _ _ rfl hb Tryz.underlying28 rfl HYS.out.2.1
    · exact HL7.out.kept HL6.out.2.2 fun b hb => by rw [heap_setRow _ _ _ _ (by omega)]
    · exact ⟨fun y hy => by have := HL6.out.2.2.1 y hy; omega, fun r hr => ⟨fun y hy => by have := (HL6.out.2.2.2 r hr).1 y hy; omega, fun y hy => by have := (HL6.out.2.2.2 r hr).2 y hy; omega⟩⟩
    · subst hN; exact below_setRow HW7.out (by omega) _
  · have hmn : ¬ mkE p u v (l.map TxR.t) = 0 := by rw [HME.out]; exact hz
    have HMN : Hid (¬ mkE p u v (l.map TxR.t) = 0) := hmn
    have HMH : Hid (mkH p u v (l.map TxR.t) = default) := show _ = _ by unfold mkH; rw [if_neg hmn]
    clear hmn
    obtain ⟨t, ht⟩ := HR4.out
    have HT : Hid (w4.heap[N + 1]? = some (.cells (blkCs default none 0 0).toArray t (0, 0))) := ht
    have I28 : Hid ((Tryz.prog.info? 28).map (·.size) = some (blkCs default none 0 0).toArray.size) := sizeBka _ _ _ _
    clear ht
    go_wp2_with fail
    go_step3
    subst hQ
    refine show hops _ _ _ 1 (Exit.goto 0) _ _ from ?_
    rw [hops_goto]
    refine ⟨_, rfl, ?_⟩
    go_hide hQ
    go_wp2_with (refine wpList_store_row rfl 28 _ _ rfl (N + 1) (blkCs default none 0 0).toArray rfl rfl t _ HT.out I28.out rfl (blkCs_all _ _ _ _) ?_)
    subst hQ
    rw [hops_ret]
    refine bodyPost_ret (v := .tuple #[.agg (blkCs default none 0 0).toArray, .int .i64 z]) ?_ rfl ⟨⟨none, 0, 0, [], by rw [HMH.out, HME.out], ⟨Els.nil _, fun r hr => by cases hr⟩, by rw [if_neg HMN.out]; rfl, ⟨(fun y hy => by cases hy), (fun r hr => by cases hr)⟩⟩, ?_⟩
    · obtain ⟨t', hb⟩ := Blk.row (ds := blkCs default none 0 0) ⟨t, HT.out⟩
      exact results_row_tmp Tryz.results13 _ _ (N + 1) t' _ _ _ rfl hb Tryz.underlying28 rfl I28.out
    · subst hN; exact below_setRow HW4.out (by omega) _
end Go.Proofs.YtlaifphedhaemaaGreatDoor
