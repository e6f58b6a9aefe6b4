/- point.Sort, point.Has; the document's own Times; coraclealike.Points. -/
import Derived.Test.YtlgadelcgboeoaaDoorPComp
namespace Go.Proofs.YtlgadelcgboeoaaDoor
open Go.ChangeShapes Go.WideShapes Go.ChangeAt Go.RowKit
open Go.Lib (compactUpTo)

theorem follows_mixed : Hid (Tryd.prog.follows .mixedOrders = true) := by show _ = _; kernel_rfl
theorem und_pt : Hid (Tryd.prog.underlying 26 = some (.struct #[{ name := "Tx", type := 24, offset := 0, embedded := false, tag := "", pkgPath := "", byteOffset := 0 }, { name := "N", type := 3, offset := 32, embedded := false, tag := "", pkgPath := "", byteOffset := 32 }])) := Tryd.underlying26

set_option maxRecDepth 100000 in
set_option maxHeartbeats 4000000 in
theorem sort_any (a : Option Addr) (n cap : Nat) (l : List Pt) (w : World) (hp : Pts w a n cap l) (hn : n ≤ 100000) :
    Calls Tryd.prog 10 #[.slice a n cap] w fun e w' => ∃ a' m cap' r, e = .returned (.slice a' m cap') ∧ Inc r ∧ (∀ x, x ∈ r ↔ x ∈ l) ∧ Pts w' a' m cap' r ∧ m ≤ n ∧ Below w.heap.size w w' := by
  have HP : Hid (Pts w a n cap l) := hp
  clear hp
  go_enter Tryd.func10, Tryd.ntmps10
  go_wp2_with fail
  refine (inOrder_any a n cap l w HP.out hn).mono ?_
  rintro e w1 ⟨g, l', rfl, hperm, hup, hB, hg, hb1⟩
  have hl' : l'.length = n := by rw [hperm.length_eq, HP.out.len]
  have HI : Hid (Inc (compactUpTo l'.toArray n) ∧ (∀ x, x ∈ compactUpTo l'.toArray n ↔ x ∈ l)) := by
    have hs : l'.toArray.size = n := by simp [hl']
    have hu : Up l'.toArray.toList := by simpa using hup
    refine ⟨(compact_up l'.toArray hu n (by omega)).1, fun x => ?_⟩
    have := compact_mem hu x
    rw [hs] at this
    rw [this]
    simpa using hperm.mem_iff
  have HLE : Hid ((compactUpTo l'.toArray n).length ≤ n) := by
    show _ ≤ _
    unfold compactUpTo
    rw [List.length_map]
    exact Nat.le_trans (List.length_filter_le _ _) (by simp)
  clear hperm hup
  go_wp2_with fail
  refine (compact_any g n l' w1 hl' hB hn).mono ?_
  rintro e w2 ⟨cs, rfl, hB2, hcs, hb2⟩
  have hb : Below w.heap.size w w2 := hb1.trans (hb2.mono hg)
  have HPT : Hid (Pts w2 (some ⟨g, 0, none⟩) (compactUpTo l'.toArray n).length n (compactUpTo l'.toArray n)) := Pts.of_blk hB2 rfl HLE.out (by unfold maxLen; omega) hcs
  clear hB hB2 hcs hb1 hb2 hl' hg
  generalize compactUpTo l'.toArray n = r at *
  go_wp2_with fail
  go_ret
  exact ⟨_, _, _, r, rfl, HI.out.1, HI.out.2, HPT.out, HLE.out, hb⟩

/-- An outpoint goes into a new variable of its own. -/
theorem wpList_store_new {ops : Array Oper} {rest : List Oper} {o : Oper} {a : Act} {w : World} {Q : Exit → Act → World → Prop} (hgd : o.guard = none) (x y : Operand) (ho : o.op = .store 26 x y)
    (p : Pt) (Z : Array Value) (hx : a.eval x = .pointer (some ⟨w.heap.size, 0, none⟩)) (hy : a.eval y = .agg p.cs.toArray) (hz : Z.size = 33)
    (h : ∀ w', Hid (Blk w' w.heap.size p.cs) → Hid (Below w.heap.size w w') → wpList Tryd.prog ops Q rest (a.put o.dst undef) w') : wpList Tryd.prog ops Q (o :: rest) a (w.alloc (.cells Z 26)) :=
  wpList_store_row hgd 26 x y ho w.heap.size p.cs.toArray hx hy 26 Z (heap_alloc_new _ _) (size_pta p) (by rw [hz, List.size_toArray, p.cs_length]) p.cs_all
    (h _ (Blk.row (cs := Z.toList) ⟨_, heap_alloc_new _ _⟩) (below_setRow ((Below.refl _ _).alloc (Nat.le_refl _) _) (Nat.le_refl _) _))
theorem getD_mem {l : List Pt} {k : Nat} (h : k < l.length) : l.getD k default ∈ l := by
  rw [List.getD_eq_getElem?_getD, List.getElem?_eq_getElem h]; exact List.getElem_mem h
theorem mem_getD {l : List Pt} {p : Pt} (h : p ∈ l) : ∃ k, k < l.length ∧ l.getD k default = p := by
  obtain ⟨k, hk, e⟩ := List.getElem_of_mem h
  exact ⟨k, hk, by rw [List.getD_eq_getElem?_getD, List.getElem?_eq_getElem hk]; exact e⟩

set_option maxRecDepth 100000 in
set_option maxHeartbeats 4000000 in
theorem has_any (a : Option Addr) (n cap : Nat) (l : List Pt) (p : Pt) (w : World) (hp : Pts w a n cap l) (hn : n ≤ 100000) :
    Calls Tryd.prog 16 #[.slice a n cap, .agg p.cs.toArray] w fun e w' => e = .returned (.bool (decide (p ∈ l))) ∧ Below w.heap.size w w' := by
  have HU := und_pt
  have HL : Hid (l.length = n) := hp.len
  go_enter Tryd.func16, Tryd.ntmps16
  go_upto_region 1 with fail
  generalize hw1 : World.alloc w _ = w1
  have hA1 : Blk w1 w.heap.size p.cs := by rw [← hw1]; exact Blk.new _ _ _
  have hb1 : Below w.heap.size w w1 := by rw [← hw1]; exact (Below.refl _ _).alloc (Nat.le_refl _) _
  have hp1 : Pts w1 a n cap l := hp.below hb1
  clear hw1 hp
  generalize hN : w.heap.size = N at *
  have HP1 : Hid (Pts w1 a n cap l) := hp1
  clear hp1
  go_wp2_with fail
  refine wp_scope_hops 1 ?_
  go_hide hQ
  go_wp2_with fail
  go_loopw [5, 10] (fun f i wr => ∃ k : Nat, k ≤ n ∧ f = .bool false ∧ i = .int .i64 k ∧ Hid (∀ j, j < k → l.getD j default ≠ p) ∧ Blk wr N p.cs ∧ Hid (Pts wr a n cap l) ∧ Below N w wr) (fun _ i _ => n - (intOf i).toNat)
  case atStart => exact ⟨0, by omega, rfl, rfl, fun j hj => absurd hj (Nat.not_lt_zero _), hA1, HP1.out, hb1⟩
  case round =>
    obtain ⟨k, hk, rfl, rfl, HE, hA, HPk, hbk⟩ := hrel
    clear hA1 hb1 HP1
    by_cases hlt : k < n
    · have e0 : (0 : Int) ≤ (k : Int) := by omega
      have e1 : (k : Int) < (n : Int) := by omega
      obtain ⟨b, o, rfl, hc⟩ := HPk.out.at k hlt
      obtain ⟨x, hx⟩ : ∃ x, x = l.getD k default := ⟨_, rfl⟩
      rw [← hx] at hc
      have HX : Hid (x = l.getD k default) := hx
      have HC : Hid (wr.rangeAt b (o + k * 33) x.cs) := hc
      have HAB : Hid (Blk wr N p.cs ∧ Below N w wr) := ⟨hA, hbk⟩
      clear hx hc hA hbk
      go_upto_region 5 with (first
        | (refine wpList_load_mid rfl 26 _ rfl b (o + k * 33) rfl x.cs _ HC.out HU.out rfl (size_pt x) ?_)
        | (refine wpList_store_new rfl _ _ rfl x _ rfl rfl rfl ?_; intro w2 HB2 Hb2))
      have HP2 : Hid (Blk w2 N p.cs) := HAB.out.1.below Hb2.out HAB.out.1.lt
      have Hb : Hid (Below N w w2) := HAB.out.2.trans (Hb2.out.mono (Nat.le_of_lt HAB.out.1.lt))
      have HPk2 : Hid (Pts w2 (some ⟨b, o, none⟩) n cap l) := HPk.out.below Hb2.out
      clear HAB Hb2 HC HPk
      have q1 : ∀ w', (binOp .eql 26 (.agg x.cs.toArray) (.agg p.cs.toArray)).run Tryd.prog w' = .ok (.bool (decide (x = p))) w' := eql_pt x p
      have q2 : ∀ (op : BinOp) (u v : Operand) w', (eqGuard op 26 u v (.agg x.cs.toArray) (.agg p.cs.toArray)).run Tryd.prog w' = .ok () w' := fun op u v => guard_pt op u v x p
      have q3 : ∀ w', (Op.equalIn 10000 26 (.agg x.cs.toArray) (.agg p.cs.toArray)).run Tryd.prog w' = .ok (decide (x = p)) w' := equalIn_pt x p
      by_cases hxp : x = p
      · have hd : decide (x = p) = true := decide_eq_true hxp
        have HR : Hid (decide (p ∈ l) = true) := by
          show _ = _
          rw [← hxp, HX.out]; exact decide_eq_true (getD_mem (by rw [HL.out]; exact hlt))
        rw [hd] at q1 q3
        clear hd hxp
        go_wp2_with (first
          | (refine wpList_load_mid rfl 26 _ rfl wr.heap.size 0 rfl x.cs _ HB2.out.whole HU.out rfl (size_pt x) ?_)
          | (refine wpList_load_mid rfl 26 _ rfl N 0 rfl p.cs _ HP2.out.whole HU.out rfl (size_pt p) ?_))
        go_step3
        subst hQ
        refine show hops _ _ _ 1 (Exit.goto 0) _ _ from ?_
        rw [hops_goto]
        refine ⟨_, rfl, ?_⟩
        go_hide hQ
        go_wp2_with fail
        subst hQ
        rw [hops_ret]
        go_ret
        subst hN
        exact ⟨ret_bool HR.out.symm, Hb.out⟩
      · have hd : decide (x = p) = false := decide_eq_false hxp
        have HXP : Hid (¬ x = p) := hxp
        rw [hd] at q1 q3
        clear hd hxp
        go_wp2_with (first
          | (refine wpList_load_mid rfl 26 _ rfl wr.heap.size 0 rfl x.cs _ HB2.out.whole HU.out rfl (size_pt x) ?_)
          | (refine wpList_load_mid rfl 26 _ rfl N 0 rfl p.cs _ HP2.out.whole HU.out rfl (size_pt p) ?_))
        go_roundw
        case rel =>
          refine ⟨k + 1, by omega, rfl, by go_num, fun j hj => ?_, HP2.out, HPk2.out, Hb.out⟩
          by_cases e : j = k
          · subst e; rw [← HX.out]; exact HXP.out
          · exact HE.out j (by omega)
        case measure => simp [intOf]; omega
    · obtain rfl : k = n := by omega
      have HR : Hid (decide (p ∈ l) = false) := by
        show _ = _
        refine decide_eq_false fun hm => ?_
        obtain ⟨j, hj, e⟩ := mem_getD hm
        exact HE.out j (by rw [← HL.out]; exact hj) e
      go_wp2_with fail
      go_step3
      go_wp2_with fail
      subst hQ
      rw [hops_ret]
      go_ret
      subst hN
      exact ⟨ret_bool HR.out.symm, hbk⟩
end Go.Proofs.YtlgadelcgboeoaaDoor
