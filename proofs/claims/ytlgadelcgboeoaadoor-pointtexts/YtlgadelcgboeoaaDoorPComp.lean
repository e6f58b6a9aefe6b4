/- slices.Compact at outpoints: of a row of the caller's own each that is like the one ahead of it goes. -/
import Derived.Test.YtlgadelcgboeoaaDoorPSort
import Derived.Test.YtlgadelcgboeoaaDoorTail
import Derived.Laws.CopyOwn
namespace Go.Proofs.YtlgadelcgboeoaaDoor
open Go.ChangeShapes Go.WideShapes Go.ChangeAt Go.RowKit
open Go.Lib (compactUpTo compactUpTo_all keeps keeps_lt_one keeps_pos keeps_neg CompInv)

theorem Blk.cellsAt {b : Nat} (vs : List Value) : ∀ {w : World} {cs : List Value} (_ : Blk w b cs) (o : Nat), o + vs.length ≤ cs.length → Blk (w.setCells b o vs) b (splice cs o vs) := by
  induction vs with
  | nil => intro w cs h o _; simpa [splice, World.setCells] using h
  | cons v r ih =>
    intro w cs h o hl
    have hl' : o + (r.length + 1) ≤ cs.length := by simpa using hl
    have := ih (h.set o v) (o + 1) (by simp; omega)
    have e : splice (cs.set o v) (o + 1) r = splice cs o (v :: r) := by
      unfold splice
      rw [List.take_add_one, List.take_set_of_le (Nat.le_refl o), List.getElem?_set_self (by omega), List.drop_set_of_lt (by omega)]
      simp [Nat.add_assoc, Nat.add_comm 1 r.length]
    rw [e] at this
    exact this
theorem splice_flat (l : List Pt) (j : Nat) (p : Pt) (hj : j < l.length) : splice (flat l) (j * 33) p.cs = flat (l.set j p) := by
  unfold splice
  rw [List.set_eq_take_append_cons_drop, if_pos hj, flat_append, flat_cons, flat_take, flat_drop, p.cs_length]
  congr 3; omega
theorem Blk.setPt {w : World} {g : Nat} {l : List Pt} (h : Blk w g (flat l)) (j : Nat) (p : Pt) (hj : j < l.length) : Blk (w.setCells g (j * 33) p.cs) g (flat (l.set j p)) := by
  have := h.cellsAt p.cs (j * 33) (by rw [p.cs_length, flat_length]; omega)
  rwa [splice_flat l j p hj] at this
theorem below_setCells {w0 : World} {B g : Nat} (hg : B ≤ g) (vs : List Value) : ∀ {w : World} (_ : Below B w0 w) (o : Nat), Below B w0 (w.setCells g o vs) := by
  induction vs with
  | nil => intro w h o; exact h
  | cons v r ih => intro w h o; exact ih (h.setCell hg v) (o + 1)
theorem Blk.there {w : World} {g : Nat} {cs : List Value} (h : Blk w g cs) (o n : Nat) (hn : o + n ≤ cs.length) : w.there g o n := fun j hj => by
  refine ⟨?_, h.frozen _⟩
  rw [h.cell, List.getElem?_eq_getElem (by omega)]; rfl
theorem Blk.pt {w : World} {g : Nat} {l : List Pt} (h : Blk w g (flat l)) (j : Nat) (hj : j < l.length) : w.rangeAt g (j * 33) (l.getD j default).cs := fun i v hv => by
  have hi : i < 33 := by have := (List.getElem?_eq_some_iff.1 hv).1; rw [Pt.cs_length] at this; exact this
  rw [h.cell, flat_get l j i hj hi]; exact hv

/-- A region that draws its order, and only reads. -/
theorem wp_region_reads {P : Program} {id : Nat} {Q : Exit → Act → World → Prop} {a : Act} {w : World} {l : List Oper} (hm : P.follows .mixedOrders = true) (hB : Region.lexB .any l.toArray = true)
    (h : wpStill P l.toArray w.drew (fun a' => Q .normal a' w.drew) l a) : (Code.region id l.toArray true).wp P Q a w :=
  wp_region_still_lit hm hB h
section
variable {P : Program} {w : World}
/-- clear, elements of many cells. -/
theorem run_clear_many (t e ty : TypeId) (k : Nat) (z : Value) (ht : P.underlying t = some (.slice e)) (hv : ∀ w, (zeroValue e).run P w = .ok z w) (hz : z.cells.size = k) (h1 : ∀ v ∈ z.cells.toList, v.oneCell' = true) (b o n c : Nat) (hn : 0 < n)
    (hth : w.there b o (n * k)) :
    ∃ zs : List Value, zs.length = n * k ∧ (Builtin.clear_ #[t] ty #[.slice (some ⟨b, o, none⟩) n c]).run P w = .ok (.tuple #[]) (w.setCells b o zs) := by
  refine ⟨(Builtin.zeroCells z.cells n).toList, by rw [Array.length_toList, size_zeroCells, hz], ?_⟩
  have hm : ∀ v ∈ (Builtin.zeroCells z.cells n).toList, v.oneCell' = true := by
    intro v hv'
    obtain ⟨i, hi, rfl⟩ := List.getElem_of_mem hv'
    rw [Array.length_toList, size_zeroCells, hz] at hi
    have hk : 0 < k := by
      rcases Nat.eq_zero_or_pos k with h | h
      · rw [h] at hi; simp at hi
      · exact h
    have hq : i % k < z.cells.size := by rw [hz]; exact Nat.mod_lt _ hk
    have : (Builtin.zeroCells z.cells n).toList[i]? = some z.cells[i % k] := by
      simp [Builtin.zeroCells, hz, hi, getElem!_pos z.cells (i % k) hq]
    have h2 := (List.getElem?_eq_some_iff.1 this).2
    rw [h2]
    exact h1 _ (by simp)
  have hst := run_storeCells_cells (P := P) b o (Builtin.zeroCells z.cells n).toList 0 w
    (fun j hj => by rw [Array.length_toList, size_zeroCells, hz] at hj; simpa using (hth j hj).1)
    (fun j hj => by rw [Array.length_toList, size_zeroCells, hz] at hj; simpa using (hth j hj).2) hm
  simp only [Nat.add_zero] at hst
  obtain ⟨m, rfl⟩ : ∃ m, n = m + 1 := ⟨n - 1, by omega⟩
  simp [Builtin.clear_, run_underlying ht, hv, hst]
theorem wpList_clear_many {ops : Array Oper} {rest : List Oper} {op : Oper} {ac : Act} {Q : Exit → Act → World → Prop} (hgd : op.guard = none) (s : Operand) (t : TypeId)
    (ho : op.op = .call { callee := .builtin .clear, args := #[s], argTypes := #[t] }) (e : TypeId) (k : Nat) (z : Value) (ht : P.underlying t = some (.slice e)) (hv : ∀ w, (zeroValue e).run P w = .ok z w) (hz : z.cells.size = k) (h1 : ∀ v ∈ z.cells.toList, v.oneCell' = true)
    (b o n c : Nat) (hs : ac.eval s = .slice (some ⟨b, o, none⟩) n c) (hn : 0 < n) (hth : w.there b o (n * k))
    (h : ∀ zs : List Value, zs.length = n * k → wpList P ops Q rest (ac.put op.dst (.tuple #[])) (w.setCells b o zs)) : wpList P ops Q (op :: rest) ac w := by
  refine wpList_plain hgd fun K hK => ?_
  obtain ⟨zs, hzs, hrun⟩ := run_clear_many (P := P) (w := w) t e op.type k z ht hv hz h1 b o n c hn hth
  unfold Oper.wp
  simp [execOp, ho, resolve, invoke, builtin, hs, hrun, Result.andThen]
  exact hK _ _ (h zs hzs)
end

set_option maxRecDepth 100000 in
set_option maxHeartbeats 4000000 in
theorem compact_any (g n : Nat) (l : List Pt) (w : World) (hl : l.length = n) (hB : Blk w g (flat l)) (hn : n ≤ 100000) :
    Calls Tryd.prog 24 #[.slice (some ⟨g, 0, none⟩) n n] w fun e w' =>
      ∃ cs, e = .returned (.slice (some ⟨g, 0, none⟩) (compactUpTo l.toArray n).length n) ∧ Blk w' g cs ∧ cs.take ((compactUpTo l.toArray n).length * 33) = flat (compactUpTo l.toArray n) ∧ Below g w w' := by
  have hmo : Tryd.prog.follows .mixedOrders = true := by kernel_rfl
  have HMO : Hid (_ = true) := hmo
  clear hmo
  have HU : Hid (_ = _) := Tryd.underlying26
  have HL : Hid (l.length = n) := hl
  have hsz : l.toArray.size = n := by simp [hl]
  have HSZ : Hid (l.toArray.size = n) := hsz
  have HSAME : Hid ((∀ j, j < n → keeps l.toArray j = true) → compactUpTo l.toArray n = l) := fun h => by
    rw [compactUpTo_all l.toArray n h, ← hsz, Go.Lib.range_map_get]
  have HB : Hid (Blk w g (flat l)) := hB
  clear hl hsz hB
  go_enter Tryd.func24, Tryd.ntmps24
  by_cases h2 : n < 2
  · go_wp2_with fail
    go_ret
    have e := HSAME.out fun j hj => keeps_lt_one _ j (by omega)
    rw [e, HL.out]
    exact ⟨flat l, rfl, HB.out, List.take_of_length_le (by rw [flat_length, HL.out]; exact Nat.le_refl _), Below.refl _ _⟩
  · go_wp2_with fail
    go_loopw [3] (fun i wr => ∃ k : Nat, 1 ≤ k ∧ k ≤ n ∧ i = .int .i64 k ∧ Hid (∀ j, j < k → keeps l.toArray j = true) ∧ Blk wr g (flat l) ∧ Below g w wr) (fun i _ => n - (intOf i).toNat)
    case atStart => exact ⟨1, by omega, by omega, rfl, keeps_lt_one _, HB.out, Below.refl _ _⟩
    case round =>
      obtain ⟨k, hk1, hk, rfl, HALL, hBk, hbk⟩ := hrel
      by_cases hlt : k < n
      · have e0 : (0 : Int) ≤ (k : Int) := by omega
        have e1 : (k : Int) < (n : Int) := by omega
        have e2 : (0 : Int) ≤ (k : Int) - 1 := by omega
        have e3 : (k : Int) - 1 < (n : Int) := by omega
        have e4 : ((k : Int) - 1).toNat = k - 1 := by omega
        have e6 : (1 : Int) ≤ (k : Int) := by omega
        have e5 : IntKind.i64.wrap ((k : Int) - 1) = (k : Int) - 1 := i64_fit (by omega) (by omega)
        have c1 := hBk.drew.pt k (by rw [HL.out]; exact hlt)
        have c0 := hBk.drew.pt (k - 1) (by rw [HL.out]; omega)
        obtain ⟨x, hx⟩ : ∃ x, x = l.getD k default := ⟨_, rfl⟩
        obtain ⟨y, hy⟩ : ∃ y, y = l.getD (k - 1) default := ⟨_, rfl⟩
        rw [← hx] at c1
        rw [← hy] at c0
        have HX : Hid (x = l.toArray[k]!) := by
          show _ = _
          rw [hx, getElem!_pos _ _ (by rw [HSZ.out]; exact hlt)]
          simp [List.getD_eq_getElem?_getD, HL.out, hlt]
        have HY : Hid (y = l.toArray[k - 1]!) := by
          show _ = _
          rw [hy, getElem!_pos _ _ (by rw [HSZ.out]; omega)]
          simp [List.getD_eq_getElem?_getD, HL.out, show k - 1 < n by omega]
        have C1 : Hid (wr.drew.rangeAt g (k * 33) x.cs) := c1
        have C0 : Hid (wr.drew.rangeAt g ((k - 1) * 33) y.cs) := c0
        have HBK : Hid (Blk wr g (flat l) ∧ Below g w wr) := ⟨hBk, hbk⟩
        clear c1 c0 hx hy hBk hbk HB
        have q1 : ∀ w', (binOp .eql 26 (.agg x.cs.toArray) (.agg y.cs.toArray)).run Tryd.prog w' = .ok (.bool (decide (x = y))) w' := eql_pt x y
        have q2 : ∀ (op : BinOp) (u v : Operand) w', (eqGuard op 26 u v (.agg x.cs.toArray) (.agg y.cs.toArray)).run Tryd.prog w' = .ok () w' := fun op u v => guard_pt op u v x y
        have q3 : ∀ w', (Op.equalIn 10000 26 (.agg x.cs.toArray) (.agg y.cs.toArray)).run Tryd.prog w' = .ok (decide (x = y)) w' := equalIn_pt x y
        go_wp2_with fail
        refine wp_region_reads HMO.out (by kernel_rfl) ?_
        iterate 3 still_step
        refine still_load_mid rfl 26 _ rfl g (k * 33) rfl x.cs _ C1.out HU.out rfl (size_pt x) ?_
        simp only [Act.put, List.setIfInBounds_toArray, List.set_cons_zero, List.set_cons_succ]
        iterate 4 still_step
        refine still_load_mid rfl 26 _ rfl g ((k - 1) * 33) rfl y.cs _ C0.out HU.out rfl (size_pt y) ?_
        simp only [Act.put, List.setIfInBounds_toArray, List.set_cons_zero, List.set_cons_succ]
        still_step
        refine wpStill_nil ?_
        by_cases hxy : x = y
        · have hd : decide (x = y) = true := decide_eq_true hxy
          rw [hd]
          clear q1 q2 q3 C1 C0 hd
          have f1 : ¬ n = k := by omega
          have f2 : (k : Int) ≤ (n : Int) := by omega
          have HI0 : Hid (CompInv l.toArray (k + 1) k l.toArray) := CompInv.start HALL.out (keeps_neg (by omega) (by rw [← HX.out, ← HY.out]; exact hxy))
          clear HX HY hxy
          have HBD : Hid (Blk wr.drew g (flat l) ∧ Below g w wr.drew) := ⟨HBK.out.1.drew, HBK.out.2.drew⟩
          clear HBK
          generalize wr.drew = wq at HBD ⊢
          go_wp2_with fail
          go_loopw [3, 5] (fun i3 i5 wr => ∃ (kk k2 : Nat) (dk : Array Pt), i3 = .int .i64 kk ∧ i5 = .int .i64 k2 ∧ 1 ≤ k2 ∧ k + k2 ≤ n ∧ Hid (CompInv l.toArray (k + k2) kk dk) ∧ Blk wr g (flat dk.toList) ∧ Below g w wr) (fun _ i5 _ => n - k - (intOf i5).toNat)
          case atStart => exact ⟨k, 1, l.toArray, rfl, rfl, Nat.le_refl _, by omega, HI0.out, HBD.out.1, HBD.out.2⟩
          case round =>
            obtain ⟨kk, k2, dk, rfl, rfl, h1, hle, HI, hBk, hbk⟩ := hrel
            clear HBD HI0
            have hkk := HI.out.lt
            have hds : dk.toList.length = n := by rw [Array.length_toList, HI.out.size, HSZ.out]
            have d0 : (0 : Int) ≤ (kk : Int) := by omega
            have d1 : (kk : Int) < (n : Int) := by omega
            have d2 : (kk : Int) ≤ (n : Int) := by omega
            have d3 : ¬ n = kk := by omega
            by_cases hlt2 : k + k2 < n
            · have g0 : (0 : Int) ≤ (k2 : Int) := by omega
              have g3 : (1 : Int) ≤ (k2 : Int) := by omega
              have g4 : ((k2 : Int) - 1).toNat = k2 - 1 := by omega
              have g5 : IntKind.i64.wrap ((k2 : Int) - 1) = (k2 : Int) - 1 := i64_fit (by omega) (by omega)
              have g6 : (k2 : Int) - 1 < ((n - k : Nat) : Int) := by omega
              have g7 : (k2 : Int) < ((n - k : Nat) : Int) := by omega
              have g8 : k2 < n - k := by omega
              have c1 := hBk.drew.pt (k + k2) (by rw [hds]; exact hlt2)
              have c0 := hBk.drew.pt (k + (k2 - 1)) (by rw [hds]; omega)
              rw [Nat.add_mul] at c1 c0
              obtain ⟨u, hu⟩ : ∃ u, u = dk.toList.getD (k + k2) default := ⟨_, rfl⟩
              obtain ⟨v, hv⟩ : ∃ v, v = dk.toList.getD (k + (k2 - 1)) default := ⟨_, rfl⟩
              rw [← hu] at c1
              rw [← hv] at c0
              have HUU : Hid (u = l.toArray[k + k2]!) := by
                show _ = _
                rw [hu, ← HI.out.high (k + k2) (by omega), getElem!_pos dk _ (by rw [← Array.length_toList, hds]; exact hlt2)]
                simp [List.getD_eq_getElem?_getD, show k + k2 < dk.size by rw [← Array.length_toList, hds]; exact hlt2]
              have HVV : Hid (v = l.toArray[k + k2 - 1]!) := by
                show _ = _
                rw [hv, ← HI.out.high (k + k2 - 1) (by omega), show k + k2 - 1 = k + (k2 - 1) by omega, getElem!_pos dk _ (by rw [← Array.length_toList, hds]; omega)]
                simp [List.getD_eq_getElem?_getD, show k + (k2 - 1) < dk.size by rw [← Array.length_toList, hds]; omega]
              have C1 : Hid (wr.drew.rangeAt g (k * 33 + k2 * 33) u.cs) := c1
              have C0 : Hid (wr.drew.rangeAt g (k * 33 + (k2 - 1) * 33) v.cs) := c0
              have HBK : Hid (Blk wr.drew g (flat dk.toList) ∧ Below g w wr.drew) := ⟨hBk.drew, hbk.drew⟩
              clear c1 c0 hu hv hBk hbk
              have q1 : ∀ w', (binOp .neq 26 (.agg u.cs.toArray) (.agg v.cs.toArray)).run Tryd.prog w' = .ok (.bool (!decide (u = v))) w' := neq_pt u v
              have q2 : ∀ (op : BinOp) (x y : Operand) w', (eqGuard op 26 x y (.agg u.cs.toArray) (.agg v.cs.toArray)).run Tryd.prog w' = .ok () w' := fun op x y => guard_pt op x y u v
              have q3 : ∀ w', (Op.equalIn 10000 26 (.agg u.cs.toArray) (.agg v.cs.toArray)).run Tryd.prog w' = .ok (decide (u = v)) w' := equalIn_pt u v
              go_wp2_with fail
              refine wp_region_reads HMO.out (by kernel_rfl) ?_
              iterate 3 still_step
              refine still_load_mid rfl 26 _ rfl g (k * 33 + k2 * 33) rfl u.cs _ C1.out HU.out rfl (size_pt u) ?_
              simp only [Act.put, List.setIfInBounds_toArray, List.set_cons_zero, List.set_cons_succ]
              iterate 4 still_step
              refine still_load_mid rfl 26 _ rfl g (k * 33 + (k2 - 1) * 33) rfl v.cs _ C0.out HU.out rfl (size_pt v) ?_
              simp only [Act.put, List.setIfInBounds_toArray, List.set_cons_zero, List.set_cons_succ]
              still_step
              refine wpStill_nil ?_
              by_cases huv : u = v
              · have hd : decide (u = v) = true := decide_eq_true huv
                rw [hd]
                clear q1 q2 q3 C1 C0 hd
                go_wp2_with fail
                go_roundw
                case rel =>
                  obtain ⟨hh1, hh2⟩ := HBK.out
                  exact ⟨kk, k2 + 1, dk, rfl, by go_num, by omega, by omega, HI.out.skip (keeps_neg (by omega) (by rw [← HUU.out, ← HVV.out]; exact huv)), hh1, hh2⟩
                case measure => simp [intOf]; omega
              · have hd : decide (u = v) = false := decide_eq_false huv
                rw [hd]
                clear q1 q2 q3 C0 hd
                have HTH : Hid (wr.drew.there g (kk * 33) u.cs.toArray.size) := HBK.out.1.there _ _ (by rw [List.size_toArray, u.cs_length, flat_length, hds]; omega)
                go_wp2_with (first
                  | (refine wpList_load_mid rfl 26 _ rfl g (k * 33 + k2 * 33) rfl u.cs _ C1.out HU.out rfl (size_pt u) ?_)
                  | (refine wpList_store_mid rfl 26 _ _ rfl g (kk * 33) u.cs.toArray rfl rfl HTH.out (size_pta u) u.cs_all ?_))
                go_roundw
                case rel =>
                  obtain ⟨hh1, hh2⟩ := HBK.out
                  have hi := HI.out.keep (by rw [HSZ.out]; exact hlt2) (keeps_pos (by rw [← HUU.out, ← HVV.out]; exact huv))
                  rw [← HUU.out] at hi
                  refine ⟨kk + 1, k2 + 1, _, by go_num, by go_num, by omega, by omega, hi, ?_, below_setCells (Nat.le_refl _) _ hh2 _⟩
                  have := hh1.setPt kk u (by rw [hds]; omega)
                  simpa using this
                case measure => simp [intOf]; omega
            · have hend : k + k2 = n := by omega
              have HTH : Hid (wr.there g (kk * 33) ((n - kk) * 33)) := hBk.there _ _ (by rw [flat_length, hds]; omega)
              have HBK : Hid (Blk wr g (flat dk.toList) ∧ Below g w wr) := ⟨hBk, hbk⟩
              have d4 : ¬ k2 < n - k := by omega
              clear hBk hbk
              go_wp2_with (show wpList _ _ _ [Oper.mk none _ _ _ _ _] _ _; refine wpList_clear_many rfl _ 22 rfl 26 33 _ Tryd.underlying22 Tryd.zeroValue26 rfl (by decide) g (kk * 33) (n - kk) (n - kk) rfl (by omega) HTH.out ?_)
              intro zs hzs
              obtain ⟨hh1, hh2⟩ := HBK.out
              have hB2 := hh1.cellsAt zs (kk * 33) (by rw [hzs, flat_length, hds]; omega)
              have hb2 := below_setCells (Nat.le_refl _) zs hh2 (kk * 33)
              generalize wr.setCells g (kk * 33) zs = w2 at hB2 hb2 ⊢
              have HB2 : Hid (Blk w2 g _ ∧ Below g w w2) := ⟨hB2, hb2⟩
              clear hh1 hh2 hB2 hb2 HTH HBK
              go_wp2_with fail
              go_ret
              have hi := HI.out
              rw [hend] at hi
              have he : compactUpTo l.toArray n = dk.toList.take kk := by
                apply List.ext_getElem?
                intro j
                rw [List.getElem?_take]
                by_cases hj : j < kk
                · rw [if_pos hj, hi.low j hj, getElem!_pos dk j (by rw [← Array.length_toList, hds]; omega)]
                  simp [show j < dk.size by rw [← Array.length_toList, hds]; omega]
                · rw [if_neg hj, List.getElem?_eq_none (by rw [hi.len]; omega)]
              refine ⟨_, by rw [hi.len]; rfl, HB2.out.1, ?_, HB2.out.2⟩
              rw [hi.len, he, flat_take]
              unfold splice
              rw [List.take_append_of_le_length (by rw [List.length_take, flat_length, hds]; omega), List.take_take, Nat.min_self]
        · have hd : decide (x = y) = false := decide_eq_false hxy
          rw [hd]
          clear q1 q2 q3 C1 C0 hd
          go_wp2_with fail
          go_roundw
          case rel =>
            obtain ⟨h1, h2⟩ := HBK.out
            refine ⟨k + 1, by omega, by omega, by go_num, fun j hj => ?_, h1.drew, h2.drew⟩
            by_cases e : j = k
            · subst e; exact keeps_pos (by rw [← HX.out, ← HY.out]; exact hxy)
            · exact HALL.out j (by omega)
          case measure => simp [intOf]; omega
      · obtain rfl : k = n := by omega
        go_wp2_with fail
        go_ret
        have e := HSAME.out HALL.out
        rw [e, HL.out]
        exact ⟨flat l, rfl, hBk, List.take_of_length_le (by rw [flat_length, HL.out]; exact Nat.le_refl _), hbk⟩
end Go.Proofs.YtlgadelcgboeoaaDoor
