/- One more outpoint into a row that is sorted, each once; appends and literals as steps of a region that draws its order; parts of rows. No program's text is walked here. -/
import Derived.Test.YtlgadelcgboeoaaDoorPRefLess
namespace Go.Proofs.YtlgadelcgboeoaaDoor
open Go.RowKit

theorem getD_take {l : List Pt} {k j : Nat} (h : j < k) : (l.take k).getD j default = l.getD j default := by
  rw [List.getD_eq_getElem?_getD, List.getD_eq_getElem?_getD, List.getElem?_take_of_lt h]
theorem inc_put {s : List Pt} {x : Pt} {k : Nat} (hs : Inc s) (hk : k ≤ s.length) (h1 : ∀ j, k ≤ j → j < s.length → ltPt x (s.getD j default) = true)
    (h2 : k = 0 ∨ ltPt x (s.getD (k - 1) default) = false) (h3 : k = 0 ∨ s.getD (k - 1) default ≠ x) : Inc (s.take k ++ [x] ++ s.drop k) := by
  have hlow : ∀ y ∈ s.take k, ltPt y x = true := by
    intro y hy
    obtain ⟨j, hj, e⟩ := mem_getD hy
    rw [List.length_take] at hj
    rw [getD_take (by omega)] at e
    have hk0 : k ≠ 0 := by omega
    have hl : ltPt (s.getD (k - 1) default) x = true := by
      cases u : ltPt (s.getD (k - 1) default) x with
      | true => rfl
      | false => exact absurd (ltPt_conn u (h2.resolve_left hk0)) (h3.resolve_left hk0)
    by_cases hjk : j = k - 1
    · rw [← e, hjk]; exact hl
    · rw [← e]; exact ltPt_trans (inc_lt hs (show j < k - 1 by omega) (by omega)) hl
  have hhigh : ∀ y ∈ s.drop k, ltPt x y = true := by
    intro y hy
    obtain ⟨j, hj, e⟩ := mem_getD hy
    rw [List.length_drop] at hj
    rw [← e, List.getD_eq_getElem?_getD, List.getElem?_drop, ← List.getD_eq_getElem?_getD]
    exact h1 _ (by omega) (by omega)
  unfold Inc at *
  rw [List.append_assoc, List.pairwise_append]
  refine ⟨hs.sublist (List.take_sublist _ _), ?_, fun y hy z hz => ?_⟩
  · rw [List.singleton_append, List.pairwise_cons]
    exact ⟨hhigh, hs.sublist (List.drop_sublist _ _)⟩
  · rcases List.mem_append.1 hz with hz | hz
    · rw [List.mem_singleton.1 hz]; exact hlow y hy
    · exact ltPt_trans (hlow y hy) (hhigh z hz)
theorem mem_put {s : List Pt} {x y : Pt} {k : Nat} : y ∈ s.take k ++ [x] ++ s.drop k ↔ y ∈ s ∨ y = x := by
  have e : ∀ z, z ∈ s ↔ z ∈ s.take k ∨ z ∈ s.drop k := fun z => by
    rw [← List.mem_append, List.take_append_drop]
  rw [e y]
  simp only [List.mem_append, List.mem_singleton]
  constructor
  · rintro ((h | h) | h)
    · exact .inl (.inl h)
    · exact .inr h
    · exact .inl (.inr h)
  · rintro ((h | h) | h)
    · exact .inl (.inl h)
    · exact .inr h
    · exact .inl (.inr h)

section
variable {ops : Array Oper} {o : Oper} {ac : Act} {w : World} {K : Act → World → Prop} {Q : Exit → Act → World → Prop} {E : Prop}
theorem step_append_pts (hgd : o.guard = none) (s x : Operand)
    (ho : o.op = .call { callee := .builtin .append, args := #[s, x], argTypes := #[22, 22] }) (N : Nat) (v : Value) (l : List Pt) (hs : ac.eval s = v) (h : Own w N v l)
    (a : Option Addr) (m cap : Nat) (r : List Pt) (hx : ac.eval x = .slice a m cap) (hr : Pts w a m cap r) (hm : l.length + m ≤ 1000000) (hN : N ≤ w.heap.size)
    (hK : ∀ v' w', Hid (Own w' N v' (l ++ r)) → Hid (w.grownBy w' v.ownBlock) → K (ac.put o.dst v') w') : if Region.wanted o (yielded ops ac.tmps) = true then Oper.wp Tryd.prog o ac w K Q else E := by
  have hw : Region.wanted o (yielded ops ac.tmps) = true := by simp [Region.wanted, hgd]
  rw [if_pos hw]
  obtain ⟨v', w', hrun, h1, h2, _⟩ := run_append_pts o.type h hr hm hN
  unfold Oper.wp execOp
  simp only [ho, resolve, invoke, builtin, Sem.run_bind, Sem.run_pure, Result.andThen_ok, List.map_toArray, List.map_cons, List.map_nil, hs, hx, hrun]
  exact hK v' w' h1 h2
theorem step_build_one (hgd : o.guard = none) (y : Operand) (ho : o.op = .buildSlice 22 1 #[(0, y)]) (p : Pt) (hy : ac.eval y = .agg p.cs.toArray)
    (hK : ∀ w', Hid (Pts w' (some ⟨w.heap.size, 0, none⟩) 1 1 [p]) → Hid (w' = w.alloc (.cells (flat [p]).toArray 26)) → K (ac.put o.dst (.slice (some ⟨w.heap.size, 0, none⟩) 1 1)) w') :
    if Region.wanted o (yielded ops ac.tmps) = true then Oper.wp Tryd.prog o ac w K Q else E := by
  have hw : Region.wanted o (yielded ops ac.tmps) = true := by simp [Region.wanted, hgd]
  rw [if_pos hw]
  obtain ⟨i, hi, hi1, hi2, hi3⟩ := info_parts Tryd.infoPt
  refine wp_buildSlice _ 26 1 _ ho (flat [p]).toArray i _ Tryd.underlying22 hi hi1 (by rw [hi2]; omega) (by rw [hi2]; omega) ?_ (hK _ (Pts.lit w [p] 1 rfl (by omega)) rfl)
  have hp : ((#[(0, y)] : Array (Nat × Operand)).map fun (i, x) => (i, ac.eval x)).toList = (([p].map fun p => Value.agg p.cs.toArray).zipIdx 0).map fun x => (x.2, x.1) := by
    rw [Array.toList_map]
    simp [hy]
  rw [hp, hi2]
  have := Go.Great.fill_whole (s := 33) (by omega) ([p].map fun p => Value.agg p.cs.toArray) ((Array.range (1 * 33)).map ((Value.agg (default : Pt).cs.toArray).cells[· % (Value.agg (default : Pt).cs.toArray).cells.size]!)) (fun v hv => by
    obtain ⟨p, _, rfl⟩ := List.mem_map.1 hv
    show p.cs.toArray.size = 33
    rw [List.size_toArray, p.cs_length]) (by simp)
  rw [this, flat_values]
theorem step_build_none (hgd : o.guard = none) (ho : o.op = .buildSlice 22 0 #[])
    (hK : ∀ w', Hid (Own w' w.heap.size (.slice (some ⟨w.heap.size, 0, none⟩) 0 0) []) → Hid (w' = w.alloc (.cells #[] 26)) → K (ac.put o.dst (.slice (some ⟨w.heap.size, 0, none⟩) 0 0)) w') :
    if Region.wanted o (yielded ops ac.tmps) = true then Oper.wp Tryd.prog o ac w K Q else E := by
  have hw : Region.wanted o (yielded ops ac.tmps) = true := by simp [Region.wanted, hgd]
  rw [if_pos hw]
  obtain ⟨i, hi, hi1, hi2, hi3⟩ := info_parts Tryd.infoPt
  unfold Oper.wp execOp
  simp [ho, Instr.buildSlice, run_underlying Tryd.underlying22, sizeOf, typeInfo, hi, Instr.fill, newRow]
  rw [show (Array.map (fun _ => default) (Array.range 0) : Array Value) = #[] by simp]
  exact hK _ ⟨rfl, .inr ⟨w.heap.size, 0, #[], rfl, Nat.le_refl _, heap_alloc_new w _, Nat.le_refl _, Nat.zero_le _, rfl, rfl⟩⟩ rfl
end

section
variable {w w' : World} {a : Option Addr} {n cap : Nat} {l : List Pt}
/-- The beginning of a slice. -/
theorem Pts.take (h : Pts w a n cap l) (k : Nat) (hk : k ≤ n) : Pts w a k cap (l.take k) :=
  ⟨by rw [List.length_take, h.len]; omega, Nat.le_trans hk h.fits, h.most, h.bare, fun h0 => by
    obtain ⟨b, o, ha, hc⟩ := h.there (by omega)
    refine ⟨b, o, ha, fun j v hv => hc j v ?_⟩
    rw [flat_take, List.getElem?_take] at hv
    split at hv
    · exact hv
    · cases hv⟩
/-- The rest of a slice; its address where it is empty is whatever. -/
theorem Pts.drop (h : Pts w a n cap l) (k : Nat) (hk : k ≤ n) (a' : Option Addr) (h0 : a' = none → cap - k = 0) (ha : ∀ b o, a = some ⟨b, o, none⟩ → k < n → a' = some ⟨b, o + k * 33, none⟩) : Pts w a' (n - k) (cap - k) (l.drop k) :=
  ⟨by rw [List.length_drop, h.len], by have := h.fits; omega, by have := h.most; omega, h0, fun hn => by
    obtain ⟨b, o, e, hc⟩ := h.there (by omega)
    refine ⟨b, o + k * 33, ha b o e (by omega), fun j v hv => ?_⟩
    rw [flat_drop, List.getElem?_drop] at hv
    rw [Nat.add_assoc]
    exact hc _ _ hv⟩
theorem adr_none {sa adr : Option Addr} {sc k : Nat} (hb : sa = none → sc = 0) (h : (if sc = k then sa else Option.map (fun x => x.add (k * 33)) sa) = adr) : adr = none → sc - k = 0 := by
  intro e
  rw [← h] at e
  by_cases c : sc = k
  · omega
  · rw [if_neg c] at e
    cases sa with
    | none => rw [hb rfl]; omega
    | some x => cases e
theorem Pts.kept {g : Nat} {row : Option Nat} (h : Pts w (some ⟨g, 0, none⟩) n cap l) (hg : w.grownBy w' row) (hne : some g ≠ row) : Pts w' (some ⟨g, 0, none⟩) n cap l :=
  ⟨h.len, h.fits, h.most, h.bare, fun h0 => by
    obtain ⟨b, o, e, hc⟩ := h.there h0
    injection e with e
    injection e with e1 e2
    subst e1; subst e2
    exact ⟨g, 0, rfl, fun j v hv => hg.cell (hc j v hv) hne⟩⟩
end
end Go.Proofs.YtlgadelcgboeoaaDoor
