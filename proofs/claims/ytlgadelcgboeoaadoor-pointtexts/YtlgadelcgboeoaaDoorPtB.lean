/- Rows of outpoints in memory: read, copied, cleared. No program's text is walked here. -/
import Derived.Test.YtlgadelcgboeoaaDoorPLess
import Derived.Laws.CopyRow
import Derived.Laws.OwnMore
import Derived.Shelf.SlSortFuncK.RowK2
namespace Go.Proofs.YtlgadelcgboeoaaDoor
open Go.RowKit

/-- The cells of outpoints one behind the other. -/
def flat (l : List Pt) : List Value := (l.map Pt.cs).flatten
theorem flat_nil : flat [] = [] := rfl
theorem flat_cons (p : Pt) (l : List Pt) : flat (p :: l) = p.cs ++ flat l := rfl
theorem flat_append (l m : List Pt) : flat (l ++ m) = flat l ++ flat m := by simp [flat]
theorem flat_one (p : Pt) : flat [p] = p.cs := by simp [flat]
theorem flat_length (l : List Pt) : (flat l).length = l.length * 33 := by
  induction l with
  | nil => rfl
  | cons p l ih => rw [flat_cons, List.length_append, ih, p.cs_length, List.length_cons]; omega
theorem flat_mem (l : List Pt) : ∀ v ∈ flat l, v.oneCell' = true := fun v hv => by
  obtain ⟨x, hx, hv⟩ := List.mem_flatten.1 hv
  obtain ⟨p, _, rfl⟩ := List.mem_map.1 hx
  exact p.cs_mem v hv
theorem flat_get (l : List Pt) : ∀ j i, j < l.length → i < 33 → (flat l)[j * 33 + i]? = (l.getD j default).cs[i]? := by
  induction l with
  | nil => intro j i hj _; simp at hj
  | cons p l ih =>
    intro j i hj hi
    have hl := p.cs_length
    cases j with
    | zero =>
      rw [flat_cons, List.getElem?_append_left (by omega)]
      simp
    | succ j =>
      rw [flat_cons, List.getElem?_append_right (by omega), show (j + 1) * 33 + i - p.cs.length = j * 33 + i by omega, ih j i (by simpa using hj) hi]
      simp
theorem flat_take (l : List Pt) (k : Nat) : flat (l.take k) = (flat l).take (k * 33) := by
  induction l generalizing k with
  | nil => simp [flat]
  | cons p l ih =>
    cases k with
    | zero => simp [flat]
    | succ k =>
      have hl := p.cs_length
      rw [List.take_succ_cons, flat_cons, flat_cons, List.take_append, ih k, List.take_of_length_le (l := p.cs) (by omega), show (k + 1) * 33 - p.cs.length = k * 33 by omega]
theorem flat_drop (l : List Pt) (k : Nat) : flat (l.drop k) = (flat l).drop (k * 33) := by
  induction l generalizing k with
  | nil => simp [flat]
  | cons p l ih =>
    cases k with
    | zero => simp
    | succ k =>
      have hl := p.cs_length
      rw [List.drop_succ_cons, flat_cons, List.drop_append, ih k, List.drop_of_length_le (l := p.cs) (by omega), List.nil_append, show (k + 1) * 33 - p.cs.length = k * 33 by omega]
theorem flatK_flat (d : Array Pt) : Go.Sort.flatK Pt.cs 33 d = (flat d.toList).toArray := by
  apply Array.toList_inj.1
  apply List.ext_getElem?
  intro t
  by_cases ht : t < d.size * 33
  · have e : (flat d.toList)[t]? = (d.toList.getD (t / 33) default).cs[t % 33]? := by
      have := flat_get d.toList (t / 33) (t % 33) (by rw [Array.length_toList]; omega) (Nat.mod_lt _ (by omega))
      rw [← this]; congr 1; omega
    have hm : t % 33 < 33 := Nat.mod_lt _ (by omega)
    have hq : t / 33 < d.size := by omega
    have hc := (d[t / 33]!).cs_length
    have hd : d.toList.getD (t / 33) default = d[t / 33]! := by simp [List.getD_eq_getElem?_getD, hq]
    rw [e, hd]
    unfold Go.Sort.flatK
    simp only [Array.toList_map, Array.toList_range, List.getElem?_map, List.getElem?_range ht, Option.map_some]
    rw [List.getElem?_eq_getElem (by omega), getElem!_pos _ _ (by omega)]
  · rw [List.getElem?_eq_none (by simp [Go.Sort.flatK]; omega), List.getElem?_eq_none (by simp [flat_length]; omega)]

/-- A slice reads as these outpoints. -/
structure Pts (w : World) (a : Option Addr) (n cap : Nat) (l : List Pt) : Prop where
  len : l.length = n
  fits : n ≤ cap
  most : cap ≤ maxLen
  bare : a = none → cap = 0
  there : 0 < n → ∃ b o, a = some ⟨b, o, none⟩ ∧ w.rangeAt b o (flat l)
section
variable {w w' : World} {a : Option Addr} {n cap : Nat} {l : List Pt}
theorem rangeAt_below {b o B : Nat} {cs : List Value} (h : w.rangeAt b o cs) (hb : Below B w w') (hB : w.heap.size ≤ B) : w'.rangeAt b o cs := fun j v hv => by
  have hc := h j v hv
  have hl := World.block_lt_of_cell? w _ hc
  rw [World.cell?_of_block (hb.block _ (Nat.lt_of_lt_of_le hl hB))]; exact hc
theorem Pts.below (h : Pts w a n cap l) (hb : Below w.heap.size w w') : Pts w' a n cap l :=
  ⟨h.len, h.fits, h.most, h.bare, fun hn => by
    obtain ⟨b, o, ha, hc⟩ := h.there hn
    exact ⟨b, o, ha, rangeAt_below hc hb (Nat.le_refl _)⟩⟩
theorem Pts.at (h : Pts w a n cap l) (j : Nat) (hj : j < n) : ∃ b o, a = some ⟨b, o, none⟩ ∧ w.rangeAt b (o + j * 33) (l.getD j default).cs := by
  obtain ⟨b, o, ha, hc⟩ := h.there (by omega)
  refine ⟨b, o, ha, fun i v hv => ?_⟩
  have hi : i < 33 := by have := (List.getElem?_eq_some_iff.1 hv).1; rw [Pt.cs_length] at this; exact this
  rw [Nat.add_assoc]
  exact hc _ _ (by rw [flat_get l j i (by rw [h.len]; exact hj) hi]; exact hv)
/-- The cells, as an append asks for them. -/
theorem Pts.cells (h : Pts w a n cap l) {x : Addr} (hx : a = some x) : ∀ j v, (flat l)[j]? = some v → w.cell? (x.add j) = some v := fun j v hv => by
  have hj := (List.getElem?_eq_some_iff.1 hv).1
  rw [flat_length, h.len] at hj
  obtain ⟨b, o, ha, hc⟩ := h.there (by omega)
  rw [hx] at ha
  injection ha with ha
  rw [ha, Addr.add_mid]
  exact hc j v hv
theorem Pts.of_blk {g : Nat} {cs : List Value} (h : Blk w g cs) (hn : l.length = n) (hc : n ≤ cap) (hm : cap ≤ maxLen) (ht : cs.take (n * 33) = flat l) : Pts w (some ⟨g, 0, none⟩) n cap l :=
  ⟨hn, hc, hm, (fun e => nomatch e), fun _ => ⟨g, 0, rfl, fun j v hv => by
    rw [Nat.zero_add, h.cell, ← hv, ← ht, List.getElem?_take]
    have hj := (List.getElem?_eq_some_iff.1 hv).1
    rw [flat_length, hn] at hj
    rw [if_pos hj]⟩⟩
theorem Pts.nil (w : World) : Pts w none 0 0 [] := ⟨rfl, Nat.le_refl _, Nat.zero_le _, fun _ => rfl, fun h => absurd h (Nat.lt_irrefl _)⟩
theorem Pts.of_own {B : Nat} {e : TypeId} {v : Value} (h : w.ownsRow B e 33 v n (flat l)) : ∃ a cap, v = .slice a n cap ∧ Pts w a n cap l := by
  have hl : l.length = n := by
    have := h.1; rw [flat_length] at this; omega
  rcases h.2 with ⟨rfl, rfl⟩ | ⟨g, cap, cur, rfl, _, hg, hn, hm, hs, ht⟩
  · exact ⟨none, 0, rfl, by
      obtain rfl : l = [] := List.eq_nil_of_length_eq_zero hl
      exact Pts.nil w⟩
  · exact ⟨_, _, rfl, Pts.of_blk (cs := cur.toList) ⟨e, by simpa using hg⟩ hl hn hm ht⟩
end

section
variable {P : Program} {w : World}
/-- copy, elements of many cells, into the head of a row of the call's own. -/
theorem run_copy_many (dT sT ty elem : TypeId) (k g dCap : Nat) (a : Option Addr) (n sCap : Nat) (cur : List Value) (t : TypeId) (cs : List Value)
    (hu : P.underlying dT = some (.slice elem)) (hs : ∀ w, (sizeOf elem).run P w = .ok k w)
    (hg : w.heap[g]? = some (.cells cur.toArray t (0, 0))) (hn : cs.length = n * k) (hcur : cur.length = n * k)
    (hsrc : 0 < n → ∃ x, a = some x ∧ ∀ j v, cs[j]? = some v → w.cell? (x.add j) = some v) (h1 : ∀ v ∈ cs, v.oneCell' = true) :
    (Builtin.copy_ #[dT, sT] ty #[.slice (some ⟨g, 0, none⟩) n dCap, .slice a n sCap]).run P w = .ok (goInt n) (w.setRow g cs.toArray) := by
  have hst := run_storeCells_at P g 0 t cs 0 cur.toArray w hg (by simp; omega) h1
  have e : (cur.toArray.toList.take (0 + 0) ++ cs ++ cur.toArray.toList.drop (0 + 0 + cs.length)) = cs := by
    simp [List.drop_of_length_le (show cur.length ≤ cs.length by omega)]
  rw [e] at hst
  by_cases h0 : n = 0
  · subst h0
    obtain rfl : cs = [] := List.eq_nil_of_length_eq_zero (by omega)
    have hl : ∀ (x : Addr), (loadCells x 0).run P w = .ok #[] w := fun x => by simpa using run_loadCells_list (P := P) w x [] (by simp)
    cases a <;> simp [Builtin.copy_, run_underlying hu, Builtin.lenOf, Builtin.firstCells, hs, hl, hst]
  · obtain ⟨x, rfl, hx⟩ := hsrc (by omega)
    have hl := run_loadCells_list (P := P) w x cs hx
    rw [hn] at hl
    simp [Builtin.copy_, run_underlying hu, Builtin.lenOf, Builtin.firstCells, hs, hl, hst]
theorem wpList_copy_many {ops : Array Oper} {rest : List Oper} {o : Oper} {ac : Act} {Q : Exit → Act → World → Prop} (hgd : o.guard = none) (d s : Operand) (dT sT : TypeId)
    (ho : o.op = .call { callee := .builtin .copy, args := #[d, s], argTypes := #[dT, sT] }) (elem : TypeId) (k : Nat) (hu : P.underlying dT = some (.slice elem)) (hs : ∀ w, (sizeOf elem).run P w = .ok k w)
    (g n dCap : Nat) (a : Option Addr) (sCap : Nat) (hd : ac.eval d = .slice (some ⟨g, 0, none⟩) n dCap) (hx : ac.eval s = .slice a n sCap)
    (cur : List Value) (t : TypeId) (hg : w.heap[g]? = some (.cells cur.toArray t (0, 0))) (cs : List Value) (hn : cs.length = n * k) (hcur : cur.length = n * k)
    (hsrc : 0 < n → ∃ x, a = some x ∧ ∀ j v, cs[j]? = some v → w.cell? (x.add j) = some v) (h1 : ∀ v ∈ cs, v.oneCell' = true)
    (h : wpList P ops Q rest (ac.put o.dst (goInt n)) (w.setRow g cs.toArray)) : wpList P ops Q (o :: rest) ac w := by
  refine wpList_plain hgd fun K hK => ?_
  have hrun := run_copy_many (P := P) (w := w) dT sT o.type elem k g dCap a n sCap cur t cs hu hs hg hn hcur hsrc h1
  unfold Oper.wp
  simp [execOp, ho, resolve, invoke, builtin, hd, hx, hrun, Result.andThen]
  exact hK _ _ h
end
end Go.Proofs.YtlgadelcgboeoaaDoor
