/- A row of outpoints of the call's own that grows by append. No program's text is walked here. -/
import Derived.Test.YtlgadelcgboeoaaDoorPRow
import Derived.Laws.AppendOwnNone
import Derived.Great.BuildSlice
namespace Go.Proofs.YtlgadelcgboeoaaDoor
open Go.RowKit

/-- A row of the call's own, from block N on. -/
def Own (w : World) (N : Nat) (v : Value) (l : List Pt) : Prop := w.ownsRow N 26 33 v l.length (flat l)
section
variable {w w' : World} {N : Nat} {v : Value} {l : List Pt}
theorem Own.nil (w : World) (N : Nat) : Own w N (.slice none 0 0) [] := World.ownsRow_nil w N _ _
theorem Own.pts (h : Own w N v l) : ∃ a cap, v = .slice a l.length cap ∧ Pts w a l.length cap l := Pts.of_own h
theorem Own.lt (h : Own w N v l) : ∀ k, v.ownBlock = some k → N ≤ k ∧ k < w.heap.size := World.ownsRow.lt h
theorem Own.below (h : Own w N v l) (hb : Below w.heap.size w w') : Own w' N v l := by
  refine ⟨h.1, ?_⟩
  rcases h.2 with hn | ⟨g, cap, cur, hv, hg, hh, rest⟩
  · exact .inl hn
  · exact .inr ⟨g, cap, cur, hv, hg, by rw [hb.block g (Array.getElem?_eq_some_iff.1 hh).1]; exact hh, rest⟩
theorem Own.kept {row : Option Nat} (h : Own w N v l) (hg : w.grownBy w' row) (hne : v.ownBlock = none ∨ v.ownBlock ≠ row) : Own w' N v l := World.ownsRow.kept h hg hne
theorem Own.less {M : Nat} (h : Own w N v l) (hM : M ≤ N) : Own w M v l := by
  refine ⟨h.1, ?_⟩
  rcases h.2 with hn | ⟨g, cap, cur, hv, hg, rest⟩
  · exact .inl hn
  · exact .inr ⟨g, cap, cur, hv, Nat.le_trans hM hg, rest⟩
/-- Below the base of the row that grew, all is as it was. -/
theorem Own.grown (h : Own w N v l) (hg : w.grownBy w' v.ownBlock) (hN : N ≤ w.heap.size) : Below N w w' :=
  (Below.refl _ w).grown hg hN fun k hk => (h.lt k hk).1

theorem run_append_pts (ty : TypeId) (h : Own w N v l) {a : Option Addr} {m cap : Nat} {r : List Pt} (hr : Pts w a m cap r) (hm : l.length + m ≤ 1000000) (hN : N ≤ w.heap.size) :
    ∃ v' w', (Builtin.append_ #[22, 22] ty #[v, .slice a m cap]).run Tryd.prog w = .ok v' w' ∧ Own w' N v' (l ++ r) ∧ w.grownBy w' v.ownBlock ∧ (v'.ownBlock = v.ownBlock ∨ ∃ g, w.heap.size ≤ g ∧ v'.ownBlock = some g) := by
  obtain ⟨i, hi, hi1, hi2, hi3⟩ := info_parts Tryd.infoPt
  cases a with
  | none =>
    obtain rfl := hr.bare rfl
    obtain rfl : m = 0 := by have := hr.fits; omega
    obtain rfl : r = [] := List.eq_nil_of_length_eq_zero hr.len
    exact ⟨v, w, run_append_owned_none w N _ ty _ i 33 Tryd.underlying22 hi v _ _ h, by rw [List.append_nil]; exact h, ⟨rfl, rfl, rfl, Nat.le_refl _, fun _ _ _ => rfl⟩, .inl rfl⟩
  | some x =>
    have hlen : (flat r).length = m * 33 := by rw [flat_length, hr.len]
    have hcells := hr.cells (x := x) rfl
    obtain ⟨v', w', hrun, h2, h3, h4⟩ := run_append_own w N 22 ty 26 i _ 33 40 Tryd.underlying22 hi hi1 hi2 hi3 (by simp [Value.cells, Pt.cs_length]) (by omega) v l.length (flat l) h x m cap (flat r) hlen hcells (flat_mem r) (by unfold maxLen; omega) (by omega) hN
    refine ⟨v', w', hrun, ?_, h3, ?_⟩
    · unfold Own
      rw [List.length_append, hr.len, flat_append]; exact h2
    · have hfl := flat_length l
      rcases h.2 with ⟨rfl, h0⟩ | ⟨g, c, cur, rfl, hbg, hg, hnc, hcm, hcs, htake⟩
      · by_cases hm0 : m = 0
        · left
          rw [h4.2 ⟨rfl, hm0⟩]
        · have e := run_append_nil w 22 ty 26 i _ Tryd.underlying22 hi hi1 x m cap (flat r) (by rw [hi2]; exact hlen) hcells (by omega) (by omega) (by rw [hi3]; omega)
          rw [e] at hrun
          injection hrun with e1 _
          right
          exact ⟨w.heap.size, Nat.le_refl _, by rw [← e1]; rfl⟩
      · by_cases hroom : l.length + m ≤ c
        · have e := run_append_room w 22 ty 26 i Tryd.underlying22 hi g l.length c cur hg x m cap (flat r) (by rw [hi2]; exact hlen) hcells (flat_mem r) hroom (by rw [hi2, hlen, hcs]; omega)
          rw [e] at hrun
          injection hrun with e1 _
          left
          rw [← e1]; rfl
        · have e := run_append_grow w 22 ty 26 i _ Tryd.underlying22 hi hi1 ⟨g, 0, none⟩ l.length c (flat l) (by rw [hi2]; exact hfl) (h.cells (g := g) rfl) x m cap (flat r) (by rw [hi2]; exact hlen) hcells (by omega) (by omega) (growslice_fits (by omega) (by rw [hi3]; omega))
          rw [e] at hrun
          injection hrun with e1 _
          right
          exact ⟨w.heap.size, Nat.le_refl _, by rw [← e1]; rfl⟩
end
theorem wpList_append_pts {ops : Array Oper} {rest : List Oper} {o : Oper} {ac : Act} {w : World} {Q : Exit → Act → World → Prop} (hgd : o.guard = none) (s x : Operand)
    (ho : o.op = .call { callee := .builtin .append, args := #[s, x], argTypes := #[22, 22] }) (N : Nat) (v : Value) (l : List Pt) (hs : ac.eval s = v) (h : Own w N v l)
    (a : Option Addr) (m cap : Nat) (r : List Pt) (hx : ac.eval x = .slice a m cap) (hr : Pts w a m cap r) (hm : l.length + m ≤ 1000000) (hN : N ≤ w.heap.size)
    (hK : ∀ v' w', Hid (Own w' N v' (l ++ r)) → Hid (w.grownBy w' v.ownBlock) → Hid (v'.ownBlock = v.ownBlock ∨ ∃ g, w.heap.size ≤ g ∧ v'.ownBlock = some g) → wpList Tryd.prog ops Q rest (ac.put o.dst v') w') : wpList Tryd.prog ops Q (o :: rest) ac w := by
  obtain ⟨v', w', hrun, h1, h2, h3⟩ := run_append_pts o.type h hr hm hN
  refine wpList_plain hgd fun K hK' => ?_
  unfold Oper.wp execOp
  simp only [ho, resolve, invoke, builtin, Sem.run_bind, Sem.run_pure, Result.andThen_ok, List.map_toArray, List.map_cons, List.map_nil, hs, hx, hrun]
  exact hK' _ _ (hK v' w' h1 h2 h3)
/-- A literal slice of outpoints. -/
theorem Pts.lit (w : World) (l : List Pt) (n : Nat) (hn : l.length = n) (hm : n ≤ 1000000) : Pts (w.alloc (.cells (flat l).toArray 26)) (some ⟨w.heap.size, 0, none⟩) n n l :=
  Pts.of_blk (cs := flat l) (Blk.mk _ _ _ rfl rfl) hn (Nat.le_refl _) (by unfold maxLen; omega) (List.take_of_length_le (by rw [flat_length, hn]; exact Nat.le_refl _))
theorem flat_values (l : List Pt) : ((l.map fun p => Value.agg p.cs.toArray).flatMap fun v => v.cells.toList) = flat l := by
  induction l with
  | nil => rfl
  | cons p l ih => rw [List.map_cons, List.flatMap_cons, ih, flat_cons]; rfl
theorem wpList_build_pts {ops : Array Oper} {rest : List Oper} {o : Oper} {a : Act} {w : World} {Q : Exit → Act → World → Prop} (hg : o.guard = none) (len : Nat) (parts : Array (Nat × Operand)) (ho : o.op = .buildSlice 22 len parts)
    (l : List Pt) (hl : l.length = len) (h0 : 0 < len) (hlen : len ≤ 1000) (xs : List Operand) (hx : parts.toList = (xs.zipIdx 0).map fun x => (x.2, x.1)) (hv : xs.map a.eval = l.map fun p => Value.agg p.cs.toArray)
    (h : wpList Tryd.prog ops Q rest (a.put o.dst (.slice (some ⟨w.heap.size, 0, none⟩) len len)) (w.alloc (.cells (flat l).toArray 26))) : wpList Tryd.prog ops Q (o :: rest) a w := by
  obtain ⟨i, hi, hi1, hi2, hi3⟩ := info_parts Tryd.infoPt
  refine wpList_buildSlice hg _ 26 len parts ho (flat l).toArray i _ Tryd.underlying22 hi hi1 (by rw [hi2]; omega) (by rw [hi2]; omega) ?_ h
  have hp : (parts.map fun (i, x) => (i, a.eval x)).toList = ((l.map fun p => Value.agg p.cs.toArray).zipIdx 0).map fun x => (x.2, x.1) := by
    rw [Array.toList_map, hx, ← hv, List.zipIdx_map, List.map_map, List.map_map]
    rfl
  rw [hp, hi2]
  have := Go.Great.fill_whole (s := 33) (by omega) (l.map fun p => Value.agg p.cs.toArray) ((Array.range (len * 33)).map ((Value.agg (default : Pt).cs.toArray).cells[· % (Value.agg (default : Pt).cs.toArray).cells.size]!)) (fun v hv => by
    obtain ⟨p, _, rfl⟩ := List.mem_map.1 hv
    show p.cs.toArray.size = 33
    rw [List.size_toArray, p.cs_length]) (by simp [hl])
  rw [this, flat_values]
end Go.Proofs.YtlgadelcgboeoaaDoor
