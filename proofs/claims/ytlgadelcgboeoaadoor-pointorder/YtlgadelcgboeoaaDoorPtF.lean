/- Appends and literals under a guard that holds. No program's text is walked here. -/
import Derived.Test.YtlgadelcgboeoaaDoorPtE
namespace Go.Proofs.YtlgadelcgboeoaaDoor
open Go.RowKit
section
variable {ops : Array Oper} {rest : List Oper} {o : Oper} {ac : Act} {w : World} {K : Act → World → Prop} {Q : Exit → Act → World → Prop}
theorem wp_append_pts (s x : Operand)
    (ho : o.op = .call { callee := .builtin .append, args := #[s, x], argTypes := #[22, 22] }) (N : Nat) (v : Value) (l : List Pt) (hs : ac.eval s = v) (h : Own w N v l)
    (a : Option Addr) (m cap : Nat) (r : List Pt) (hx : ac.eval x = .slice a m cap) (hr : Pts w a m cap r) (hm : l.length + m ≤ 1000000) (hN : N ≤ w.heap.size)
    (hK : ∀ v' w', Hid (Own w' N v' (l ++ r)) → Hid (w.grownBy w' v.ownBlock) → K (ac.put o.dst v') w') : Oper.wp Tryd.prog o ac w K Q := by
  obtain ⟨v', w', hrun, h1, h2, _⟩ := run_append_pts o.type h hr hm hN
  unfold Oper.wp execOp
  simp only [ho, resolve, invoke, builtin, Sem.run_bind, Sem.run_pure, Result.andThen_ok, List.map_toArray, List.map_cons, List.map_nil, hs, hx, hrun]
  exact hK v' w' h1 h2
theorem wp_build_none (ho : o.op = .buildSlice 22 0 #[])
    (hK : ∀ w', Hid (Own w' w.heap.size (.slice (some ⟨w.heap.size, 0, none⟩) 0 0) []) → Hid (w' = w.alloc (.cells #[] 26)) → K (ac.put o.dst (.slice (some ⟨w.heap.size, 0, none⟩) 0 0)) w') : Oper.wp Tryd.prog o ac w K Q := by
  obtain ⟨i, hi, hi1, hi2, hi3⟩ := info_parts Tryd.infoPt
  unfold Oper.wp execOp
  simp [ho, Instr.buildSlice, run_underlying Tryd.underlying22, sizeOf, typeInfo, hi, Instr.fill, newRow]
  rw [show (Array.map (fun _ => default) (Array.range 0) : Array Value) = #[] by simp]
  exact hK _ ⟨rfl, .inr ⟨w.heap.size, 0, #[], rfl, Nat.le_refl _, heap_alloc_new w _, Nat.le_refl _, Nat.zero_le _, rfl, rfl⟩⟩ rfl
theorem wpList_append_wanted (hw : Region.wanted o (yielded ops ac.tmps) = true) (s x : Operand)
    (ho : o.op = .call { callee := .builtin .append, args := #[s, x], argTypes := #[22, 22] }) (N : Nat) (v : Value) (l : List Pt) (hs : ac.eval s = v) (h : Own w N v l)
    (a : Option Addr) (m cap : Nat) (r : List Pt) (hx : ac.eval x = .slice a m cap) (hr : Pts w a m cap r) (hm : l.length + m ≤ 1000000) (hN : N ≤ w.heap.size)
    (hK : ∀ v' w', Hid (Own w' N v' (l ++ r)) → Hid (w.grownBy w' v.ownBlock) → wpList Tryd.prog ops Q rest (ac.put o.dst v') w') : wpList Tryd.prog ops Q (o :: rest) ac w :=
  wpList_step fun _ hK' => by rw [if_pos hw]; exact wp_append_pts s x ho N v l hs h a m cap r hx hr hm hN fun v' w' h1 h2 => hK' _ _ (hK v' w' h1 h2)
theorem wpList_build_none (hw : Region.wanted o (yielded ops ac.tmps) = true) (ho : o.op = .buildSlice 22 0 #[])
    (hK : ∀ w', Hid (Own w' w.heap.size (.slice (some ⟨w.heap.size, 0, none⟩) 0 0) []) → Hid (w' = w.alloc (.cells #[] 26)) → wpList Tryd.prog ops Q rest (ac.put o.dst (.slice (some ⟨w.heap.size, 0, none⟩) 0 0)) w') : wpList Tryd.prog ops Q (o :: rest) ac w :=
  wpList_step fun _ hK' => by rw [if_pos hw]; exact wp_build_none ho fun w' h1 h2 => hK' _ _ (hK w' h1 h2)
end
end Go.Proofs.YtlgadelcgboeoaaDoor
