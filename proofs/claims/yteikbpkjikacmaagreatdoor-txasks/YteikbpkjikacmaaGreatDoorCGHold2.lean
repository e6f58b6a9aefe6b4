/- More on slices that are kept in a cell of a block. No program's text is walked here. -/
import Derived.Test.YteikbpkjikacmaaGreatDoorZX3
namespace Go.Proofs.YteikbpkjikacmaaGreatDoor
open Go.RowKit
section
variable {α : Type} [El α] {w w' : World} {cs : List Value} {b : Nat}
theorem Els.blockLt {x : α} {a : Option Addr} (h : Els w a 1 1 [x]) {o : Nat} (e : a = some ⟨b, o, none⟩) (hk : 0 < El.k α := by decide) : b < w.heap.size := by
  obtain ⟨b', o', e', hc⟩ := h.there (by omega)
  rw [e] at e'
  injection e' with e'
  injection e' with e1 e2
  subst e1
  exact World.block_lt_of_cell? w _ (hc 0 _ (List.getElem?_eq_getElem (by rw [flatE_length]; simpa using hk)))
theorem Blk.grown {row : Option Nat} (h : Blk w b cs) (hg : w.grownBy w' row) (hne : row = some b → False) : Blk w' b cs := by
  have hl := h.lt; obtain ⟨t, h⟩ := h; exact ⟨t, by rw [hg.block b hl fun e => hne e.symm]; exact h⟩
theorem heap_setCells {A : Nat} (vs : List Value) : ∀ (w : World) (o k : Nat), k ≠ A → (w.setCells A o vs).heap[k]? = w.heap[k]? := by
  induction vs with
  | nil => intro w o k _; rfl
  | cons v r ih => intro w o k hk; rw [World.setCells, ih _ _ k hk, Below.heap_setCell w _ v k hk]
end
end Go.Proofs.YteikbpkjikacmaaGreatDoor
