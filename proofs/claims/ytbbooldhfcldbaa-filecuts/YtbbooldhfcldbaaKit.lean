/- Blocks that are known whole, and what becomes of them; rows of words and of bytes. No program, no conditions. -/
import Derived.Test.YtbbooldhfcldbaaBits
import Derived.WalkKit
import Derived.Below
import Derived.Laws.Rows
import Derived.ScopeJumps
import Derived.Deep.Quiet
namespace Go.Proofs.Ytbbooldhfcldbaa
open Go.RowKit

def u32s (l : List (BitVec 32)) : List Value := l.map fun x => Value.int .u32 (U x)
def u8s (l : List (BitVec 8)) : List Value := l.map fun x => Value.int .u8 (Y x)
@[simp] theorem u32s_length (l : List (BitVec 32)) : (u32s l).length = l.length := by simp [u32s]
@[simp] theorem u8s_length (l : List (BitVec 8)) : (u8s l).length = l.length := by simp [u8s]
theorem u32s_get (l : List (BitVec 32)) (i : Nat) (h : i < l.length) : (u32s l)[i]? = some (.int .u32 (U (l.getD i 0))) := by
  simp [u32s, h, List.getD_eq_getElem?_getD]
theorem u8s_get (l : List (BitVec 8)) (i : Nat) (h : i < l.length) : (u8s l)[i]? = some (.int .u8 (Y (l.getD i 0))) := by
  simp [u8s, h, List.getD_eq_getElem?_getD]
theorem u32s_set (l : List (BitVec 32)) (i : Nat) (x : BitVec 32) : (u32s l).set i (.int .u32 (U x)) = u32s (l.set i x) := by
  simp [u32s, List.map_set]
theorem u8s_set (l : List (BitVec 8)) (i : Nat) (x : BitVec 8) : (u8s l).set i (.int .u8 (Y x)) = u8s (l.set i x) := by
  simp [u8s, List.map_set]

theorem u32s_one (l : List (BitVec 32)) : (u32s l).toArray.all (·.oneCell') = true :=
  Array.all_eq_true_iff_forall_mem.2 (fun v hv => by
    have hv' : v ∈ u32s l := by simpa using hv
    obtain ⟨x, _, rfl⟩ := List.mem_map.1 hv'
    rfl)
theorem u8s_one (l : List (BitVec 8)) : (u8s l).toArray.all (·.oneCell') = true :=
  Array.all_eq_true_iff_forall_mem.2 (fun v hv => by
    have hv' : v ∈ u8s l := by simpa using hv
    obtain ⟨x, _, rfl⟩ := List.mem_map.1 hv'
    rfl)

/-- A scope in which the run jumps back to one label, as the library's 'wp_scope_jumps'; the first pass may use what is shown of the others. -/
theorem wp_scope_rounds {P : Program} {a : Act} {w : World} {Q : Exit → Act → World → Prop} {c rest : Code} (l : Nat) (J : Act → World → Prop) (μ : Act → World → Nat) (hf : findLabel c l = some (Code.skip.seq rest))
    (pass : ∀ a w, J a w → rest.wp P (Exit.jump l (fun a' w' => J a' w' ∧ μ a' w' < μ a w) Q) a w)
    (first : (∀ a w, J a w → rest.wp P (Exit.jump l J Q) a w) → c.wp P (Exit.jump l J Q) a w) : (Code.scope c).wp P Q a w := by
  refine wp_scope_jumps l J μ hf (first fun a w hJ => Code.wp_mono ?_ (pass a w hJ)) (fun a w hJ => wp_seq (wp_skip (pass a w hJ)))
  intro e a w h
  cases e with
  | goto l' => exact ⟨h.1, h.2.1⟩
  | _ => exact h

theorem jump_ret {l : Nat} {J : Act → World → Prop} {Q : Exit → Act → World → Prop} {a : Act} {w : World} (h : Q .ret a w) : Exit.jump l J Q .ret a w := h
theorem addr_ne (b : Nat) {o o' : Nat} (h : o ≠ o') : (⟨b, o, none⟩ : Addr) ≠ ⟨b, o', none⟩ := fun e => h (by injection e)
theorem cell_kept {w : World} {b o o' : Nat} {v : Value} {r : Option Value} (h : o ≠ o') (hc : w.cell? ⟨b, o', none⟩ = r) : (w.setCell ⟨b, o, none⟩ v).cell? ⟨b, o', none⟩ = r := by
  rw [World.cell?_setCell_other (h := addr_ne b h)]; exact hc
theorem i64_fit {n : Int} (h : -9223372036854775808 ≤ n) (h' : n ≤ 9223372036854775807) : IntKind.i64.wrap n = n := by
  rw [IntKind.wrap_i64]; omega
/-- An index that is less than m by so much. -/
theorem idx_sub (i d m : Nat) (e M : Int) (he : e = d) (hM : M = m) (hd : d ≤ i) (hi : i < m) (hm : m ≤ 1000000) :
    IntKind.i64.wrap ((i : Int) - e) = (i : Int) - e ∧ (0 : Int) ≤ (i : Int) - e ∧ (i : Int) - e < M ∧ ((i : Int) - e).toNat = i - d := by
  subst he; subst hM; exact ⟨i64_fit (by omega) (by omega), by omega, by omega, by omega⟩

/-- Block b holds just these cells, none of them frozen. -/
def Blk (w : World) (b : Nat) (cs : List Value) : Prop := ∃ t, w.heap[b]? = some (.cells cs.toArray t (0, 0))

section
variable {w w' : World} {b B : Nat} {cs : List Value}

theorem Blk.lt (h : Blk w b cs) : b < w.heap.size := by
  obtain ⟨t, h⟩ := h; exact (Array.getElem?_eq_some_iff.1 h).1
theorem Blk.cell (h : Blk w b cs) (i : Nat) : w.cell? ⟨b, i, none⟩ = cs[i]? := by
  obtain ⟨t, h⟩ := h; rw [cell_of_row w b i _ t _ h]; simp
theorem Blk.frozen (h : Blk w b cs) (i : Nat) : w.frozen? ⟨b, i, none⟩ = false := by
  obtain ⟨t, h⟩ := h; simp [World.frozen?, h]
theorem Blk.below (h : Blk w b cs) (hb : Below B w w') (hB : b < B) : Blk w' b cs := by
  obtain ⟨t, h⟩ := h; exact ⟨t, by rw [hb.block b hB]; exact h⟩
theorem Blk.drew (h : Blk w b cs) : Blk w.drew b cs := h
theorem Blk.drewN (h : Blk w b cs) (n : Nat) : Blk (w.drewN n) b cs := h
theorem Blk.alloc (h : Blk w b cs) (o : Obj) : Blk (w.alloc o) b cs := by
  have hl := h.lt; obtain ⟨t, h⟩ := h; exact ⟨t, by rw [Below.heap_alloc w o b hl]; exact h⟩
theorem Blk.new (w : World) (a : Array Value) (t : TypeId) : Blk (w.alloc (.cells a t)) w.heap.size a.toList := ⟨t, by rw [heap_alloc_new]⟩
theorem Blk.mk (w : World) (a : Array Value) (t : TypeId) {b : Nat} {cs : List Value} (hb : b = w.heap.size) (hc : a = cs.toArray) : Blk (w.alloc (.cells a t)) b cs := by
  subst hb; subst hc; exact Blk.new _ _ _
theorem Blk.other (h : Blk w b cs) {p : Addr} (hp : b ≠ p.block) (v : Value) : Blk (w.setCell p v) b cs := by
  obtain ⟨t, h⟩ := h; exact ⟨t, by rw [Below.heap_setCell w p v b hp]; exact h⟩
theorem Blk.row {ds : List Value} (h : Blk w b cs) : Blk (w.setRow b ds.toArray) b ds := by
  obtain ⟨t, h⟩ := h
  refine ⟨t, ?_⟩
  simp [World.setRow, Array.getElem?_modify, h]
theorem heap_setRow (w : World) (g k : Nat) (cs : Array Value) (h : k ≠ g) : (w.setRow g cs).heap[k]? = w.heap[k]? := by
  have h' : ¬ g = k := fun e => h e.symm
  simp [World.setRow, Array.getElem?_modify, h']
theorem Blk.otherRow (h : Blk w b cs) {g : Nat} (hp : b ≠ g) (ds : Array Value) : Blk (w.setRow g ds) b cs := by
  obtain ⟨t, h⟩ := h; exact ⟨t, by rw [heap_setRow w g b ds hp]; exact h⟩
theorem below_setRow {a : World} (h : Below B a w) {g : Nat} (hg : B ≤ g) (ds : Array Value) : Below B a (w.setRow g ds) :=
  ⟨h.os, h.tape, h.output, by have := h.size; simpa [World.setRow] using this, fun k hk => by rw [heap_setRow w g k ds (by omega)]; exact h.block k hk⟩
theorem below_drewN {a : World} (h : Below B a w) (n : Nat) : Below B a (w.drewN n) := ⟨h.os, h.tape, h.output, h.size, h.block⟩
theorem Blk.set (h : Blk w b cs) (i : Nat) (v : Value) : Blk (w.setCell ⟨b, i, none⟩ v) b (cs.set i v) := by
  obtain ⟨t, h⟩ := h
  refine ⟨t, ?_⟩
  have hl := (Array.getElem?_eq_some_iff.1 h).1
  simp [World.setCell, Array.getElem?_modify, h]
end
end Go.Proofs.Ytbbooldhfcldbaa
