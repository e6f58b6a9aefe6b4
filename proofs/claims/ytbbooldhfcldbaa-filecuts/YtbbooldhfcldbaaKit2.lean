/- The cells of a running sum; blocks behind copies and stores of rows; what a method may write. No program, no conditions. -/
import Derived.Test.YtbbooldhfcldbaaKit
import Derived.Test.YtbbooldhfcldbaaFeed
import Derived.Laws.CopyOwn
import Derived.Deep.MidRow
namespace Go.Proofs.Ytbbooldhfcldbaa
open Go.RowKit

/-- All but block R is as it was; the streams too; no block has gone. -/
structure Keep (R : Nat) (w w' : World) : Prop where
  os : w'.os = w.os
  tape : w'.tape = w.tape
  output : w'.output = w.output
  size : w.heap.size ≤ w'.heap.size
  block : ∀ k, k < w.heap.size → k ≠ R → w'.heap[k]? = w.heap[k]?

section
variable {w w' w'' a : World} {R B b : Nat} {cs : List Value}
theorem Keep.refl (R : Nat) (w : World) : Keep R w w := ⟨rfl, rfl, rfl, Nat.le_refl _, fun _ _ _ => rfl⟩
theorem Keep.trans (h : Keep R w w') (k : Keep R w' w'') : Keep R w w'' :=
  ⟨k.os.trans h.os, k.tape.trans h.tape, k.output.trans h.output, Nat.le_trans h.size k.size, fun i hi hr => (k.block i (Nat.lt_of_lt_of_le hi h.size) hr).trans (h.block i hi hr)⟩
theorem Keep.of_below (h : Below w.heap.size w w') : Keep R w w' := ⟨h.os, h.tape, h.output, h.size, fun k hk _ => h.block k hk⟩
theorem Keep.below (h : Keep R w w') (hB : B ≤ R) (hw : B ≤ w.heap.size) : Below B w w' :=
  ⟨h.os, h.tape, h.output, h.size, fun k hk => h.block k (by omega) (by omega)⟩
theorem Keep.drewN (h : Keep R w w') (n : Nat) : Keep R w (w'.drewN n) := ⟨h.os, h.tape, h.output, h.size, h.block⟩
theorem Keep.drew (h : Keep R w w') : Keep R w w'.drew := ⟨h.os, h.tape, h.output, h.size, h.block⟩
theorem Keep.setCell (h : Keep R w w') (o : Nat) (v : Value) : Keep R w (w'.setCell ⟨R, o, none⟩ v) :=
  ⟨h.os, h.tape, h.output, by have := h.size; simpa [World.setCell] using this, fun k hk hr => by rw [Below.heap_setCell w' _ v k hr]; exact h.block k hk hr⟩
theorem Keep.setRow (h : Keep R w w') (ds : Array Value) : Keep R w (w'.setRow R ds) :=
  ⟨h.os, h.tape, h.output, by have := h.size; simpa [World.setRow] using this, fun k hk hr => by rw [heap_setRow w' R k ds hr]; exact h.block k hk hr⟩
theorem Keep.setCells (vs : List Value) : ∀ {w' : World} (_ : Keep R w w') (o : Nat), Keep R w (w'.setCells R o vs) := by
  induction vs with
  | nil => intro w' h o; exact h
  | cons v r ih => intro w' h o; exact ih (h.setCell o v) (o + 1)
theorem Keep.alloc (h : Keep R w w') (o : Obj) : Keep R w (w'.alloc o) :=
  ⟨h.os, h.tape, h.output, by have := h.size; simp; omega, fun k hk hr => by rw [Below.heap_alloc w' o k (Nat.lt_of_lt_of_le hk h.size)]; exact h.block k hk hr⟩
theorem Blk.keep (h : Blk w b cs) (k : Keep R w w') (hr : b ≠ R) : Blk w' b cs := by
  have hl := h.lt; obtain ⟨t, h⟩ := h; exact ⟨t, by rw [k.block b hl hr]; exact h⟩
theorem Keep.cell (k : Keep R w w') {b o : Nat} {v : Value} (hr : b ≠ R) (h : w.cell? ⟨b, o, none⟩ = some v) : w'.cell? ⟨b, o, none⟩ = some v := by
  have hl := World.block_lt_of_cell? w _ h
  rw [World.cell?_of_block (w := w) (k.block b hl hr)]; exact h
theorem Blk.cellsAt (vs : List Value) : ∀ {w : World} {cs : List Value} (_ : Blk w b cs) (o : Nat), o + vs.length ≤ cs.length → Blk (w.setCells b o vs) b (splice cs o vs) := by
  induction vs with
  | nil => intro w cs h o _; simpa [splice, World.setCells] using h
  | cons v r ih =>
    intro w cs h o hl
    have hl' : o + (r.length + 1) ≤ cs.length := by simpa using hl
    have := ih (h.set o v) (o + 1) (by simp; omega)
    have e : splice (cs.set o v) (o + 1) r = splice cs o (v :: r) := by
      unfold splice
      rw [List.take_add_one, List.take_set_of_le (Nat.le_refl o), List.getElem?_set_self (by omega), List.drop_set_of_lt (by omega)]
      simp [Nat.add_assoc, Nat.add_comm 1 r.length]
    rw [e] at this
    exact this
end

theorem below_undrew {B : Nat} {w w' : World} (h : Below B w.drew w') : Below B w w' := ⟨h.os, h.tape, h.output, h.size, h.block⟩

/-- The cells of a running sum: eight words, a block, how many bytes of it, how many in all. -/
def runCells (s : St) (blk : List (BitVec 8)) (f n : Nat) : List Value := u32s s.list ++ (u8s blk ++ [.int .i64 (f : Int), .int .u64 (n : Int)])
theorem St.list_length (s : St) : s.list.length = 8 := rfl
section
variable (s s' : St) (blk : List (BitVec 8)) (f g n m : Nat) (hb : blk.length = 64)
include hb
theorem runCells_length : (runCells s blk f n).length = 74 := by simp [runCells, hb, St.list_length]
theorem runCells_72 : (runCells s blk f n)[72]? = some (.int .i64 (f : Int)) := by
  unfold runCells
  rw [List.getElem?_append_right (by simp [St.list_length]), List.getElem?_append_right (by simp [St.list_length, hb])]
  simp [St.list_length, hb]
theorem runCells_73 : (runCells s blk f n)[73]? = some (.int .u64 (n : Int)) := by
  unfold runCells
  rw [List.getElem?_append_right (by simp [St.list_length]), List.getElem?_append_right (by simp [St.list_length, hb])]
  simp [St.list_length, hb]
theorem runCells_set72 : (runCells s blk f n).set 72 (.int .i64 (g : Int)) = runCells s blk g n := by
  unfold runCells
  rw [List.set_append_right _ _ (by simp [St.list_length]), List.set_append_right _ _ (by simp [St.list_length, hb])]
  simp [St.list_length, hb]
theorem runCells_set73 : (runCells s blk f n).set 73 (.int .u64 (m : Int)) = runCells s blk f m := by
  unfold runCells
  rw [List.set_append_right _ _ (by simp [St.list_length]), List.set_append_right _ _ (by simp [St.list_length, hb])]
  simp [St.list_length, hb]
theorem runCells_copy (i : Nat) (x : List (BitVec 8)) (h : i + x.length ≤ 64) : splice (runCells s blk f n) (8 + i) (u8s x) = runCells s (splice blk i x) f n := by
  unfold splice runCells
  rw [List.take_append, List.drop_append]
  simp only [u32s_length, St.list_length, u8s_length]
  rw [List.take_of_length_le (by simp [St.list_length]), List.drop_of_length_le (by simp [St.list_length]; omega)]
  rw [show 8 + i - 8 = i by omega, show 8 + i + x.length - 8 = i + x.length by omega]
  rw [List.take_append_of_le_length (by simp [hb]; omega), List.drop_append_of_le_length (by simp [hb]; omega)]
  simp [u8s]
end
theorem runCells_words (s s' : St) (blk : List (BitVec 8)) (f n : Nat) : splice (runCells s blk f n) 0 (u32s s'.list) = runCells s' blk f n := by
  unfold splice runCells
  simp [St.list_length]
theorem runCells_wordsAt (s : St) (blk : List (BitVec 8)) (f n : Nat) (j : Nat) (v : Value) (h : (u32s s.list)[j]? = some v) : (runCells s blk f n)[0 + j]? = some v := by
  have hj := (List.getElem?_eq_some_iff.1 h).1
  unfold runCells
  rw [Nat.zero_add, List.getElem?_append_left hj]; exact h
theorem runCells_blkAt (s : St) (blk : List (BitVec 8)) (f n : Nat) (j : Nat) (v : Value) (h : (u8s blk)[j]? = some v) : (runCells s blk f n)[8 + j]? = some v := by
  have hj := (List.getElem?_eq_some_iff.1 h).1
  unfold runCells
  rw [List.getElem?_append_right (by simp [St.list_length])]
  simp only [u32s_length, St.list_length, Nat.add_sub_cancel_left]
  rw [List.getElem?_append_left hj]; exact h

theorem u8s_mem (l : List (BitVec 8)) : ∀ v ∈ u8s l, v.oneCell' = true := fun v hv => by
  obtain ⟨x, _, rfl⟩ := List.mem_map.1 hv
  rfl

/-- 'copy' of some bytes into a block that is known whole, as one step of a region that draws its order. -/
theorem step_copy_pos {P : Program} {ops : Array Oper} {o : Oper} {a : Act} {w : World} {K : Act → World → Prop} {Q : Exit → Act → World → Prop} {E : Prop} (hgd : o.guard = none) (d s : Operand) (dT sT : TypeId)
    (ho : o.op = .call { callee := .builtin .copy, args := #[d, s], argTypes := #[dT, sT] }) (elem : TypeId) (hu : P.underlying dT = some (.slice elem)) (hsz : (P.info? elem).map (·.size) = some 1)
    (g off dLen dCap : Nat) (ad : Addr) (sLen sCap : Nat) (hd : a.eval d = .slice (some ⟨g, off, none⟩) dLen dCap) (hs : a.eval s = .slice (some ad) sLen sCap)
    (cur : List Value) (t : TypeId) (hg : w.heap[g]? = some (.cells cur.toArray t (0, 0))) (cs : List Value) (hn : cs.length = Nat.min sLen dLen)
    (hsrc : ∀ j v, cs[j]? = some v → w.cell? (ad.add j) = some v) (hfit : off + cs.length ≤ cur.length) (h1 : ∀ v ∈ cs, v.oneCell' = true)
    (h : K (a.put o.dst (goInt cs.length)) (w.setRow g (splice cur off cs).toArray)) :
    if Region.wanted o (yielded ops a.tmps) = true then Oper.wp P o a w K Q else E := by
  have hw : Region.wanted o (yielded ops a.tmps) = true := by simp [Region.wanted, hgd]
  rw [if_pos hw]
  have hrun := run_copy_row (P := P) w dT sT o.type elem g off dLen dCap ad sLen sCap cur.toArray t cs hu hsz hg hn hsrc (by simpa using hfit) h1
  unfold Oper.wp
  simp [execOp, ho, resolve, invoke, builtin, hd, hs, hrun, Result.andThen]
  exact h
end Go.Proofs.Ytbbooldhfcldbaa
