/- What is left of bytes behind their whole blocks, and how a sum goes on piece by piece. No program, no conditions. The closing of a sum, by what has come so far. No program, no conditions. Bytes of a count, and of a word, as the walk spells them. No program, no conditions. The cells of a running sum; blocks behind copies and stores of rows; what a method may write. No program, no conditions. A region that draws its order: a head that only reads, a tail in the text's order. A load of a row as a step of the head. No program, no conditions. -/
import Derived.Test.YtlapnnkahijikaaZS1
import Derived.Laws.CopyOwn
import Derived.Deep.MidRow
import Derived.StillTailTactics
namespace Go.Proofs.Ytlapnnkahijikaa

/-- What is left behind the whole blocks. -/
def restOf (l : List (BitVec 8)) : List (BitVec 8) := if 64 ≤ l.length then restOf (l.drop 64) else l
  termination_by l.length
  decreasing_by simp only [List.length_drop]; omega
theorem restOf_short (l : List (BitVec 8)) (h : l.length < 64) : restOf l = l := by rw [restOf, if_neg (by omega)]
theorem restOf_long (l : List (BitVec 8)) (h : 64 ≤ l.length) : restOf l = restOf (l.drop 64) := by
  rw [restOf, if_pos h]

theorem feed (n : Nat) : ∀ (l : List (BitVec 8)), l.length ≤ n → ∀ (s : St) (r : List (BitVec 8)),
    mixAll s (l ++ r) = mixAll (mixAll s l) (restOf l ++ r) ∧ restOf (l ++ r) = restOf (restOf l ++ r) := by
  induction n with
  | zero =>
    intro l hl s r
    rw [restOf_short l (by omega), mixAll_short s l (by omega)]; exact ⟨rfl, rfl⟩
  | succ n ih =>
    intro l hl s r
    by_cases h : 64 ≤ l.length
    · have h1 : (l ++ r).take 64 = l.take 64 := List.take_append_of_le_length h
      have h2 : (l ++ r).drop 64 = l.drop 64 ++ r := List.drop_append_of_le_length h
      have hh := ih (l.drop 64) (by rw [List.length_drop]; omega) (mix s (l.take 64)) r
      rw [mixAll_long s (l ++ r) (by rw [List.length_append]; omega), mixAll_long s l h, restOf_long l h, restOf_long (l ++ r) (by rw [List.length_append]; omega), h1, h2]
      exact hh
    · rw [restOf_short l (by omega), mixAll_short s l (by omega)]; exact ⟨rfl, rfl⟩
theorem mixAll_app (s : St) (l r : List (BitVec 8)) : mixAll s (l ++ r) = mixAll (mixAll s l) (restOf l ++ r) := (feed l.length l (Nat.le_refl _) s r).1
theorem restOf_app (l r : List (BitVec 8)) : restOf (l ++ r) = restOf (restOf l ++ r) := (feed l.length l (Nat.le_refl _) start r).2
theorem restOf_lt (n : Nat) : ∀ l : List (BitVec 8), l.length ≤ n → (restOf l).length < 64 := by
  induction n with
  | zero => intro l hl; rw [restOf_short l (by omega)]; omega
  | succ n ih =>
    intro l hl
    by_cases h : 64 ≤ l.length
    · rw [restOf_long l h]; exact ih _ (by rw [List.length_drop]; omega)
    · rw [restOf_short l (by omega)]; omega
theorem restOf_length_lt (l : List (BitVec 8)) : (restOf l).length < 64 := restOf_lt l.length l (Nat.le_refl _)
theorem restOf_mod (n : Nat) : ∀ l : List (BitVec 8), l.length ≤ n → (restOf l).length = l.length % 64 := by
  induction n with
  | zero => intro l hl; rw [restOf_short l (by omega)]; omega
  | succ n ih =>
    intro l hl
    by_cases h : 64 ≤ l.length
    · rw [restOf_long l h, ih _ (by rw [List.length_drop]; omega), List.length_drop]; omega
    · rw [restOf_short l (by omega)]; omega
theorem restOf_length (l : List (BitVec 8)) : (restOf l).length = l.length % 64 := restOf_mod l.length l (Nat.le_refl _)
/-- A piece that does not fill the block. -/
theorem feed_less (s : St) (q x : List (BitVec 8)) (h : q.length + x.length < 64) : mixAll s (q ++ x) = s ∧ restOf (q ++ x) = q ++ x :=
  ⟨mixAll_short s _ (by rw [List.length_append]; exact h), restOf_short _ (by rw [List.length_append]; exact h)⟩
/-- A piece that fills it. -/
theorem feed_full (s : St) (q x : List (BitVec 8)) (h : q.length + x.length = 64) : mixAll s (q ++ x) = mix s (q ++ x) ∧ restOf (q ++ x) = [] := by
  have hl : (q ++ x).length = 64 := by rw [List.length_append]; exact h
  constructor
  · have := mixAll_block s (q ++ x) [] hl
    rw [List.append_nil] at this
    rw [this, mixAll_short _ _ (by simp)]
  · rw [restOf_long _ (by omega), restOf_short _ (by rw [List.length_drop]; omega), List.drop_of_length_le (by omega)]
end Go.Proofs.Ytlapnnkahijikaa
namespace Go.Proofs.Ytlapnnkahijikaa

def zerosN (n : Nat) : List (BitVec 8) := List.replicate n 0
/-- What closes a sum of n bytes. -/
def padOf (n : Nat) : List (BitVec 8) := [128#8] ++ zerosN (noughts n) ++ counted n
theorem closed_pad (l : List (BitVec 8)) : closed l = l ++ padOf l.length := by
  unfold closed padOf zerosN; simp [List.append_assoc]
theorem counted_length (n : Nat) : (counted n).length = 8 := by simp [counted]
theorem zerosN_length (n : Nat) : (zerosN n).length = n := by simp [zerosN]
theorem zerosN_add (a b : Nat) : zerosN a ++ zerosN b = zerosN (a + b) := by unfold zerosN; rw [List.replicate_append_replicate]

/-- The words behind a piece, out of those ahead of it. -/
theorem two_pieces (s : St) (q a b : List (BitVec 8)) : mixAll (mixAll s (q ++ a)) (restOf (q ++ a) ++ b) = mixAll s (q ++ (a ++ b)) := by
  rw [← List.append_assoc, mixAll_app s (q ++ a) b]
theorem two_rests (q a b : List (BitVec 8)) : restOf (restOf (q ++ a) ++ b) = restOf (q ++ (a ++ b)) := by
  rw [← List.append_assoc, restOf_app (q ++ a) b]
theorem rest_len (q a : List (BitVec 8)) : (restOf (q ++ a)).length = (q.length + a.length) % 64 := by
  rw [restOf_length, List.length_append]
theorem noughts_mod (n : Nat) : noughts (n % 64) = noughts n := by unfold noughts; rw [Nat.mod_mod]
end Go.Proofs.Ytlapnnkahijikaa
namespace Go.Proofs.Ytlapnnkahijikaa
theorem counted_get (n k : Nat) (hk : k < 8) : Y ((counted n).getD k 0) = ((8 * n / 2 ^ (8 * (7 - k)) % 256 : Nat) : Int) := by
  unfold counted Y
  rw [List.getD_eq_getElem?_getD]
  simp [hk]
theorem bytes_get (s : St) (k : Nat) (hk : k < 32) : s.bytes.getD k 0 = ((s.list.getD (k / 4) 0) >>> (8 * (3 - k % 4))).setWidth 8 := by
  unfold St.bytes
  rw [List.getD_eq_getElem?_getD]
  simp [hk]
theorem Y_shr (x : BitVec 32) (m : Nat) : Y ((x >>> m).setWidth 8) = U x / ((2 ^ m : Nat) : Int) % 256 := by
  unfold Y U
  rw [BitVec.toNat_setWidth, BitVec.toNat_ushiftRight, Nat.shiftRight_eq_div_pow]
  omega
theorem take_next (l : List (BitVec 8)) (k : Nat) (h : k < l.length) : l.take (k + 1) = l.take k ++ [l.getD k 0] := by
  rw [List.take_succ_eq_append_getElem h, List.getD_eq_getElem?_getD, List.getElem?_eq_getElem h]; rfl
end Go.Proofs.Ytlapnnkahijikaa
namespace Go.Proofs.Ytlapnnkahijikaa
open Go.RowKit

/-- All but block R is as it was; the streams too; no block has gone. -/
structure Keep (R : Nat) (w w' : World) : Prop where
  os : w'.os = w.os
  tape : w'.tape = w.tape
  output : w'.output = w.output
  size : w.heap.size ≤ w'.heap.size
  block : ∀ k, k < w.heap.size → k ≠ R → w'.heap[k]? = w.heap[k]?

section
variable {w w' w'' a : World} {R B b : Nat} {cs : List Value}
theorem Keep.refl (R : Nat) (w : World) : Keep R w w := ⟨rfl, rfl, rfl, Nat.le_refl _, fun _ _ _ => rfl⟩
theorem Keep.trans (h : Keep R w w') (k : Keep R w' w'') : Keep R w w'' :=
  ⟨k.os.trans h.os, k.tape.trans h.tape, k.output.trans h.output, Nat.le_trans h.size k.size, fun i hi hr => (k.block i (Nat.lt_of_lt_of_le hi h.size) hr).trans (h.block i hi hr)⟩
theorem Keep.of_below (h : Below w.heap.size w w') : Keep R w w' := ⟨h.os, h.tape, h.output, h.size, fun k hk _ => h.block k hk⟩
theorem Keep.below (h : Keep R w w') (hB : B ≤ R) (hw : B ≤ w.heap.size) : Below B w w' :=
  ⟨h.os, h.tape, h.output, h.size, fun k hk => h.block k (by omega) (by omega)⟩
theorem Keep.drewN (h : Keep R w w') (n : Nat) : Keep R w (w'.drewN n) := ⟨h.os, h.tape, h.output, h.size, h.block⟩
theorem Keep.drew (h : Keep R w w') : Keep R w w'.drew := ⟨h.os, h.tape, h.output, h.size, h.block⟩
theorem Keep.setCell (h : Keep R w w') (o : Nat) (v : Value) : Keep R w (w'.setCell ⟨R, o, none⟩ v) :=
  ⟨h.os, h.tape, h.output, by have := h.size; simpa [World.setCell] using this, fun k hk hr => by rw [Below.heap_setCell w' _ v k hr]; exact h.block k hk hr⟩
theorem Keep.setRow (h : Keep R w w') (ds : Array Value) : Keep R w (w'.setRow R ds) :=
  ⟨h.os, h.tape, h.output, by have := h.size; simpa [World.setRow] using this, fun k hk hr => by rw [heap_setRow w' R k ds hr]; exact h.block k hk hr⟩
theorem Keep.setCells (vs : List Value) : ∀ {w' : World} (_ : Keep R w w') (o : Nat), Keep R w (w'.setCells R o vs) := by
  induction vs with
  | nil => intro w' h o; exact h
  | cons v r ih => intro w' h o; exact ih (h.setCell o v) (o + 1)
theorem Keep.alloc (h : Keep R w w') (o : Obj) : Keep R w (w'.alloc o) :=
  ⟨h.os, h.tape, h.output, by have := h.size; simp; omega, fun k hk hr => by rw [Below.heap_alloc w' o k (Nat.lt_of_lt_of_le hk h.size)]; exact h.block k hk hr⟩
theorem Blk.keep (h : Blk w b cs) (k : Keep R w w') (hr : b ≠ R) : Blk w' b cs := by
  have hl := h.lt; obtain ⟨t, h⟩ := h; exact ⟨t, by rw [k.block b hl hr]; exact h⟩
theorem Keep.cell (k : Keep R w w') {b o : Nat} {v : Value} (hr : b ≠ R) (h : w.cell? ⟨b, o, none⟩ = some v) : w'.cell? ⟨b, o, none⟩ = some v := by
  have hl := World.block_lt_of_cell? w _ h
  rw [World.cell?_of_block (w := w) (k.block b hl hr)]; exact h
theorem Blk.cellsAt (vs : List Value) : ∀ {w : World} {cs : List Value} (_ : Blk w b cs) (o : Nat), o + vs.length ≤ cs.length → Blk (w.setCells b o vs) b (splice cs o vs) := by
  induction vs with
  | nil => intro w cs h o _; simpa [splice, World.setCells] using h
  | cons v r ih =>
    intro w cs h o hl
    have hl' : o + (r.length + 1) ≤ cs.length := by simpa using hl
    have := ih (h.set o v) (o + 1) (by simp; omega)
    have e : splice (cs.set o v) (o + 1) r = splice cs o (v :: r) := by
      unfold splice
      rw [List.take_add_one, List.take_set_of_le (Nat.le_refl o), List.getElem?_set_self (by omega), List.drop_set_of_lt (by omega)]
      simp [Nat.add_assoc, Nat.add_comm 1 r.length]
    rw [e] at this
    exact this
end

theorem below_undrew {B : Nat} {w w' : World} (h : Below B w.drew w') : Below B w w' := ⟨h.os, h.tape, h.output, h.size, h.block⟩

/-- The cells of a running sum: eight words, a block, how many bytes of it, how many in all. -/
def runCells (s : St) (blk : List (BitVec 8)) (f n : Nat) : List Value := u32s s.list ++ (u8s blk ++ [.int .i64 (f : Int), .int .u64 (n : Int)])
theorem St.list_length (s : St) : s.list.length = 8 := rfl
section
variable (s s' : St) (blk : List (BitVec 8)) (f g n m : Nat) (hb : blk.length = 64)
include hb
theorem runCells_length : (runCells s blk f n).length = 74 := by simp [runCells, hb, St.list_length]
theorem runCells_72 : (runCells s blk f n)[72]? = some (.int .i64 (f : Int)) := by
  unfold runCells
  rw [List.getElem?_append_right (by simp [St.list_length]), List.getElem?_append_right (by simp [St.list_length, hb])]
  simp [St.list_length, hb]
theorem runCells_73 : (runCells s blk f n)[73]? = some (.int .u64 (n : Int)) := by
  unfold runCells
  rw [List.getElem?_append_right (by simp [St.list_length]), List.getElem?_append_right (by simp [St.list_length, hb])]
  simp [St.list_length, hb]
theorem runCells_set72 : (runCells s blk f n).set 72 (.int .i64 (g : Int)) = runCells s blk g n := by
  unfold runCells
  rw [List.set_append_right _ _ (by simp [St.list_length]), List.set_append_right _ _ (by simp [St.list_length, hb])]
  simp [St.list_length, hb]
theorem runCells_set73 : (runCells s blk f n).set 73 (.int .u64 (m : Int)) = runCells s blk f m := by
  unfold runCells
  rw [List.set_append_right _ _ (by simp [St.list_length]), List.set_append_right _ _ (by simp [St.list_length, hb])]
  simp [St.list_length, hb]
theorem runCells_copy (i : Nat) (x : List (BitVec 8)) (h : i + x.length ≤ 64) : splice (runCells s blk f n) (8 + i) (u8s x) = runCells s (splice blk i x) f n := by
  unfold splice runCells
  rw [List.take_append, List.drop_append]
  simp only [u32s_length, St.list_length, u8s_length]
  rw [List.take_of_length_le (by simp [St.list_length]), List.drop_of_length_le (by simp [St.list_length]; omega)]
  rw [show 8 + i - 8 = i by omega, show 8 + i + x.length - 8 = i + x.length by omega]
  rw [List.take_append_of_le_length (by simp [hb]; omega), List.drop_append_of_le_length (by simp [hb]; omega)]
  simp [u8s]
end
theorem runCells_words (s s' : St) (blk : List (BitVec 8)) (f n : Nat) : splice (runCells s blk f n) 0 (u32s s'.list) = runCells s' blk f n := by
  unfold splice runCells
  simp [St.list_length]
theorem runCells_wordsAt (s : St) (blk : List (BitVec 8)) (f n : Nat) (j : Nat) (v : Value) (h : (u32s s.list)[j]? = some v) : (runCells s blk f n)[0 + j]? = some v := by
  have hj := (List.getElem?_eq_some_iff.1 h).1
  unfold runCells
  rw [Nat.zero_add, List.getElem?_append_left hj]; exact h
theorem runCells_blkAt (s : St) (blk : List (BitVec 8)) (f n : Nat) (j : Nat) (v : Value) (h : (u8s blk)[j]? = some v) : (runCells s blk f n)[8 + j]? = some v := by
  have hj := (List.getElem?_eq_some_iff.1 h).1
  unfold runCells
  rw [List.getElem?_append_right (by simp [St.list_length])]
  simp only [u32s_length, St.list_length, Nat.add_sub_cancel_left]
  rw [List.getElem?_append_left hj]; exact h

theorem u8s_mem (l : List (BitVec 8)) : ∀ v ∈ u8s l, v.oneCell' = true := fun v hv => by
  obtain ⟨x, _, rfl⟩ := List.mem_map.1 hv
  rfl

/-- 'copy' of some bytes into a block that is known whole, as one step of a region that draws its order. -/
theorem step_copy_pos {P : Program} {ops : Array Oper} {o : Oper} {a : Act} {w : World} {K : Act → World → Prop} {Q : Exit → Act → World → Prop} {E : Prop} (hgd : o.guard = none) (d s : Operand) (dT sT : TypeId)
    (ho : o.op = .call { callee := .builtin .copy, args := #[d, s], argTypes := #[dT, sT] }) (elem : TypeId) (hu : P.underlying dT = some (.slice elem)) (hsz : (P.info? elem).map (·.size) = some 1)
    (g off dLen dCap : Nat) (ad : Addr) (sLen sCap : Nat) (hd : a.eval d = .slice (some ⟨g, off, none⟩) dLen dCap) (hs : a.eval s = .slice (some ad) sLen sCap)
    (cur : List Value) (t : TypeId) (hg : w.heap[g]? = some (.cells cur.toArray t (0, 0))) (cs : List Value) (hn : cs.length = Nat.min sLen dLen)
    (hsrc : ∀ j v, cs[j]? = some v → w.cell? (ad.add j) = some v) (hfit : off + cs.length ≤ cur.length) (h1 : ∀ v ∈ cs, v.oneCell' = true)
    (h : K (a.put o.dst (goInt cs.length)) (w.setRow g (splice cur off cs).toArray)) :
    if Region.wanted o (yielded ops a.tmps) = true then Oper.wp P o a w K Q else E := by
  have hw : Region.wanted o (yielded ops a.tmps) = true := by simp [Region.wanted, hgd]
  rw [if_pos hw]
  have hrun := run_copy_row (P := P) w dT sT o.type elem g off dLen dCap ad sLen sCap cur.toArray t cs hu hsz hg hn hsrc (by simpa using hfit) h1
  unfold Oper.wp
  simp [execOp, ho, resolve, invoke, builtin, hd, hs, hrun, Result.andThen]
  exact h
end Go.Proofs.Ytlapnnkahijikaa
namespace Go.Proofs.Ytlapnnkahijikaa
theorem wp_region_tail {P : Program} {id : Nat} {Q : Exit → Act → World → Prop} {a : Act} {w : World} {l : List Oper} (n : Nat) (hm : P.follows .mixedOrders = true) (hB : Region.lexTailB .any l.toArray n = true)
    (h : wpStill P l.toArray w.drew (fun a' => wpList P l.toArray Q (l.drop n) a' w.drew) (l.take n) a) : (Code.region id l.toArray true).wp P Q a w :=
  wp_region_still_tail n hm hB h
theorem still_load_mid {P : Program} {ops : Array Oper} {o : Oper} {rest : List Oper} {Q : Act → Prop} {a : Act} {w : World} (hgd : o.guard = none) (ty : TypeId) (x : Operand) (ho : o.op = .load ty x)
    (b off : Nat) (hx : a.eval x = .pointer (some ⟨b, off, none⟩)) (cs : List Value) (d : TypeDesc) (hc : w.rangeAt b off cs)
    (hu : P.underlying ty = some d) (hd : d.isRow = true) (hi : (P.info? ty).map (·.size) = some cs.length)
    (h : wpStill P ops w Q rest (a.put o.dst (.agg cs.toArray))) : wpStill P ops w Q (o :: rest) a := by
  have hw : Region.wanted o (yielded ops a.tmps) = true := by simp [Region.wanted, hgd]
  unfold wpStill
  rw [if_pos hw]
  unfold Oper.still execOp
  simp only [ho, hx, Instr.loadAt, Instr.sureAddr, Sem.run_bind, Sem.run_pure, Result.andThen_ok, run_loadVar_mid w b off ty cs d hc hu hd hi]
  exact ⟨rfl, h⟩
end Go.Proofs.Ytlapnnkahijikaa
