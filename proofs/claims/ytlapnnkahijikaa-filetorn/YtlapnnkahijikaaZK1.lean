/- kv: pairs, batches, their forms as bytes; what ask tells. No program. Rows of elements of several cells each (pairs of kv): read, made, grown. kv: tables in the order of their keys, and the map of a store. No program. -/
import Derived.Test.YtlapnnkahijikaaZW1
import Derived.Deep.MidRow
import Derived.Great.BuildSlice
import Derived.Test.YtlapnnkahijikaaZF5
namespace Go.Proofs.Ytlapnnkahijikaa
open Go.ChangeShapes Go.WideShapes Go.ChangeAt Go.RowKit Go.Lib

/-- A pair: its key, what it has, whether it is gone. -/
structure Pr where
  k : ByteArray
  v : ByteArray
  g : Bool
instance : Inhabited Pr := ⟨⟨ByteArray.empty, ByteArray.empty, false⟩⟩
def Pr.cs (p : Pr) : List Value := [.string p.k, .string p.v, .bool p.g]
def goneN (p : Pr) : Int := if p.g = true then 1 else 0
def prB (p : Pr) : List (BitVec 8) := numB (goneN p) ++ ((numB p.k.size ++ strB p.k) ++ (numB p.v.size ++ strB p.v))
def prsB (l : List Pr) : List (BitVec 8) := l.flatMap prB
def batB (l : List Pr) : List (BitVec 8) := numB l.length ++ prsB l
/-- May a pair be? Is its value small enough? -/
def pArg (p : Pr) : Bool := decide (1 ≤ p.k.size) && decide (p.k.size ≤ 100) && (!p.g || decide (p.v.size = 0))
def pBig (p : Pr) : Bool := decide (p.v.size ≤ 131072)
def kask (l : List Pr) : Int := if l.length = 0 then 1 else if l.all pArg = true then (if l.length ≤ 1000 then (if l.all pBig = true then 0 else 3) else 3) else 1

theorem kask_zero {l : List Pr} (h : kask l = 0) : 1 ≤ l.length ∧ l.length ≤ 1000 ∧ ∀ p ∈ l, pArg p = true ∧ pBig p = true := by
  unfold kask at h
  split at h
  · cases h
  · rename_i h0
    split at h
    · rename_i h1
      split at h
      · rename_i h2
        split at h
        · rename_i h3
          rw [List.all_eq_true] at h1 h3
          exact ⟨by omega, h2, fun p hp => ⟨h1 p hp, h3 p hp⟩⟩
        · cases h
      · cases h
    · cases h
theorem kask_of {l : List Pr} (h0 : 1 ≤ l.length) (h1 : l.length ≤ 1000) (h : ∀ p ∈ l, pArg p = true ∧ pBig p = true) : kask l = 0 := by
  unfold kask
  rw [if_neg (by omega), if_pos (List.all_eq_true.2 fun p hp => (h p hp).1), if_pos h1, if_pos (List.all_eq_true.2 fun p hp => (h p hp).2)]
theorem pArg_of {p : Pr} (h : pArg p = true) : 1 ≤ p.k.size ∧ p.k.size ≤ 100 ∧ (p.g = true → p.v.size = 0) := by
  unfold pArg at h
  simp only [Bool.and_eq_true, decide_eq_true_eq, Bool.or_eq_true, Bool.not_eq_true'] at h
  refine ⟨h.1.1, h.1.2, fun hg => ?_⟩
  rcases h.2 with h | h
  · rw [hg] at h; cases h
  · exact h
theorem pBig_of {p : Pr} (h : pBig p = true) : p.v.size ≤ 131072 := by unfold pBig at h; simpa using h
theorem goneN_01 (p : Pr) : 0 ≤ goneN p ∧ goneN p ≤ 1 := by unfold goneN; split <;> omega
theorem prB_le (p : Pr) : (prB p).length ≤ 27 + p.k.size + p.v.size := by
  have h1 := numB_le (goneN p)
  have h2 := numB_le (p.k.size : Int)
  have h3 := numB_le (p.v.size : Int)
  unfold prB
  simp only [List.length_append, strB_length]; omega
theorem prsB_nil : prsB [] = [] := rfl
theorem prsB_cons (p : Pr) (l : List Pr) : prsB (p :: l) = prB p ++ prsB l := rfl
theorem prsB_append (l m : List Pr) : prsB (l ++ m) = prsB l ++ prsB m := by unfold prsB; rw [List.flatMap_append]
theorem prsB_next (l : List Pr) (k : Nat) (h : k < l.length) : prsB (l.take (k + 1)) = prsB (l.take k) ++ prB (l.getD k default) := by
  rw [List.take_add_one, prsB_append, List.getD_eq_getElem?_getD, List.getElem?_eq_getElem h]
  simp [prsB]
theorem prsB_take_le (l : List Pr) (k : Nat) : (prsB (l.take k)).length ≤ (prsB l).length := by
  have h : prsB l = prsB (l.take k) ++ prsB (l.drop k) := by rw [← prsB_append, List.take_append_drop]
  rw [h, List.length_append]; omega
theorem batB_le (l : List Pr) : (batB l).length ≤ 9 + (prsB l).length := by
  have := numB_le (l.length : Int)
  unfold batB
  rw [List.length_append]; omega
theorem prsB_bound {l : List Pr} {c : Nat} (h : ∀ p ∈ l, (prB p).length ≤ c) : (prsB l).length ≤ c * l.length := by
  induction l with
  | nil => simp [prsB]
  | cons p l ih =>
    have h1 := h p (List.mem_cons_self ..)
    have h2 := ih fun q hq => h q (List.mem_cons_of_mem _ hq)
    rw [prsB_cons, List.length_append, List.length_cons, Nat.mul_succ]; omega

end Go.Proofs.Ytlapnnkahijikaa
namespace Go.Proofs.Ytlapnnkahijikaa
open Go.ChangeShapes Go.WideShapes Go.ChangeAt Go.RowKit Go.Lib

theorem rangeAt_below {w w' : World} {b o B : Nat} {cs : List Value} (h : w.rangeAt b o cs) (hb : Below B w w') (hB : w.heap.size ≤ B) : w'.rangeAt b o cs := fun j v hv => by
  have hc := h j v hv
  have hl := World.block_lt_of_cell? w _ hc
  rw [World.cell?_of_block (hb.block _ (Nat.lt_of_lt_of_le hl hB))]; exact hc
/-- What an element's cells are. -/
class El (α : Type) where
  cs : α → List Value
  k : Nat
  len : ∀ x, (cs x).length = k
  mem : ∀ x v, v ∈ cs x → v.oneCell' = true
  dflt : α
section
variable {α : Type} [El α]
/-- The cells of elements one behind the other. -/
def flatE (l : List α) : List Value := (l.map El.cs).flatten
theorem flatE_nil : flatE ([] : List α) = [] := rfl
theorem flatE_cons (p : α) (l : List α) : flatE (p :: l) = El.cs p ++ flatE l := rfl
theorem flatE_append (l m : List α) : flatE (l ++ m) = flatE l ++ flatE m := by simp [flatE]
theorem flatE_one (p : α) : flatE [p] = El.cs p := by simp [flatE]
theorem flatE_length (l : List α) : (flatE l).length = l.length * El.k α := by
  induction l with
  | nil => simp [flatE_nil]
  | cons p l ih => rw [flatE_cons, List.length_append, ih, El.len, List.length_cons, Nat.succ_mul]; omega
theorem flatE_mem (l : List α) : ∀ v ∈ flatE l, v.oneCell' = true := fun v hv => by
  obtain ⟨x, hx, hv⟩ := List.mem_flatten.1 hv
  obtain ⟨p, _, rfl⟩ := List.mem_map.1 hx
  exact El.mem p v hv
theorem flatE_get (l : List α) : ∀ j i, j < l.length → i < El.k α → (flatE l)[j * El.k α + i]? = (El.cs (l.getD j El.dflt))[i]? := by
  induction l with
  | nil => intro j i hj _; simp at hj
  | cons p l ih =>
    intro j i hj hi
    have hl := El.len p
    cases j with
    | zero =>
      rw [flatE_cons, Nat.zero_mul, Nat.zero_add, List.getElem?_append_left (by omega)]
      simp
    | succ j =>
      have e : (j + 1) * El.k α + i = (El.cs p).length + (j * El.k α + i) := by rw [hl, Nat.succ_mul]; omega
      rw [flatE_cons, e, List.getElem?_append_right (by omega), Nat.add_sub_cancel_left, ih j i (by simpa using hj) hi]
      simp
theorem flatE_take (l : List α) (k : Nat) : flatE (l.take k) = (flatE l).take (k * El.k α) := by
  induction l generalizing k with
  | nil => simp [flatE]
  | cons p l ih =>
    cases k with
    | zero => simp [flatE]
    | succ k =>
      have hl := El.len p
      have e : (k + 1) * El.k α - (El.cs p).length = k * El.k α := by rw [hl, Nat.succ_mul]; omega
      have e2 : El.k α ≤ (k + 1) * El.k α := by rw [Nat.succ_mul]; omega
      rw [List.take_succ_cons, flatE_cons, flatE_cons, List.take_append, ih k, List.take_of_length_le (l := El.cs p) (by omega), e]
theorem flatE_drop (l : List α) (k : Nat) : flatE (l.drop k) = (flatE l).drop (k * El.k α) := by
  induction l generalizing k with
  | nil => simp [flatE]
  | cons p l ih =>
    cases k with
    | zero => simp
    | succ k =>
      have hl := El.len p
      have e : (k + 1) * El.k α - (El.cs p).length = k * El.k α := by rw [hl, Nat.succ_mul]; omega
      have e2 : El.k α ≤ (k + 1) * El.k α := by rw [Nat.succ_mul]; omega
      rw [List.drop_succ_cons, flatE_cons, List.drop_append, ih k, List.drop_of_length_le (l := El.cs p) (by omega), List.nil_append, e]
/-- A slice reads as these elements. -/
structure Els (w : World) (a : Option Addr) (n cap : Nat) (l : List α) : Prop where
  len : l.length = n
  fits : n ≤ cap
  most : cap ≤ maxLen
  bare : a = none → cap = 0
  there : 0 < n → ∃ b o, a = some ⟨b, o, none⟩ ∧ w.rangeAt b o (flatE l)
variable {w w' : World} {a : Option Addr} {n cap : Nat} {l : List α}
theorem Els.later (h : Els w a n cap l) (hw : ∀ b o, 0 < n → a = some ⟨b, o, none⟩ → w'.heap[b]? = w.heap[b]?) : Els w' a n cap l :=
  ⟨h.len, h.fits, h.most, h.bare, fun hn => by
    obtain ⟨b, o, ha, hc⟩ := h.there hn
    refine ⟨b, o, ha, fun j v hv => ?_⟩
    rw [World.cell?_of_block (hw b o hn ha)]; exact hc j v hv⟩
theorem Els.below (h : Els w a n cap l) (hb : Below w.heap.size w w') : Els w' a n cap l :=
  ⟨h.len, h.fits, h.most, h.bare, fun hn => by
    obtain ⟨b, o, ha, hc⟩ := h.there hn
    exact ⟨b, o, ha, rangeAt_below hc hb (Nat.le_refl _)⟩⟩
theorem Els.at (h : Els w a n cap l) (j : Nat) (hj : j < n) : ∃ b o, a = some ⟨b, o, none⟩ ∧ w.rangeAt b (o + j * El.k α) (El.cs (l.getD j El.dflt)) := by
  obtain ⟨b, o, ha, hc⟩ := h.there (by omega)
  refine ⟨b, o, ha, fun i v hv => ?_⟩
  have hi : i < El.k α := by have := (List.getElem?_eq_some_iff.1 hv).1; rw [El.len] at this; exact this
  rw [Nat.add_assoc]
  exact hc _ _ (by rw [flatE_get l j i (by rw [h.len]; exact hj) hi]; exact hv)
theorem Els.cells (h : Els w a n cap l) {x : Addr} (hx : a = some x) : ∀ j v, (flatE l)[j]? = some v → w.cell? (x.add j) = some v := fun j v hv => by
  have hj := (List.getElem?_eq_some_iff.1 hv).1
  rw [flatE_length, h.len] at hj
  have hn : 0 < n := by cases n with | zero => simp at hj | succ n => omega
  obtain ⟨b, o, ha, hc⟩ := h.there hn
  rw [hx] at ha
  injection ha with ha
  rw [ha, Addr.add_mid]
  exact hc j v hv
theorem Els.of_blk {g : Nat} {cs : List Value} (h : Blk w g cs) (hn : l.length = n) (hc : n ≤ cap) (hm : cap ≤ maxLen) (ht : cs.take (n * El.k α) = flatE l) : Els w (some ⟨g, 0, none⟩) n cap l :=
  ⟨hn, hc, hm, (fun e => nomatch e), fun _ => ⟨g, 0, rfl, fun j v hv => by
    rw [Nat.zero_add, h.cell, ← hv, ← ht, List.getElem?_take]
    have hj := (List.getElem?_eq_some_iff.1 hv).1
    rw [flatE_length, hn] at hj
    rw [if_pos hj]⟩⟩
theorem Els.nil (w : World) : Els w none 0 0 ([] : List α) := ⟨rfl, Nat.le_refl _, Nat.zero_le _, fun _ => rfl, fun h => absurd h (Nat.lt_irrefl _)⟩
end
section
variable {α : Type} [El α]
theorem splice_flatE (l : List α) (j : Nat) (p : α) (hj : j < l.length) : splice (flatE l) (j * El.k α) (El.cs p) = flatE (l.set j p) := by
  unfold splice
  rw [List.set_eq_take_append_cons_drop, if_pos hj, flatE_append, flatE_cons, flatE_take, flatE_drop, El.len, Nat.succ_mul]
theorem Blk.setE {w : World} {g : Nat} {l : List α} (h : Blk w g (flatE l)) (j : Nat) (p : α) (hj : j < l.length) : Blk (w.setCells g (j * El.k α) (El.cs p)) g (flatE (l.set j p)) := by
  have e : (j + 1) * El.k α ≤ l.length * El.k α := Nat.mul_le_mul_right _ hj
  have := h.cellsAt (El.cs p) (j * El.k α) (by rw [El.len, flatE_length]; rw [Nat.succ_mul] at e; exact e)
  rwa [splice_flatE l j p hj] at this
theorem Blk.el {w : World} {g : Nat} {l : List α} (h : Blk w g (flatE l)) (j : Nat) (hj : j < l.length) : w.rangeAt g (j * El.k α) (El.cs (l.getD j El.dflt)) := fun i v hv => by
  have hi : i < El.k α := by have := (List.getElem?_eq_some_iff.1 hv).1; rw [El.len] at this; exact this
  rw [h.cell, flatE_get l j i hj hi]; exact hv
theorem madeE (d : α) (n : Nat) (hk : 0 < El.k α) : (madeCells (El.cs d).toArray (n * El.k α)).toList = flatE (List.replicate n d) := by
  apply List.ext_getElem?
  intro t
  by_cases ht : t < n * El.k α
  · have hq : t / El.k α < n := (Nat.div_lt_iff_lt_mul hk).2 ht
    have hm : t % El.k α < El.k α := Nat.mod_lt _ hk
    have e := flatE_get (List.replicate n d) (t / El.k α) (t % El.k α) (by rw [List.length_replicate]; exact hq) hm
    rw [Nat.div_add_mod'] at e
    have hd : (List.replicate n d).getD (t / El.k α) El.dflt = d := by
      rw [List.getD_eq_getElem?_getD, List.getElem?_replicate, if_pos hq]; rfl
    rw [hd] at e
    rw [e]
    unfold madeCells
    simp only [Array.toList_map, Array.toList_range, List.getElem?_map, List.getElem?_range ht, Option.map_some, List.size_toArray, El.len]
    have hl := El.len d
    rw [List.getElem?_eq_getElem (by omega), getElem!_pos _ _ (by simp; omega)]
    simp
  · rw [List.getElem?_eq_none (by simp [madeCells]; omega), List.getElem?_eq_none (by rw [flatE_length, List.length_replicate]; omega)]
end
/-- Something of many cells goes into a new variable of its own. -/
theorem wpList_store_fresh {P : Program} {ops : Array Oper} {rest : List Oper} {o : Oper} {a : Act} {w : World} {Q : Exit → Act → World → Prop} (hgd : o.guard = none) (T : TypeId) (x y : Operand) (ho : o.op = .store T x y)
    (cs : List Value) (Z : Array Value) (T' : TypeId) (hx : a.eval x = .pointer (some ⟨w.heap.size, 0, none⟩)) (hy : a.eval y = .agg cs.toArray) (hi : (P.info? T).map (·.size) = some cs.toArray.size) (hz : Z.size = cs.toArray.size) (h1 : cs.toArray.all (·.oneCell') = true)
    (h : ∀ w', Hid (Blk w' w.heap.size cs) → Hid (Below w.heap.size w w') → wpList P ops Q rest (a.put o.dst undef) w') : wpList P ops Q (o :: rest) a (w.alloc (.cells Z T')) :=
  wpList_store_row hgd T x y ho w.heap.size cs.toArray hx hy T' Z (heap_alloc_new _ _) hi hz h1
    (h _ (Blk.row (cs := Z.toList) ⟨_, heap_alloc_new _ _⟩) (below_setRow ((Below.refl _ _).alloc (Nat.le_refl _) _) (Nat.le_refl _) _))
theorem flatE_values {α : Type} [El α] (l : List α) : ((l.map fun p => Value.agg (El.cs p).toArray).flatMap fun v => v.cells.toList) = flatE l := by
  induction l with
  | nil => rfl
  | cons p l ih => rw [List.map_cons, List.flatMap_cons, ih, flatE_cons]; rfl
theorem wpList_build_els {α : Type} [El α] {P : Program} {ops : Array Oper} {rest : List Oper} {o : Oper} {a : Act} {w : World} {Q : Exit → Act → World → Prop} (hg : o.guard = none) (S T : TypeId) (len : Nat) (parts : Array (Nat × Operand)) (ho : o.op = .buildSlice S len parts)
    (hS : P.underlying S = some (.slice T)) (by_ : Nat) (hinfo : (P.info? T).map (fun i => (i.zero, i.size, i.bytes)) = some (some (.agg (El.cs (El.dflt : α)).toArray), El.k α, by_)) (hk : 0 < El.k α) (hk1 : El.k α ≤ 1000)
    (l : List α) (hl : l.length = len) (h0 : 0 < len) (hlen : len ≤ 1000) (xs : List Operand) (hx : parts.toList = (xs.zipIdx 0).map fun x => (x.2, x.1)) (hv : xs.map a.eval = l.map fun p => Value.agg (El.cs p).toArray)
    (h : wpList P ops Q rest (a.put o.dst (.slice (some ⟨w.heap.size, 0, none⟩) len len)) (w.alloc (.cells (flatE l).toArray T))) : wpList P ops Q (o :: rest) a w := by
  obtain ⟨i, hi, hi1, hi2, hi3⟩ := info_parts hinfo
  refine wpList_buildSlice hg _ T len parts ho (flatE l).toArray i _ hS hi hi1 ?_ ?_ ?_ h
  · rw [hi2]
    have := Nat.mul_le_mul hlen hk1
    omega
  · rw [hi2]
    have := Nat.mul_pos h0 hk
    omega
  · have hp : (parts.map fun (i, x) => (i, a.eval x)).toList = ((l.map fun p => Value.agg (El.cs p).toArray).zipIdx 0).map fun x => (x.2, x.1) := by
      rw [Array.toList_map, hx, ← hv, List.zipIdx_map, List.map_map, List.map_map]
      rfl
    rw [hp, hi2]
    have := Go.Great.fill_whole (s := El.k α) hk (l.map fun p => Value.agg (El.cs p).toArray) ((Array.range (len * El.k α)).map ((Value.agg (El.cs (El.dflt : α)).toArray).cells[· % (Value.agg (El.cs (El.dflt : α)).toArray).cells.size]!)) (fun v hv => by
      obtain ⟨p, _, rfl⟩ := List.mem_map.1 hv
      show (El.cs p).toArray.size = El.k α
      rw [List.size_toArray, El.len]) (by simp [hl])
    rw [this, flatE_values]
theorem Els.lit {α : Type} [El α] (w : World) (l : List α) (n : Nat) (T : TypeId) (hn : l.length = n) (hm : n ≤ 1000000) : Els (w.alloc (.cells (flatE l).toArray T)) (some ⟨w.heap.size, 0, none⟩) n n l :=
  Els.of_blk (cs := flatE l) (Blk.mk _ _ _ rfl rfl) hn (Nat.le_refl _) (by unfold maxLen; omega) (List.take_of_length_le (by rw [flatE_length, hn]; exact Nat.le_refl _))


/-- What a program says of a slice of such elements. -/
structure ElT (α : Type) [El α] (P : Program) (S T : TypeId) (b : Nat) : Prop where
  und : P.underlying S = some (.slice T)
  info : (P.info? T).map (fun i => (i.zero, i.size, i.bytes)) = some (some (.agg (El.cs (El.dflt : α)).toArray), El.k α, b)
  few : b ≤ 1000
  pos : 0 < El.k α
  most : El.k α ≤ 1000
section
variable {α : Type} [El α]
def OwnE (T : TypeId) (w : World) (N : Nat) (v : Value) (l : List α) : Prop := w.ownsRow N T (El.k α) v l.length (flatE l)
variable {P : Program} {S T : TypeId} {b : Nat} {w w' : World} {N : Nat} {v : Value} {l : List α}
theorem OwnE.nil (w : World) (N : Nat) : OwnE T w N (.slice none 0 0) ([] : List α) := World.ownsRow_nil w N _ _
theorem OwnE.lt (h : OwnE T w N v l) : ∀ k, v.ownBlock = some k → N ≤ k ∧ k < w.heap.size := World.ownsRow.lt h
theorem OwnE.same (h : OwnE T w N v l) (hb : ∀ k, v.ownBlock = some k → w'.heap[k]? = w.heap[k]?) : OwnE T w' N v l := by
  refine ⟨h.1, ?_⟩
  rcases h.2 with hn | ⟨g, cap, cur, hv, hg, hh, rest⟩
  · exact .inl hn
  · exact .inr ⟨g, cap, cur, hv, hg, by rw [hb g (by rw [hv]; rfl)]; exact hh, rest⟩
theorem OwnE.below (h : OwnE T w N v l) (hb : Below w.heap.size w w') : OwnE T w' N v l := h.same fun k hk => hb.block k (h.lt k hk).2
theorem OwnE.els (h : OwnE T w N v l) : ∃ a cap, v = .slice a l.length cap ∧ Els w a l.length cap l := by
  have h1 := h.1
  rcases h.2 with ⟨rfl, hn⟩ | ⟨g, cap, cur, rfl, _, hg, hn, hm, hs, ht⟩
  · obtain rfl : l = [] := List.eq_nil_of_length_eq_zero hn
    exact ⟨none, 0, rfl, Els.nil w⟩
  · exact ⟨_, _, rfl, Els.of_blk (cs := cur.toList) ⟨T, by simpa using hg⟩ rfl hn hm ht⟩
theorem OwnE.any (h : OwnE T w N v l) : ∃ a n cap, v = .slice a n cap := by
  obtain ⟨a, cap, h, _⟩ := h.els
  exact ⟨a, _, cap, h⟩
theorem run_append_e (E : ElT α P S T b) (ty : TypeId) (h : OwnE T w N v l) {a : Option Addr} {m cap : Nat} {r : List α} (hr : Els w a m cap r) (hm : l.length + m ≤ 1000000) (hN : N ≤ w.heap.size) :
    ∃ v' w', (Builtin.append_ #[S, S] ty #[v, .slice a m cap]).run P w = .ok v' w' ∧ OwnE T w' N v' (l ++ r) ∧ w.grownBy w' v.ownBlock ∧ Moved w v v' := by
  obtain ⟨i, hi, hi1, hi2, hi3⟩ := info_parts E.info
  have few := E.few
  have hmb : (l.length + m) * b ≤ 140737488355328 := Nat.le_trans (Nat.mul_le_mul hm few) (by omega)
  have hmb2 : m * b ≤ 281474976710656 := Nat.le_trans (Nat.mul_le_mul (show m ≤ 1000000 by omega) few) (by omega)
  cases a with
  | none =>
    obtain rfl := hr.bare rfl
    obtain rfl : m = 0 := by have := hr.fits; omega
    obtain rfl : r = [] := List.eq_nil_of_length_eq_zero hr.len
    exact ⟨v, w, run_append_owned_none w N _ ty _ i (El.k α) E.und hi v _ _ h, by rw [List.append_nil]; exact h, ⟨rfl, rfl, rfl, Nat.le_refl _, fun _ _ _ => rfl⟩, .inl rfl⟩
  | some x =>
    have hlen : (flatE r).length = m * El.k α := by rw [flatE_length, hr.len]
    have hcells := hr.cells (x := x) rfl
    obtain ⟨v', w', hrun, h2, h3, h4⟩ := run_append_own w N S ty T i _ (El.k α) b E.und hi hi1 hi2 hi3 (by simp [Value.cells, El.len]) E.pos v l.length (flatE l) h x m cap (flatE r) hlen hcells (flatE_mem r) (by unfold maxLen; omega) hmb hN
    refine ⟨v', w', hrun, ?_, h3, ?_⟩
    · unfold OwnE
      rw [List.length_append, hr.len, flatE_append]; exact h2
    · have hfl := flatE_length l
      rcases h.2 with ⟨rfl, h0⟩ | ⟨g, c, cur, rfl, hbg, hg, hnc, hcm, hcs, htake⟩
      · by_cases hm0 : m = 0
        · left
          rw [h4.2 ⟨rfl, hm0⟩]
        · have e := run_append_nil w S ty T i _ E.und hi hi1 x m cap (flatE r) (by rw [hi2]; exact hlen) hcells (by omega) (by omega) (by rw [hi3]; exact hmb2)
          rw [e] at hrun
          injection hrun with e1 _
          right
          exact ⟨w.heap.size, Nat.le_refl _, by rw [← e1]; rfl⟩
      · by_cases hroom : l.length + m ≤ c
        · have e := run_append_room w S ty T i E.und hi g l.length c cur hg x m cap (flatE r) (by rw [hi2]; exact hlen) hcells (flatE_mem r) hroom (by
            rw [hi2, hlen, hcs, ← Nat.add_mul]; exact Nat.mul_le_mul_right _ hroom)
          rw [e] at hrun
          injection hrun with e1 _
          left
          rw [← e1]; rfl
        · have e := run_append_grow w S ty T i _ E.und hi hi1 ⟨g, 0, none⟩ l.length c (flatE l) (by rw [hi2]; exact hfl) (h.cells (g := g) rfl) x m cap (flatE r) (by rw [hi2]; exact hlen) hcells (by omega) (by omega) (growslice_fits (by omega) (by rw [hi3]; exact hmb))
          rw [e] at hrun
          injection hrun with e1 _
          right
          exact ⟨w.heap.size, Nat.le_refl _, by rw [← e1]; rfl⟩
end
section
variable {α : Type} [El α] {P : Program} {S T : TypeId} {by_ : Nat} {ops : Array Oper} {o : Oper} {ac : Act} {w : World} {K : Act → World → Prop} {Q : Exit → Act → World → Prop} {E : Prop}
theorem step_append_e (H : ElT α P S T by_) (hgd : o.guard = none) (s x : Operand)
    (ho : o.op = .call { callee := .builtin .append, args := #[s, x], argTypes := #[S, S] }) (B : Nat) (v : Value) (l : List α) (hs : ac.eval s = v) (h : OwnE T w B v l)
    (a : Option Addr) (m cap : Nat) (r : List α) (hx : ac.eval x = .slice a m cap) (hr : Els w a m cap r) (hm : l.length + m ≤ 1000000) (hN : B ≤ w.heap.size)
    (hK : ∀ v' w', Hid (OwnE T w' B v' (l ++ r)) → Hid (w.grownBy w' v.ownBlock) → Hid (Moved w v v') → K (ac.put o.dst v') w') : if Region.wanted o (yielded ops ac.tmps) = true then Oper.wp P o ac w K Q else E := by
  have hw : Region.wanted o (yielded ops ac.tmps) = true := by simp [Region.wanted, hgd]
  rw [if_pos hw]
  obtain ⟨v', w', hrun, h1, h2, h3⟩ := run_append_e H o.type h hr hm hN
  unfold Oper.wp execOp
  simp only [ho, resolve, invoke, builtin, Sem.run_bind, Sem.run_pure, Result.andThen_ok, List.map_toArray, List.map_cons, List.map_nil, hs, hx, hrun]
  exact hK v' w' h1 h2 h3
theorem wpList_append_e {rest : List Oper} (H : ElT α P S T by_) (hgd : o.guard = none) (s x : Operand)
    (ho : o.op = .call { callee := .builtin .append, args := #[s, x], argTypes := #[S, S] }) (B : Nat) (v : Value) (l : List α) (hs : ac.eval s = v) (h : OwnE T w B v l)
    (a : Option Addr) (m cap : Nat) (r : List α) (hx : ac.eval x = .slice a m cap) (hr : Els w a m cap r) (hm : l.length + m ≤ 1000000) (hN : B ≤ w.heap.size)
    (hK : ∀ v' w', Hid (OwnE T w' B v' (l ++ r)) → Hid (w.grownBy w' v.ownBlock) → Hid (Moved w v v') → wpList P ops Q rest (ac.put o.dst v') w') : wpList P ops Q (o :: rest) ac w := by
  obtain ⟨v', w', hrun, h1, h2, h3⟩ := run_append_e H o.type h hr hm hN
  refine wpList_plain hgd fun K hK' => ?_
  unfold Oper.wp execOp
  simp only [ho, resolve, invoke, builtin, Sem.run_bind, Sem.run_pure, Result.andThen_ok, List.map_toArray, List.map_cons, List.map_nil, hs, hx, hrun]
  exact hK' _ _ (hK v' w' h1 h2 h3)
/-- A slice of one element, laid by a region that draws its order. -/
theorem step_build_one (H : ElT α P S T by_) (hgd : o.guard = none) (y : Operand) (ho : o.op = .buildSlice S 1 #[(0, y)]) (x : α) (hy : ac.eval y = .agg (El.cs x).toArray)
    (hK : ∀ w', Hid (Els w' (some ⟨w.heap.size, 0, none⟩) 1 1 [x]) → Hid (Below w.heap.size w w') → K (ac.put o.dst (.slice (some ⟨w.heap.size, 0, none⟩) 1 1)) w') : if Region.wanted o (yielded ops ac.tmps) = true then Oper.wp P o ac w K Q else E := by
  have hw : Region.wanted o (yielded ops ac.tmps) = true := by simp [Region.wanted, hgd]
  rw [if_pos hw]
  obtain ⟨i, hi, hi1, hi2, hi3⟩ := info_parts H.info
  have h1 := H.pos
  have h2 := H.most
  refine wp_buildSlice S T 1 _ ho (flatE [x]).toArray i _ H.und hi hi1 (by rw [hi2]; omega) (by rw [hi2]; omega) ?_ (hK _ (Els.lit w [x] 1 T rfl (by omega)) ((Below.refl _ _).alloc (Nat.le_refl _) _))
  have hp : ((#[(0, y)] : Array (Nat × Operand)).map fun (i, x) => (i, ac.eval x)).toList = (([x].map fun p => Value.agg (El.cs p).toArray).zipIdx 0).map fun x => (x.2, x.1) := by
    simp [hy]
  rw [hp, hi2]
  have := Go.Great.fill_whole (s := El.k α) h1 ([x].map fun p => Value.agg (El.cs p).toArray) ((Array.range (1 * El.k α)).map ((Value.agg (El.cs (El.dflt : α)).toArray).cells[· % (Value.agg (El.cs (El.dflt : α)).toArray).cells.size]!)) (fun v hv => by
    obtain ⟨p, _, rfl⟩ := List.mem_map.1 hv
    show (El.cs p).toArray.size = El.k α
    rw [List.size_toArray, El.len]) (by simp)
  rw [this, flatE_values]
end
instance : El Pr := ⟨Pr.cs, 3, fun _ => rfl, fun x v hv => by
  simp only [Pr.cs, List.mem_cons, List.not_mem_nil, or_false] at hv
  rcases hv with rfl | rfl | rfl <;> rfl, default⟩
theorem Els.lit1 (w : World) (k v : ByteArray) (g : Bool) (T : TypeId) : Els (w.alloc (.cells #[.string k, .string v, .bool g] T)) (some ⟨w.heap.size, 0, none⟩) 1 1 [(⟨k, v, g⟩ : Pr)] := Els.lit w [(⟨k, v, g⟩ : Pr)] 1 T rfl (by omega)
theorem Els.pr {w : World} {a : Option Addr} {n cap : Nat} {l : List Pr} (h : Els w a n cap l) {k : Nat} (hk : k < n) : ∃ b o, a = some ⟨b, o, none⟩ ∧ w.cell? ⟨b, o + k * 3, none⟩ = some (.string (l.getD k default).k) ∧ w.cell? ⟨b, o + k * 3 + 1, none⟩ = some (.string (l.getD k default).v) ∧ w.cell? ⟨b, o + k * 3 + 2, none⟩ = some (.bool (l.getD k default).g) := by
  obtain ⟨b, o, ha, hr⟩ := h.at k hk
  exact ⟨b, o, ha, hr 0 _ rfl, hr 1 _ rfl, hr 2 _ rfl⟩
end Go.Proofs.Ytlapnnkahijikaa
namespace Go.Proofs.Ytlapnnkahijikaa
open Go.ChangeShapes Go.WideShapes Go.ChangeAt Go.RowKit Go.Lib

theorem kb_inj {a b : ByteArray} (h : bytesOf a = bytesOf b) : a = b := by rw [← mk_bytesOf a, ← mk_bytesOf b, h]
/-- Is a key ahead of another one? -/
def klt (a b : ByteArray) : Bool := decide (bytesOf a < bytesOf b)
theorem klt_irrefl (a : ByteArray) : klt a a = false := by unfold klt; rw [decide_eq_false_iff_not]; exact List.lt_irrefl _
theorem klt_trans {a b c : ByteArray} (h : klt a b = true) (k : klt b c = true) : klt a c = true := by
  unfold klt at *
  rw [decide_eq_true_eq] at *
  exact List.lt_trans h k
theorem klt_asymm {a b : ByteArray} (h : klt a b = true) : klt b a = false := by
  cases e : klt b a with
  | false => rfl
  | true => have := klt_trans h e; rw [klt_irrefl] at this; cases this
theorem klt_tri {a b : ByteArray} (h : klt a b = false) (hn : a ≠ b) : klt b a = true := by
  unfold klt at *
  rw [decide_eq_false_iff_not] at h
  rw [decide_eq_true_eq]
  have h1 := List.not_lt.1 h
  exact Classical.byContradiction fun h2 => hn (kb_inj (List.le_antisymm (List.not_lt.1 h2) h1))
theorem klt_ne {a b : ByteArray} (h : klt a b = true) : a ≠ b := fun e => by rw [e, klt_irrefl] at h; cases h

/-- In order of keys, each key once, none gone. -/
def Up (T : List Pr) : Prop := T.Pairwise (fun p q => klt p.k q.k = true) ∧ ∀ p ∈ T, p.g = false
theorem Up.nil : Up [] := ⟨List.Pairwise.nil, fun _ h => by cases h⟩
theorem Up.tail {p : Pr} {T : List Pr} (h : Up (p :: T)) : Up T := ⟨(List.pairwise_cons.1 h.1).2, fun q hq => h.2 q (List.mem_cons_of_mem _ hq)⟩
theorem Up.head {p q : Pr} {T : List Pr} (h : Up (p :: T)) (hq : q ∈ T) : klt p.k q.k = true := (List.pairwise_cons.1 h.1).1 q hq
/-- A table behind a pair. -/
def tput (p : Pr) : List Pr → List Pr
  | [] => if p.g = true then [] else [p]
  | q :: T => if klt q.k p.k = true then q :: tput p T else if q.k = p.k then (if p.g = true then T else p :: T) else (if p.g = true then q :: T else p :: q :: T)
theorem mem_tput {p x : Pr} : ∀ {T : List Pr}, x ∈ tput p T → (x = p ∧ p.g = false) ∨ x ∈ T
  | [], h => by
    unfold tput at h
    split at h
    · cases h
    · rename_i hg
      simp only [List.mem_singleton] at h
      exact .inl ⟨h, by simpa using hg⟩
  | q :: T, h => by
    unfold tput at h
    split at h
    · rcases List.mem_cons.1 h with e | e
      · exact .inr (by rw [e]; exact List.mem_cons_self ..)
      · exact (mem_tput e).imp id fun e => List.mem_cons_of_mem _ e
    · split at h
      · split at h
        · exact .inr (List.mem_cons_of_mem _ h)
        · rename_i hg
          rcases List.mem_cons.1 h with e | e
          · exact .inl ⟨e, by simpa using hg⟩
          · exact .inr (List.mem_cons_of_mem _ e)
      · split at h
        · exact .inr h
        · rename_i hg
          rcases List.mem_cons.1 h with e | e
          · exact .inl ⟨e, by simpa using hg⟩
          · exact .inr e
theorem up_tput {p : Pr} : ∀ {T : List Pr}, Up T → Up (tput p T)
  | [], _ => by
    unfold tput
    split
    · exact Up.nil
    · rename_i hg
      exact ⟨List.pairwise_singleton _ _, fun q hq => by simp only [List.mem_singleton] at hq; rw [hq]; simpa using hg⟩
  | q :: T, h => by
    have hT := up_tput (p := p) h.tail
    have hq : q.g = false := h.2 q (List.mem_cons_self ..)
    unfold tput
    by_cases h1 : klt q.k p.k = true
    · rw [if_pos h1]
      refine ⟨List.pairwise_cons.2 ⟨fun x hx => ?_, hT.1⟩, fun x hx => ?_⟩
      · rcases mem_tput hx with ⟨e, _⟩ | e
        · rw [e]; exact h1
        · exact h.head e
      · rcases List.mem_cons.1 hx with e | e
        · rw [e]; exact hq
        · exact hT.2 x e
    · rw [if_neg h1]
      have h1' : klt q.k p.k = false := by simpa using h1
      by_cases h2 : q.k = p.k
      · rw [if_pos h2]
        by_cases hg : p.g = true
        · rw [if_pos hg]; exact h.tail
        · rw [if_neg hg]
          refine ⟨List.pairwise_cons.2 ⟨fun x hx => by rw [← h2]; exact h.head hx, h.tail.1⟩, fun x hx => ?_⟩
          rcases List.mem_cons.1 hx with e | e
          · rw [e]; simpa using hg
          · exact h.tail.2 x e
      · rw [if_neg h2]
        by_cases hg : p.g = true
        · rw [if_pos hg]; exact h
        · rw [if_neg hg]
          have h3 := klt_tri h1' h2
          refine ⟨List.pairwise_cons.2 ⟨fun x hx => ?_, h.1⟩, fun x hx => ?_⟩
          · rcases List.mem_cons.1 hx with e | e
            · rw [e]; exact h3
            · exact klt_trans h3 (h.head e)
          · rcases List.mem_cons.1 hx with e | e
            · rw [e]; simpa using hg
            · exact h.2 x e
theorem tput_length (p : Pr) : ∀ T : List Pr, (tput p T).length ≤ T.length + 1
  | [] => by unfold tput; split <;> simp
  | q :: T => by
    have := tput_length p T
    unfold tput
    split
    · simp only [List.length_cons]; omega
    · split <;> split <;> simp only [List.length_cons] <;> omega
/-- All but a key's. -/
def rem (k : ByteArray) (T : List Pr) : List Pr := T.filter fun q => decide (q.k ≠ k)
theorem rem_self {k : ByteArray} {T : List Pr} (h : ∀ q ∈ T, q.k ≠ k) : rem k T = T := List.filter_eq_self.2 fun q hq => by simpa using h q hq
theorem tput_perm {p : Pr} : ∀ {T : List Pr}, Up T → (tput p T).Perm ((if p.g = true then [] else [p]) ++ rem p.k T)
  | [], _ => by unfold tput rem; simp
  | q :: T, h => by
    have ih := tput_perm (p := p) h.tail
    unfold tput
    by_cases h1 : klt q.k p.k = true
    · rw [if_pos h1]
      have e : rem p.k (q :: T) = q :: rem p.k T := by unfold rem; rw [List.filter_cons_of_pos (by simpa using klt_ne h1)]
      rw [e]
      exact (ih.cons q).trans List.perm_middle.symm
    · rw [if_neg h1]
      have h1' : klt q.k p.k = false := by simpa using h1
      by_cases h2 : q.k = p.k
      · rw [if_pos h2]
        have e : rem p.k (q :: T) = T := by
          unfold rem
          rw [List.filter_cons_of_neg (by simpa using h2)]
          exact rem_self fun x hx => by rw [← h2]; exact (klt_ne (h.head hx)).symm
        rw [e]
        split <;> exact List.Perm.refl _
      · rw [if_neg h2]
        have h3 := klt_tri h1' h2
        have e : rem p.k (q :: T) = q :: T := rem_self fun x hx => by
          rcases List.mem_cons.1 hx with e | e
          · rw [e]; exact h2
          · exact (klt_ne (klt_trans h3 (h.head e))).symm
        rw [e]
        split <;> exact List.Perm.refl _

/-- The pairs of a store's map are these. -/
structure Shows (A : List (ByteArray × Pr)) (T : List Pr) : Prop where
  up : Up T
  key : ∀ q ∈ A, q.2.k = q.1
  perm : T.Perm (A.map Prod.snd)
theorem adel_rem {A : List (ByteArray × Pr)} {k : ByteArray} (hn : (A.map Prod.fst).Nodup) (hk : ∀ q ∈ A, q.2.k = q.1) : (adel k A).map Prod.snd = rem k (A.map Prod.snd) := by
  induction A with
  | nil => rfl
  | cons a A ih =>
    rw [List.map_cons, List.nodup_cons] at hn
    have ih := ih hn.2 fun q hq => hk q (List.mem_cons_of_mem _ hq)
    have ha := hk a (List.mem_cons_self ..)
    unfold adel
    rw [List.map_cons]
    by_cases h : k = a.1
    · rw [if_pos h]
      unfold rem
      rw [List.filter_cons_of_neg (by simp [ha, h])]
      refine (rem_self fun x hx => ?_).symm
      obtain ⟨q, hq, rfl⟩ := List.mem_map.1 hx
      rw [hk q (List.mem_cons_of_mem _ hq), h]
      exact fun e => hn.1 (by rw [← e]; exact List.mem_map.2 ⟨q, hq, rfl⟩)
    · rw [if_neg h, List.map_cons, ih]
      unfold rem
      rw [List.filter_cons_of_pos (by simpa [ha] using fun e => h e.symm)]
theorem aput_rem {A : List (ByteArray × Pr)} {k : ByteArray} {p : Pr} (hn : (A.map Prod.fst).Nodup) (hk : ∀ q ∈ A, q.2.k = q.1) : ((aput k p A).map Prod.snd).Perm (p :: rem k (A.map Prod.snd)) := by
  induction A with
  | nil => exact List.Perm.refl _
  | cons a A ih =>
    have hn0 := hn
    rw [List.map_cons, List.nodup_cons] at hn
    have ih := ih hn.2 fun q hq => hk q (List.mem_cons_of_mem _ hq)
    have ha := hk a (List.mem_cons_self ..)
    unfold aput
    by_cases h : k = a.1
    · rw [if_pos h, List.map_cons, List.map_cons]
      have := adel_rem (k := k) hn0 hk
      unfold adel at this
      rw [if_pos h, List.map_cons] at this
      rw [← this]
    · rw [if_neg h, List.map_cons, List.map_cons]
      have e : rem k (a.2 :: A.map Prod.snd) = a.2 :: rem k (A.map Prod.snd) := by
        unfold rem
        rw [List.filter_cons_of_pos (by simpa [ha] using fun e => h e.symm)]
      rw [e]
      exact (ih.cons a.2).trans (List.Perm.swap ..)
theorem aput_key {A : List (ByteArray × Pr)} {k : ByteArray} {p : Pr} (hk : ∀ q ∈ A, q.2.k = q.1) (hp : p.k = k) : ∀ q ∈ aput k p A, q.2.k = q.1 := fun q hq => by
  rcases mem_put hq with e | ⟨e, _⟩
  · rw [e]; exact hp
  · exact hk q e
/-- The map behind a pair. -/
def aset (p : Pr) (A : List (ByteArray × Pr)) : List (ByteArray × Pr) := if p.g = true then adel p.k A else aput p.k p A
theorem shows_set {A : List (ByteArray × Pr)} {T : List Pr} (h : Shows A T) (hn : (A.map Prod.fst).Nodup) (p : Pr) : Shows (aset p A) (tput p T) := by
  have hp := tput_perm (p := p) h.up
  have hr : (rem p.k T).Perm (rem p.k (A.map Prod.snd)) := h.perm.filter _
  unfold aset
  by_cases hg : p.g = true
  · rw [if_pos hg]
    rw [if_pos hg, List.nil_append] at hp
    exact ⟨up_tput h.up, fun q hq => h.key q ((adel_sub _ _).subset hq), (hp.trans hr).trans (by rw [adel_rem hn h.key])⟩
  · rw [if_neg hg]
    rw [if_neg hg, List.singleton_append] at hp
    exact ⟨up_tput h.up, aput_key h.key rfl, (hp.trans (hr.cons p)).trans (aput_rem hn h.key).symm⟩
theorem aset_nodup {A : List (ByteArray × Pr)} (hn : (A.map Prod.fst).Nodup) (p : Pr) : ((aset p A).map Prod.fst).Nodup := by
  unfold aset
  split
  · exact nodup_del hn
  · exact nodup_put hn
/-- Behind a batch; behind batches. -/
def tbat (T : List Pr) (b : List Pr) : List Pr := b.foldl (fun T p => tput p T) T
def abat (A : List (ByteArray × Pr)) (b : List Pr) : List (ByteArray × Pr) := b.foldl (fun A p => aset p A) A
def thist (H : List (List Pr)) : List Pr := H.foldl tbat []
theorem tbat_nil (T : List Pr) : tbat T [] = T := rfl
theorem tbat_next (T b : List Pr) (k : Nat) (h : k < b.length) : tbat T (b.take (k + 1)) = tput (b.getD k default) (tbat T (b.take k)) := by
  unfold tbat
  rw [List.take_add_one, List.foldl_append, List.getD_eq_getElem?_getD, List.getElem?_eq_getElem h]; rfl
theorem abat_next (A : List (ByteArray × Pr)) (b : List Pr) (k : Nat) (h : k < b.length) : abat A (b.take (k + 1)) = aset (b.getD k default) (abat A (b.take k)) := by
  unfold abat
  rw [List.take_add_one, List.foldl_append, List.getD_eq_getElem?_getD, List.getElem?_eq_getElem h]; rfl
theorem thist_snoc (H : List (List Pr)) (b : List Pr) : thist (H ++ [b]) = tbat (thist H) b := by unfold thist; rw [List.foldl_append]; rfl
theorem shows_bat {b : List Pr} : ∀ {A : List (ByteArray × Pr)} {T : List Pr}, Shows A T → (A.map Prod.fst).Nodup → Shows (abat A b) (tbat T b) ∧ ((abat A b).map Prod.fst).Nodup := by
  induction b with
  | nil => intro A T h hn; exact ⟨h, hn⟩
  | cons p b ih => intro A T h hn; exact ih (shows_set h hn p) (aset_nodup hn p)
theorem up_tbat {b : List Pr} : ∀ {T : List Pr}, Up T → Up (tbat T b) := by
  induction b with
  | nil => intro T h; exact h
  | cons p b ih => intro T h; exact ih (up_tput h)
theorem up_hist (H : List (List Pr)) : Up (thist H) := by
  have : ∀ (H : List (List Pr)) (T : List Pr), Up T → Up (H.foldl tbat T) := by
    intro H
    induction H with
    | nil => intro T h; exact h
    | cons b H ih => intro T h; exact ih _ (up_tbat h)
  exact this H [] Up.nil
theorem tbat_mem {b : List Pr} {x : Pr} : ∀ {T : List Pr}, x ∈ tbat T b → x ∈ T ∨ x ∈ b := by
  induction b with
  | nil => intro T h; exact .inl h
  | cons p b ih =>
    intro T h
    rcases ih h with h | h
    · rcases mem_tput h with ⟨e, _⟩ | e
      · exact .inr (by rw [e]; exact List.mem_cons_self ..)
      · exact .inl e
    · exact .inr (List.mem_cons_of_mem _ h)
theorem tbat_length {b : List Pr} : ∀ {T : List Pr}, (tbat T b).length ≤ T.length + b.length := by
  induction b with
  | nil => intro T; simp [tbat]
  | cons p b ih =>
    intro T
    have h1 := ih (T := tput p T)
    have h2 := tput_length p T
    show (tbat (tput p T) b).length ≤ _
    rw [List.length_cons]; omega
theorem tput_end {S : List Pr} {p : Pr} (h : Up (S ++ [p])) : tput p S = S ++ [p] := by
  induction S with
  | nil =>
    unfold tput
    have := h.2 p (by simp)
    rw [if_neg (by rw [this]; simp)]; rfl
  | cons q S ih =>
    unfold tput
    have h1 : klt q.k p.k = true := h.head (by simp)
    rw [if_pos h1, ih h.tail]; rfl
theorem Up.left {S R : List Pr} (h : Up (S ++ R)) : Up S := ⟨(List.pairwise_append.1 h.1).1, fun p hp => h.2 p (List.mem_append_left _ hp)⟩
theorem tbat_up {T : List Pr} (h : Up T) : tbat [] T = T := by
  have : ∀ k, k ≤ T.length → tbat [] (T.take k) = T.take k := by
    intro k
    induction k with
    | zero => intro _; simp [tbat]
    | succ k ih =>
      intro hk
      rw [tbat_next _ _ _ (by omega), ih (by omega)]
      have e : T.take (k + 1) = T.take k ++ [T.getD k default] := by
        rw [List.take_add_one, List.getD_eq_getElem?_getD, List.getElem?_eq_getElem (by omega)]; rfl
      rw [e]
      refine tput_end ?_
      rw [← e]
      have := h
      rw [← List.take_append_drop (k + 1) T] at this
      exact this.left
  have := this T.length (Nat.le_refl _)
  rwa [List.take_length] at this
/-- Two rows in order of keys that have the same pairs are one. -/
theorem up_unique {S T : List Pr} (hS : S.Pairwise fun p q => klt p.k q.k = true) (hT : Up T) (h : S.Perm T) : S = T :=
  h.eq_of_pairwise (le := fun p q => klt p.k q.k = true) (fun a b _ _ h1 h2 => by rw [klt_asymm h1] at h2; cases h2) hS hT.1
theorem up_keys {T : List Pr} (h : T.Pairwise fun p q => klt p.k q.k = true) {l : List ByteArray} (hp : l.Perm (T.map Pr.k)) : sortN l = T.map Pr.k := by
  unfold sortN
  have h1 : ((l.map bytesOf).mergeSort leB) = (T.map Pr.k).map bytesOf := by
    rw [Go.mergeSort_of_perm (hp.map bytesOf)]
    refine List.mergeSort_of_pairwise ?_
    rw [List.map_map, List.pairwise_map]
    refine h.imp fun {a b} hab => ?_
    unfold klt at hab
    rw [decide_eq_true_eq] at hab
    simp only [leB, decide_eq_true_eq, Function.comp]
    exact List.not_lt.1 fun e => List.lt_irrefl _ (List.lt_trans hab e)
  rw [h1, List.map_map]
  refine (List.map_congr_left fun k _ => ?_).trans (List.map_id _)
  exact mk_bytesOf k
end Go.Proofs.Ytlapnnkahijikaa
