/- Maps of the call's own, keyed by values of one kind, with int elements: lookup, store, entry. No program. Hashes as elements of rows and as keys of maps; points as keys. No function is walked here. -/
import Derived.Test.YtlaifphedhaemaaGreatDoorZS2
import Derived.Test.YtlaifphedhaemaaGreatDoorZQ1
import Derived.DeepKeys4
namespace Go.Proofs.YtlaifphedhaemaaGreatDoor
open Go.RowKit Go.ChangeMaps

/-- Keys of type k: checked, compared, and staying as they are. -/
structure KeyT (P : Program) (k : TypeId) (α : Type) [DecidableEq α] (val : α → Value) : Prop where
  check : ∀ w em x, (Instr.checkKey em 10000 k (val x)).run P w = .ok () w
  eq : ∀ w x y, (Op.equal k (val x) (val y)).run P w = .ok (decide (x = y)) w
  bits : ∀ x, Instr.sameBits 10000 (val x) (val x) = true
  kind : ∃ d, P.underlying k = some d ∧ ∀ a b, Instr.sameNow d a b = none

section
variable {P : Program} {k mt et : TypeId} {α : Type} [DecidableEq α] {val : α → Value} {w w' : World} {r : Nat}

def ent (val : α → Value) (p : (α × Int) × Nat) : MapEntry := ⟨val p.1.1, .int .i64 p.1.2, p.2⟩
def ents (val : α → Value) (l : List (α × Int)) : Array MapEntry := (l.zipIdx.map (ent val)).toArray
def MapAt (val : α → Value) (w : World) (r : Nat) (l : List (α × Int)) : Prop := w.heap[r]? = some (.map (ents val l) l.length)
/-- The first place of a key. -/
def posOf (x : α) : List (α × Int) → Option Nat
  | [] => none
  | p :: l => if x = p.1 then some 0 else (posOf x l).map (· + 1)
def look (x : α) : List (α × Int) → Option Int
  | [] => none
  | p :: l => if x = p.1 then some p.2 else look x l
def putM (x : α) (v : Int) : List (α × Int) → List (α × Int)
  | [] => [(x, v)]
  | p :: l => if x = p.1 then (p.1, v) :: l else p :: putM x v l

omit [DecidableEq α] in
theorem MapAt.lt {l : List (α × Int)} (h : MapAt val w r l) : r < w.heap.size := (Array.getElem?_eq_some_iff.1 h).1
omit [DecidableEq α] in
theorem MapAt.below {B : Nat} {l : List (α × Int)} (h : MapAt val w r l) (hb : Below B w w') (hB : r < B) : MapAt val w' r l := by
  unfold MapAt; rw [hb.block r hB]; exact h
omit [DecidableEq α] in
theorem MapAt.keep {R : Nat} {l : List (α × Int)} (h : MapAt val w r l) (k : Keep R w w') (hr : r ≠ R) : MapAt val w' r l := by
  have hl := h.lt
  unfold MapAt; rw [k.block r hl hr]; exact h
omit [DecidableEq α] in
theorem MapAt.new (w : World) : MapAt val (w.alloc (.map #[] 0)) w.heap.size [] := by
  unfold MapAt; rw [heap_alloc_new]; rfl
omit [DecidableEq α] in
theorem MapAt.drew {l : List (α × Int)} (h : MapAt val w r l) : MapAt val w.drew r l := h

theorem zipIdx_map_find (x : α) : ∀ (l : List (α × Int)) (n i : Nat) (_ : KeyT P k α val) (w : World),
    (Instr.findAsking k (val x) ((l.zipIdx n).map (ent val)) i).run P w = .ok ((posOf x l).map fun j => (i + j, .int .i64 ((look x l).getD 0))) w := by
  intro l
  induction l with
  | nil => intro n i K w; rfl
  | cons p l ih =>
    intro n i K w
    rw [List.zipIdx_cons, List.map_cons]
    unfold Instr.findAsking
    rw [Sem.run_bind, show (ent val (p, n)).key = val p.1 from rfl, K.eq w x p.1, Result.andThen_ok]
    unfold posOf look
    by_cases h : x = p.1
    · rw [if_pos h, if_pos h, decide_eq_true h]; rfl
    · rw [if_neg h, if_neg h, decide_eq_false h]
      simp only [Bool.false_eq_true, if_false]
      rw [ih (n + 1) (i + 1) K w, Option.map_map]
      congr 1
      cases posOf x l with
      | none => rfl
      | some j => simp only [Option.map_some, Function.comp]; rw [show i + 1 + j = i + (j + 1) by omega]
theorem find_ents (K : KeyT P k α val) (x : α) (l : List (α × Int)) (w : World) :
    (Instr.findKey k (val x) (ents val l).toList).run P w = .ok ((posOf x l).map fun j => (j, .int .i64 ((look x l).getD 0))) w := by
  obtain ⟨d, hd, hs⟩ := K.kind
  unfold Instr.findKey
  rw [Sem.run_bind, run_underlying hd, Result.andThen_ok]
  cases l with
  | nil => rfl
  | cons p l =>
    have hf : Instr.findNow d (val x) (ents val (p :: l)).toList 0 = none := by
      unfold ents
      rw [List.zipIdx_cons, List.map_cons]
      simp only [Instr.findNow, hs]
    rw [hf]
    have := zipIdx_map_find x (p :: l) 0 0 K w
    simpa [ents] using this
theorem posOf_none {x : α} {l : List (α × Int)} (h : posOf x l = none) : look x l = none ∧ ∀ v, putM x v l = l ++ [(x, v)] := by
  induction l with
  | nil => exact ⟨rfl, fun _ => rfl⟩
  | cons p l ih =>
    unfold posOf at h
    split at h
    · cases h
    · rename_i hp
      have h' : posOf x l = none := by cases e : posOf x l with | none => rfl | some j => rw [e] at h; cases h
      obtain ⟨h1, h2⟩ := ih h'
      exact ⟨by unfold look; rw [if_neg hp]; exact h1, fun v => by unfold putM; rw [if_neg hp, h2]; rfl⟩
theorem posOf_some {x : α} {l : List (α × Int)} {j : Nat} (h : posOf x l = some j) : j < l.length ∧ (∃ u, look x l = some u ∧ l[j]? = some (x, u)) ∧ ∀ v, putM x v l = l.set j (x, v) := by
  induction l generalizing j with
  | nil => cases h
  | cons p l ih =>
    unfold posOf at h
    split at h
    · rename_i hp
      injection h with h; subst h
      refine ⟨by simp, ⟨p.2, by unfold look; rw [if_pos hp], by rw [hp]; rfl⟩, fun v => ?_⟩
      unfold putM; rw [if_pos hp, List.set_cons_zero, hp]
    · rename_i hp
      cases e : posOf x l with
      | none => rw [e] at h; cases h
      | some i =>
        rw [e] at h; injection h with h; subst h
        obtain ⟨h1, ⟨u, h2, h3⟩, h4⟩ := ih e
        refine ⟨by simp; omega, ⟨u, by unfold look; rw [if_neg hp]; exact h2, by simpa using h3⟩, fun v => ?_⟩
        unfold putM; rw [if_neg hp, h4, List.set_cons_succ]
theorem putM_length (x : α) (v : Int) (l : List (α × Int)) : (putM x v l).length = if posOf x l = none then l.length + 1 else l.length := by
  cases h : posOf x l with
  | none => rw [(posOf_none h).2]; simp
  | some j => rw [(posOf_some h).2.2]; simp
omit [DecidableEq α] in
theorem ents_size (l : List (α × Int)) : (ents val l).size = l.length := by simp [ents]
omit [DecidableEq α] in
theorem ents_push (l : List (α × Int)) (x : α) (v : Int) : ents val (l ++ [(x, v)]) = (ents val l).push ⟨val x, .int .i64 v, l.length⟩ := by
  apply Array.toList_inj.1
  simp [ents, List.zipIdx_append, ent]
omit [DecidableEq α] in
theorem ents_get (l : List (α × Int)) (j : Nat) : (ents val l)[j]? = (l[j]?).map fun p => ent val (p, j) := by
  simp [ents, List.getElem?_zipIdx]
  cases l[j]? <;> rfl
omit [DecidableEq α] in
theorem ents_set (l : List (α × Int)) (j : Nat) (p : α × Int) (q : α × Int) (h : l[j]? = some q) (f : MapEntry → MapEntry) (hf : f (ent val (q, j)) = ent val (p, j)) : (ents val l).modify j f = ents val (l.set j p) := by
  apply Array.ext_getElem?
  intro i
  rw [Array.getElem?_modify, ents_get, ents_get, List.getElem?_set]
  have hj := (List.getElem?_eq_some_iff.1 h).1
  by_cases e : j = i
  · subst e
    rw [if_pos rfl, if_pos rfl, h, if_pos hj]
    simp [hf]
  · rw [if_neg e, if_neg e]
omit [DecidableEq α] in
theorem set_same {l : List (α × Int)} {j : Nat} {p : α × Int} (h : l[j]? = some p) : l.set j p = l := by
  apply List.ext_getElem?
  intro i
  rw [List.getElem?_set]
  have hj := (List.getElem?_eq_some_iff.1 h).1
  by_cases e : j = i
  · subst e; rw [if_pos rfl, if_pos hj, h]
  · rw [if_neg e]
theorem keep_setBlock (w : World) (r : Nat) (o : Obj) : Keep r w (setBlock w r o) :=
  ⟨rfl, rfl, rfl, by simp [setBlock], fun i _ hr => by
    simp [setBlock, Ne.symm hr]⟩
omit [DecidableEq α] in
theorem mapAt_setBlock {l l' : List (α × Int)} (h : MapAt val w r l) : MapAt val (setBlock w r (.map (ents val l') l'.length)) r l' := by
  have := h.lt
  unfold MapAt; simp [setBlock, this]
theorem run_stays (K : KeyT P k α val) (x : α) (w : World) : (Instr.keyThatStays (val x) (val x)).run P w = .ok (val x) w := by
  unfold Instr.keyThatStays
  rw [if_pos (K.bits x)]; rfl

theorem run_look (K : KeyT P k α val) (ht : P.underlying mt = some (.map k et)) (hz : ∀ w, (zeroValue et).run P w = .ok (.int .i64 0) w) {l : List (α × Int)} (h : MapAt val w r l) (x : α) (c : Bool) :
    (Instr.lookup mt (.map (some r)) (val x) c).run P w = .ok (if c then .tuple #[.int .i64 ((look x l).getD 0), .bool (look x l).isSome] else .int .i64 ((look x l).getD 0)) w := by
  unfold MapAt at h
  cases hp : posOf x l with
  | none =>
    have h1 := (posOf_none hp).1
    cases c <;> simp [Instr.lookup, run_underlying ht, MapKept.run_getObj_map h, K.check w _ x, find_ents K x l w, hp, hz, h1, Result.andThen]
  | some j =>
    obtain ⟨_, ⟨u, h2, _⟩, _⟩ := posOf_some hp
    cases c <;> simp [Instr.lookup, run_underlying ht, MapKept.run_getObj_map h, K.check w _ x, find_ents K x l w, hp, h2, Result.andThen]
theorem run_update (K : KeyT P k α val) (ht : P.underlying mt = some (.map k et)) {l : List (α × Int)} (h : MapAt val w r l) (x : α) (v : Int) :
    ∃ w', (Instr.mapUpdate mt (.map (some r)) (val x) (.int .i64 v)).run P w = .ok () w' ∧ MapAt val w' r (putM x v l) ∧ Keep r w w' := by
  refine ⟨setBlock w r (.map (ents val (putM x v l)) (putM x v l).length), ?_, mapAt_setBlock h, keep_setBlock _ _ _⟩
  unfold MapAt at h
  cases hp : posOf x l with
  | none =>
    rw [putM_length, if_pos hp, (posOf_none hp).2, ents_push]
    simp [Instr.mapUpdate, run_underlying ht, MapKept.run_getObj_map h, K.check w _ x, find_ents K x l w, hp, MapKept.run_setObj_map _ h, Result.andThen, setBlock]
  | some j =>
    obtain ⟨hj, ⟨u, h2, h3⟩, h4⟩ := posOf_some hp
    rw [putM_length, hp, h4]
    have hg : (ents val l)[j]? = some (ent val ((x, u), j)) := by rw [ents_get, h3]; rfl
    have hm : (ents val l).modify j (fun e => { e with key := val x, val := .int .i64 v }) = ents val (l.set j (x, v)) := ents_set l j (x, v) (x, u) h3 _ rfl
    simp [Instr.mapUpdate, run_underlying ht, MapKept.run_getObj_map h, K.check w _ x, find_ents K x l w, hp, hg, show (ent val ((x, u), j)).key = val x from rfl, run_stays K, MapKept.run_setObj_map _ h, Result.andThen, setBlock, hm]
theorem run_entry (K : KeyT P k α val) (ht : P.underlying mt = some (.map k et)) (hz : ∀ w, (zeroValue et).run P w = .ok (.int .i64 0) w) {l : List (α × Int)} (h : MapAt val w r l) (x : α) :
    ∃ w', (Instr.mapEntry mt (.map (some r)) (val x)).run P w = .ok (.tuple #[.int .i64 ((look x l).getD 0), goInt ((posOf x l).getD l.length)]) w' ∧ MapAt val w' r (putM x ((look x l).getD 0) l) ∧ Keep r w w' := by
  refine ⟨setBlock w r (.map (ents val (putM x ((look x l).getD 0) l)) (putM x ((look x l).getD 0) l).length), ?_, mapAt_setBlock h, keep_setBlock _ _ _⟩
  unfold MapAt at h
  cases hp : posOf x l with
  | none =>
    rw [putM_length, if_pos hp, (posOf_none hp).2, ents_push, (posOf_none hp).1]
    simp [Instr.mapEntry, run_underlying ht, MapKept.run_getObj_map h, K.check w _ x, find_ents K x l w, hp, hz, MapKept.run_setObj_map _ h, Result.andThen, setBlock]
  | some j =>
    obtain ⟨hj, ⟨u, h2, h3⟩, h4⟩ := posOf_some hp
    rw [putM_length, hp, h4, h2]
    have hg : (ents val l)[j]? = some (ent val ((x, u), j)) := by rw [ents_get, h3]; rfl
    have hm : (ents val l).modify j (fun e => { e with key := val x }) = ents val (l.set j (x, u)) := ents_set l j (x, u) (x, u) h3 _ rfl
    simp [Instr.mapEntry, run_underlying ht, MapKept.run_getObj_map h, K.check w _ x, find_ents K x l w, hp, h2, hg, show (ent val ((x, u), j)).key = val x from rfl, show (ent val ((x, u), j)).born = j from rfl, run_stays K, MapKept.run_setObj_map _ h, Result.andThen, setBlock, hm]
omit [DecidableEq α] in
theorem find_born (l : List (α × Int)) (j : Nat) (hj : j < l.length) : (ents val l).findIdx? (fun e => (e.born : Int) == (j : Int)) = some j := by
  rw [Array.findIdx?_eq_some_iff_getElem]
  refine ⟨by rw [ents_size]; exact hj, ?_, ?_⟩
  · have := ents_get (val := val) l j
    rw [Array.getElem?_eq_getElem (by rw [ents_size]; exact hj), List.getElem?_eq_getElem hj] at this
    injection this with this
    rw [this]; simp [ent]
  · intro i hi
    have hil : i < l.length := by omega
    have := ents_get (val := val) l i
    rw [Array.getElem?_eq_getElem (by rw [ents_size]; exact hil), List.getElem?_eq_getElem hil] at this
    injection this with this
    rw [this]; simp [ent]; omega
omit [DecidableEq α] in
theorem run_entryStore {l : List (α × Int)} (h : MapAt val w r l) (j : Nat) (x : α) (u v : Int) (hj : l[j]? = some (x, u)) :
    ∃ w', (Instr.entryStore mt (.map (some r)) (goInt j) (.int .i64 v)).run P w = .ok () w' ∧ MapAt val w' r (l.set j (x, v)) ∧ Keep r w w' := by
  refine ⟨setBlock w r (.map (ents val (l.set j (x, v))) (l.set j (x, v)).length), ?_, mapAt_setBlock h, keep_setBlock _ _ _⟩
  unfold MapAt at h
  have hl := (List.getElem?_eq_some_iff.1 hj).1
  have hm : (ents val l).modify j (fun e => { e with val := .int .i64 v }) = ents val (l.set j (x, v)) := ents_set l j (x, v) (x, u) hj _ rfl
  have hf := find_born (val := val) l j hl
  have hi : (asInt (goInt (j : Int))).run P w = .ok (j : Int) w := by rfl
  simp [Instr.entryStore, MapKept.run_getObj_map h, hi, hf, MapKept.run_setObj_map _ h, Result.andThen, setBlock, hm]

/-- The same at the operations, for the walk. -/
theorem wpList_look {ops : Array Oper} {rest : List Oper} {o : Oper} {a : Act} {Q : Exit → Act → World → Prop} (hg : o.guard = none) (m x : Operand) (c : Bool) (hop : o.op = Op.lookup mt m x c)
    (K : KeyT P k α val) (ht : P.underlying mt = some (.map k et)) (hz : ∀ w, (zeroValue et).run P w = .ok (.int .i64 0) w) (l : List (α × Int)) (h : MapAt val w r l) (y : α)
    (hm : a.eval m = .map (some r)) (hx : a.eval x = val y)
    (hK : wpList P ops Q rest (a.put o.dst (if c then .tuple #[.int .i64 ((look y l).getD 0), .bool (look y l).isSome] else .int .i64 ((look y l).getD 0))) w) : wpList P ops Q (o :: rest) a w := by
  refine wpList_plain hg fun K' hK' => ?_
  unfold Oper.wp
  simp [execOp, hop, hm, hx, run_look K ht hz h y c, Result.andThen]
  exact hK' _ _ hK
theorem wpList_update {ops : Array Oper} {rest : List Oper} {o : Oper} {a : Act} {Q : Exit → Act → World → Prop} (hg : o.guard = none) (m x z : Operand) (hop : o.op = Op.mapUpdate mt m x z) (hd : o.dst = none)
    (K : KeyT P k α val) (ht : P.underlying mt = some (.map k et)) (l : List (α × Int)) (h : MapAt val w r l) (y : α) (v : Int)
    (hm : a.eval m = .map (some r)) (hx : a.eval x = val y) (hv : a.eval z = .int .i64 v)
    (hK : ∀ w', MapAt val w' r (putM y v l) → Keep r w w' → wpList P ops Q rest a w') : wpList P ops Q (o :: rest) a w := by
  refine wpList_plain hg fun K' hK' => ?_
  obtain ⟨w', h1, h2, h3⟩ := run_update K ht h y v
  unfold Oper.wp
  simp [execOp, hop, hm, hx, hv, h1, Result.andThen]
  exact hK' _ _ (by rw [hd]; exact hK w' h2 h3)
theorem wpList_entry {ops : Array Oper} {rest : List Oper} {o : Oper} {a : Act} {Q : Exit → Act → World → Prop} (hg : o.guard = none) (m x : Operand) (hop : o.op = Op.mapEntry mt m x)
    (K : KeyT P k α val) (ht : P.underlying mt = some (.map k et)) (hz : ∀ w, (zeroValue et).run P w = .ok (.int .i64 0) w) (l : List (α × Int)) (h : MapAt val w r l) (y : α)
    (hm : a.eval m = .map (some r)) (hx : a.eval x = val y)
    (hK : ∀ w', MapAt val w' r (putM y ((look y l).getD 0) l) → Keep r w w' → wpList P ops Q rest (a.put o.dst (.tuple #[.int .i64 ((look y l).getD 0), goInt ((posOf y l).getD l.length)])) w') : wpList P ops Q (o :: rest) a w := by
  refine wpList_plain hg fun K' hK' => ?_
  obtain ⟨w', h1, h2, h3⟩ := run_entry K ht hz h y
  unfold Oper.wp
  simp [execOp, hop, hm, hx, h1, Result.andThen]
  exact hK' _ _ (hK w' h2 h3)
omit [DecidableEq α] in
theorem wpList_entryStore {ops : Array Oper} {rest : List Oper} {o : Oper} {a : Act} {Q : Exit → Act → World → Prop} (hg : o.guard = none) (m s z : Operand) (hop : o.op = Op.entryStore mt m s z) (hd : o.dst = none)
    (l : List (α × Int)) (h : MapAt val w r l) (j : Nat) (y : α) (u v : Int) (hj : l[j]? = some (y, u))
    (hm : a.eval m = .map (some r)) (hs : a.eval s = goInt j) (hv : a.eval z = .int .i64 v)
    (hK : ∀ w', MapAt val w' r (l.set j (y, v)) → Keep r w w' → wpList P ops Q rest a w') : wpList P ops Q (o :: rest) a w := by
  refine wpList_plain hg fun K' hK' => ?_
  obtain ⟨w', h1, h2, h3⟩ := run_entryStore (P := P) (mt := mt) h j y u v hj
  unfold Oper.wp
  simp [execOp, hop, hm, hs, hv, h1, Result.andThen]
  exact hK' _ _ (by rw [hd]; exact hK w' h2 h3)
end
end Go.Proofs.YtlaifphedhaemaaGreatDoor
namespace Go.Proofs.YtlaifphedhaemaaGreatDoor
open Go.RowKit

/-- A hash. -/
structure H32 where
  b : List (BitVec 8)
  len : b.length = 32
theorem H32.ext {p q : H32} (h : p.b = q.b) : p = q := by cases p; cases q; cases h; rfl
instance : DecidableEq H32 := fun p q => if h : p.b = q.b then isTrue (H32.ext h) else isFalse fun e => h (e ▸ rfl)
def H32.zero : H32 := ⟨List.replicate 32 0, rfl⟩
instance : Inhabited H32 := ⟨H32.zero⟩
def H32.cs (h : H32) : List Value := u8s h.b
def H32.val (h : H32) : Value := .agg h.cs.toArray
theorem H32.cs_length (h : H32) : h.cs.length = 32 := by simp [H32.cs, h.len]
theorem H32.cs_mem (h : H32) : ∀ v ∈ h.cs, v.oneCell' = true := fun v hv => by
  obtain ⟨x, _, rfl⟩ := List.mem_map.1 hv; rfl
theorem H32.cs_all (h : H32) : h.cs.toArray.all (·.oneCell') = true := all_oneCell_toArray h.cs_mem
instance : El H32 := ⟨H32.cs, 32, H32.cs_length, H32.cs_mem, default⟩
theorem sizeH (h : H32) : (Tryz.prog.info? 23).map (·.size) = some h.cs.length := by rw [h.cs_length]; kernel_rfl
theorem sizeHa (h : H32) : (Tryz.prog.info? 23).map (·.size) = some h.cs.toArray.size := by rw [List.size_toArray, h.cs_length]; kernel_rfl
theorem zsizeH (h : H32) : (default : H32).cs.toArray.size = h.cs.toArray.size := by simp [H32.cs_length]
theorem undH : ∃ d, Hid (Tryz.prog.underlying 23 = some d) ∧ Hid (d.isRow = true) := ⟨_, Tryz.underlying23, rfl⟩
theorem Tryz.infoH : (Tryz.prog.info? 23).map (fun i => (i.zero, i.size, i.bytes)) = some (some (.agg (default : H32).cs.toArray), 32, 32) := by kernel_rfl

theorem equal_h (x y : H32) (w : World) : (Op.equal 23 x.val y.val).run Tryz.prog w = .ok (decide (x = y)) w := by
  have e : decide (x = y) = (x.b == y.b) := by
    rw [Bool.eq_iff_iff, decide_eq_true_iff, beq_iff_eq]
    exact ⟨fun h => h ▸ rfl, H32.ext⟩
  rw [e]; exact equalIn_hash 9998 x.b y.b x.len y.len w
theorem eql_h (x y : H32) (w : World) : (binOp .eql 23 x.val y.val).run Tryz.prog w = .ok (.bool (decide (x = y))) w := by
  have e : decide (x = y) = (x.b == y.b) := by
    rw [Bool.eq_iff_iff, decide_eq_true_iff, beq_iff_eq]
    exact ⟨fun h => h ▸ rfl, H32.ext⟩
  rw [e]; exact eql_hash x.b y.b x.len y.len w
theorem check_h (em : Bool) (n : Nat) (x : List (BitVec 8)) (hx : x.length = 32) (w : World) : (Instr.checkKey em (n + 2) 23 (.agg (u8s x).toArray)).run Tryz.prog w = .ok () w := by
  have hs : ∀ w, (sizeOf 5).run Tryz.prog w = .ok 1 w := fun w => by
    obtain ⟨i, hi⟩ : ∃ i, Tryz.prog.info? 5 = some i := info_of_underlying Tryz.underlying5
    rw [run_sizeOf w hi, show Tryz.prog.cellsOf 5 = 1 by kernel_rfl]
  rw [show n + 2 = (n + 1) + 1 from rfl, Instr.checkKey]
  simp only [Sem.run_bind, run_underlying Tryz.underlying23, Result.andThen_ok]
  simp only [Std.Legacy.Range.forIn_eq_forIn_range', Std.Legacy.Range.size, Nat.sub_zero, Nat.add_one_sub_one, Nat.div_one]
  have each : ∀ j ∈ List.range' 0 32, j < 32 := fun j hj => by simpa using hj
  generalize List.range' 0 32 = is at each
  induction is with
  | nil => simp
  | cons j is ih =>
    have hj : j < 32 := each j (by simp)
    have p1 : (part 5 (u8s x).toArray (j * 1)).run Tryz.prog w = .ok (.int .u8 (Y (x.getD j 0))) w := by
      have h : (u8s x).toArray[j]? = some (.int .u8 (Y (x.getD j 0))) := by rw [List.getElem?_toArray, u8s_get x j (by omega)]
      have g := Tryz.isAgg5
      simp only [part, Sem.run_bind, g, Result.andThen_ok, Nat.mul_one]
      simp [h]
    have p2 : (Instr.checkKey em (n + 1) 5 (.int .u8 (Y (x.getD j 0)))).run Tryz.prog w = .ok () w := by
      rw [Instr.checkKey]
      simp only [Sem.run_bind, run_underlying Tryz.underlying5, Result.andThen_ok]
      rfl
    simp only [List.forIn_cons, Sem.run_bind, hs, Result.andThen_ok, p1, p2, Sem.run_pure]
    exact ih (fun y hy => each y (by simp [hy]))
theorem check_p (em : Bool) (p : Pt) (w : World) : (Instr.checkKey em 10000 53 (.agg p.cs.toArray)).run Tryz.prog w = .ok () w := by
  have hs : ∀ w, (Instr.checkKey em 9999 3 (.int .i64 p.n)).run Tryz.prog w = .ok () w := fun w => by
    rw [show (9999 : Nat) = 9998 + 1 from rfl, Instr.checkKey]
    simp only [Sem.run_bind, run_underlying Tryz.underlying3, Result.andThen_ok]
    rfl
  have ht : ∀ w, (Instr.checkKey em 9999 23 (.agg (u8s p.tx).toArray)).run Tryz.prog w = .ok () w := fun w => check_h em 9997 p.tx p.len w
  rw [show (10000 : Nat) = 9999 + 1 from rfl, Instr.checkKey]
  simp only [Sem.run_bind, run_underlying Tryz.underlying53, Result.andThen_ok]
  rw [← Array.forIn_toList]
  simp only [List.forIn_cons, List.forIn_nil, Sem.run_bind, Sem.run_pure]
  simp [part_tx, part_n, hs, ht, Result.andThen]
theorem sameBits_ints (l : List Value) (h : ∀ v ∈ l, ∃ k n, v = Value.int k n) : (l.zip l).all (fun (x, y) => Instr.sameBits 9999 x y) = true := by
  induction l with
  | nil => rfl
  | cons v l ih =>
    obtain ⟨k, n, rfl⟩ := h v (by simp)
    rw [List.zip_cons_cons, List.all_cons, ih (fun u hu => h u (by simp [hu]))]
    simp [Instr.sameBits]
theorem sameBits_agg (l : List Value) (h : ∀ v ∈ l, ∃ k n, v = Value.int k n) : Instr.sameBits 10000 (.agg l.toArray) (.agg l.toArray) = true := by
  rw [show (10000 : Nat) = 9999 + 1 from rfl, Instr.sameBits]
  rw [sameBits_ints l h]; simp
theorem keyH : KeyT Tryz.prog 23 H32 H32.val where
  check w em x := check_h em 9998 x.b x.len w
  eq w x y := equal_h x y w
  bits x := sameBits_agg _ fun v hv => by obtain ⟨y, _, rfl⟩ := List.mem_map.1 hv; exact ⟨_, _, rfl⟩
  kind := ⟨_, Tryz.underlying23, fun a b => by cases a <;> rfl⟩
def Pt.val (p : Pt) : Value := .agg p.cs.toArray
theorem keyP : KeyT Tryz.prog 53 Pt Pt.val where
  check w em x := check_p em x w
  eq w x y := equalIn_pt x y w
  bits x := sameBits_agg _ fun v hv => by
    rcases List.mem_append.1 hv with h | h
    · obtain ⟨y, _, rfl⟩ := List.mem_map.1 h; exact ⟨_, _, rfl⟩
    · exact ⟨_, _, List.mem_singleton.1 h⟩
  kind := ⟨_, Tryz.underlying53, fun a b => by cases a <;> rfl⟩
theorem zero_int (w : World) : (zeroValue 3).run Tryz.prog w = .ok (.int .i64 0) w := by
  have h : (Tryz.prog.info? 3).map (fun i => (i.zero, i.size, i.bytes)) = some (some (.int .i64 0), 1, 8) := by kernel_rfl
  obtain ⟨i0, hi0, hi1, _, _⟩ := info_parts h
  unfold zeroValue
  rw [Sem.run_bind]
  simp only [typeInfo, Sem.run_bind]
  simp [hi0, hi1]
end Go.Proofs.YtlaifphedhaemaaGreatDoor
