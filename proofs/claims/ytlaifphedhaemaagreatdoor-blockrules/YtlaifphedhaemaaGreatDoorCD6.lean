/- What tx.read reads, as plain data; rows whose elements are written piece by piece. -/
import Derived.Test.YtlaifphedhaemaaGreatDoorCD5
import Derived.Test.YtlaifphedhaemaaGreatDoorZX3
namespace Go.Proofs.YtlaifphedhaemaaGreatDoor
open Go.RowKit

theorem rC_range (s : RS) (m : Int) (hm : 0 ≤ m) : 0 ≤ (rC s m).1 ∧ (rC s m).1 ≤ m := by
  unfold rC
  have := rN_range s
  split
  · exact ⟨this.1, by assumption⟩
  · exact ⟨Int.le_refl _, hm⟩
def rIn (s : RS) : In × RS := (⟨(rP s).1, (rN (rP s).2).1, 0, 0, ByteArray.empty⟩, (rN (rP s).2).2)
def rOut (s : RS) : Out × RS := (⟨(rN s).1, (rS (rN s).2).1⟩, (rS (rN s).2).2)
/-- A witness. -/
structure WitD where
  kind : Int
  key : Int
  pre : ByteArray
def rWit (s : RS) : WitD × RS := (⟨(rN s).1, (rN (rN s).2).1, (rX (rN (rN s).2).2).1⟩, (rX (rN (rN s).2).2).2)
def rMany {α : Type} (f : RS → α × RS) : Nat → RS → List α × RS
  | 0, s => ([], s)
  | k + 1, s => ((rMany f k s).1 ++ [(f (rMany f k s).2).1], (f (rMany f k s).2).2)
theorem rMany_length {α : Type} (f : RS → α × RS) (k : Nat) (s : RS) : (rMany f k s).1.length = k := by
  induction k with
  | zero => rfl
  | succ k ih => rw [rMany, List.length_append, ih]; rfl
def putW (x : In) (v : WitD) : In := ⟨x.prev, x.seq, v.kind, v.key, v.pre⟩
/-- The transaction that the bytes say, and what is left. -/
def rTx (s : RS) : TxD × RS :=
  let c := rC s 100
  let i := rMany rIn c.1.toNat c.2
  let d := rC i.2 100
  let o := rMany rOut d.1.toNat d.2
  let l := rN o.2
  let v := rMany rWit c.1.toNat l.2
  (⟨List.zipWith putW i.1 v.1, o.1, l.1⟩, v.2)

theorem splice_in (P Q S vs : List Value) (o : Nat) (h : o + vs.length ≤ Q.length) : splice (P ++ (Q ++ S)) (P.length + o) vs = P ++ (splice Q o vs ++ S) := by
  unfold splice
  rw [List.take_length_add_append, Nat.add_assoc, List.drop_length_add_append, List.take_append_of_le_length (by omega), List.drop_append_of_le_length h]
  simp [List.append_assoc]
section
variable {α : Type} [El α]
theorem Blk.setPart {w : World} {g : Nat} {A B : List α} {x : α} (h : Blk w g (flatE (A ++ x :: B))) (k o : Nat) (hk : A.length = k) (vs : List Value) (y : α) (ho : o + vs.length ≤ El.k α)
    (hy : El.cs y = splice (El.cs x) o vs) : Blk (w.setCells g (k * El.k α + o) vs) g (flatE (A ++ y :: B)) := by
  have hl : (flatE A).length = k * El.k α := by rw [flatE_length, hk]
  have := h.cellsAt vs (k * El.k α + o) (by
    rw [flatE_append, flatE_cons, List.length_append, List.length_append, hl, El.len]; omega)
  rw [flatE_append, flatE_cons, ← hl, splice_in _ _ _ _ _ (by rw [El.len]; exact ho), ← hy] at this
  rw [flatE_append, flatE_cons, ← hl]; exact this
theorem Blk.part {w : World} {g : Nat} {A B : List α} {x : α} (h : Blk w g (flatE (A ++ x :: B))) (k o : Nat) (hk : A.length = k) (v : Value) (hv : (El.cs x)[o]? = some v) : w.cell? ⟨g, k * El.k α + o, none⟩ = some v := by
  have hl : (flatE A).length = k * El.k α := by rw [flatE_length, hk]
  have ho := (List.getElem?_eq_some_iff.1 hv).1
  rw [h.cell, flatE_append, flatE_cons, List.getElem?_append_right (by omega), hl, Nat.add_sub_cancel_left, List.getElem?_append_left ho]; exact hv
theorem Blk.therePart {w : World} {g : Nat} {A B : List α} {x : α} (h : Blk w g (flatE (A ++ x :: B))) (k o n : Nat) (hk : A.length = k) (ho : o + n ≤ El.k α) : w.there g (k * El.k α + o) n :=
  h.there _ _ (by
    have hl : (flatE A).length = k * El.k α := by rw [flatE_length, hk]
    rw [flatE_append, flatE_cons, List.length_append, List.length_append, hl, El.len]; omega)
end
theorem in_prev (x : In) (p : Pt) : In.cs ⟨p, x.seq, x.kind, x.key, x.pre⟩ = splice x.cs 0 p.cs := by
  unfold splice In.cs
  rw [List.take_zero, List.nil_append, Nat.zero_add, p.cs_length, List.drop_append, List.drop_of_length_le (by rw [Pt.cs_length]; omega), Pt.cs_length]
  rfl
theorem in_seq (x : In) (q : Int) : In.cs ⟨x.prev, q, x.kind, x.key, x.pre⟩ = splice x.cs 33 [.int .i64 q] := by
  unfold splice In.cs
  rw [List.take_append, List.drop_append, List.take_of_length_le (by rw [Pt.cs_length]; omega), List.drop_of_length_le (by rw [Pt.cs_length]; simp), Pt.cs_length]
  simp
theorem in_wit (x : In) (v : WitD) : In.cs (putW x v) = splice x.cs 34 [.int .i64 v.kind, .int .i64 v.key, .string v.pre] := by
  unfold splice In.cs putW
  rw [List.take_append, List.drop_append, List.take_of_length_le (by rw [Pt.cs_length]; omega), List.drop_of_length_le (by rw [Pt.cs_length]; simp), Pt.cs_length]
  simp
theorem out_value (x : Out) (v : Int) : Out.cs ⟨v, x.scr⟩ = splice x.cs 0 [.int .i64 v] := by
  unfold splice Out.cs; simp
theorem out_scr (x : Out) (p : Scr) : Out.cs ⟨x.value, p⟩ = splice x.cs 1 p.cs := by
  unfold splice Out.cs
  rw [p.cs_length]
  simp [Scr.cs_length]
theorem rep_next {α : Type} (d : α) (n k : Nat) (h : k < n) : List.replicate (n - k) d = d :: List.replicate (n - (k + 1)) d := by
  rw [show n - k = (n - (k + 1)) + 1 by omega, List.replicate_succ]
theorem app_next {α : Type} (A B : List α) (x : α) : A ++ x :: B = (A ++ [x]) ++ B := by simp
theorem zip_next (L : List In) (W : List WitD) (v : WitD) (k : Nat) (hW : W.length = k) (hk : k < L.length) :
    List.zipWith putW L (W ++ [v]) ++ L.drop (k + 1) = List.zipWith putW L W ++ putW (L.getD k default) v :: L.drop (k + 1) := by
  subst hW
  induction W generalizing L with
  | nil =>
    cases L with
    | nil => simp at hk
    | cons x L => simp
  | cons u W ih =>
    cases L with
    | nil => simp at hk
    | cons x L =>
      have := ih L (by simpa using hk)
      simpa using this
theorem zip_here (L : List In) (W : List WitD) (k : Nat) (hk : k < L.length) : List.zipWith putW L W ++ L.drop k = List.zipWith putW L W ++ L.getD k default :: L.drop (k + 1) := by
  rw [List.drop_eq_getElem_cons hk, List.getD_eq_getElem?_getD, List.getElem?_eq_getElem hk]; rfl
theorem zip_length (L : List In) (W : List WitD) (h : W.length ≤ L.length) : (List.zipWith putW L W).length = W.length := by
  rw [List.length_zipWith]; omega

theorem Rd.other {w w' : World} {R N G : Nat} {s : RS} (h : Rd w R N s) (k : Keep G w w') (hR : R ≠ G) (hN : N ≤ G) : Rd w' R N s :=
  h.kept k.size (k.block R h.lt hR) fun b hb _ => k.block b (Nat.lt_of_lt_of_le hb h.base) (by omega)
/-- The world while a transaction is read: the reader, the answer's place, the transaction's own. -/
structure RdSt (w0 w : World) (R N T : Nat) (s : RS) (cs : List Value) : Prop where
  rd : Rd w R N s
  b0 : Blk w T [.slice none 0 0, .slice none 0 0, .int .i64 0]
  b1 : Blk w (T + 1) cs
  keep : Keep R w0 w
section
variable {w0 w w' : World} {R N T G : Nat} {s s' : RS} {cs : List Value}
theorem RdSt.call (h : RdSt w0 w R N T s cs) (hRT : R < T) (hR : Rd w' R N s') (hK : Keep R w w') : RdSt w0 w' R N T s' cs :=
  ⟨hR, h.b0.keep hK (by omega), h.b1.keep hK (by omega), h.keep.trans hK⟩
theorem RdSt.drew (h : RdSt w0 w R N T s cs) : RdSt w0 w.drew R N T s cs := ⟨h.rd.below (Below.refl _ _).drew, h.b0, h.b1, h.keep.drew⟩
theorem RdSt.other (h : RdSt w0 w R N T s cs) (k : Keep G w w') (hRT : R < T) (hN : N ≤ T) (hG : T + 1 < G) (hT : w0.heap.size = T) : RdSt w0 w' R N T s cs :=
  ⟨h.rd.other k (by omega) (by omega), h.b0.keep k (by omega), h.b1.keep k (by omega), h.keep.other k (by omega)⟩
theorem RdSt.own (h : RdSt w0 w R N T s cs) (hRT : R < T) (hN : N ≤ T) (hT : w0.heap.size = T) (i : Nat) (v : Value) : RdSt w0 (w.setCell ⟨T + 1, i, none⟩ v) R N T s (cs.set i v) :=
  ⟨h.rd.other ((Keep.refl (T + 1) w).setCell i v) (by omega) (by omega), h.b0.other (by show T ≠ T + 1; omega) _, h.b1.set i v, h.keep.other ((Keep.refl (T + 1) w).setCell i v) (by omega)⟩
end
end Go.Proofs.YtlaifphedhaemaaGreatDoor
