/- Rows of bytes of the call's own that grow by append; what a writer holds. No program's text is walked here. (*wire.Writer).Num: numbers' forms behind what was written. (*wire.Writer).Hash, Text, Point, Script, Bytes; bytes.Clone. tx.writeBody. -/
import Derived.Test.YtlaifphedhaemaaGreatDoorZX1
import Derived.Test.YtlaifphedhaemaaGreatDoorZN1
import Derived.Test.YtlaifphedhaemaaGreatDoorZS3
import Derived.Lib.AppendStr
import Derived.Laws.AppendOwnNone
import Derived.Deep.RegionHeld3
import Derived.Lib.SliceRun
namespace Go.Proofs.YtlaifphedhaemaaGreatDoor
open Go.ChangeShapes Go.WideShapes Go.ChangeAt Go.RowKit Go.Lib

/-- Numbers as bytes. -/
def toB (l : List Int) : List (BitVec 8) := l.map (BitVec.ofInt 8)
theorem Y_ofInt (x : Int) (h0 : 0 ≤ x) (h1 : x ≤ 255) : Y (BitVec.ofInt 8 x) = x := by
  unfold Y
  rw [BitVec.toNat_ofInt]
  omega
theorem u8s_toB {l : List Int} (h : IsBytes l) : u8s (toB l) = l.map (Value.int .u8) := by
  unfold u8s toB
  rw [List.map_map]
  apply List.map_congr_left
  intro x hx
  show Value.int .u8 (Y (BitVec.ofInt 8 x)) = _
  rw [Y_ofInt x (h x hx).1 (h x hx).2]
/-- A number's form. -/
def numB (n : Int) : List (BitVec 8) := toB (bytesN n)
theorem sizeN_le9 (n : Int) : 0 ≤ sizeN n ∧ sizeN n ≤ 9 := by
  unfold sizeN; repeat' split
  all_goals omega
theorem numB_length (n : Int) : (numB n).length ≤ 9 := by
  have h := bytesN_length n
  have h1 := sizeN_le9 n
  unfold numB toB
  rw [List.length_map]; omega
def nums (Z : List Int) : List (BitVec 8) := Z.flatMap numB
theorem nums_length (Z : List Int) : (nums Z).length ≤ 9 * Z.length := by
  induction Z with
  | nil => simp [nums]
  | cons z Z ih =>
    have := numB_length z
    unfold nums at *
    rw [List.flatMap_cons, List.length_append, List.length_cons]; omega
theorem nums_next (Z : List Int) (k : Nat) (h : k < Z.length) : nums (Z.take (k + 1)) = nums (Z.take k) ++ numB (Z.getD k 0) := by
  unfold nums
  rw [List.take_add_one, List.flatMap_append, List.getD_eq_getElem?_getD, List.getElem?_eq_getElem h]
  simp

/-- A row of bytes of the call's own, from block B on. -/
def OwnB (w : World) (B : Nat) (v : Value) (bs : List (BitVec 8)) : Prop := w.ownsRow B 5 1 v bs.length (u8s bs)
/-- Bytes that v leads to. -/
def SrcB (w : World) (v : Value) (bs : List (BitVec 8)) : Prop := (v = .slice none 0 0 ∧ bs = []) ∨ ∃ b o cap, v = .slice (some ⟨b, o, none⟩) bs.length cap ∧ ∀ j u, (u8s bs)[j]? = some u → w.cell? ⟨b, o + j, none⟩ = some u
theorem u8s_append (a b : List (BitVec 8)) : u8s (a ++ b) = u8s a ++ u8s b := by unfold u8s; rw [List.map_append]
section
variable {w w' : World} {B : Nat} {v x : Value} {bs r : List (BitVec 8)}
theorem OwnB.nil (w : World) (B : Nat) : OwnB w B (.slice none 0 0) [] := World.ownsRow_nil w B _ _
theorem OwnB.lt (h : OwnB w B v bs) : ∀ k, v.ownBlock = some k → B ≤ k ∧ k < w.heap.size := World.ownsRow.lt h
theorem OwnB.same (h : OwnB w B v bs) (hb : ∀ k, v.ownBlock = some k → w'.heap[k]? = w.heap[k]?) : OwnB w' B v bs := by
  refine ⟨h.1, ?_⟩
  rcases h.2 with hn | ⟨g, cap, cur, hv, hg, hh, rest⟩
  · exact .inl hn
  · exact .inr ⟨g, cap, cur, hv, hg, by rw [hb g (by rw [hv]; rfl)]; exact hh, rest⟩
theorem OwnB.below (h : OwnB w B v bs) (hb : Below w.heap.size w w') : OwnB w' B v bs := h.same fun k hk => hb.block k (h.lt k hk).2
theorem OwnB.less {M : Nat} (h : OwnB w B v bs) (hM : M ≤ B) : OwnB w M v bs := by
  refine ⟨h.1, ?_⟩
  rcases h.2 with hn | ⟨g, cap, cur, hv, hg, rest⟩
  · exact .inl hn
  · exact .inr ⟨g, cap, cur, hv, Nat.le_trans hM hg, rest⟩
theorem OwnB.src (h : OwnB w B v bs) : SrcB w v bs := by
  have h0 := h
  rcases h.2 with ⟨hv, hn⟩ | ⟨g, cap, cur, hv, _, hg, _⟩
  · exact .inl ⟨hv, List.eq_nil_of_length_eq_zero hn⟩
  · refine .inr ⟨g, 0, cap, hv, fun j u hu => ?_⟩
    have := World.ownsRow.cells h0 (g := g) (by rw [hv]; rfl) j u hu
    rwa [Addr.add_mid] at this
theorem OwnB.shape (h : OwnB w B v bs) : ∃ a cap, v = .slice a bs.length cap := by
  rcases h.src with ⟨rfl, rfl⟩ | ⟨b, o, cap, rfl, _⟩
  · exact ⟨_, _, rfl⟩
  · exact ⟨_, _, rfl⟩
theorem OwnB.put {n : Int} (h : Row w B v (bytesN n)) : OwnB w B v (numB n) := by
  unfold OwnB numB
  rw [u8s_toB (isBytes_N n), show (toB (bytesN n)).length = (bytesN n).length by simp [toB]]
  exact h
theorem SrcB.blk {g : Nat} (h : Blk w g (u8s bs)) (cap : Nat) : SrcB w (.slice (some ⟨g, 0, none⟩) bs.length cap) bs :=
  .inr ⟨g, 0, cap, rfl, fun j u hu => by rw [Nat.zero_add, h.cell]; exact hu⟩
/-- The row lies where it lay, or in a new block. -/
def Moved (w : World) (v v' : Value) : Prop := v'.ownBlock = v.ownBlock ∨ ∃ g, w.heap.size ≤ g ∧ v'.ownBlock = some g
theorem run_append_b (ty : TypeId) (h : OwnB w B v bs) (hr : SrcB w x r) (hm : bs.length + r.length ≤ 1000000) (hN : B ≤ w.heap.size) :
    ∃ v' w', (Builtin.append_ #[29, 29] ty #[v, x]).run Tryz.prog w = .ok v' w' ∧ OwnB w' B v' (bs ++ r) ∧ w.grownBy w' v.ownBlock ∧ Moved w v v' := by
  obtain ⟨i, hi, hi1, hi2, hi3⟩ := info_parts Tryz.info8
  rcases hr with ⟨rfl, rfl⟩ | ⟨b, o, cap, rfl, hc⟩
  · exact ⟨v, w, run_append_owned_none w B _ ty _ i 1 Tryz.underlying29 hi v _ _ h, by rw [List.append_nil]; exact h, ⟨rfl, rfl, rfl, Nat.le_refl _, fun _ _ _ => rfl⟩, .inl rfl⟩
  · have hcells : ∀ j u, (u8s r)[j]? = some u → w.cell? ((⟨b, o, none⟩ : Addr).add j) = some u := fun j u hu => by rw [Addr.add_mid]; exact hc j u hu
    obtain ⟨v', w', hrun, h2, h3, h4⟩ := run_append_own w B 29 ty 5 i _ 1 1 Tryz.underlying29 hi hi1 hi2 hi3 rfl (by omega) v bs.length (u8s bs) h ⟨b, o, none⟩ r.length cap (u8s r) (by rw [u8s_length]; omega) hcells (u8s_mem r) (by unfold maxLen; omega) (by omega) hN
    refine ⟨v', w', hrun, ?_, h3, ?_⟩
    · unfold OwnB
      rw [List.length_append, u8s_append]; exact h2
    · have hlen : (u8s r).length = r.length * i.size := by rw [hi2, u8s_length]; omega
      have hfl : (u8s bs).length = bs.length * i.size := by rw [hi2, u8s_length]; omega
      rcases h.2 with ⟨rfl, h0⟩ | ⟨g, c, cur, rfl, hbg, hg, hnc, hcm, hcs, htake⟩
      · by_cases hm0 : r.length = 0
        · left
          rw [h4.2 ⟨rfl, hm0⟩]
        · have e := run_append_nil w 29 ty 5 i _ Tryz.underlying29 hi hi1 ⟨b, o, none⟩ r.length cap (u8s r) hlen hcells (by omega) (by omega) (by rw [hi3]; omega)
          rw [e] at hrun
          injection hrun with e1 _
          right
          exact ⟨w.heap.size, Nat.le_refl _, by rw [← e1]; rfl⟩
      · by_cases hroom : bs.length + r.length ≤ c
        · have e := run_append_room w 29 ty 5 i Tryz.underlying29 hi g bs.length c cur hg ⟨b, o, none⟩ r.length cap (u8s r) hlen hcells (u8s_mem r) hroom (by rw [hi2, u8s_length, hcs]; omega)
          rw [e] at hrun
          injection hrun with e1 _
          left
          rw [← e1]; rfl
        · have e := run_append_grow w 29 ty 5 i _ Tryz.underlying29 hi hi1 ⟨g, 0, none⟩ bs.length c (u8s bs) hfl (h.cells (g := g) rfl) ⟨b, o, none⟩ r.length cap (u8s r) hlen hcells (by omega) (by omega) (growslice_fits (by omega) (by rw [hi3]; omega))
          rw [e] at hrun
          injection hrun with e1 _
          right
          exact ⟨w.heap.size, Nat.le_refl _, by rw [← e1]; rfl⟩
/-- A string's bytes. -/
def strB (s : ByteArray) : List (BitVec 8) := s.data.toList.map (·.toBitVec)
theorem strB_length (s : ByteArray) : (strB s).length = s.size := by simp [strB]
theorem u8s_strB (s : ByteArray) : u8s (strB s) = strCells s := by
  unfold u8s strB strCells
  rw [List.map_map]
  apply List.map_congr_left
  intro x _
  rfl
theorem run_append_s (ty : TypeId) (s : ByteArray) (h : OwnB w B v bs) (hm : bs.length + s.size ≤ 1000000) (hN : B ≤ w.heap.size) :
    ∃ v' w', (Builtin.append_ #[29, 9] ty #[v, .string s]).run Tryz.prog w = .ok v' w' ∧ OwnB w' B v' (bs ++ strB s) ∧ w.grownBy w' v.ownBlock ∧ Moved w v v' := by
  obtain ⟨i, hi, hi1, hi2, hi3⟩ := info_parts Tryz.info8
  obtain ⟨v', w', hrun, h2, h3, h4⟩ := run_append_own_string w B 29 9 ty 5 i Tryz.underlying29 Tryz.underlying9 hi hi1 hi2 hi3 v bs.length (u8s bs) h s (by unfold maxLen; omega) (by omega) hN
  refine ⟨v', w', hrun, ?_, h3, ?_⟩
  · unfold OwnB
    rw [List.length_append, u8s_append, u8s_strB, strB_length]; exact h2
  · have hfl : (u8s bs).length = bs.length * i.size := by rw [hi2, u8s_length]; omega
    rcases h.2 with ⟨rfl, h0⟩ | ⟨g, c, cur, rfl, hbg, hg, hnc, hcm, hcs, htake⟩
    · by_cases hm0 : s.size = 0
      · left
        rw [h4.2 ⟨rfl, hm0⟩]
      · have e := run_append_nil_string w 29 9 ty 5 i _ Tryz.underlying29 Tryz.underlying9 hi hi1 s (by omega) (by omega) (by rw [hi3]; omega)
        rw [e] at hrun
        injection hrun with e1 _
        right
        exact ⟨w.heap.size, Nat.le_refl _, by rw [← e1]; rfl⟩
    · by_cases hroom : bs.length + s.size ≤ c
      · have e := run_append_room_string w 29 9 ty 5 i Tryz.underlying29 Tryz.underlying9 hi hi2 g bs.length c cur hg s hroom (by rw [hcs]; omega)
        rw [e] at hrun
        injection hrun with e1 _
        left
        rw [← e1]; rfl
      · have e := run_append_grow_string w 29 9 ty 5 i _ Tryz.underlying29 Tryz.underlying9 hi hi1 ⟨g, 0, none⟩ bs.length c (u8s bs) hfl (h.cells (g := g) rfl) s (by omega) (by omega) (growslice_fits (by omega) (by rw [hi3]; omega))
        rw [e] at hrun
        injection hrun with e1 _
        right
        exact ⟨w.heap.size, Nat.le_refl _, by rw [← e1]; rfl⟩
end
section
variable {ops : Array Oper} {o : Oper} {ac : Act} {w : World} {K : Act → World → Prop} {Q : Exit → Act → World → Prop} {E : Prop}
theorem step_append_b (hgd : o.guard = none) (s x : Operand)
    (ho : o.op = .call { callee := .builtin .append, args := #[s, x], argTypes := #[29, 29] }) (B : Nat) (v : Value) (bs : List (BitVec 8)) (hs : ac.eval s = v) (h : OwnB w B v bs)
    (y : Value) (r : List (BitVec 8)) (hx : ac.eval x = y) (hr : SrcB w y r) (hm : bs.length + r.length ≤ 1000000) (hN : B ≤ w.heap.size)
    (hK : ∀ v' w', Hid (OwnB w' B v' (bs ++ r)) → Hid (w.grownBy w' v.ownBlock) → Hid (Moved w v v') → K (ac.put o.dst v') w') : if Region.wanted o (yielded ops ac.tmps) = true then Oper.wp Tryz.prog o ac w K Q else E := by
  have hw : Region.wanted o (yielded ops ac.tmps) = true := by simp [Region.wanted, hgd]
  rw [if_pos hw]
  obtain ⟨v', w', hrun, h1, h2, h3⟩ := run_append_b o.type h hr hm hN
  unfold Oper.wp execOp
  simp only [ho, resolve, invoke, builtin, Sem.run_bind, Sem.run_pure, Result.andThen_ok, List.map_toArray, List.map_cons, List.map_nil, hs, hx, hrun]
  exact hK v' w' h1 h2 h3
theorem wpList_append_b {rest : List Oper} (hgd : o.guard = none) (s x : Operand)
    (ho : o.op = .call { callee := .builtin .append, args := #[s, x], argTypes := #[29, 29] }) (B : Nat) (v : Value) (bs : List (BitVec 8)) (hs : ac.eval s = v) (h : OwnB w B v bs)
    (y : Value) (r : List (BitVec 8)) (hx : ac.eval x = y) (hr : SrcB w y r) (hm : bs.length + r.length ≤ 1000000) (hN : B ≤ w.heap.size)
    (hK : ∀ v' w', Hid (OwnB w' B v' (bs ++ r)) → Hid (w.grownBy w' v.ownBlock) → Hid (Moved w v v') → wpList Tryz.prog ops Q rest (ac.put o.dst v') w') : wpList Tryz.prog ops Q (o :: rest) ac w := by
  obtain ⟨v', w', hrun, h1, h2, h3⟩ := run_append_b o.type h hr hm hN
  refine wpList_plain hgd fun K hK' => ?_
  unfold Oper.wp execOp
  simp only [ho, resolve, invoke, builtin, Sem.run_bind, Sem.run_pure, Result.andThen_ok, List.map_toArray, List.map_cons, List.map_nil, hs, hx, hrun]
  exact hK' _ _ (hK v' w' h1 h2 h3)
theorem wpList_append_s {rest : List Oper} (hgd : o.guard = none) (s x : Operand)
    (ho : o.op = .call { callee := .builtin .append, args := #[s, x], argTypes := #[29, 9] }) (B : Nat) (v : Value) (bs : List (BitVec 8)) (hs : ac.eval s = v) (h : OwnB w B v bs)
    (y : ByteArray) (hx : ac.eval x = .string y) (hm : bs.length + y.size ≤ 1000000) (hN : B ≤ w.heap.size)
    (hK : ∀ v' w', Hid (OwnB w' B v' (bs ++ strB y)) → Hid (w.grownBy w' v.ownBlock) → Hid (Moved w v v') → wpList Tryz.prog ops Q rest (ac.put o.dst v') w') : wpList Tryz.prog ops Q (o :: rest) ac w := by
  obtain ⟨v', w', hrun, h1, h2, h3⟩ := run_append_s o.type y h hm hN
  refine wpList_plain hgd fun K hK' => ?_
  unfold Oper.wp execOp
  simp only [ho, resolve, invoke, builtin, Sem.run_bind, Sem.run_pure, Result.andThen_ok, List.map_toArray, List.map_cons, List.map_nil, hs, hx, hrun]
  exact hK' _ _ (hK v' w' h1 h2 h3)
end

/-- All but block R and the row of v is as it was; the row lies where it lay, or in a new block. -/
structure Grew (R : Nat) (v v' : Value) (w w' : World) : Prop where
  os : w'.os = w.os
  tape : w'.tape = w.tape
  output : w'.output = w.output
  size : w.heap.size ≤ w'.heap.size
  block : ∀ k, k < w.heap.size → k ≠ R → v.ownBlock ≠ some k → w'.heap[k]? = w.heap[k]?
  row : Moved w v v'
section
variable {w w' w'' : World} {R N : Nat} {v v' v'' : Value} {b : Nat} {cs : List Value} {bs : List (BitVec 8)}
theorem Grew.refl (R : Nat) (v : Value) (w : World) : Grew R v v w w := ⟨rfl, rfl, rfl, Nat.le_refl _, fun _ _ _ _ => rfl, .inl rfl⟩
theorem Moved.apart (h : Moved w v v') {k : Nat} (hk : k < w.heap.size) (hv : v.ownBlock ≠ some k) : v'.ownBlock ≠ some k := by
  rcases h with h | ⟨g, hg, h⟩
  · rw [h]; exact hv
  · rw [h]; intro e; injection e with e; omega
theorem Grew.trans (h : Grew R v v' w w') (k : Grew R v' v'' w' w'') : Grew R v v'' w w'' :=
  ⟨k.os.trans h.os, k.tape.trans h.tape, k.output.trans h.output, Nat.le_trans h.size k.size,
    fun i hi hr hv => (k.block i (Nat.lt_of_lt_of_le hi h.size) hr (h.row.apart hi hv)).trans (h.block i hi hr hv), by
    rcases k.row with e | ⟨g, hg, e⟩
    · rcases h.row with e' | ⟨g, hg, e'⟩
      · exact .inl (e.trans e')
      · exact .inr ⟨g, hg, e.trans e'⟩
    · exact .inr ⟨g, Nat.le_trans h.size hg, e⟩⟩
theorem Grew.below {B : Nat} (h : Grew R v v' w w') (hR : B ≤ R) (hw : B ≤ w.heap.size) (hv : ∀ k, v.ownBlock = some k → B ≤ k) : Below B w w' :=
  ⟨h.os, h.tape, h.output, h.size, fun k hk => h.block k (by omega) (by omega) fun e => by have := hv k e; omega⟩
theorem Grew.of_below (h : Below w.heap.size w w') : Grew R v v w w' := ⟨h.os, h.tape, h.output, h.size, fun k hk _ _ => h.block k hk, .inl rfl⟩
theorem Blk.grew (h : Blk w b cs) (g : Grew R v v' w w') (hr : b ≠ R) (hv : v.ownBlock ≠ some b) : Blk w' b cs := by
  have hl := h.lt; obtain ⟨t, h⟩ := h; exact ⟨t, by rw [g.block b hl hr hv]; exact h⟩
/-- What a writer in block R holds: a row of its own, from block N on. -/
structure Wr (w : World) (R N : Nat) (v : Value) (bs : List (BitVec 8)) : Prop where
  blk : Blk w R [v]
  own : OwnB w N v bs
  lt : R < N
  base : N ≤ w.heap.size
theorem Wr.below (h : Wr w R N v bs) (hb : Below w.heap.size w w') : Wr w' R N v bs :=
  ⟨h.blk.below hb h.blk.lt, h.own.below hb, h.lt, Nat.le_trans h.base hb.size⟩
theorem Wr.fresh (h : Wr w R N v bs) (hb : w.heap.size ≤ b) : b ≠ R ∧ v.ownBlock ≠ some b :=
  ⟨fun e => by have := h.blk.lt; omega, fun e => by have := (h.own.lt b e).2; omega⟩
theorem grownBy_grew (h : w.grownBy w' v.ownBlock) (hm : Moved w v v') : Grew R v v' w w' := ⟨h.os, h.tape, h.output, h.size, fun k hk _ hv => h.block k hk fun e => hv e.symm, hm⟩
theorem Grew.setCell (h : Grew R v v' w w') (u : Value) : Grew R v v' w (w'.setCell ⟨R, 0, none⟩ u) :=
  ⟨h.os, h.tape, h.output, by have := h.size; simpa [World.setCell] using this, fun k hk hr hv => by rw [Below.heap_setCell w' _ u k hr]; exact h.block k hk hr hv, h.row⟩
/-- An append, and the store of what it made. -/
theorem Wr.store {r : List (BitVec 8)} (h : Wr w R N v bs) (ho : OwnB w' N v' (bs ++ r)) (hg : w.grownBy w' v.ownBlock) (hm : Moved w v v') : Wr (w'.setCell ⟨R, 0, none⟩ v') R N v' (bs ++ r) ∧ Grew R v v' w (w'.setCell ⟨R, 0, none⟩ v') := by
  have hgr : Grew R v v' w w' := grownBy_grew hg hm
  have hlt := h.lt
  have hvR : v.ownBlock ≠ some R := fun e => by have := (h.own.lt R e).1; omega
  have hB : Blk w' R [v] := by
    have hl := h.blk.lt; obtain ⟨t, hb⟩ := h.blk; exact ⟨t, by rw [hg.block R hl fun e => hvR e.symm]; exact hb⟩
  refine ⟨⟨?_, ?_, h.lt, ?_⟩, hgr.setCell _⟩
  · have := hB.set 0 v'
    simpa using this
  · refine ho.same fun k hk => ?_
    rw [Below.heap_setCell w' _ v' k fun e => by have := (ho.lt k hk).1; simp at e; omega]
  · have := h.base; have := hg.size; simp [World.setCell]; omega
end
end Go.Proofs.YtlaifphedhaemaaGreatDoor
namespace Go.Proofs.YtlaifphedhaemaaGreatDoor
open Go.ChangeShapes Go.WideShapes Go.ChangeAt Go.RowKit

theorem OwnB.any {w : World} {B : Nat} {v : Value} {bs : List (BitVec 8)} (h : OwnB w B v bs) : ∃ a n cap, v = .slice a n cap := by
  obtain ⟨a, cap, h⟩ := h.shape
  exact ⟨a, _, cap, h⟩
theorem Ints.cell {w w' : World} {b o : Nat} {Z : List Int} {k : Nat} (h : Ints w (some ⟨b, o, none⟩) Z) (hk : k < Z.length) (hb : w'.heap[b]? = w.heap[b]?) : w'.cell? ⟨b, o + k, none⟩ = some (.int .i64 (Z.getD k 0)) := by
  rcases h with h | ⟨b', o', e, hc⟩
  · rw [h] at hk; simp at hk
  · injection e with e
    injection e with e1 e2
    subst e1; subst e2
    rw [World.cell?_of_block (a := ⟨b, o + k, none⟩) hb]; exact hc k hk
set_option maxRecDepth 100000 in
set_option maxHeartbeats 4000000 in
theorem wnum_any (R N : Nat) (v : Value) (bs : List (BitVec 8)) (b o n cap : Nat) (Z : List Int) (w : World) (hW : Wr w R N v bs) (hZ : Ints w (some ⟨b, o, none⟩) Z) (hn : Z.length = n) (hn1 : n ≤ 1000) (hl : bs.length + 9 * n ≤ 900000) (hb : b < w.heap.size) (hbR : b ≠ R) (hbv : v.ownBlock ≠ some b) :
    Calls Tryz.prog 28 #[.pointer (some ⟨R, 0, none⟩), .slice (some ⟨b, o, none⟩) n cap] w fun e w' => e = .returned (.tuple #[]) ∧ ∃ v', Wr w' R N v' (bs ++ nums Z) ∧ Grew R v v' w w' := by
  have hmo : Tryz.prog.follows .mixedOrders = true := by kernel_rfl
  have HMO : Hid (_ = true) := hmo
  clear hmo
  have HW : Hid (Wr w R N v bs) := hW
  have HZ : Hid (Ints w (some ⟨b, o, none⟩) Z) := hZ
  have HN : Hid (Z.length = n) := hn
  have HV : Hid (v.ownBlock ≠ some b) := hbv
  clear hW hZ hn hbv
  go_enter Tryz.func28, Tryz.ntmps28
  go_wp2_with fail
  go_loopw [8] (fun i wr => ∃ (k : Nat) (vk : Value), k ≤ n ∧ i = .int .i64 k ∧ Hid (Wr wr R N vk (bs ++ nums (Z.take k))) ∧ Hid (Grew R v vk w wr)) (fun i _ => n - (intOf i).toNat)
  case atStart => exact ⟨0, v, by omega, rfl, show Wr _ _ _ _ _ by rw [List.take_zero, show nums [] = [] from rfl, List.append_nil]; exact HW.out, Grew.refl _ _ _⟩
  case round =>
    obtain ⟨k, vk, hk, rfl, HWk, HGk⟩ := hrel
    by_cases hlt : k < n
    · have e0 : (0 : Int) ≤ (k : Int) := by omega
      have e1 : (k : Int) < (n : Int) := by omega
      have hc : wr.cell? ⟨b, o + k, none⟩ = some (.int .i64 (Z.getD k 0)) := HZ.out.cell (by rw [HN.out]; exact hlt) (HGk.out.block b hb hbR HV.out)
      have HNX : Hid (nums (Z.take (k + 1)) = nums (Z.take k) ++ numB (Z.getD k 0)) := nums_next Z k (by rw [HN.out]; exact hlt)
      have hlk : (bs ++ nums (Z.take k)).length ≤ bs.length + 9 * k := by
        have := nums_length (Z.take k)
        rw [List.length_append]; rw [List.length_take] at this; omega
      have HLK : Hid _ := hlk
      have HL9 : Hid (bs.length + 9 * k + 9 ≤ 1000000) := show _ ≤ _ by omega
      generalize Z.getD k 0 = z at *
      generalize hbk : bs ++ nums (Z.take k) = bk at *
      have HBK : Hid (_ = bk) := hbk
      clear hlk hbk
      go_upto_region 3 with fail
      clear hc
      have HWd : Hid (Wr wr.drew R N vk bk) := HWk.out.below (Below.refl _ _).drew
      have HGd : Hid (Grew R v vk w wr.drew) := HGk.out.trans (Grew.of_below (Below.refl _ _).drew)
      clear HWk HGk
      have hc0 : wr.cell? ⟨R, 0, none⟩ = some vk := HWd.out.blk.one rfl
      refine wp_region_noPanic ?_
      refine wp_region_held_drew (S := fun _ => True) HMO.out (trivial) (fun hHeld => ?_)
      refine wpAnyH_take (i := 0) (oi := { dst := some 12, op := .move (.tmp 0), type := 73, pos := "wire.go:24", after := #[], guard := none }) (v := ?_) rfl (by kernel_rfl) (by kernel_rfl) (by kernel_rfl) (fun _ _ _ h => h) (Or.inl ⟨by rfl, ?_⟩) (by assumption) ?_
      rotate_left
      · intro _ _; go_simp; first | done | with_reducible rfl
      simp only [Act.put, List.setIfInBounds_toArray, List.set_cons_zero, List.set_cons_succ]
      refine wpAnyH_take (i := 1) (oi := { dst := some 13, op := .move (.tmp 0), type := 73, pos := "wire.go:24", after := #[], guard := none }) (v := ?_) rfl (by kernel_rfl) (by kernel_rfl) (by kernel_rfl) (fun _ _ _ h => h) (Or.inl ⟨by rfl, ?_⟩) (by assumption) ?_
      rotate_left
      · intro _ _; go_simp; first | done | with_reducible rfl
      simp only [Act.put, List.setIfInBounds_toArray, List.set_cons_zero, List.set_cons_succ]
      refine wpAnyH_take (i := 2) (oi := { dst := some 14, op := .nilCheck (.tmp 13), type := 0, pos := "wire.go:24", after := #[{ on := 1, ground := .data }], guard := none }) (v := ?_) rfl (by kernel_rfl) (by kernel_rfl) (by kernel_rfl) (fun _ _ _ h => h) (Or.inl ⟨by rfl, ?_⟩) (by assumption) ?_
      rotate_left
      · intro _ _; go_simp; first | done | with_reducible rfl
      simp only [Act.put, List.setIfInBounds_toArray, List.set_cons_zero, List.set_cons_succ]
      refine wpAnyH_take (i := 3) (oi := { dst := some 15, op := .fieldAddr 71 (.tmp 14) 0, type := 0, pos := "wire.go:24", after := #[{ on := 2, ground := .data }], guard := none }) (v := ?_) rfl (by kernel_rfl) (by kernel_rfl) (by kernel_rfl) (fun _ _ _ h => h) (Or.inl ⟨by rfl, ?_⟩) (by assumption) ?_
      rotate_left
      · intro _ _; go_simp; first | done | with_reducible rfl
      simp only [Act.put, List.setIfInBounds_toArray, List.set_cons_zero, List.set_cons_succ]
      refine wpAnyH_take (i := 5) (oi := { dst := some 17, op := .move (.tmp 5), type := 3, pos := "wire.go:24", after := #[], guard := none }) (v := ?_) rfl (by kernel_rfl) (by kernel_rfl) (by kernel_rfl) (fun _ _ _ h => h) (Or.inl ⟨by rfl, ?_⟩) (by assumption) ?_
      rotate_left
      · intro _ _; go_simp; first | done | with_reducible rfl
      simp only [Act.put, List.setIfInBounds_toArray, List.set_cons_zero, List.set_cons_succ]
      refine wpAnyH_ready (rs := [4, 6]) (by kernel_rfl) (by simp) ?_
      refine (AllReadyH.cons (o := { dst := some 16, op := .load 29 (.tmp 15), type := 29, pos := "wire.go:24", after := #[{ on := 3, ground := .data }], guard := none }) rfl (fun K hK => ?_) (AllReadyH.cons (o := { dst := some 18, op := .call { callee := .value (.func 63), args := #[.tmp 17], argTypes := #[3] }, type := 29, pos := "wire.go:24", after := #[{ on := 5, ground := .data }], guard := none }) rfl (fun K hK => ?_) AllReadyH.nil))
      · go_simp
        skip
        go_simp
        refine hK.out _ _ (trivial) (fun hHeld => ?_)
        clear hK K
        refine wpAnyH_ready (rs := [6]) (by kernel_rfl) (by simp) ?_
        refine AllReadyH.cons (o := { dst := some 18, op := .call { callee := .value (.func 63), args := #[.tmp 17], argTypes := #[3] }, type := 29, pos := "wire.go:24", after := #[{ on := 5, ground := .data }], guard := none }) rfl (fun K hK => ?_) AllReadyH.nil
        go_simp
        refine (put_any z _).mono ?_; rintro e w3 ⟨pv, rfl, hrow, hb3⟩; have HO3 : Hid (OwnB w3 wr.drew.heap.size pv (numB z)) := OwnB.put hrow; have HW3 : Hid (Wr w3 R N vk bk) := HWd.out.below hb3; have HB3 : Hid (Below wr.drew.heap.size wr.drew w3) := hb3; clear hrow hb3
        go_simp
        refine hK.out _ _ (trivial) (fun hHeld => ?_)
        clear hK K
        refine wpAnyH_ready (rs := [7]) (by kernel_rfl) (by simp) ?_
        refine AllReadyH.cons (o := { dst := some 19, op := .call { callee := .builtin Go.Builtin.append, args := #[.tmp 16, .tmp 18], argTypes := #[29, 29] }, type := 29, pos := "wire.go:24", after := #[{ on := 4, ground := .data }, { on := 6, ground := .data }, { on := 6, ground := .chain }], guard := none }) rfl (fun K hK => ?_) AllReadyH.nil
        refine step_append_b rfl _ _ rfl N vk bk rfl HW3.out.own pv (numB z) rfl HO3.out.src (by have := HLK.out; have := HL9.out; have := numB_length z; omega) HW3.out.base ?_; intro v4 w4 HO4 HG4 HM4; obtain ⟨a4, n4, cap4, rfl⟩ := HO4.out.any; have hc4 : w4.cell? ⟨R, 0, none⟩ = some vk := HG4.out.cell (HW3.out.blk.one rfl) (fun e => by have h1 := (HW3.out.own.lt R e.symm).1; have h2 := HW3.out.lt; omega); have hf4 : w4.frozen? ⟨R, 0, none⟩ = false := by { have hl := HW3.out.blk.lt; have hfr := HW3.out.blk.frozen 0; rw [World.frozen?_of_block (a := ⟨R, 0, none⟩) (HG4.out.block R hl (fun e => by have h1 := (HW3.out.own.lt R e.symm).1; have h2 := HW3.out.lt; omega))]; exact hfr }
        simp only [Act.put, List.setIfInBounds_toArray, List.set_cons_zero, List.set_cons_succ]
        refine hK.out _ _ (trivial) (fun hHeld => ?_)
        clear hK K
        refine wpAnyH_take (i := 8) (oi := { dst := some 20, op := .nilCheck (.tmp 12), type := 0, pos := "wire.go:24", after := #[{ on := 0, ground := .data }, { on := 0, ground := .phase }, { on := 1, ground := .phase }, { on := 2, ground := .phase }, { on := 3, ground := .phase }, { on := 4, ground := .phase }, { on := 5, ground := .phase }, { on := 6, ground := .phase }, { on := 7, ground := .phase }], guard := none }) (v := ?_) rfl (by kernel_rfl) (by kernel_rfl) (by kernel_rfl) (fun _ _ _ h => h) (Or.inl ⟨by rfl, ?_⟩) (by assumption) ?_
        rotate_left
        · intro _ _; go_simp; first | done | with_reducible rfl
        simp only [Act.put, List.setIfInBounds_toArray, List.set_cons_zero, List.set_cons_succ]
        refine wpAnyH_take (i := 9) (oi := { dst := some 21, op := .fieldAddr 71 (.tmp 20) 0, type := 0, pos := "wire.go:24", after := #[{ on := 8, ground := .data }, { on := 0, ground := .phase }, { on := 1, ground := .phase }, { on := 2, ground := .phase }, { on := 3, ground := .phase }, { on := 4, ground := .phase }, { on := 5, ground := .phase }, { on := 6, ground := .phase }, { on := 7, ground := .phase }], guard := none }) (v := ?_) rfl (by kernel_rfl) (by kernel_rfl) (by kernel_rfl) (fun _ _ _ h => h) (Or.inl ⟨by rfl, ?_⟩) (by assumption) ?_
        rotate_left
        · intro _ _; go_simp; first | done | with_reducible rfl
        simp only [Act.put, List.setIfInBounds_toArray, List.set_cons_zero, List.set_cons_succ]
        refine wpAnyH_ready (rs := [10]) (by kernel_rfl) (by simp) ?_
        refine AllReadyH.cons (o := { dst := none, op := .store 29 (.tmp 21) (.tmp 19), type := 0, pos := "wire.go:24", after := #[{ on := 9, ground := .data }, { on := 7, ground := .data }, { on := 7, ground := .chain }, { on := 0, ground := .phase }, { on := 1, ground := .phase }, { on := 2, ground := .phase }, { on := 3, ground := .phase }, { on := 4, ground := .phase }, { on := 5, ground := .phase }, { on := 6, ground := .phase }, { on := 7, ground := .phase }], guard := none }) rfl (fun K hK => ?_) AllReadyH.nil
        go_simp
        skip
        go_simp
        refine hK.out _ _ (trivial) (fun hHeld => ?_)
        clear hK K
        refine wpAnyH_done (by kernel_rfl) ?_ _
        refine NoPanic.normal ?_
        obtain ⟨HW5, HG5⟩ := Wr.store HW3.out HO4.out HG4.out HM4.out
        have HW6 : Hid (Wr _ R N _ (bk ++ numB z)) := HW5
        have HG6 : Hid (Grew R v _ w _) := (HGd.out.trans (Grew.of_below HB3.out)).trans HG5
        clear HW5 HG5 hHeld
        generalize World.setCell w4 _ _ = w5 at *
        go_wp2_with fail
        go_roundw
        case rel =>
          refine ⟨k + 1, _, by omega, by go_num, ?_, HG6.out⟩
          show Wr _ _ _ _ _
          rw [HNX.out, ← List.append_assoc, HBK.out]
          exact HW6.out
        case measure => simp [intOf]; omega
      · go_simp
        refine (put_any z _).mono ?_; rintro e w3 ⟨pv, rfl, hrow, hb3⟩; have HO3 : Hid (OwnB w3 wr.drew.heap.size pv (numB z)) := OwnB.put hrow; have HW3 : Hid (Wr w3 R N vk bk) := HWd.out.below hb3; have HB3 : Hid (Below wr.drew.heap.size wr.drew w3) := hb3; clear hrow hb3; have hc3 : w3.cell? ⟨R, 0, none⟩ = some vk := HW3.out.blk.one rfl
        go_simp
        refine hK.out _ _ (trivial) (fun hHeld => ?_)
        clear hK K
        refine wpAnyH_ready (rs := [4]) (by kernel_rfl) (by simp) ?_
        refine AllReadyH.cons (o := { dst := some 16, op := .load 29 (.tmp 15), type := 29, pos := "wire.go:24", after := #[{ on := 3, ground := .data }], guard := none }) rfl (fun K hK => ?_) AllReadyH.nil
        go_simp
        skip
        go_simp
        refine hK.out _ _ (trivial) (fun hHeld => ?_)
        clear hK K
        refine wpAnyH_ready (rs := [7]) (by kernel_rfl) (by simp) ?_
        refine AllReadyH.cons (o := { dst := some 19, op := .call { callee := .builtin Go.Builtin.append, args := #[.tmp 16, .tmp 18], argTypes := #[29, 29] }, type := 29, pos := "wire.go:24", after := #[{ on := 4, ground := .data }, { on := 6, ground := .data }, { on := 6, ground := .chain }], guard := none }) rfl (fun K hK => ?_) AllReadyH.nil
        refine step_append_b rfl _ _ rfl N vk bk rfl HW3.out.own pv (numB z) rfl HO3.out.src (by have := HLK.out; have := HL9.out; have := numB_length z; omega) HW3.out.base ?_; intro v4 w4 HO4 HG4 HM4; obtain ⟨a4, n4, cap4, rfl⟩ := HO4.out.any; have hc4 : w4.cell? ⟨R, 0, none⟩ = some vk := HG4.out.cell (HW3.out.blk.one rfl) (fun e => by have h1 := (HW3.out.own.lt R e.symm).1; have h2 := HW3.out.lt; omega); have hf4 : w4.frozen? ⟨R, 0, none⟩ = false := by { have hl := HW3.out.blk.lt; have hfr := HW3.out.blk.frozen 0; rw [World.frozen?_of_block (a := ⟨R, 0, none⟩) (HG4.out.block R hl (fun e => by have h1 := (HW3.out.own.lt R e.symm).1; have h2 := HW3.out.lt; omega))]; exact hfr }
        simp only [Act.put, List.setIfInBounds_toArray, List.set_cons_zero, List.set_cons_succ]
        refine hK.out _ _ (trivial) (fun hHeld => ?_)
        clear hK K
        refine wpAnyH_take (i := 8) (oi := { dst := some 20, op := .nilCheck (.tmp 12), type := 0, pos := "wire.go:24", after := #[{ on := 0, ground := .data }, { on := 0, ground := .phase }, { on := 1, ground := .phase }, { on := 2, ground := .phase }, { on := 3, ground := .phase }, { on := 4, ground := .phase }, { on := 5, ground := .phase }, { on := 6, ground := .phase }, { on := 7, ground := .phase }], guard := none }) (v := ?_) rfl (by kernel_rfl) (by kernel_rfl) (by kernel_rfl) (fun _ _ _ h => h) (Or.inl ⟨by rfl, ?_⟩) (by assumption) ?_
        rotate_left
        · intro _ _; go_simp; first | done | with_reducible rfl
        simp only [Act.put, List.setIfInBounds_toArray, List.set_cons_zero, List.set_cons_succ]
        refine wpAnyH_take (i := 9) (oi := { dst := some 21, op := .fieldAddr 71 (.tmp 20) 0, type := 0, pos := "wire.go:24", after := #[{ on := 8, ground := .data }, { on := 0, ground := .phase }, { on := 1, ground := .phase }, { on := 2, ground := .phase }, { on := 3, ground := .phase }, { on := 4, ground := .phase }, { on := 5, ground := .phase }, { on := 6, ground := .phase }, { on := 7, ground := .phase }], guard := none }) (v := ?_) rfl (by kernel_rfl) (by kernel_rfl) (by kernel_rfl) (fun _ _ _ h => h) (Or.inl ⟨by rfl, ?_⟩) (by assumption) ?_
        rotate_left
        · intro _ _; go_simp; first | done | with_reducible rfl
        simp only [Act.put, List.setIfInBounds_toArray, List.set_cons_zero, List.set_cons_succ]
        refine wpAnyH_ready (rs := [10]) (by kernel_rfl) (by simp) ?_
        refine AllReadyH.cons (o := { dst := none, op := .store 29 (.tmp 21) (.tmp 19), type := 0, pos := "wire.go:24", after := #[{ on := 9, ground := .data }, { on := 7, ground := .data }, { on := 7, ground := .chain }, { on := 0, ground := .phase }, { on := 1, ground := .phase }, { on := 2, ground := .phase }, { on := 3, ground := .phase }, { on := 4, ground := .phase }, { on := 5, ground := .phase }, { on := 6, ground := .phase }, { on := 7, ground := .phase }], guard := none }) rfl (fun K hK => ?_) AllReadyH.nil
        go_simp
        skip
        go_simp
        refine hK.out _ _ (trivial) (fun hHeld => ?_)
        clear hK K
        refine wpAnyH_done (by kernel_rfl) ?_ _
        refine NoPanic.normal ?_
        obtain ⟨HW5, HG5⟩ := Wr.store HW3.out HO4.out HG4.out HM4.out
        have HW6 : Hid (Wr _ R N _ (bk ++ numB z)) := HW5
        have HG6 : Hid (Grew R v _ w _) := (HGd.out.trans (Grew.of_below HB3.out)).trans HG5
        clear HW5 HG5 hHeld
        generalize World.setCell w4 _ _ = w5 at *
        go_wp2_with fail
        go_roundw
        case rel =>
          refine ⟨k + 1, _, by omega, by go_num, ?_, HG6.out⟩
          show Wr _ _ _ _ _
          rw [HNX.out, ← List.append_assoc, HBK.out]
          exact HW6.out
        case measure => simp [intOf]; omega
    · obtain rfl : k = n := by omega
      rw [List.take_of_length_le (by rw [HN.out]; exact Nat.le_refl _)] at HWk
      go_wp2_with fail
      go_end0
      exact ⟨rfl, vk, HWk.out, HGk.out⟩
end Go.Proofs.YtlaifphedhaemaaGreatDoor
namespace Go.Proofs.YtlaifphedhaemaaGreatDoor
open Go.ChangeShapes Go.WideShapes Go.ChangeAt Go.RowKit

set_option maxRecDepth 100000 in
set_option maxHeartbeats 4000000 in
theorem whash_any (R N : Nat) (v : Value) (bs h : List (BitVec 8)) (w : World) (hW : Wr w R N v bs) (hh : h.length = 32) (hl : bs.length ≤ 900000) :
    Calls Tryz.prog 62 #[.pointer (some ⟨R, 0, none⟩), .agg (u8s h).toArray] w fun e w' => e = .returned (.tuple #[]) ∧ ∃ v', Wr w' R N v' (bs ++ h) ∧ Grew R v v' w w' := by
  have hmo : Tryz.prog.follows .mixedOrders = true := by kernel_rfl
  have HMO : Hid (_ = true) := hmo
  clear hmo
  have HW : Hid (Wr w R N v bs) := hW
  have HH : Hid (h.length = 32) := hh
  clear hW hh
  go_enter Tryz.func62, Tryz.ntmps62
  go_upto_region 1 with fail
  generalize hw1 : World.alloc w _ = w1
  have hb1 : Below w.heap.size w w1 := by rw [← hw1]; exact (Below.refl _ _).alloc (Nat.le_refl _) _
  have HA1 : Hid (Blk w1 w.heap.size (u8s h)) := by rw [← hw1]; exact Blk.new _ _ _
  have HW1 : Hid (Wr w1.drew R N v bs) := (HW.out.below hb1).below (Below.refl _ _).drew
  have HB1 : Hid (Below w.heap.size w w1.drew) := hb1.drew
  clear hw1 hb1
  have hc0 : w1.cell? ⟨R, 0, none⟩ = some v := HW1.out.blk.one rfl
  have HSRC : Hid (SrcB w1.drew (.slice (some ⟨w.heap.size, 0, none⟩) 32 32) h) := by
    have := SrcB.blk (w := w1.drew) HA1.out.drew 32
    rw [HH.out] at this
    exact this
  refine wp_region_noPanic ?_
  refine wp_region_held_drew (S := fun _ => True) HMO.out (trivial) (fun hHeld => ?_)
  refine wpAnyH_take (i := 0) (oi := { dst := some 4, op := .move (.tmp 0), type := 73, pos := "wire.go:36", after := #[], guard := none }) (v := ?_) rfl (by kernel_rfl) (by kernel_rfl) (by kernel_rfl) (fun _ _ _ h => h) (Or.inl ⟨by rfl, ?_⟩) (by assumption) ?_
  rotate_left
  · intro _ _; go_simp; first | done | with_reducible rfl
  simp only [Act.put, List.setIfInBounds_toArray, List.set_cons_zero, List.set_cons_succ]
  refine wpAnyH_take (i := 1) (oi := { dst := some 5, op := .move (.tmp 0), type := 73, pos := "wire.go:36", after := #[], guard := none }) (v := ?_) rfl (by kernel_rfl) (by kernel_rfl) (by kernel_rfl) (fun _ _ _ h => h) (Or.inl ⟨by rfl, ?_⟩) (by assumption) ?_
  rotate_left
  · intro _ _; go_simp; first | done | with_reducible rfl
  simp only [Act.put, List.setIfInBounds_toArray, List.set_cons_zero, List.set_cons_succ]
  refine wpAnyH_take (i := 2) (oi := { dst := some 6, op := .nilCheck (.tmp 5), type := 0, pos := "wire.go:36", after := #[{ on := 1, ground := .data }], guard := none }) (v := ?_) rfl (by kernel_rfl) (by kernel_rfl) (by kernel_rfl) (fun _ _ _ h => h) (Or.inl ⟨by rfl, ?_⟩) (by assumption) ?_
  rotate_left
  · intro _ _; go_simp; first | done | with_reducible rfl
  simp only [Act.put, List.setIfInBounds_toArray, List.set_cons_zero, List.set_cons_succ]
  refine wpAnyH_take (i := 3) (oi := { dst := some 7, op := .fieldAddr 71 (.tmp 6) 0, type := 0, pos := "wire.go:36", after := #[{ on := 2, ground := .data }], guard := none }) (v := ?_) rfl (by kernel_rfl) (by kernel_rfl) (by kernel_rfl) (fun _ _ _ h => h) (Or.inl ⟨by rfl, ?_⟩) (by assumption) ?_
  rotate_left
  · intro _ _; go_simp; first | done | with_reducible rfl
  simp only [Act.put, List.setIfInBounds_toArray, List.set_cons_zero, List.set_cons_succ]
  refine wpAnyH_take (i := 5) (oi := { dst := some 9, op := .slice 23 (.tmp 3) none none none, type := 29, pos := "wire.go:36", after := #[], guard := none }) (v := ?_) rfl (by kernel_rfl) (by kernel_rfl) (by kernel_rfl) (fun _ _ _ h => h) (Or.inl ⟨by rfl, ?_⟩) (by assumption) ?_
  rotate_left
  · intro _ _; go_simp; first | done | with_reducible rfl
  simp only [Act.put, List.setIfInBounds_toArray, List.set_cons_zero, List.set_cons_succ]
  refine wpAnyH_ready (rs := [4]) (by kernel_rfl) (by simp) ?_
  refine AllReadyH.cons (o := { dst := some 8, op := .load 29 (.tmp 7), type := 29, pos := "wire.go:36", after := #[{ on := 3, ground := .data }], guard := none }) rfl (fun K hK => ?_) AllReadyH.nil
  go_simp
  skip
  go_simp
  refine hK.out _ _ (trivial) (fun hHeld => ?_)
  clear hK K
  refine wpAnyH_ready (rs := [6]) (by kernel_rfl) (by simp) ?_
  refine AllReadyH.cons (o := { dst := some 10, op := .call { callee := .builtin Go.Builtin.append, args := #[.tmp 8, .tmp 9], argTypes := #[29, 29] }, type := 29, pos := "wire.go:36", after := #[{ on := 4, ground := .data }, { on := 5, ground := .data }], guard := none }) rfl (fun K hK => ?_) AllReadyH.nil
  refine step_append_b rfl _ _ rfl N v bs rfl HW1.out.own _ h rfl HSRC.out (by rw [HH.out]; omega) HW1.out.base ?_; intro v4 w4 HO4 HG4 HM4; obtain ⟨a4, n4, cap4, rfl⟩ := HO4.out.any; have hc4 : w4.cell? ⟨R, 0, none⟩ = some v := HG4.out.cell (HW1.out.blk.one rfl) (fun e => by have h1 := (HW1.out.own.lt R e.symm).1; have h2 := HW1.out.lt; omega); have hf4 : w4.frozen? ⟨R, 0, none⟩ = false := by { have hl := HW1.out.blk.lt; have hfr := HW1.out.blk.frozen 0; rw [World.frozen?_of_block (a := ⟨R, 0, none⟩) (HG4.out.block R hl (fun e => by have h1 := (HW1.out.own.lt R e.symm).1; have h2 := HW1.out.lt; omega))]; exact hfr }
  simp only [Act.put, List.setIfInBounds_toArray, List.set_cons_zero, List.set_cons_succ]
  refine hK.out _ _ (trivial) (fun hHeld => ?_)
  clear hK K
  refine wpAnyH_take (i := 7) (oi := { dst := some 11, op := .nilCheck (.tmp 4), type := 0, pos := "wire.go:36", after := #[{ on := 0, ground := .data }, { on := 0, ground := .phase }, { on := 1, ground := .phase }, { on := 2, ground := .phase }, { on := 3, ground := .phase }, { on := 4, ground := .phase }, { on := 5, ground := .phase }, { on := 6, ground := .phase }], guard := none }) (v := ?_) rfl (by kernel_rfl) (by kernel_rfl) (by kernel_rfl) (fun _ _ _ h => h) (Or.inl ⟨by rfl, ?_⟩) (by assumption) ?_
  rotate_left
  · intro _ _; go_simp; first | done | with_reducible rfl
  simp only [Act.put, List.setIfInBounds_toArray, List.set_cons_zero, List.set_cons_succ]
  refine wpAnyH_take (i := 8) (oi := { dst := some 12, op := .fieldAddr 71 (.tmp 11) 0, type := 0, pos := "wire.go:36", after := #[{ on := 7, ground := .data }, { on := 0, ground := .phase }, { on := 1, ground := .phase }, { on := 2, ground := .phase }, { on := 3, ground := .phase }, { on := 4, ground := .phase }, { on := 5, ground := .phase }, { on := 6, ground := .phase }], guard := none }) (v := ?_) rfl (by kernel_rfl) (by kernel_rfl) (by kernel_rfl) (fun _ _ _ h => h) (Or.inl ⟨by rfl, ?_⟩) (by assumption) ?_
  rotate_left
  · intro _ _; go_simp; first | done | with_reducible rfl
  simp only [Act.put, List.setIfInBounds_toArray, List.set_cons_zero, List.set_cons_succ]
  refine wpAnyH_ready (rs := [9]) (by kernel_rfl) (by simp) ?_
  refine AllReadyH.cons (o := { dst := none, op := .store 29 (.tmp 12) (.tmp 10), type := 0, pos := "wire.go:36", after := #[{ on := 8, ground := .data }, { on := 6, ground := .data }, { on := 6, ground := .chain }, { on := 0, ground := .phase }, { on := 1, ground := .phase }, { on := 2, ground := .phase }, { on := 3, ground := .phase }, { on := 4, ground := .phase }, { on := 5, ground := .phase }, { on := 6, ground := .phase }], guard := none }) rfl (fun K hK => ?_) AllReadyH.nil
  go_simp
  skip
  go_simp
  refine hK.out _ _ (trivial) (fun hHeld => ?_)
  clear hK K
  refine wpAnyH_done (by kernel_rfl) ?_ _
  refine NoPanic.normal ?_
  obtain ⟨HW5, HG5⟩ := Wr.store HW1.out HO4.out HG4.out HM4.out
  have HW6 : Hid (Wr _ R N _ (bs ++ h)) := HW5
  have HG6 : Hid (Grew R v _ w _) := (Grew.of_below HB1.out).trans HG5
  clear HW5 HG5 hHeld
  generalize World.setCell w4 _ _ = w5 at *
  go_wp2_with fail
  go_end0
  exact ⟨rfl, _, HW6.out, HG6.out⟩

/-- A number's row of one, laid by the call itself. -/
theorem Ints.lit (w : World) (Z : List Int) (T : TypeId) : Ints (w.alloc (.cells (Z.map (Value.int .i64)).toArray T)) (some ⟨w.heap.size, 0, none⟩) Z :=
  Blk.ints (Blk.mk _ _ _ rfl rfl)
/-- (*wire.Writer).Num at numbers that were laid just now. -/
theorem wnum_lit (R N : Nat) (v : Value) (bs : List (BitVec 8)) (Z : List Int) (n : Nat) (w : World) (hW : Wr w R N v bs) (hn : Z.length = n) (hn1 : n ≤ 1000) (hl : bs.length + 9 * n ≤ 900000) :
    Calls Tryz.prog 28 #[.pointer (some ⟨R, 0, none⟩), .slice (some ⟨w.heap.size, 0, none⟩) n n] (w.alloc (.cells (Z.map (Value.int .i64)).toArray 3)) fun e w' => e = .returned (.tuple #[]) ∧ ∃ v', Wr w' R N v' (bs ++ nums Z) ∧ Grew R v v' w w' := by
  have hb : Below w.heap.size w (w.alloc (.cells (Z.map (Value.int .i64)).toArray 3)) := (Below.refl _ _).alloc (Nat.le_refl _) _
  have hf := hW.fresh (Nat.le_refl _)
  refine (wnum_any R N v bs w.heap.size 0 n n Z _ (hW.below hb) (Ints.lit w Z _) hn hn1 hl (by simp) hf.1 hf.2).mono ?_
  rintro e w' ⟨rfl, v', h1, h2⟩
  exact ⟨rfl, v', h1, (Grew.of_below hb).trans h2⟩

set_option maxRecDepth 100000 in
set_option maxHeartbeats 4000000 in
theorem wtext_any (R N : Nat) (v : Value) (bs : List (BitVec 8)) (s : ByteArray) (w : World) (hW : Wr w R N v bs) (hs : s.size ≤ 90000) (hl : bs.length ≤ 800000) :
    Calls Tryz.prog 30 #[.pointer (some ⟨R, 0, none⟩), .string s] w fun e w' => e = .returned (.tuple #[]) ∧ ∃ v', Wr w' R N v' (bs ++ (numB s.size ++ strB s)) ∧ Grew R v v' w w' := by
  have HW : Hid (Wr w R N v bs) := hW
  clear hW
  go_enter Tryz.func30, Tryz.ntmps30
  go_wp2_with fail
  refine (wnum_lit R N v bs [(s.size : Int)] 1 w HW.out rfl (by omega) (by omega)).mono ?_
  rintro e w1 ⟨rfl, v1, hW1, hG1⟩
  have HW1 : Hid (Wr w1 R N v1 (bs ++ nums [(s.size : Int)])) := hW1
  have HG1 : Hid _ := hG1
  have HLEN : Hid ((bs ++ nums [(s.size : Int)]).length + s.size ≤ 1000000) := by
    have := nums_length [(s.size : Int)]
    show _ ≤ _
    rw [List.length_append]; simp at this; omega
  have hc0 : w1.cell? ⟨R, 0, none⟩ = some v1 := hW1.blk.one rfl
  clear hW1 hG1
  go_upto_region 2 with (at_builtin; refine wpList_append_s rfl _ _ rfl N v1 _ rfl HW1.out.own s rfl HLEN.out HW1.out.base ?_; intro v4 w4 HO4 HG4 HM4; obtain ⟨a4, n4, cap4, rfl⟩ := HO4.out.any; have hc4 : w4.cell? ⟨R, 0, none⟩ = some v1 := HG4.out.cell (HW1.out.blk.one rfl) (fun e => by have h1 := (HW1.out.own.lt R e.symm).1; have h2 := HW1.out.lt; omega); have hf4 : w4.frozen? ⟨R, 0, none⟩ = false := by { have hl := HW1.out.blk.lt; have hfr := HW1.out.blk.frozen 0; rw [World.frozen?_of_block (a := ⟨R, 0, none⟩) (HG4.out.block R hl (fun e => by have h1 := (HW1.out.own.lt R e.symm).1; have h2 := HW1.out.lt; omega))]; exact hfr })
  obtain ⟨HW5, HG5⟩ := Wr.store HW1.out HO4.out HG4.out HM4.out
  rw [List.append_assoc, show nums [(s.size : Int)] = numB s.size by simp [nums]] at HW5
  have HW6 : Hid (Wr _ R N _ (bs ++ (numB s.size ++ strB s))) := HW5
  have HG6 : Hid (Grew R v _ w _) := HG1.out.trans HG5
  clear HW5 HG5
  generalize World.setCell w4 _ _ = w5 at *
  go_wp2_with fail
  go_end0
  exact ⟨rfl, _, HW6.out, HG6.out⟩

theorem Pt.whole_n {w : World} {b : Nat} {p : Pt} (h : Blk w b p.cs) : w.cell? ⟨b, 32, none⟩ = some (.int .i64 p.n) := h.one p.cell_n
/-- An outpoint's form. -/
def ptB (p : Pt) : List (BitVec 8) := p.tx ++ numB p.n
set_option maxRecDepth 100000 in
set_option maxHeartbeats 4000000 in
theorem wpoint_any (R N : Nat) (v : Value) (bs : List (BitVec 8)) (p : Pt) (w : World) (hW : Wr w R N v bs) (hl : bs.length ≤ 800000) :
    Calls Tryz.prog 98 #[.pointer (some ⟨R, 0, none⟩), .agg p.cs.toArray] w fun e w' => e = .returned (.tuple #[]) ∧ ∃ v', Wr w' R N v' (bs ++ ptB p) ∧ Grew R v v' w w' := by
  have HW : Hid (Wr w R N v bs) := hW
  have HUH : Hid (_ = _) := Tryz.underlying23
  clear hW
  go_enter Tryz.func98, Tryz.ntmps98
  go_upto_region 1 with fail
  generalize hw1 : World.alloc w _ = w1
  have hb1 : Below w.heap.size w w1 := by rw [← hw1]; exact (Below.refl _ _).alloc (Nat.le_refl _) _
  have HA1 : Hid (Blk w1 w.heap.size p.cs) := by rw [← hw1]; exact Blk.new _ _ _
  have HW1 : Hid (Wr w1 R N v bs) := HW.out.below hb1
  have HB1 : Hid (Below w.heap.size w w1) := hb1
  clear hw1 hb1
  have HTX : Hid (w1.rangeAt w.heap.size 0 (u8s p.tx)) := HA1.out.tx
  go_wp2_with (refine wpList_load_mid rfl 23 _ rfl w.heap.size 0 rfl (u8s p.tx) _ HTX.out HUH.out rfl (size_hash p) ?_)
  refine (whash_any R N v bs p.tx w1 HW1.out p.len (by omega)).mono ?_
  rintro e w2 ⟨rfl, v2, hW2, hG2⟩
  have hf := HW.out.fresh (Nat.le_refl _)
  have HA2 : Hid (Blk w2 w.heap.size p.cs) := HA1.out.grew hG2 hf.1 hf.2
  have HW2 : Hid (Wr w2 R N v2 (bs ++ p.tx)) := hW2
  have HG2 : Hid (Grew R v v2 w w2) := (Grew.of_below HB1.out).trans hG2
  have hcn : w2.cell? ⟨w.heap.size, 32, none⟩ = some (.int .i64 p.n) := Pt.whole_n HA2.out
  clear hW2 hG2 hf
  go_wp2_with fail
  refine (wnum_lit R N v2 (bs ++ p.tx) [p.n] 1 w2 HW2.out rfl (by omega) (by rw [List.length_append, p.len]; omega)).mono ?_
  rintro e w3 ⟨rfl, v3, hW3, hG3⟩
  rw [List.append_assoc, show nums [p.n] = numB p.n by simp [nums]] at hW3
  have HW3 : Hid (Wr w3 R N v3 (bs ++ ptB p)) := hW3
  have HG3 : Hid (Grew R v v3 w w3) := HG2.out.trans hG3
  clear hW3 hG3
  go_wp2_with fail
  go_end0
  exact ⟨rfl, _, HW3.out, HG3.out⟩

/-- A script's form. -/
def scrB (s : Scr) : List (BitVec 8) := nums [s.kind, s.key, s.other, s.rev, s.delay, s.expiry] ++ s.hash
set_option maxRecDepth 100000 in
set_option maxHeartbeats 4000000 in
theorem wscript_any (R N : Nat) (v : Value) (bs : List (BitVec 8)) (s : Scr) (w : World) (hW : Wr w R N v bs) (hl : bs.length ≤ 800000) :
    Calls Tryz.prog 99 #[.pointer (some ⟨R, 0, none⟩), .agg s.cs.toArray] w fun e w' => e = .returned (.tuple #[]) ∧ ∃ v', Wr w' R N v' (bs ++ scrB s) ∧ Grew R v v' w w' := by
  have HW : Hid (Wr w R N v bs) := hW
  have HUH : Hid (_ = _) := Tryz.underlying23
  clear hW
  go_enter Tryz.func99, Tryz.ntmps99
  go_upto_region 1 with fail
  generalize hw1 : World.alloc w _ = w1
  have hb1 : Below w.heap.size w w1 := by rw [← hw1]; exact (Below.refl _ _).alloc (Nat.le_refl _) _
  have HA1 : Hid (Blk w1 w.heap.size s.cs) := by rw [← hw1]; exact Blk.new _ _ _
  have HW1 : Hid (Wr w1 R N v bs) := HW.out.below hb1
  have HB1 : Hid (Below w.heap.size w w1) := hb1
  clear hw1 hb1
  obtain ⟨g0, g1, g2, g3, g4, g5⟩ := s.get
  have c0 := HA1.out.one g0
  have c1 := HA1.out.one g1
  have c2 := HA1.out.one g2
  have c3 := HA1.out.one g3
  have c4 := HA1.out.one g4
  have c5 := HA1.out.one g5
  clear g0 g1 g2 g3 g4 g5
  go_wp2_with fail
  refine (wnum_lit R N v bs [s.kind, s.key, s.other, s.rev, s.delay, s.expiry] 6 w1 HW1.out rfl (by omega) (by omega)).mono ?_
  rintro e w2 ⟨rfl, v2, hW2, hG2⟩
  have hf := HW.out.fresh (Nat.le_refl _)
  have HA2 : Hid (Blk w2 w.heap.size s.cs) := HA1.out.grew hG2 hf.1 hf.2
  have HW2 : Hid (Wr w2 R N v2 (bs ++ nums [s.kind, s.key, s.other, s.rev, s.delay, s.expiry])) := hW2
  have HG2 : Hid (Grew R v v2 w w2) := (Grew.of_below HB1.out).trans hG2
  have HTX : Hid (w2.rangeAt w.heap.size 6 (u8s s.hash)) := by
    have := Scr.hash_at HA2.out.whole
    rwa [Nat.zero_add] at this
  have HLN : Hid ((bs ++ nums [s.kind, s.key, s.other, s.rev, s.delay, s.expiry]).length ≤ 900000) := by
    have := nums_length [s.kind, s.key, s.other, s.rev, s.delay, s.expiry]
    show _ ≤ _
    rw [List.length_append]; simp at this; omega
  clear hW2 hG2 hf c0 c1 c2 c3 c4 c5
  go_wp2_with (refine wpList_load_mid rfl 23 _ rfl w.heap.size 6 rfl (u8s s.hash) _ HTX.out HUH.out rfl (size_hashL s.hash s.len) ?_)
  refine (whash_any R N v2 _ s.hash w2 HW2.out s.len HLN.out).mono ?_
  rintro e w3 ⟨rfl, v3, hW3, hG3⟩
  rw [List.append_assoc] at hW3
  have HW3 : Hid (Wr w3 R N v3 (bs ++ scrB s)) := hW3
  have HG3 : Hid (Grew R v v3 w w3) := HG2.out.trans hG3
  clear hW3 hG3
  go_wp2_with fail
  go_end0
  exact ⟨rfl, _, HW3.out, HG3.out⟩

/-- A literal slice of bytes. -/
theorem OwnB.lit (w : World) (bs : List (BitVec 8)) (hm : bs.length ≤ 1000000) : OwnB (w.alloc (.cells (u8s bs).toArray 5)) w.heap.size (.slice (some ⟨w.heap.size, 0, none⟩) bs.length bs.length) bs := by
  have h := World.ownsRow_lit (base := w.heap.size) (e := 5) (size := 1) w (u8s bs).toArray bs.length (Nat.le_refl _) (by unfold maxLen; omega) (by simp)
  exact h
set_option maxRecDepth 100000 in
set_option maxHeartbeats 1000000 in
theorem clone_some (b o n cap : Nat) (bs : List (BitVec 8)) (w : World) (h : SrcB w (.slice (some ⟨b, o, none⟩) n cap) bs) (hl : bs.length ≤ 900000) :
    Calls Tryz.prog 66 #[.slice (some ⟨b, o, none⟩) n cap] w fun e w' => ∃ v', e = .returned v' ∧ OwnB w' w.heap.size v' bs ∧ Below w.heap.size w w' := by
  have HB1 : Hid (Below w.heap.size w (w.alloc (.cells #[] 5))) := (Below.refl _ _).alloc (Nat.le_refl _) _
  have HO1 : Hid (OwnB (w.alloc (.cells #[] 5)) w.heap.size (.slice (some ⟨w.heap.size, 0, none⟩) 0 0) []) := OwnB.lit w [] (by simp)
  have HS1 : Hid (SrcB (w.alloc (.cells #[] 5)) (.slice (some ⟨b, o, none⟩) n cap) bs) := by
    rcases h with ⟨e, _⟩ | ⟨b', o', cap', e, hc⟩
    · injection e with e; cases e
    · refine .inr ⟨b', o', cap', e, fun j u hu => ?_⟩
      have := hc j u hu
      rw [World.cell?_of_block (a := ⟨b', o' + j, none⟩) (HB1.out.block b' (World.block_lt_of_cell? w _ this))]; exact this
  clear h
  have hq : ∀ w', (binOp .eql 29 (.slice (some ⟨b, o, none⟩) n cap) (.slice none 0 0)).run Tryz.prog w' = .ok (.bool false) w' := fun w' => Go.Lib.run_eql_slice_nil w' _ _ _ _ _ _ _ Tryz.underlying29
  go_enter Tryz.func66, Tryz.ntmps66
  go_wp2_with (at_builtin; refine wpList_append_b rfl _ _ rfl w.heap.size _ [] rfl HO1.out _ bs rfl HS1.out (by simp; omega) (by simp) ?_; intro v4 w4 HO4 HG4 HM4; obtain ⟨a4, n4, cap4, rfl⟩ := HO4.out.any)
  go_ret
  refine ⟨_, rfl, ?_, ?_⟩
  · have := HO4.out
    rwa [List.nil_append] at this
  · exact HB1.out.grown HG4.out (by simp) fun k hk => by
      have hk' : some w.heap.size = some k := hk
      injection hk' with hk'
      omega
set_option maxRecDepth 100000 in
set_option maxHeartbeats 1000000 in
theorem clone_any (v : Value) (bs : List (BitVec 8)) (w : World) (h : SrcB w v bs) (hl : bs.length ≤ 900000) :
    Calls Tryz.prog 66 #[v] w fun e w' => ∃ v', e = .returned v' ∧ OwnB w' w.heap.size v' bs ∧ Below w.heap.size w w' := by
  have h0 := h
  rcases h with ⟨rfl, rfl⟩ | ⟨b, o, cap, rfl, _⟩
  · clear h0
    have hq : ∀ w', (binOp .eql 29 (.slice none 0 0) (.slice none 0 0)).run Tryz.prog w' = .ok (.bool true) w' := fun w' => Go.Lib.run_eql_slice_nil w' _ _ _ _ _ _ _ Tryz.underlying29
    go_enter Tryz.func66, Tryz.ntmps66
    go_wp2_with fail
    go_ret
    exact ⟨_, rfl, OwnB.nil _ _, Below.refl _ _⟩
  · exact clone_some b o _ cap bs w h0 hl
set_option maxRecDepth 100000 in
theorem wbytes_any (R N : Nat) (v : Value) (bs : List (BitVec 8)) (w : World) (hW : Wr w R N v bs) (hl : bs.length ≤ 900000) :
    Calls Tryz.prog 31 #[.pointer (some ⟨R, 0, none⟩)] w fun e w' => ∃ v', e = .returned v' ∧ OwnB w' w.heap.size v' bs ∧ Below w.heap.size w w' := by
  have HW : Hid (Wr w R N v bs) := hW
  have hc0 : w.cell? ⟨R, 0, none⟩ = some v := hW.blk.one rfl
  clear hW
  go_enter Tryz.func31, Tryz.ntmps31
  go_wp2_with fail
  refine (clone_any v bs w HW.out.own.src hl).mono ?_
  rintro e w1 ⟨v', rfl, hO, hB⟩
  have HO : Hid _ := hO
  have HB : Hid _ := hB
  clear hO hB
  go_wp2_with fail
  go_ret
  exact ⟨v', rfl, HO.out, HB.out⟩
end Go.Proofs.YtlaifphedhaemaaGreatDoor
namespace Go.Proofs.YtlaifphedhaemaaGreatDoor
open Go.ChangeShapes Go.WideShapes Go.ChangeAt Go.RowKit

/-- What Encode writes of an input ahead of the witnesses; of an output; of all. -/
def inB (x : In) : List (BitVec 8) := ptB x.prev ++ numB x.seq
def outB (x : Out) : List (BitVec 8) := numB x.value ++ scrB x.scr
def bodyB (t : TxD) : List (BitVec 8) := numB t.ins.length ++ t.ins.flatMap inB ++ numB t.outs.length ++ t.outs.flatMap outB ++ numB t.lock
theorem inB_length (x : In) : (inB x).length ≤ 50 := by
  have := numB_length x.prev.n; have := numB_length x.seq
  unfold inB ptB
  rw [List.length_append, List.length_append, x.prev.len]; omega
theorem outB_length (x : Out) : (outB x).length ≤ 95 := by
  have h1 := numB_length x.value; have h2 := nums_length [x.scr.kind, x.scr.key, x.scr.other, x.scr.rev, x.scr.delay, x.scr.expiry]
  unfold outB scrB
  rw [List.length_append, List.length_append, x.scr.len]; simp at h2; omega
theorem flatMap_length {α : Type} (f : α → List (BitVec 8)) (c : Nat) (h : ∀ x, (f x).length ≤ c) (l : List α) : (l.flatMap f).length ≤ c * l.length := by
  induction l with
  | nil => simp
  | cons x l ih => have := h x; rw [List.flatMap_cons, List.length_append, List.length_cons, Nat.mul_succ]; omega
theorem flatMap_next {α : Type} (f : α → List (BitVec 8)) (d : α) (l : List α) (k : Nat) (h : k < l.length) : (l.take (k + 1)).flatMap f = (l.take k).flatMap f ++ f (l.getD k d) := by
  rw [List.take_add_one, List.flatMap_append, List.getD_eq_getElem?_getD, List.getElem?_eq_getElem h]
  simp

set_option maxRecDepth 100000 in
set_option maxHeartbeats 4000000 in
theorem wbody_any (R N : Nat) (v : Value) (bs : List (BitVec 8)) (tv : TxV) (t : TxD) (w w0 : World) (hW : Wr w R N v bs) (hT : TxAt w0 tv t) (h0 : w0.heap.size ≤ R) (hb0 : Below w0.heap.size w0 w) (hn : tv.n ≤ 100) (hm : tv.m ≤ 100) (hl : bs.length ≤ 100000) :
    Calls Tryz.prog 65 #[.pointer (some ⟨R, 0, none⟩), tv.val t.lock] w fun e w' => e = .returned (.tuple #[]) ∧ ∃ v', Wr w' R N v' (bs ++ bodyB t) ∧ Grew R v v' w w' := by
  obtain ⟨dI, HDI, HRI⟩ := und_in
  obtain ⟨dO, HDO, HRO⟩ := und_out
  obtain ⟨dS, HDS, HRS⟩ := und_scr
  have HW : Hid (Wr w R N v bs) := hW
  have HT : Hid (∀ w', Below w0.heap.size w0 w' → TxAt w' tv t) := fun w' hb => hT.below hb
  have H0 : Hid (w0.heap.size ≤ R ∧ Below w0.heap.size w0 w) := ⟨h0, hb0⟩
  have HLI : Hid (t.ins.length = tv.n) := hT.ins.len
  have HLO : Hid (t.outs.length = tv.m) := hT.outs.len
  have HBB : Hid (bodyB t = numB t.ins.length ++ t.ins.flatMap inB ++ numB t.outs.length ++ t.outs.flatMap outB ++ numB t.lock) := show _ = _ from rfl
  have HBW : Hid (Below w.heap.size w (w.alloc (.cells #[.slice tv.a tv.n tv.c, .slice tv.b tv.m tv.d, .int .i64 t.lock] 61)) ∧ Blk (w.alloc (.cells #[.slice tv.a tv.n tv.c, .slice tv.b tv.m tv.d, .int .i64 t.lock] 61)) w.heap.size [.slice tv.a tv.n tv.c, .slice tv.b tv.m tv.d, .int .i64 t.lock]) := ⟨(Below.refl _ _).alloc (Nat.le_refl _) _, Blk.new _ _ _⟩
  clear hW hT h0 hb0
  obtain ⟨ins, outs, lock⟩ := t
  obtain ⟨a, n, c, b, m, d⟩ := tv
  generalize bodyB _ = BB at *
  unfold TxV.val
  simp only at *
  have HTI : Hid (∀ w', Below w0.heap.size w0 w' → Els w' a n c ins) := fun w' h => (HT.out w' h).ins
  have HTO : Hid (∀ w', Below w0.heap.size w0 w' → Els w' b m d outs) := fun w' h => (HT.out w' h).outs
  clear HT
  go_enter Tryz.func65, Tryz.ntmps65
  go_upto_region 1 with fail
  generalize World.alloc w _ = w1 at *
  have hf := HW.out.fresh (Nat.le_refl _)
  have HF : Hid (w.heap.size ≠ R ∧ v.ownBlock ≠ some w.heap.size) := hf
  have HW1 : Hid (Wr w1 R N v bs) := HW.out.below HBW.out.1
  have HG1 : Hid (Grew R v v w w1) := Grew.of_below HBW.out.1
  have HT1 : Hid (Blk w1 w.heap.size _) := HBW.out.2
  have HBASE : Hid (∀ w' v', Grew R v v' w w' → Below w0.heap.size w0 w') := fun w' v' hg => H0.out.2.trans (hg.below H0.out.1 H0.out.2.size fun k hk => by have h1 := (HW.out.own.lt k hk).1; have h2 := HW.out.lt; have h3 := H0.out.1; omega)
  have HKEEP : Hid (∀ w' v', Grew R v v' w1 w' → Blk w' w.heap.size [.slice a n c, .slice b m d, .int .i64 lock]) := fun w' v' hg => HT1.out.grew hg HF.out.1 HF.out.2
  have HTOP : Hid (∀ w' v', Grew R v v' w1 w' → Grew R v v' w w') := fun w' v' hg => HG1.out.trans hg
  clear HBW hf
  generalize w.heap.size = T at *
  have c0 : w1.cell? ⟨T, 0, none⟩ = some (.slice a n c) := HT1.out.one rfl
  go_wp2_with fail
  refine (wnum_lit R N v bs [(n : Int)] 1 w1 HW1.out rfl (by omega) (by omega)).mono ?_
  rintro e w2 ⟨rfl, v2, hW2, hG2⟩
  rw [show nums [(n : Int)] = numB n by simp [nums]] at hW2
  have HW2 : Hid (Wr w2 R N v2 (bs ++ numB n)) := hW2
  have HG2 : Hid (Grew R v v2 w1 w2) := hG2
  clear hW2 hG2 c0
  have c0 : w2.cell? ⟨T, 0, none⟩ = some (.slice a n c) := (HKEEP.out _ _ HG2.out).one rfl
  go_wp2_with fail
  clear c0
  have HL0 : Hid ((bs ++ numB n).length ≤ 100009) := by
    have := numB_length n
    show _ ≤ _
    rw [List.length_append]; omega
  generalize hb1 : bs ++ numB n = b1 at *
  have HB1 : Hid (bs ++ numB n = b1) := hb1
  clear hb1 HW1 HT1 HW
  go_loopw [17] (fun i wr => ∃ (k : Nat) (vk : Value), k ≤ n ∧ i = .int .i64 k ∧ Hid (Wr wr R N vk (b1 ++ (ins.take k).flatMap inB)) ∧ Hid (Grew R v vk w1 wr)) (fun i _ => n - (intOf i).toNat)
  case atStart => exact ⟨0, v2, by omega, rfl, show Wr _ _ _ _ _ by simpa using HW2.out, HG2.out⟩
  case round =>
    obtain ⟨k, vk, hk, rfl, HWk, HGk⟩ := hrel
    clear HW2 HG2
    by_cases hlt : k < n
    · have e0 : (0 : Int) ≤ (k : Int) := by omega
      have e1 : (k : Int) < (n : Int) := by omega
      obtain ⟨bb, o, rfl, hc⟩ := (HTI.out _ (HBASE.out _ _ (HTOP.out _ _ HGk.out))).at k hlt
      obtain ⟨x, hx⟩ : ∃ x, x = ins.getD k default := ⟨_, rfl⟩
      change wr.rangeAt bb (o + k * 37) (In.cs (ins.getD k default)) at hc
      rw [← hx] at hc
      have HNX : Hid ((ins.take (k + 1)).flatMap inB = (ins.take k).flatMap inB ++ inB x) := by
        show _ = _
        rw [hx]; exact flatMap_next inB default ins k (by rw [HLI.out]; exact hlt)
      have HC : Hid (wr.rangeAt bb (o + k * 37) x.cs) := hc
      have HLK : Hid ((b1 ++ (ins.take k).flatMap inB).length ≤ 106000) := by
        have h1 := HL0.out
        have h2 := flatMap_length inB 50 inB_length (ins.take k)
        show _ ≤ _
        rw [List.length_append]; rw [List.length_take] at h2; omega
      generalize hbk : b1 ++ (ins.take k).flatMap inB = bk at *
      have HBK : Hid (_ = bk) := hbk
      clear hc hx hbk
      go_upto_region 5 with (first
        | (refine wpList_load_mid rfl 57 _ rfl bb (o + k * 37) rfl x.cs _ HC.out HDI.out HRI.out (size_in x) ?_)
        | (refine wpList_store_fresh rfl 57 _ _ rfl x.cs _ 57 rfl rfl (size_ina x) (zin_size x) x.cs_all ?_; intro w3 HB3 Hb3))
      have HW3 : Hid (Wr w3 R N vk bk) := HWk.out.below Hb3.out
      have HG3 : Hid (Grew R v vk w1 w3) := HGk.out.trans (Grew.of_below Hb3.out)
      have HFX : Hid (wr.heap.size ≠ R ∧ vk.ownBlock ≠ some wr.heap.size) := HWk.out.fresh (Nat.le_refl _)
      have HPT : Hid (w3.rangeAt wr.heap.size 0 x.prev.cs) := In.prev_at HB3.out.whole
      clear HC HWk HGk Hb3
      go_wp2_with (refine wpList_load_mid rfl 53 _ rfl wr.heap.size 0 rfl x.prev.cs _ HPT.out und_pt.out rfl (size_pt x.prev) ?_)
      refine (wpoint_any R N vk bk x.prev w3 HW3.out (by have := HLK.out; omega)).mono ?_
      rintro e w4 ⟨rfl, v4, hW4, hG4⟩
      have HX4 : Hid (Blk w4 wr.heap.size x.cs) := HB3.out.grew hG4 HFX.out.1 HFX.out.2
      have HW4 : Hid (Wr w4 R N v4 (bk ++ ptB x.prev)) := hW4
      have HG4 : Hid (Grew R v v4 w1 w4) := HG3.out.trans hG4
      have c1 : w4.cell? ⟨wr.heap.size, 33, none⟩ = some (.int .i64 x.seq) := HX4.out.one x.seq_at
      have HL4 : Hid ((bk ++ ptB x.prev).length + 9 ≤ 900000) := by
        have h1 := HLK.out
        have h2 := numB_length x.prev.n
        show _ ≤ _
        unfold ptB
        rw [List.length_append, List.length_append, x.prev.len]; omega
      clear hW4 hG4 HB3 HW3 HG3 HFX HPT
      go_wp2_with fail
      refine (wnum_lit R N v4 (bk ++ ptB x.prev) [x.seq] 1 w4 HW4.out rfl (by omega) HL4.out).mono ?_
      rintro e w5 ⟨rfl, v5, hW5, hG5⟩
      rw [List.append_assoc, show nums [x.seq] = numB x.seq by simp [nums]] at hW5
      have HW5 : Hid (Wr w5 R N v5 (bk ++ inB x)) := hW5
      have HG5 : Hid (Grew R v v5 w1 w5) := HG4.out.trans hG5
      clear hW5 hG5 HW4 HG4 HX4 c1
      go_wp2_with fail
      go_roundw
      case rel =>
        refine ⟨k + 1, v5, by omega, by go_num, ?_, HG5.out⟩
        show Wr _ _ _ _ _
        rw [HNX.out, ← List.append_assoc, HBK.out]; exact HW5.out
      case measure => simp [intOf]; omega
    · obtain rfl : k = n := by omega
      rw [List.take_of_length_le (by rw [HLI.out]; exact Nat.le_refl _)] at HWk
      have c1 : wr.cell? ⟨T, 1, none⟩ = some (.slice b m d) := (HKEEP.out _ _ HGk.out).one rfl
      have HLK : Hid ((b1 ++ ins.flatMap inB).length ≤ 106000) := by
        have h1 := HL0.out
        have h2 := flatMap_length inB 50 inB_length ins
        show _ ≤ _
        rw [List.length_append]; rw [HLI.out] at h2; omega
      generalize hb2 : b1 ++ ins.flatMap inB = b2 at *
      have HB2 : Hid (_ = b2) := hb2
      clear hb2
      go_wp2_with fail
      refine (wnum_lit R N vk b2 [(m : Int)] 1 wr HWk.out rfl (by omega) (by have := HLK.out; omega)).mono ?_
      rintro e w6 ⟨rfl, v6, hW6, hG6⟩
      rw [show nums [(m : Int)] = numB m by simp [nums]] at hW6
      have HW6 : Hid (Wr w6 R N v6 (b2 ++ numB m)) := hW6
      have HG6 : Hid (Grew R v v6 w1 w6) := HGk.out.trans hG6
      clear hW6 hG6 c1 HWk HGk
      have c1 : w6.cell? ⟨T, 1, none⟩ = some (.slice b m d) := (HKEEP.out _ _ HG6.out).one rfl
      have HL6 : Hid ((b2 ++ numB m).length ≤ 107000) := by
        have h1 := HLK.out
        have h2 := numB_length m
        show _ ≤ _
        rw [List.length_append]; omega
      generalize hb3 : b2 ++ numB m = b3 at *
      have HB3 : Hid (_ = b3) := hb3
      clear hb3
      go_wp2_with fail
      clear c1
      go_loopw [40] (fun i wr => ∃ (j : Nat) (vj : Value), j ≤ m ∧ i = .int .i64 j ∧ Hid (Wr wr R N vj (b3 ++ (outs.take j).flatMap outB)) ∧ Hid (Grew R v vj w1 wr)) (fun i _ => m - (intOf i).toNat)
      case atStart => exact ⟨0, v6, by omega, rfl, show Wr _ _ _ _ _ by simpa using HW6.out, HG6.out⟩
      case round =>
        obtain ⟨j, vj, hj, rfl, HWj, HGj⟩ := hrel
        clear HW6 HG6
        by_cases hlt : j < m
        · have e0 : (0 : Int) ≤ (j : Int) := by omega
          have e1 : (j : Int) < (m : Int) := by omega
          obtain ⟨bb, o, rfl, hc⟩ := (HTO.out _ (HBASE.out _ _ (HTOP.out _ _ HGj.out))).at j hlt
          obtain ⟨x, hx⟩ : ∃ x, x = outs.getD j default := ⟨_, rfl⟩
          change wr.rangeAt bb (o + j * 39) (Out.cs (outs.getD j default)) at hc
          rw [← hx] at hc
          have HNX : Hid ((outs.take (j + 1)).flatMap outB = (outs.take j).flatMap outB ++ outB x) := by
            show _ = _
            rw [hx]; exact flatMap_next outB default outs j (by rw [HLO.out]; exact hlt)
          have HC : Hid (wr.rangeAt bb (o + j * 39) x.cs) := hc
          have HLJ : Hid ((b3 ++ (outs.take j).flatMap outB).length ≤ 117000) := by
            have h1 := HL6.out
            have h2 := flatMap_length outB 95 outB_length (outs.take j)
            show _ ≤ _
            rw [List.length_append]; rw [List.length_take] at h2; omega
          generalize hbk : b3 ++ (outs.take j).flatMap outB = bk at *
          have HBK : Hid (_ = bk) := hbk
          clear hc hx hbk
          go_upto_region 12 with (first
            | (refine wpList_load_mid rfl 67 _ rfl bb (o + j * 39) rfl x.cs _ HC.out HDO.out HRO.out (size_out x) ?_)
            | (refine wpList_store_fresh rfl 67 _ _ rfl x.cs _ 67 rfl rfl (size_outa x) (zout_size x) x.cs_all ?_; intro w3 HBX Hb3))
          have HW3 : Hid (Wr w3 R N vj bk) := HWj.out.below Hb3.out
          have HG3 : Hid (Grew R v vj w1 w3) := HGj.out.trans (Grew.of_below Hb3.out)
          have HFX : Hid (wr.heap.size ≠ R ∧ vj.ownBlock ≠ some wr.heap.size) := HWj.out.fresh (Nat.le_refl _)
          have c2 : w3.cell? ⟨wr.heap.size, 0, none⟩ = some (.int .i64 x.value) := HBX.out.one rfl
          clear HC HWj HGj Hb3
          go_wp2_with fail
          refine (wnum_lit R N vj bk [x.value] 1 w3 HW3.out rfl (by omega) (by have := HLJ.out; omega)).mono ?_
          rintro e w4 ⟨rfl, v4, hW4, hG4⟩
          rw [show nums [x.value] = numB x.value by simp [nums]] at hW4
          have HX4 : Hid (Blk w4 wr.heap.size x.cs) := HBX.out.grew hG4 HFX.out.1 HFX.out.2
          have HW4 : Hid (Wr w4 R N v4 (bk ++ numB x.value)) := hW4
          have HG4 : Hid (Grew R v v4 w1 w4) := HG3.out.trans hG4
          have HSC : Hid (w4.rangeAt wr.heap.size 1 x.scr.cs) := by
            have := Out.scr_at HX4.out.whole
            rwa [Nat.zero_add] at this
          have HL4 : Hid ((bk ++ numB x.value).length ≤ 800000) := by
            have h1 := HLJ.out
            have h2 := numB_length x.value
            show _ ≤ _
            rw [List.length_append]; omega
          clear hW4 hG4 HBX HW3 HG3 HFX c2
          go_wp2_with (refine wpList_load_mid rfl 65 _ rfl wr.heap.size 1 rfl x.scr.cs _ HSC.out HDS.out HRS.out (size_scr x.scr) ?_)
          refine (wscript_any R N v4 (bk ++ numB x.value) x.scr w4 HW4.out HL4.out).mono ?_
          rintro e w5 ⟨rfl, v5, hW5, hG5⟩
          rw [List.append_assoc] at hW5
          have HW5 : Hid (Wr w5 R N v5 (bk ++ outB x)) := hW5
          have HG5 : Hid (Grew R v v5 w1 w5) := HG4.out.trans hG5
          clear hW5 hG5 HW4 HG4 HX4 HSC
          go_wp2_with fail
          go_roundw
          case rel =>
            refine ⟨j + 1, v5, by omega, by go_num, ?_, HG5.out⟩
            show Wr _ _ _ _ _
            rw [HNX.out, ← List.append_assoc, HBK.out]; exact HW5.out
          case measure => simp [intOf]; omega
        · obtain rfl : j = m := by omega
          rw [List.take_of_length_le (by rw [HLO.out]; exact Nat.le_refl _)] at HWj
          have c2 : wr.cell? ⟨T, 2, none⟩ = some (.int .i64 lock) := (HKEEP.out _ _ HGj.out).one rfl
          have HLE : Hid ((b3 ++ outs.flatMap outB).length + 9 ≤ 900000) := by
            have h1 := HL6.out
            have h2 := flatMap_length outB 95 outB_length outs
            show _ ≤ _
            rw [List.length_append]; rw [HLO.out] at h2; omega
          go_wp2_with fail
          refine (wnum_lit R N vj _ [lock] 1 wr HWj.out rfl (by omega) HLE.out).mono ?_
          rintro e w7 ⟨rfl, v7, hW7, hG7⟩
          have HW7 : Hid (Wr w7 R N v7 (bs ++ BB)) := by
            show Wr _ _ _ _ _
            rw [HBB.out, HLI.out, HLO.out]
            rw [show nums [lock] = numB lock by simp [nums], ← HB3.out, ← HB2.out, ← HB1.out] at hW7
            simpa [List.append_assoc] using hW7
          have HG7 : Hid (Grew R v v7 w w7) := HTOP.out _ _ (HGj.out.trans hG7)
          clear hW7 hG7
          go_wp2_with fail
          go_end0
          exact ⟨rfl, v7, HW7.out, HG7.out⟩
end Go.Proofs.YtlaifphedhaemaaGreatDoor
