/- A list of transactions that a law builds: each with one input and one output, in blocks of its own. -/
import Derived.Test.YtlaifphedhaemaaGreatDoorCBkAw
namespace Go.Proofs.YtlaifphedhaemaaGreatDoor
open Go.ChangeShapes Go.WideShapes Go.ChangeAt Go.RowKit

def ptH (h : H32) : Pt := ⟨h.b, 0, h.len⟩
def inH (h : H32) : In := ⟨ptH h, 0, 1, 0, ByteArray.empty⟩
def outK : Out := ⟨5, ⟨1, 0, 0, 0, 0, 0, List.replicate 32 0, rfl⟩⟩
def baseT (i : Nat) : TxD := ⟨[inH (nmH i)], [outK], 0⟩
theorem elTx : ElT TxR Tryz.prog 26 61 56 := ⟨Tryz.underlying26, Tryz.infoTx, by omega, by decide, by decide⟩
theorem built_ptN (g : Nat → BitVec 8) : Tryz.prog.built 53 [(0, .agg (u8s ((List.range 32).map g)).toArray)] = some (u8s ((List.range 32).map g) ++ [Value.int .i64 0]).toArray := by kernel_rfl
theorem built_ptH (h : H32) : Tryz.prog.built 53 [(0, .agg h.cs.toArray)] = some (ptH h).cs.toArray := by
  have := built_ptN (fun i => h.b.getD i 0)
  rw [← h32_range h] at this
  exact this
theorem built_inN (g : Nat → BitVec 8) : Tryz.prog.built 57 [(0, .agg (u8s ((List.range 32).map g) ++ [Value.int .i64 0]).toArray), (2, .agg #[.int .i64 1, .int .i64 0, .string ByteArray.empty])] = some ((u8s ((List.range 32).map g) ++ [Value.int .i64 0]) ++ [Value.int .i64 0, Value.int .i64 1, Value.int .i64 0, Value.string ByteArray.empty]).toArray := by kernel_rfl
theorem built_inH (h : H32) : Tryz.prog.built 57 [(0, .agg (ptH h).cs.toArray), (2, .agg #[.int .i64 1, .int .i64 0, .string ByteArray.empty])] = some (inH h).cs.toArray := by
  have := built_inN (fun i => h.b.getD i 0)
  rw [← h32_range h] at this
  exact this
theorem built_tx2 (a b : Option Addr) (n c m d : Nat) : Tryz.prog.built 61 [(0, .slice a n c), (1, .slice b m d)] = some #[.slice a n c, .slice b m d, .int .i64 0] := by kernel_rfl
/-- A transaction whose lists are two blocks. -/
def rowR (x : Nat × Nat) (t : TxD) : TxR := ⟨⟨some ⟨x.1, 0, none⟩, 1, 1, some ⟨x.2, 0, none⟩, 1, 1⟩, t⟩
def rowsR (pq : List (Nat × Nat)) : List TxR := pq.zipIdx.map fun x => rowR x.1 (baseT x.2)
theorem rowsR_length (pq : List (Nat × Nat)) : (rowsR pq).length = pq.length := by simp [rowsR]
theorem rowsR_push (pq : List (Nat × Nat)) (x : Nat × Nat) : rowsR (pq ++ [x]) = rowsR pq ++ [rowR x (baseT pq.length)] := by
  simp [rowsR, List.zipIdx_append]
theorem rowsR_get (pq : List (Nat × Nat)) (i : Nat) : (rowsR pq)[i]? = (pq[i]?).map fun x => rowR x (baseT i) := by
  simp [rowsR, List.getElem?_zipIdx]
  cases pq[i]? <;> rfl
structure Own (w : World) (N : Nat) (v : Value) (pq : List (Nat × Nat)) : Prop where
  row : OwnE 61 w N v (rowsR pq)
  blk : ∀ i x, pq[i]? = some x → Blk w x.1 (inH (nmH i)).cs ∧ Blk w x.2 outK.cs ∧ N ≤ x.1 ∧ x.1 < x.2 ∧ v.ownBlock ≠ some x.1 ∧ v.ownBlock ≠ some x.2
  ord : pq.Pairwise fun x y => x.2 < y.1
theorem Own.nil (w : World) (N : Nat) : Own w N (.slice none 0 0) [] := ⟨OwnE.nil _ _, (fun i x h => by simp at h), List.Pairwise.nil⟩
theorem Own.below {w w' : World} {N : Nat} {v : Value} {pq : List (Nat × Nat)} (h : Own w N v pq) (hb : Below w.heap.size w w') : Own w' N v pq :=
  ⟨h.row.below hb, fun i x hx => by
    obtain ⟨h1, h2, h3⟩ := h.blk i x hx
    exact ⟨h1.below hb h1.lt, h2.below hb h2.lt, h3⟩, h.ord⟩
/-- One more at the end. -/
theorem Own.push {w w' : World} {N : Nat} {v v' : Value} {pq : List (Nat × Nat)} {p q : Nat} (h : Own w N v pq) (hr : OwnE 61 w' N v' (rowsR pq ++ [rowR (p, q) (baseT pq.length)])) (hg : w.grownBy w' v.ownBlock) (hm : Moved w v v')
    (hp : Blk w p (inH (nmH pq.length)).cs) (hq : Blk w q outK.cs) (hN : N ≤ p) (hpq : p < q) (hv : v.ownBlock ≠ some p ∧ v.ownBlock ≠ some q) (hord : ∀ x ∈ pq, x.2 < p) : Own w' N v' (pq ++ [(p, q)]) := by
  have keep : ∀ b cs, Blk w b cs → v.ownBlock ≠ some b → Blk w' b cs := fun b cs hb hn => by
    have hl := hb.lt
    obtain ⟨t, ht⟩ := hb
    exact ⟨t, by rw [hg.block b hl (fun e => hn e.symm)]; exact ht⟩
  refine ⟨by rw [rowsR_push]; exact hr, fun i x hx => ?_, ?_⟩
  · by_cases hi : i < pq.length
    · rw [List.getElem?_append_left hi] at hx
      obtain ⟨h1, h2, h3, h4, h5, h6⟩ := h.blk i x hx
      exact ⟨keep _ _ h1 h5, keep _ _ h2 h6, h3, h4, hm.apart h1.lt h5, hm.apart h2.lt h6⟩
    · rw [List.getElem?_append_right (by omega)] at hx
      obtain rfl : i = pq.length := by
        have := (List.getElem?_eq_some_iff.1 hx).1
        simp at this; omega
      rw [Nat.sub_self] at hx
      injection hx with hx
      subst hx
      exact ⟨keep _ _ hp hv.1, keep _ _ hq hv.2, hN, hpq, hm.apart hp.lt hv.1, hm.apart hq.lt hv.2⟩
  · exact List.pairwise_append.2 ⟨h.ord, List.pairwise_singleton _ _, fun x hx y hy => by rw [List.mem_singleton] at hy; subst hy; exact hord x hx⟩
theorem Els.one {α : Type} [El α] {w : World} {p : Nat} {x : α} (h : Blk w p (El.cs x)) : Els w (some ⟨p, 0, none⟩) 1 1 [x] :=
  Els.of_blk h rfl (Nat.le_refl _) (by unfold maxLen; omega) (by rw [flatE_one, List.take_of_length_le]; rw [El.len]; omega)
theorem wpList_build_blk {α : Type} [El α] {P : Program} {S T : TypeId} {by_ : Nat} {ops : Array Oper} {rest : List Oper} {o : Oper} {ac : Act} {w : World} {Q : Exit → Act → World → Prop} (H : ElT α P S T by_) (hgd : o.guard = none) (y : Operand) (ho : o.op = .buildSlice S 1 #[(0, y)]) (x : α) (hy : ac.eval y = .agg (El.cs x).toArray)
    (hK : ∀ w', Hid (Blk w' w.heap.size (El.cs x)) → Hid (Below w.heap.size w w') → wpList P ops Q rest (ac.put o.dst (.slice (some ⟨w.heap.size, 0, none⟩) 1 1)) w') : wpList P ops Q (o :: rest) ac w :=
  wpList_step fun K hK' => by
    have hw : Region.wanted o (yielded ops ac.tmps) = true := by simp [Region.wanted, hgd]
    rw [if_pos hw]
    obtain ⟨i, hi, hi1, hi2, hi3⟩ := info_parts H.info
    have h1 := H.pos
    have h2 := H.most
    refine wp_buildSlice S T 1 _ ho (flatE [x]).toArray i _ H.und hi hi1 (by rw [hi2]; omega) (by rw [hi2]; omega) ?_ (hK' _ _ (hK _ (by
      have := Blk.new w (flatE [x]).toArray T
      rw [flatE_one] at this ⊢
      exact this) ((Below.refl _ _).alloc (Nat.le_refl _) _)))
    have hp : ((#[(0, y)] : Array (Nat × Operand)).map fun (i, x) => (i, ac.eval x)).toList = (([x].map fun p => Value.agg (El.cs p).toArray).zipIdx 0).map fun x => (x.2, x.1) := by
      simp [hy]
    rw [hp, hi2]
    have := Go.Great.fill_whole (s := El.k α) h1 ([x].map fun p => Value.agg (El.cs p).toArray) ((Array.range (1 * El.k α)).map ((Value.agg (El.cs (El.dflt : α)).toArray).cells[· % (Value.agg (El.cs (El.dflt : α)).toArray).cells.size]!)) (fun v hv => by
      obtain ⟨p, _, rfl⟩ := List.mem_map.1 hv
      show (El.cs p).toArray.size = El.k α
      rw [List.size_toArray, El.len]) (by simp)
    rw [this, flatE_values]
theorem rowsR_ts (pq : List (Nat × Nat)) : (rowsR pq).map TxR.t = (List.range pq.length).map baseT := by
  apply List.ext_getElem?
  intro i
  rw [List.getElem?_map, rowsR_get, List.getElem?_map]
  by_cases h : i < pq.length
  · rw [List.getElem?_eq_getElem h, List.getElem?_range h]; rfl
  · rw [List.getElem?_eq_none (by omega), List.getElem?_eq_none (by simp; omega)]; rfl
def ts0 (n : Nat) : List TxD := (List.range n).map baseT
def tsA (n F T : Nat) : List TxD := (ts0 n).set T ⟨[inH (nmH F)], [outK], 7⟩
def tsB (n F T : Nat) : List TxD := (ts0 n).set T ⟨[inH (idH (baseT F)), inH (nmH T)], [outK], 0⟩
end Go.Proofs.YtlaifphedhaemaaGreatDoor
