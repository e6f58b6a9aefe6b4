/- What was written is read back: plain mathematics. -/
import Derived.Test.YteikbpkjikacmaaGreatDoorCD6
import Derived.Test.YteikbpkjikacmaaGreatDoorCE1
namespace Go.Proofs.YteikbpkjikacmaaGreatDoor
open Go.RowKit

def okN (n : Int) : Prop := 0 ≤ n ∧ n ≤ 4611686018427387904
theorem map_Y_toB {l : List Int} (h : IsBytes l) : (toB l).map Y = l := by
  unfold toB
  rw [List.map_map]
  conv => rhs; rw [← List.map_id l]
  exact List.map_congr_left fun x hx => Y_ofInt x (h x hx).1 (h x hx).2
theorem numB_Y (n : Int) : (numB n).map Y = bytesN n := map_Y_toB (isBytes_N n)
theorem numB_len (n : Int) : ((numB n).length : Int) = sizeN n := by
  rw [← bytesN_length, ← numB_Y, List.length_map]
theorem rN_num {n : Int} (h : okN n) (r : List (BitVec 8)) (b : Bool) : rN (numB n ++ r, b) = (n, (r, b)) := by
  have e : getR ((numB n ++ r).map Y) = (n, sizeN n, 0) := by
    rw [List.map_append, numB_Y]; exact getR_bytesN n h.1 h.2 _
  unfold rN
  simp only [e, if_true, ← numB_len, Int.toNat_natCast, List.drop_left]
theorem rC_num {n : Int} (h : okN n) (m : Int) (hm : n ≤ m) (r : List (BitVec 8)) (b : Bool) : rC (numB n ++ r, b) m = (n, (r, b)) := by
  unfold rC
  rw [rN_num h, if_pos hm]
theorem rT_app (x r : List (BitVec 8)) (b : Bool) (n : Int) (hn : n = (x.length : Int)) : rT (x ++ r, b) n = (x, (r, b)) := by
  subst hn
  unfold rT
  rw [if_pos (by simp; omega)]
  simp
theorem rH_app (x r : List (BitVec 8)) (b : Bool) (hx : x.length = 32) : rH (x ++ r, b) = (x, (r, b)) := by
  unfold rH
  rw [rT_app x r b 32 (by rw [hx]; rfl), if_pos (by simp; omega)]
  simp only [← hx, List.take_left]
theorem rP_pt (p : Pt) (h : okN p.n) (r : List (BitVec 8)) (b : Bool) : rP (ptB p ++ r, b) = (p, (r, b)) := by
  have e : rH (p.tx ++ (numB p.n ++ r), b) = (p.tx, (numB p.n ++ r, b)) := rH_app _ _ _ p.len
  unfold ptB
  rw [List.append_assoc]
  refine Prod.ext (Pt.ext ?_ ?_) ?_
  · simp only [rP, e]
  · simp only [rP, e, rN_num h]
  · simp only [rP, e, rN_num h]
theorem rS_scr (s : Scr) (h1 : okN s.kind) (h2 : okN s.key) (h3 : okN s.other) (h4 : okN s.rev) (h5 : okN s.delay) (h6 : okN s.expiry) (r : List (BitVec 8)) (b : Bool) : rS (scrB s ++ r, b) = (s, (r, b)) := by
  have e0 : scrB s ++ r = numB s.kind ++ (numB s.key ++ (numB s.other ++ (numB s.rev ++ (numB s.delay ++ (numB s.expiry ++ (s.hash ++ r)))))) := by
    simp [scrB, nums, List.append_assoc]
  rw [e0]
  refine Prod.ext (Scr.ext ?_ ?_ ?_ ?_ ?_ ?_ ?_) ?_ <;> simp only [rS, rN_num h1, rN_num h2, rN_num h3, rN_num h4, rN_num h5, rN_num h6, rH_app s.hash r b s.len]
theorem rX_text (s : ByteArray) (h : s.size ≤ 64) (r : List (BitVec 8)) (b : Bool) : rX (numB s.size ++ strB s ++ r, b) = (s, (r, b)) := by
  have e : rN (numB s.size ++ (strB s ++ r), b) = ((s.size : Int), (strB s ++ r, b)) := rN_num ⟨by omega, by omega⟩ _ _
  rw [List.append_assoc]
  unfold rX
  simp only [e, rT_app (strB s) r b s.size (by rw [strB_length]), ofB_strB]
theorem rIn_in (x : In) (h1 : okN x.prev.n) (h2 : okN x.seq) (r : List (BitVec 8)) (b : Bool) : rIn (inB x ++ r, b) = (⟨x.prev, x.seq, 0, 0, ByteArray.empty⟩, (r, b)) := by
  have e : rP (ptB x.prev ++ (numB x.seq ++ r), b) = (x.prev, (numB x.seq ++ r, b)) := rP_pt _ h1 _ _
  unfold inB
  rw [List.append_assoc]
  simp only [rIn, e, rN_num h2]
theorem rOut_out (x : Out) (h : okN x.value) (h1 : okN x.scr.kind) (h2 : okN x.scr.key) (h3 : okN x.scr.other) (h4 : okN x.scr.rev) (h5 : okN x.scr.delay) (h6 : okN x.scr.expiry) (r : List (BitVec 8)) (b : Bool) : rOut (outB x ++ r, b) = (x, (r, b)) := by
  have e : rN (numB x.value ++ (scrB x.scr ++ r), b) = (x.value, (scrB x.scr ++ r, b)) := rN_num h _ _
  unfold outB
  rw [List.append_assoc]
  simp only [rOut, e, rS_scr x.scr h1 h2 h3 h4 h5 h6]
theorem rWit_wit (x : In) (h1 : okN x.kind) (h2 : okN x.key) (h3 : x.pre.size ≤ 64) (r : List (BitVec 8)) (b : Bool) : rWit (witB x ++ r, b) = (⟨x.kind, x.key, x.pre⟩, (r, b)) := by
  have e0 : witB x ++ r = numB x.kind ++ (numB x.key ++ (numB x.pre.size ++ strB x.pre ++ r)) := by
    simp [witB, nums, List.append_assoc]
  rw [e0]
  simp only [rWit, rN_num h1, rN_num h2, rX_text x.pre h3]
theorem rMany_flat {α β : Type} (f : RS → α × RS) (g : β → List (BitVec 8)) (h : β → α) (L : List β) (r : List (BitVec 8)) (b : Bool) (hf : ∀ x ∈ L, ∀ r, f (g x ++ r, b) = (h x, (r, b))) (k : Nat) (hk : k ≤ L.length) :
    rMany f k (L.flatMap g ++ r, b) = ((L.take k).map h, ((L.drop k).flatMap g ++ r, b)) := by
  induction k with
  | zero => simp [rMany]
  | succ k ih =>
    have hl : k < L.length := by omega
    have e := ih (by omega)
    rw [rMany, e, List.drop_eq_getElem_cons hl, List.flatMap_cons, List.append_assoc]
    simp only [hf _ (List.getElem_mem hl)]
    rw [List.take_add_one, List.map_append, List.getElem?_eq_getElem hl]
    rfl
theorem rMany_all {α β : Type} (f : RS → α × RS) (g : β → List (BitVec 8)) (h : β → α) (L : List β) (r : List (BitVec 8)) (b : Bool) (hf : ∀ x ∈ L, ∀ r, f (g x ++ r, b) = (h x, (r, b))) :
    rMany f L.length (L.flatMap g ++ r, b) = (L.map h, (r, b)) := by
  rw [rMany_flat f g h L r b hf L.length (Nat.le_refl _), List.take_length, List.drop_length]; rfl
end Go.Proofs.YteikbpkjikacmaaGreatDoor
