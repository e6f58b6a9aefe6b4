/- wal: numbers' forms as bytes; the record that bytes begin with, and all whole ones. No program's text is walked here. slices.Concat of three rows of bytes; wal: frame. wal: bytes that can be read, with their room (Bs); frame. -/
import Derived.Test.YtlapnnkahijikaaZS3
import Derived.Test.YtlapnnkahijikaaZN1
import Derived.Test.YtlapnnkahijikaaZF1
import Derived.Test.YtlapnnkahijikaaZF3
namespace Go.Proofs.Ytlapnnkahijikaa
open Go.ChangeShapes Go.WideShapes Go.ChangeAt Go.RowKit Go.Lib

def toB (l : List Int) : List (BitVec 8) := l.map (BitVec.ofInt 8)
theorem Y_ofInt (x : Int) (h0 : 0 ≤ x) (h1 : x ≤ 255) : Y (BitVec.ofInt 8 x) = x := by
  unfold Y; rw [BitVec.toNat_ofInt]; omega
theorem u8s_toB {l : List Int} (h : IsBytes l) : u8s (toB l) = l.map (Value.int .u8) := by
  unfold u8s toB
  rw [List.map_map]
  refine List.map_congr_left fun x hx => ?_
  show Value.int .u8 (Y (BitVec.ofInt 8 x)) = _
  rw [Y_ofInt x (h x hx).1 (h x hx).2]
theorem map_Y_toB {l : List Int} (h : IsBytes l) : (toB l).map Y = l := by
  unfold toB
  rw [List.map_map]
  conv => rhs; rw [← List.map_id l]
  refine List.map_congr_left fun x hx => ?_
  exact Y_ofInt x (h x hx).1 (h x hx).2
theorem isBytes_Y (bs : List (BitVec 8)) : IsBytes (bs.map Y) := fun x hx => by
  obtain ⟨b, _, rfl⟩ := List.mem_map.1 hx
  have := b.isLt
  unfold Y; omega
/-- A number's form. -/
def numB (n : Int) : List (BitVec 8) := toB (bytesN n)
theorem numB_Y (n : Int) : (numB n).map Y = bytesN n := map_Y_toB (isBytes_N n)
theorem numB_len (n : Int) : ((numB n).length : Int) = sizeN n := by
  unfold numB toB
  rw [List.length_map]; exact bytesN_length n
theorem sizeN_le9 (n : Int) : 0 ≤ sizeN n ∧ sizeN n ≤ 9 := by
  unfold sizeN; repeat' split
  all_goals omega
theorem numB_le (n : Int) : (numB n).length ≤ 9 := by have := numB_len n; have := sizeN_le9 n; omega
theorem numB_pos {n : Int} (h0 : 0 ≤ n) (h1 : n ≤ 4611686018427387904) : 1 ≤ (numB n).length := by
  have h := numB_len n
  unfold sizeN at h
  rw [if_neg (by omega)] at h
  repeat' split at h
  all_goals omega
theorem OwnB.put {w : World} {B : Nat} {v : Value} {n : Int} (h : Row w B v (bytesN n)) : OwnB w B v (numB n) := by
  unfold OwnB numB
  rw [u8s_toB (isBytes_N n)]
  unfold toB
  rw [List.length_map]; exact h
/-- What Get tells of bytes. -/
def getB (bs : List (BitVec 8)) : Int × Int × Int := getR (bs.map Y)
theorem getB_num {n : Int} (h0 : 0 ≤ n) (h1 : n ≤ 4611686018427387904) (r : List (BitVec 8)) : getB (numB n ++ r) = (n, sizeN n, 0) := by
  unfold getB
  rw [List.map_append, numB_Y]; exact getR_bytesN n h0 h1 _
theorem getR_cut {n : Int} {k : Nat} (hk : k < (bytesN n).length) : getR ((bytesN n).take k) = (0, 0, 2) := by
  by_cases hk0 : k = 0
  · subst hk0; rfl
  · have key : ∀ (s : Nat) (l : List Int), l.length = s → 3 ≤ s → k < s → spanN (l.getD 0 0) = s → getR (l.take k) = (0, 0, 2) := fun s l hl hs hks hsp => by
      have hlt : (l.take k).length = k := by rw [List.length_take]; omega
      refine getR_short (s := s) (fun e => ?_) ?_ (by omega) (by rw [hlt]; exact hks)
      · rw [e] at hlt; simp at hlt; omega
      · rw [List.getD_eq_getElem?_getD, List.getElem?_take_of_lt (by omega), ← List.getD_eq_getElem?_getD]; exact hsp
    rcases five n with h | ⟨h, h'⟩ | ⟨h, h'⟩ | ⟨h, h'⟩ | ⟨h, h'⟩
    · rw [bytesN_none h] at hk; simp at hk
    · rw [bytesN_1 h h'] at hk; simp at hk; omega
    · rw [bytesN_3 h h'] at hk ⊢; exact key 3 _ rfl (by omega) hk rfl
    · rw [bytesN_5 h h'] at hk ⊢; exact key 5 _ rfl (by omega) hk rfl
    · rw [bytesN_9 h h'] at hk ⊢; exact key 9 _ rfl (by omega) hk rfl
theorem getB_cut {n : Int} {k : Nat} (hk : k < (numB n).length) : getB ((numB n).take k) = (0, 0, 2) := by
  unfold getB
  rw [List.map_take, numB_Y]
  exact getR_cut (by unfold numB toB at hk; rwa [List.length_map] at hk)
/-- What Get reads is there. -/
theorem getB_ok {bs : List (BitVec 8)} (h : (getB bs).2.2 = 0) : 0 ≤ (getB bs).1 ∧ (getB bs).1 ≤ 4611686018427387904 ∧ 1 ≤ (getB bs).2.1 ∧ (getB bs).2.1 ≤ 9 ∧ (getB bs).2.1 ≤ bs.length := by
  unfold getB at *
  have hb := isBytes_Y bs
  have hlen : (bs.map Y).length = bs.length := List.length_map _
  generalize bs.map Y = l at *
  have h0 := isBytes_getD hb 0
  have hsp := spanN_cases (l.getD 0 0)
  unfold getR at *
  by_cases hl : l = []
  · rw [if_pos hl] at h; cases h
  · have hl1 : 1 ≤ l.length := by have := List.length_pos_iff.2 hl; omega
    rw [if_neg hl] at h ⊢
    by_cases h1 : spanN (l.getD 0 0) = 1
    · rw [if_pos h1] at h ⊢; refine ⟨h0.1, ?_, ?_, ?_, ?_⟩ <;> simp only <;> omega
    · rw [if_neg h1] at h ⊢
      by_cases h2 : (l.length : Int) < spanN (l.getD 0 0)
      · rw [if_pos h2] at h; cases h
      · rw [if_neg h2] at h ⊢
        by_cases h3 : 4611686018427387904 < rdAt l (spanN (l.getD 0 0)).toNat 1 ∨ sizeN (rdAt l (spanN (l.getD 0 0)).toNat 1) ≠ spanN (l.getD 0 0)
        · rw [if_pos h3] at h; cases h
        · rw [if_neg h3] at h ⊢
          have h4 := rdAt_nonneg hb (spanN (l.getD 0 0)).toNat 1
          refine ⟨h4, ?_, ?_, ?_, ?_⟩ <;> simp only
          · rcases Int.lt_or_le 4611686018427387904 (rdAt l (spanN (l.getD 0 0)).toNat 1) with h5 | h5
            · exact absurd (.inl h5) h3
            · exact h5
          · rcases hsp with ⟨_, e⟩ | ⟨_, e⟩ | ⟨_, e⟩ | ⟨_, _, _, e⟩ <;> rw [e] <;> omega
          · rcases hsp with ⟨_, e⟩ | ⟨_, e⟩ | ⟨_, e⟩ | ⟨_, _, _, e⟩ <;> rw [e] <;> omega
          · omega
/-- The record that bytes begin with, and how many bytes it takes. -/
def firstR (bs : List (BitVec 8)) : Option (List (BitVec 8) × Nat) :=
  if (getB bs).2.2 = 0 ∧ (getB bs).1 ≤ 1048576 ∧ (getB bs).2.1 + 32 + (getB bs).1 ≤ bs.length ∧ sum (bs.take (getB bs).2.1.toNat ++ (bs.drop ((getB bs).2.1.toNat + 32)).take (getB bs).1.toNat) = (bs.drop (getB bs).2.1.toNat).take 32 then
    some ((bs.drop ((getB bs).2.1.toNat + 32)).take (getB bs).1.toNat, (getB bs).2.1.toNat + 32 + (getB bs).1.toNat) else none
theorem firstR_size {bs r : List (BitVec 8)} {s : Nat} (h : firstR bs = some (r, s)) : 1 ≤ s ∧ s ≤ bs.length ∧ r.length ≤ s := by
  unfold firstR at h
  split at h
  · rename_i hc
    have := getB_ok hc.1
    injection h with h
    injection h with h1 h2
    subst h1
    rw [List.length_take]
    omega
  · cases h
/-- A record as it stands in the file. -/
def frB (r : List (BitVec 8)) : List (BitVec 8) := numB r.length ++ sum (numB r.length ++ r) ++ r
theorem frB_length (r : List (BitVec 8)) : (frB r).length = (numB r.length).length + 32 + r.length := by
  unfold frB
  rw [List.length_append, List.length_append, sum_length]
theorem frB_le (r : List (BitVec 8)) : (frB r).length ≤ r.length + 41 := by rw [frB_length]; have := numB_le r.length; omega
theorem firstR_frame (r t : List (BitVec 8)) (hr : r.length ≤ 1048576) : firstR (frB r ++ t) = some (r, (frB r).length) := by
  have hg : getB (frB r ++ t) = ((r.length : Int), sizeN r.length, 0) := by
    unfold frB
    rw [List.append_assoc, List.append_assoc]; exact getB_num (by omega) (by omega) _
  have hs : (sizeN (r.length : Int)).toNat = (numB r.length).length := by have := numB_len (r.length : Int); omega
  have e1 : (frB r ++ t).take (numB r.length).length = numB r.length := by
    unfold frB; rw [List.append_assoc, List.append_assoc, List.take_left']; rfl
  have e2 : (frB r ++ t).drop (numB r.length).length = sum (numB r.length ++ r) ++ (r ++ t) := by
    unfold frB; rw [List.append_assoc, List.append_assoc, List.drop_left']; rfl
  have e3 : (frB r ++ t).drop ((numB r.length).length + 32) = r ++ t := by
    rw [← List.drop_drop, e2, List.drop_left' (sum_length _)]
  unfold firstR
  rw [hg]
  simp only [hs, Int.toNat_natCast, e1, e2, e3]
  rw [List.take_left' rfl, List.take_left' (sum_length _), if_pos ⟨trivial, by omega, by rw [List.length_append, frB_length]; have := numB_len (r.length : Int); omega, rfl⟩, frB_length]
theorem firstR_cut (r : List (BitVec 8)) (k : Nat) (hr : r.length ≤ 1048576) (hk : k < (frB r).length) : firstR ((frB r).take k) = none := by
  unfold firstR
  rw [if_neg]
  rintro ⟨h1, _, h3, _⟩
  by_cases hkn : k < (numB r.length).length
  · have e : (frB r).take k = (numB r.length).take k := by
      unfold frB; rw [List.append_assoc, List.take_append_of_le_length (by omega)]
    rw [e, getB_cut hkn] at h1
    cases h1
  · have e : (frB r).take k = numB r.length ++ (sum (numB r.length ++ r) ++ r).take (k - (numB r.length).length) := by
      unfold frB; rw [List.append_assoc, List.take_append, List.take_of_length_le (by omega)]
    have hl : ((frB r).take k).length = k := by rw [List.length_take]; omega
    rw [hl] at h3
    rw [e, getB_num (by omega) (by omega)] at h3
    simp only at h3
    have := numB_len (r.length : Int)
    rw [frB_length] at hk
    omega
theorem firstR_nil : firstR [] = none := by
  have := firstR_cut [] 0 (by simp) (by rw [frB_length]; omega)
  rwa [List.take_zero] at this
/-- All whole records that bytes begin with, and how many bytes they take. -/
def wholeR (bs : List (BitVec 8)) : List (List (BitVec 8)) × Nat :=
  match _h : firstR bs with
  | none => ([], 0)
  | some (r, s) =>
    (r :: (wholeR (bs.drop s)).1, s + (wholeR (bs.drop s)).2)
termination_by bs.length
decreasing_by all_goals (have := firstR_size _h; rw [List.length_drop]; omega)
theorem wholeR_none {bs : List (BitVec 8)} (h : firstR bs = none) : wholeR bs = ([], 0) := by
  rw [wholeR]; split
  · rfl
  · rename_i h2; rw [h] at h2; cases h2
theorem wholeR_some {bs r : List (BitVec 8)} {s : Nat} (h : firstR bs = some (r, s)) : wholeR bs = (r :: (wholeR (bs.drop s)).1, s + (wholeR (bs.drop s)).2) := by
  rw [wholeR]; split
  · rename_i h2; rw [h] at h2; cases h2
  · rename_i r' s' h2
    rw [h] at h2
    injection h2 with h2
    injection h2 with h3 h4
    subst h3
    subst h4
    rfl
theorem wholeR_le : ∀ (n : Nat) (bs : List (BitVec 8)), bs.length = n → (wholeR bs).2 ≤ bs.length ∧ (wholeR bs).1.length ≤ (wholeR bs).2 ∧ ∀ r ∈ (wholeR bs).1, r.length ≤ bs.length := by
  intro n
  induction n using Nat.strongRecOn with
  | _ n ih =>
    intro bs hn
    cases h : firstR bs with
    | none => rw [wholeR_none h]; exact ⟨Nat.zero_le _, Nat.le_refl _, fun r hr => by cases hr⟩
    | some p =>
      obtain ⟨r, s⟩ := p
      have hs := firstR_size h
      have := ih (bs.drop s).length (by rw [List.length_drop]; omega) (bs.drop s) rfl
      rw [wholeR_some h]
      rw [List.length_drop] at this
      refine ⟨by simp only; omega, by simp only [List.length_cons]; omega, fun x hx => ?_⟩
      rcases List.mem_cons.1 hx with rfl | hx
      · omega
      · have := this.2.2 x hx; omega
/-- Records as they stand in the file. -/
def frs (X : List (List (BitVec 8))) : List (BitVec 8) := X.flatMap frB
theorem frs_nil : frs [] = [] := rfl
theorem frs_cons (r : List (BitVec 8)) (X : List (List (BitVec 8))) : frs (r :: X) = frB r ++ frs X := rfl
theorem frs_append (X Y : List (List (BitVec 8))) : frs (X ++ Y) = frs X ++ frs Y := by unfold frs; rw [List.flatMap_append]
theorem frs_one (r : List (BitVec 8)) : frs [r] = frB r := by rw [frs_cons, frs_nil, List.append_nil]
theorem wholeR_frs (X : List (List (BitVec 8))) (t : List (BitVec 8)) (hX : ∀ r ∈ X, r.length ≤ 1048576) (ht : firstR t = none) : wholeR (frs X ++ t) = (X, (frs X).length) := by
  induction X with
  | nil => rw [frs_nil, List.nil_append, wholeR_none ht]; rfl
  | cons r X ih =>
    have hr := firstR_frame r (frs X ++ t) (hX r (List.mem_cons_self ..))
    rw [frs_cons, List.append_assoc, wholeR_some hr, List.drop_left' rfl, ih fun x hx => hX x (List.mem_cons_of_mem _ hx), List.length_append]
end Go.Proofs.Ytlapnnkahijikaa
namespace Go.Proofs.Ytlapnnkahijikaa
open Go.ChangeShapes Go.WideShapes Go.ChangeAt Go.RowKit Go.Lib

theorem SrcB.shape {w : World} {v : Value} {bs : List (BitVec 8)} (h : SrcB w v bs) : ∃ a cap, v = .slice a bs.length cap := by
  rcases h with ⟨rfl, rfl⟩ | ⟨b, o, cap, rfl, _⟩
  · exact ⟨_, _, rfl⟩
  · exact ⟨_, _, rfl⟩
/-- Bytes that v leads to, or none, wherever it leads. -/
def SrcW (w : World) (v : Value) (bs : List (BitVec 8)) : Prop := SrcB w v bs ∨ (bs = [] ∧ ∃ a, v = .slice (some a) 0 0)
theorem SrcW.shape {w : World} {v : Value} {bs : List (BitVec 8)} (h : SrcW w v bs) : ∃ a cap, v = .slice a bs.length cap := by
  rcases h with h | ⟨rfl, a, rfl⟩
  · exact h.shape
  · exact ⟨_, _, rfl⟩
theorem SrcW.below {w w' : World} {v : Value} {bs : List (BitVec 8)} (h : SrcW w v bs) (hb : Below w.heap.size w w') : SrcW w' v bs := h.imp (fun h => h.below hb) id
theorem wpList_append_w {ops : Array Oper} {o : Oper} {ac : Act} {w : World} {Q : Exit → Act → World → Prop} {rest : List Oper} (hgd : o.guard = none) (s x : Operand)
    (ho : o.op = .call { callee := .builtin .append, args := #[s, x], argTypes := #[40, 40] }) (B : Nat) (v : Value) (bs : List (BitVec 8)) (hs : ac.eval s = v) (h : OwnB w B v bs)
    (y : Value) (r : List (BitVec 8)) (hx : ac.eval x = y) (hr : SrcW w y r) (hm : bs.length + r.length ≤ 100000000) (hN : B ≤ w.heap.size)
    (hK : ∀ v' w', Hid (OwnB w' B v' (bs ++ r)) → Hid (w.grownBy w' v.ownBlock) → wpList Try.prog ops Q rest (ac.put o.dst v') w') : wpList Try.prog ops Q (o :: rest) ac w := by
  rcases hr with hr | ⟨rfl, a, rfl⟩
  · exact wpList_append_b hgd s x ho B v bs hs h y r hx hr hm hN fun v' w' h1 h2 _ => hK v' w' h1 h2
  · obtain ⟨i, hi, hi1, hi2, hi3⟩ := info_parts Try.info8
    obtain ⟨v', w', hrun, h2, h3, _⟩ := run_append_own w B 40 o.type 5 i _ 1 1 Try.underlying40 hi hi1 hi2 hi3 rfl (by omega) v bs.length (u8s bs) h a 0 0 [] rfl (fun j u hu => by simp at hu) (fun u hu => by cases hu) (by unfold maxLen; omega) (by omega) hN
    refine wpList_plain hgd fun K hK' => ?_
    unfold Oper.wp execOp
    simp only [ho, resolve, invoke, builtin, Sem.run_bind, Sem.run_pure, Result.andThen_ok, List.map_toArray, List.map_cons, List.map_nil, hs, hx, hrun]
    refine hK' _ _ (hK v' w' ?_ h3)
    show OwnB _ _ _ _
    unfold OwnB
    rw [List.append_nil]
    rw [List.append_nil, Nat.add_zero] at h2
    exact h2
/-- What Grow makes of nil. -/
theorem OwnB.grown (w : World) (n c : Nat) (hc : n ≤ c) (hm : c ≤ maxLen) : OwnB (w.drew.alloc (.cells (#[] ++ Builtin.zeroCells (Value.int .u8 0).cells n ++ Builtin.zeroCells (Value.int .u8 0).cells (c - n)) 5)) w.heap.size (.slice (some ⟨w.heap.size, 0, none⟩) 0 c) [] :=
  ⟨rfl, .inr ⟨w.heap.size, c, _, rfl, Nat.le_refl _, heap_alloc_new w.drew _, Nat.zero_le _, hm, by
    simp only [Array.size_append, size_zeroCells, Array.size_empty]
    rw [show (Value.int .u8 0).cells.size = 1 from rfl]
    omega, by simp [u8s]⟩⟩
end Go.Proofs.Ytlapnnkahijikaa
namespace Go.Proofs.Ytlapnnkahijikaa
open Go.ChangeShapes Go.WideShapes Go.ChangeAt Go.RowKit Go.Lib

/-- Bytes that v leads to, and the room behind them. -/
def Bs (w : World) (v : Value) (bs : List (BitVec 8)) : Prop :=
  ∃ a cap, v = .slice a bs.length cap ∧ bs.length ≤ cap ∧ cap ≤ maxLen ∧ ((a = none ∧ cap = 0) ∨ ∃ b o, a = some ⟨b, o, none⟩ ∧ ∀ j, j < bs.length → w.cell? ⟨b, o + j, none⟩ = some (.int .u8 (Y (bs.getD j 0))))
section
variable {w w' : World} {v : Value} {bs : List (BitVec 8)} {B : Nat}
theorem Bs.shape (h : Bs w v bs) : ∃ a cap, v = .slice a bs.length cap ∧ Bytes w a cap bs ∧ bs.length ≤ cap ∧ cap ≤ maxLen := by
  obtain ⟨a, cap, hv, h1, h2, h3⟩ := h
  refine ⟨a, cap, hv, ⟨h1, h2, fun hne => ?_⟩, h1, h2⟩
  rcases h3 with ⟨_, h0⟩ | h3
  · exact absurd (List.eq_nil_of_length_eq_zero (by omega)) hne
  · exact h3
theorem Bs.src (h : Bs w v bs) : SrcB w v bs := by
  obtain ⟨a, cap, rfl, h1, h2, h3⟩ := h
  rcases h3 with ⟨rfl, h0⟩ | ⟨b, o, rfl, hc⟩
  · have hl : bs = [] := List.eq_nil_of_length_eq_zero (by omega)
    subst hl
    subst h0
    exact .inl ⟨rfl, rfl⟩
  · refine .inr ⟨b, o, cap, rfl, fun j u hu => ?_⟩
    have hj : j < bs.length := by have := (List.getElem?_eq_some_iff.1 hu).1; rwa [u8s_length] at this
    rw [u8s_get _ j hj] at hu
    rw [hc j hj, ← hu]
theorem Bs.same (h : Bs w v bs) (hb : ∀ k, v.ownBlock = some k → w'.heap[k]? = w.heap[k]?) : Bs w' v bs := by
  obtain ⟨a, cap, rfl, h1, h2, h3⟩ := h
  refine ⟨a, cap, rfl, h1, h2, ?_⟩
  rcases h3 with h3 | ⟨b, o, rfl, hc⟩
  · exact .inl h3
  · refine .inr ⟨b, o, rfl, fun j hj => ?_⟩
    have := hc j hj
    unfold World.cell? at *
    rw [hb b rfl]; exact this
theorem Bs.below (h : Bs w v bs) (hb : Below w.heap.size w w') : Bs w' v bs := by
  obtain ⟨a, cap, rfl, h1, h2, h3⟩ := h
  refine ⟨a, cap, rfl, h1, h2, ?_⟩
  rcases h3 with h3 | ⟨b, o, rfl, hc⟩
  · exact .inl h3
  · exact .inr ⟨b, o, rfl, fun j hj => cell_below hb (hc j hj)⟩
theorem OwnB.toBs (h : OwnB w B v bs) : Bs w v bs := by
  obtain ⟨a, c, hv, h1, h2, h3, _⟩ := h.take (Nat.zero_le _)
  refine ⟨a, c, hv, h1, h2, ?_⟩
  rcases h.src with ⟨e, _⟩ | ⟨b, o, cap, e, hc⟩
  · rw [hv] at e
    injection e with e1 _ e3
    exact .inl ⟨e1, e3⟩
  · rw [hv] at e
    injection e with e1 _ _
    exact .inr ⟨b, o, e1, fun j hj => hc j _ (u8s_get _ j hj)⟩
theorem Bs.nil (w : World) : Bs w (.slice none 0 0) [] := (OwnB.nil w 0).toBs
theorem Bs.row {b : Nat} {bs : List (BitVec 8)} (h : Blk w b (u8s bs)) (hm : bs.length ≤ maxLen) : Bs w (.slice (some ⟨b, 0, none⟩) bs.length bs.length) bs :=
  ⟨_, _, rfl, Nat.le_refl _, hm, .inr ⟨b, 0, rfl, fun j hj => by rw [Nat.zero_add]; exact h.one (u8s_get _ j hj)⟩⟩
/-- Its bytes from p to q. -/
theorem Bs.cut {a : Option Addr} {n cap : Nat} (h : Bs w (.slice a n cap) bs) (p q : Nat) (hp : p ≤ q) (hq : q ≤ bs.length) : Bs w (.slice (if cap = p then a else a.map (·.add p)) (q - p) (cap - p)) ((bs.drop p).take (q - p)) := by
  obtain ⟨a', cap', e, h1, h2, h3⟩ := h
  injection e with e1 e2 e3
  subst e1
  subst e2
  subst e3
  have hl : ((bs.drop p).take (q - p)).length = q - p := by rw [List.length_take, List.length_drop]; omega
  refine ⟨_, _, by rw [hl], by rw [hl]; omega, by omega, ?_⟩
  rcases h3 with ⟨rfl, h0⟩ | ⟨b, o, rfl, hc⟩
  · exact .inl ⟨by split <;> rfl, by omega⟩
  · by_cases hcp : cap = p
    · rw [if_pos hcp]
      exact .inr ⟨b, o, rfl, fun j hj => by rw [hl] at hj; omega⟩
    · rw [if_neg hcp]
      refine .inr ⟨b, o + p, by rw [Option.map_some, Addr.add_mid], fun j hj => ?_⟩
      rw [hl] at hj
      rw [Nat.add_assoc, hc (p + j) (by omega), List.getD_eq_getElem?_getD, List.getD_eq_getElem?_getD, List.getElem?_take_of_lt (by omega), List.getElem?_drop]
end
/-- Bytes that v leads to, or none, wherever it leads. -/
def Bw (w : World) (v : Value) (bs : List (BitVec 8)) : Prop := Bs w v bs ∨ (bs = [] ∧ ∃ a, v = .slice (some a) 0 0)
section
variable {w w' : World} {v : Value} {bs : List (BitVec 8)}
theorem Bw.shape (h : Bw w v bs) : ∃ a cap, v = .slice a bs.length cap ∧ Bytes w a cap bs ∧ bs.length ≤ cap ∧ cap ≤ maxLen := by
  rcases h with h | ⟨rfl, a, rfl⟩
  · exact h.shape
  · exact ⟨_, 0, rfl, ⟨Nat.le_refl _, Nat.zero_le _, fun h => absurd rfl h⟩, Nat.le_refl _, Nat.zero_le _⟩
theorem Bw.src (h : Bw w v bs) : SrcW w v bs := h.imp Bs.src id
theorem Bw.below (h : Bw w v bs) (hb : Below w.heap.size w w') : Bw w' v bs := h.imp (fun h => h.below hb) id
theorem Bw.str (h : Bw w v bs) : (convert 40 9 v).run Try.prog w = .ok (.string (ofB bs)) w := by
  rcases h with h | ⟨rfl, a, rfl⟩
  · exact h.src.str
  · have hl : (loadCells a 0).run Try.prog w = .ok (([] : List Int).map (Value.int .u8)).toArray w := by simpa using run_loadCells_list (P := Try.prog) w a [] (by simp)
    rw [run_convert_bytes_string w 40 9 5 _ 0 0 Try.underlying40 Try.underlying5 Try.underlying9, run_bytesToString w _ 0 0 [] hl, foldl_push_bytes]
    rfl
end
theorem pieces_two {w : World} {g : Nat} {v0 v1 : Value} {x y : List (BitVec 8)} (h : Blk w g [v0, v1]) (h0 : Bs w v0 x) (h1 : Bw w v1 y) : Pieces w (some ⟨g, 0, none⟩) [x, y] := fun i hi => by
  obtain ⟨a0, c0, e0, b0, _⟩ := h0.shape
  obtain ⟨a1, c1, e1, b1, _⟩ := h1.shape
  subst e0
  subst e1
  match i, hi with
  | 0, _ => exact ⟨g, 0, a0, c0, rfl, h.one rfl, b0⟩
  | 1, _ => exact ⟨g, 0, a1, c1, rfl, h.one rfl, b1⟩
theorem zeros_hash (s : List (BitVec 8)) (hs : s.length = 32) : (u8s zeros32).toArray.size = (u8s s).toArray.size := by simp [hs, zeros32]
end Go.Proofs.Ytlapnnkahijikaa
