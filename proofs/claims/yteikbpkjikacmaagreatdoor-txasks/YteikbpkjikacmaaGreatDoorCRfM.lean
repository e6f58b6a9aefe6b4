/- What the reader read was written so; the document's reader and the program's agree on a transaction. -/
import Derived.Test.YteikbpkjikacmaaGreatDoorCRfL
namespace Go.Proofs.YteikbpkjikacmaaGreatDoor
open Go.ChangeShapes Go.WideShapes Go.ChangeAt Go.RowKit

theorem take_getD (l : List Int) (s : Nat) (h : s ≤ l.length) : l.take s = (List.range s).map (fun i => l.getD i 0) := by
  apply List.ext_getElem
  · simp; omega
  · intro i h1 h2
    rw [List.length_take] at h1
    simp [List.getD_eq_getElem?_getD, List.getElem?_eq_getElem (show i < l.length by omega)]
theorem sizeN_is3 {n : Int} (h : sizeN n = 3) : 253 ≤ n ∧ n < 65536 := by
  unfold sizeN at h
  repeat' split at h
  all_goals first | omega | skip
theorem sizeN_is5 {n : Int} (h : sizeN n = 5) : 65536 ≤ n ∧ n < 4294967296 := by
  unfold sizeN at h
  repeat' split at h
  all_goals first | omega | skip
theorem sizeN_is9 {n : Int} (h : sizeN n = 9) : 4294967296 ≤ n ∧ n ≤ 4611686018427387904 := by
  unfold sizeN at h
  repeat' split at h
  all_goals first | omega | skip
/-- What was read of a number's bytes is its form. -/
theorem getR_inv (l : List Int) (hb : IsBytes l) (h : (getR l).2.2 = 0) : l.take (getR l).2.1.toNat = bytesN (getR l).1 := by
  by_cases hn : l = []
  · subst hn; unfold getR at h; simp at h
  have hl : 1 ≤ l.length := by have := List.length_pos_iff.2 hn; omega
  have b0 := isBytes_getD hb 0
  rcases spanN_cases (l.getD 0 0) with ⟨h1, h2⟩ | ⟨h1, h2⟩ | ⟨h1, h2⟩ | ⟨h1, h2, h3, h4⟩
  · by_cases hs : l.length < 3
    · rw [getR_short hn (s := 3) (by rw [h2]; rfl) (by omega) hs] at h; cases h
    · have e := getR_long hn (s := 3) (by rw [h2]; rfl) (by omega) (by omega)
      rw [e] at h ⊢
      by_cases hc : 4611686018427387904 < rdAt l 3 1 ∨ sizeN (rdAt l 3 1) ≠ ((3 : Nat) : Int)
      · rw [if_pos hc] at h; cases h
      · rw [if_neg hc]
        have hz : sizeN (rdAt l 3 1) = 3 := by
          have := not_or.1 hc; exact Decidable.not_not.1 this.2
        obtain ⟨g1, g2⟩ := sizeN_is3 hz
        have e1 : rdAt l 3 1 = l.getD 1 0 + 256 * rdAt l 3 2 := rdAt_step (by omega) (by omega)
        have e2 : rdAt l 3 2 = l.getD 2 0 + 256 * rdAt l 3 3 := rdAt_step (by omega) (by omega)
        have e3 : rdAt l 3 3 = 0 := rdAt_end (by omega)
        have b1 := isBytes_getD hb 1
        have b2 := isBytes_getD hb 2
        show l.take 3 = bytesN (rdAt l 3 1)
        rw [bytesN_3 g1 g2, take_getD l 3 (by omega)]
        show [l.getD 0 0, l.getD 1 0, l.getD 2 0] = _
        simp only [List.cons.injEq, and_true]
        omega
  · by_cases hs : l.length < 5
    · rw [getR_short hn (s := 5) (by rw [h2]; rfl) (by omega) hs] at h; cases h
    · have e := getR_long hn (s := 5) (by rw [h2]; rfl) (by omega) (by omega)
      rw [e] at h ⊢
      by_cases hc : 4611686018427387904 < rdAt l 5 1 ∨ sizeN (rdAt l 5 1) ≠ ((5 : Nat) : Int)
      · rw [if_pos hc] at h; cases h
      · rw [if_neg hc]
        have hz : sizeN (rdAt l 5 1) = 5 := by
          have := not_or.1 hc; exact Decidable.not_not.1 this.2
        obtain ⟨g1, g2⟩ := sizeN_is5 hz
        have e1 : rdAt l 5 1 = l.getD 1 0 + 256 * rdAt l 5 2 := rdAt_step (by omega) (by omega)
        have e2 : rdAt l 5 2 = l.getD 2 0 + 256 * rdAt l 5 3 := rdAt_step (by omega) (by omega)
        have e3 : rdAt l 5 3 = l.getD 3 0 + 256 * rdAt l 5 4 := rdAt_step (by omega) (by omega)
        have e4 : rdAt l 5 4 = l.getD 4 0 + 256 * rdAt l 5 5 := rdAt_step (by omega) (by omega)
        have e5 : rdAt l 5 5 = 0 := rdAt_end (by omega)
        have b1 := isBytes_getD hb 1
        have b2 := isBytes_getD hb 2
        have b3 := isBytes_getD hb 3
        have b4 := isBytes_getD hb 4
        show l.take 5 = bytesN (rdAt l 5 1)
        rw [bytesN_5 g1 g2, take_getD l 5 (by omega)]
        show [l.getD 0 0, l.getD 1 0, l.getD 2 0, l.getD 3 0, l.getD 4 0] = _
        simp only [List.cons.injEq, and_true]
        omega
  · by_cases hs : l.length < 9
    · rw [getR_short hn (s := 9) (by rw [h2]; rfl) (by omega) hs] at h; cases h
    · have e := getR_long hn (s := 9) (by rw [h2]; rfl) (by omega) (by omega)
      rw [e] at h ⊢
      by_cases hc : 4611686018427387904 < rdAt l 9 1 ∨ sizeN (rdAt l 9 1) ≠ ((9 : Nat) : Int)
      · rw [if_pos hc] at h; cases h
      · rw [if_neg hc]
        have hz : sizeN (rdAt l 9 1) = 9 := by
          have := not_or.1 hc; exact Decidable.not_not.1 this.2
        obtain ⟨g1, g2⟩ := sizeN_is9 hz
        have e1 : rdAt l 9 1 = l.getD 1 0 + 256 * rdAt l 9 2 := rdAt_step (by omega) (by omega)
        have e2 : rdAt l 9 2 = l.getD 2 0 + 256 * rdAt l 9 3 := rdAt_step (by omega) (by omega)
        have e3 : rdAt l 9 3 = l.getD 3 0 + 256 * rdAt l 9 4 := rdAt_step (by omega) (by omega)
        have e4 : rdAt l 9 4 = l.getD 4 0 + 256 * rdAt l 9 5 := rdAt_step (by omega) (by omega)
        have e5 : rdAt l 9 5 = l.getD 5 0 + 256 * rdAt l 9 6 := rdAt_step (by omega) (by omega)
        have e6 : rdAt l 9 6 = l.getD 6 0 + 256 * rdAt l 9 7 := rdAt_step (by omega) (by omega)
        have e7 : rdAt l 9 7 = l.getD 7 0 + 256 * rdAt l 9 8 := rdAt_step (by omega) (by omega)
        have e8 : rdAt l 9 8 = l.getD 8 0 + 256 * rdAt l 9 9 := rdAt_step (by omega) (by omega)
        have e9 : rdAt l 9 9 = 0 := rdAt_end (by omega)
        have b1 := isBytes_getD hb 1
        have b2 := isBytes_getD hb 2
        have b3 := isBytes_getD hb 3
        have b4 := isBytes_getD hb 4
        have b5 := isBytes_getD hb 5
        have b6 := isBytes_getD hb 6
        have b7 := isBytes_getD hb 7
        have b8 := isBytes_getD hb 8
        show l.take 9 = bytesN (rdAt l 9 1)
        rw [bytesN_9 g1 g2, take_getD l 9 (by omega)]
        show [l.getD 0 0, l.getD 1 0, l.getD 2 0, l.getD 3 0, l.getD 4 0, l.getD 5 0, l.getD 6 0, l.getD 7 0, l.getD 8 0] = _
        simp only [List.cons.injEq, and_true]
        omega
  · rw [getR_one hn h4] at h ⊢
    show l.take 1 = bytesN (l.getD 0 0)
    rw [bytesN_1 b0.1 (by omega), take_getD l 1 (by omega)]
    rfl
theorem toB_Y (x : List (BitVec 8)) : toB (x.map Y) = x := by
  unfold toB
  rw [List.map_map]
  conv => rhs; rw [← List.map_id x]
  refine List.map_congr_left fun b _ => ?_
  show BitVec.ofInt 8 (Y b) = b
  unfold Y
  apply BitVec.eq_of_toNat_eq
  rw [BitVec.toNat_ofInt]
  have := b.isLt
  omega
/-- What was read was written so. -/
def Inv {α : Type} (f : RS → α × RS) (wr : α → List (BitVec 8)) : Prop := ∀ x b v r, f (x, b) = (v, (r, false)) → x = wr v ++ r
theorem rN_inv : Inv rN numB := fun x b v r h => by
  unfold rN at h
  simp only at h
  by_cases h0 : (getR (x.map Y)).2.2 = 0
  · rw [if_pos h0] at h
    injection h with h1 h2
    injection h2 with h2 _
    have e := getR_inv (x.map Y) (bytes_Y x) h0
    rw [h1, ← List.map_take] at e
    have e2 : x.take (getR (x.map Y)).2.1.toNat = numB v := by
      have := congrArg toB e
      rwa [toB_Y] at this
    rw [← e2, ← h2, List.take_append_drop]
  · rw [if_neg h0] at h
    injection h with _ h2
    injection h2 with _ h3
    cases h3
theorem rC_inv (m : Int) : Inv (rC · m) numB := fun x b v r h => by
  simp only [rC] at h
  by_cases h0 : (rN (x, b)).1 ≤ m
  · rw [if_pos h0] at h; exact rN_inv x b v r h
  · rw [if_neg h0] at h
    injection h with _ h2
    injection h2 with _ h3
    cases h3
theorem rH_inv : Inv rH (fun h => h) := fun x b v r h => by
  unfold rH rT at h
  simp only at h
  by_cases h0 : 32 ≤ x.length
  · rw [if_pos h0, if_pos (by omega)] at h
    injection h with h1 h2
    injection h2 with h2 _
    show x = v ++ r
    rw [← h1, ← h2]
    exact (List.take_append_drop 32 x).symm
  · rw [if_neg h0, if_neg (by omega)] at h
    injection h with _ h2
    injection h2 with _ h3
    cases h3
theorem Inv.step {α β : Type} {f : RS → α × RS} {g : RS → β × RS} {wf : α → List (BitVec 8)} {wg : β → List (BitVec 8)} (hf : Inv f wf) (hg : Inv g wg) (eg : Ext g) {s : RS} {v : α} {t : RS} (h1 : f s = (v, t)) {u : β} {r : List (BitVec 8)} (h2 : g t = (u, (r, false))) : s.1 = wf v ++ (wg u ++ r) := by
  obtain ⟨x, b⟩ := s
  obtain ⟨y, c⟩ := t
  have hc := (eg y c [] _ _ h2).1
  subst hc
  have e1 := hf x b v y h1
  have e2 := hg y false u r h2
  show x = _
  rw [e1, e2]
theorem rP_inv : Inv rP ptB := fun x b v r h => by
  have h1 : rH (x, b) = ((rH (x, b)).1, (rH (x, b)).2) := rfl
  have h2 : rN (rH (x, b)).2 = (v.n, (r, false)) := by
    have a1 := congrArg (fun q => q.1.n) h
    have a2 := congrArg Prod.snd h
    exact Prod.ext a1 a2
  have e := rH_inv.step rN_inv rN_ext h1 h2
  have e3 : (rH (x, b)).1 = v.tx := congrArg (fun q => q.1.tx) h
  unfold ptB
  rw [List.append_assoc, ← e3]
  exact e
theorem rMany_inv {α : Type} {f : RS → α × RS} {wf : α → List (BitVec 8)} (hf : Inv f wf) (ef : Ext f) (k : Nat) : Inv (rMany f k) (fun l => l.flatMap wf) := by
  induction k with
  | zero =>
    intro x b v r h
    injection h with h1 h2
    injection h2 with h2 _
    show x = v.flatMap wf ++ r
    rw [← h1, ← h2]; rfl
  | succ k ih =>
    intro x b v r h
    have a1 : (rMany f k (x, b)).1 ++ [(f (rMany f k (x, b)).2).1] = v := congrArg Prod.fst h
    have a2 : (f (rMany f k (x, b)).2).2 = (r, false) := congrArg Prod.snd h
    have h1 : rMany f k (x, b) = ((rMany f k (x, b)).1, (rMany f k (x, b)).2) := rfl
    have h2 : f (rMany f k (x, b)).2 = ((f (rMany f k (x, b)).2).1, (r, false)) := Prod.ext rfl a2
    have e := ih.step hf ef h1 h2
    show x = v.flatMap wf ++ r
    rw [← a1, List.flatMap_append, List.append_assoc]
    simpa using e
theorem rS_of {s : RS} {Z : List Int} {s1 : RS} (hM : rMany rN 6 s = (Z, s1)) : rS s = (⟨Z.getD 0 0, Z.getD 1 0, Z.getD 2 0, Z.getD 3 0, Z.getD 4 0, Z.getD 5 0, (rH s1).1, rH_length s1⟩, (rH s1).2) := by
  have e1 : Z = (rMany rN 6 s).1 := by rw [hM]
  have e2 : s1 = (rMany rN 6 s).2 := by rw [hM]
  subst e1; subst e2
  rfl
theorem rS_inv : Inv rS scrB := fun x b v r h => by
  obtain ⟨Z, s1, hM⟩ : ∃ Z s1, rMany rN 6 (x, b) = (Z, s1) := ⟨_, _, rfl⟩
  have hZ : Z.length = 6 := by have := rMany_length rN 6 (x, b); rw [hM] at this; exact this
  rw [rS_of hM] at h
  have hl := rH_length s1
  obtain ⟨hh, t, eH⟩ : ∃ hh t, rH s1 = (hh, t) := ⟨_, _, rfl⟩
  injection h with h1 h2
  rw [eH] at h2
  have e := (rMany_inv rN_inv rN_ext 6).step rH_inv rH_ext hM (show rH s1 = (hh, (r, false)) by rw [eH]; simp only at h2; rw [h2])
  obtain ⟨z0, z1, z2, z3, z4, z5, rfl⟩ := six_of hZ
  have g0 : hh = v.hash := by rw [← h1]; simp only; rw [eH]
  have k0 : z0 = v.kind := by rw [← h1]; rfl
  have k1 : z1 = v.key := by rw [← h1]; rfl
  have k2 : z2 = v.other := by rw [← h1]; rfl
  have k3 : z3 = v.rev := by rw [← h1]; rfl
  have k4 : z4 = v.delay := by rw [← h1]; rfl
  have k5 : z5 = v.expiry := by rw [← h1]; rfl
  rw [g0, k0, k1, k2, k3, k4, k5] at e
  unfold scrB nums
  rw [List.append_assoc]
  exact e
theorem rX_inv : Inv rX (fun s => numB s.size ++ strB s) := fun x b v r h => by
  obtain ⟨n, y, c, e1⟩ : ∃ n y c, rN (x, b) = (n, (y, c)) := ⟨_, _, _, rfl⟩
  have h0 : 0 ≤ n := by have := (rN_range (x, b)).1; rw [e1] at this; exact this
  have ev : ofB (rT (y, c) n).1 = v := by have := congrArg Prod.fst h; unfold rX at this; rw [e1] at this; exact this
  have er : (rT (y, c) n).2 = (r, false) := by have := congrArg Prod.snd h; unfold rX at this; rw [e1] at this; exact this
  have hc : c = false := (rT_ext n h0).flag (s := (y, c)) (by rw [er])
  subst hc
  have e2 := rN_inv x b n y e1
  unfold rT at ev er
  simp only at ev er
  by_cases hn : n ≤ (y.length : Int)
  · rw [if_pos hn] at ev er
    injection er with er _
    have es : strB v = y.take n.toNat := by rw [← ev, strB_ofB]
    have el : (v.size : Int) = n := by
      have := strB_length v
      rw [es, List.length_take] at this
      omega
    show x = numB v.size ++ strB v ++ r
    rw [el, es, ← er, List.append_assoc, List.take_append_drop]; exact e2
  · rw [if_neg hn] at er
    injection er with _ er
    cases er
theorem rIn_inv : Inv rIn inB := fun x b v r h => by
  have h1 : rP (x, b) = ((rP (x, b)).1, (rP (x, b)).2) := rfl
  have h2 : rN (rP (x, b)).2 = (v.seq, (r, false)) := by
    have a1 := congrArg (fun q => q.1.seq) h
    have a2 := congrArg Prod.snd h
    exact Prod.ext a1 a2
  have e := rP_inv.step rN_inv rN_ext h1 h2
  have e3 : (rP (x, b)).1 = v.prev := congrArg (fun q => q.1.prev) h
  unfold inB
  rw [List.append_assoc, ← e3]
  exact e
theorem rOut_inv : Inv rOut outB := fun x b v r h => by
  obtain ⟨n, s1, e1⟩ : ∃ n s1, rN (x, b) = (n, s1) := ⟨_, _, rfl⟩
  unfold rOut at h
  rw [e1] at h
  simp only at h
  obtain ⟨c, t, e2⟩ : ∃ c t, rS s1 = (c, t) := ⟨_, _, rfl⟩
  rw [e2] at h
  injection h with h1 h2
  simp only at h1 h2
  subst h2
  have e := rN_inv.step rS_inv rS_ext e1 e2
  subst h1
  unfold outB
  rw [List.append_assoc]
  exact e
def witDB (v : WitD) : List (BitVec 8) := numB v.kind ++ (numB v.key ++ (numB v.pre.size ++ strB v.pre))
theorem rWit_inv : Inv rWit witDB := fun x b v r h => by
  obtain ⟨n, s1, e1⟩ : ∃ n s1, rN (x, b) = (n, s1) := ⟨_, _, rfl⟩
  obtain ⟨m, s2, e2⟩ : ∃ m s2, rN s1 = (m, s2) := ⟨_, _, rfl⟩
  have hv : v = ⟨n, m, (rX s2).1⟩ := by rw [← show (rWit (x, b)).1 = v from congrArg Prod.fst h]; unfold rWit; rw [e1]; simp only; rw [e2]
  have hr : (rX s2).2 = (r, false) := by rw [← show (rWit (x, b)).2 = (r, false) from congrArg Prod.snd h]; unfold rWit; rw [e1]; simp only; rw [e2]
  have e3 : rX s2 = ((rX s2).1, (r, false)) := Prod.ext rfl hr
  have e4 := rN_inv.step rX_inv rX_ext e2 e3
  have f2 : s2.2 = false := rX_ext.flag (by rw [hr])
  have f1 : s1.2 = false := rN_ext.flag (by rw [e2]; exact f2)
  have e5 : x = numB n ++ s1.1 := rN_inv x b n s1.1 (by rw [e1, ← f1])
  rw [e5, e4, hv]
  unfold witDB
  simp only [List.append_assoc]
theorem zip_wit (I : List In) (W : List WitD) (h : I.length = W.length) : (List.zipWith putW I W).flatMap witB = W.flatMap witDB := by
  induction I generalizing W with
  | nil => cases W with
    | nil => rfl
    | cons _ _ => simp at h
  | cons x I ih => cases W with
    | nil => simp at h
    | cons v W =>
      rw [List.zipWith_cons_cons, List.flatMap_cons, List.flatMap_cons, ih W (by simpa using h)]
      congr 1
      unfold witB witDB putW nums
      simp [List.append_assoc]
theorem zip_in (I : List In) (W : List WitD) (h : I.length = W.length) : (List.zipWith putW I W).flatMap inB = I.flatMap inB := by
  induction I generalizing W with
  | nil => cases W <;> rfl
  | cons x I ih => cases W with
    | nil => simp at h
    | cons v W =>
      rw [List.zipWith_cons_cons, List.flatMap_cons, List.flatMap_cons, ih W (by simpa using h)]; rfl
end Go.Proofs.YteikbpkjikacmaaGreatDoor
