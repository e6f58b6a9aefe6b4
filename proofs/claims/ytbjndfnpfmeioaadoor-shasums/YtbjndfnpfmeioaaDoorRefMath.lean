/- The document's own schedule, which goes round in sixteen words, is the standard's. No program, no conditions. -/
import Derived.Test.YtbjndfnpfmeioaaDoorSpec
import Derived.Test.YtbjndfnpfmeioaaDoorKit
namespace Go.Proofs.YtbjndfnpfmeioaaDoor

/-- The ring ahead of step t. -/
structure Ring (p : List (BitVec 8)) (r : List (BitVec 32)) (t : Nat) : Prop where
  len : r.length = 16
  has : ∀ i, i < t → t ≤ i + 16 → r.getD (i % 16) 0 = W p i
  none : ∀ j, t ≤ j → j < 16 → r.getD j 0 = 0

theorem getD_set_self (l : List (BitVec 32)) (i : Nat) (x : BitVec 32) (h : i < l.length) : (l.set i x).getD i 0 = x := by
  rw [List.getD_eq_getElem?_getD, List.getElem?_set_self h]; rfl
theorem getD_set_other (l : List (BitVec 32)) (i j : Nat) (x : BitVec 32) (h : i ≠ j) : (l.set i x).getD j 0 = l.getD j 0 := by
  rw [List.getD_eq_getElem?_getD, List.getElem?_set_ne h, ← List.getD_eq_getElem?_getD]
theorem Ring.start (p : List (BitVec 8)) : Ring p (List.replicate 16 0) 0 :=
  ⟨by simp, fun i hi => by omega, fun j _ hj => by rw [List.getD_eq_getElem?_getD, List.getElem?_replicate, if_pos hj]; rfl⟩
/-- A word more. -/
theorem Ring.next {p : List (BitVec 8)} {r : List (BitVec 32)} {t : Nat} (h : Ring p r t) : Ring p (r.set (t % 16) (W p t)) (t + 1) := by
  refine ⟨by rw [List.length_set]; exact h.len, fun i hi hi2 => ?_, fun j hj hj2 => ?_⟩
  · by_cases e : i = t
    · subst e; exact getD_set_self _ _ _ (by rw [h.len]; omega)
    · rw [getD_set_other _ _ _ _ (by omega)]; exact h.has i (by omega) (by omega)
  · rw [getD_set_other _ _ _ _ (by omega)]; exact h.none j (by omega) hj2
theorem rev4 (a b c d : BitVec 32) : ((a + b) + c) + d = ((d + c) + b) + a := by
  rw [BitVec.add_comm _ d, BitVec.add_comm (a + b) c, BitVec.add_comm a b, BitVec.add_assoc d c b, BitVec.add_assoc d (c + b) a, BitVec.add_assoc c b a]
/-- From the sixteenth step on. -/
theorem Ring.drawn {p : List (BitVec 8)} {r : List (BitVec 32)} {t : Nat} (h : Ring p r t) (h1 : 16 ≤ t) (h2 : t < 64) :
    ((r.getD (t % 16) 0 + s0 (r.getD ((t + 1) % 16) 0)) + r.getD ((t + 9) % 16) 0) + s1 (r.getD ((t + 14) % 16) 0) = W p t := by
  have e0 := h.has (t - 16) (by omega) (by omega)
  have e1 := h.has (t - 15) (by omega) (by omega)
  have e7 := h.has (t - 7) (by omega) (by omega)
  have e2 := h.has (t - 2) (by omega) (by omega)
  rw [show (t - 16) % 16 = t % 16 by omega] at e0
  rw [show (t - 15) % 16 = (t + 1) % 16 by omega] at e1
  rw [show (t - 7) % 16 = (t + 9) % 16 by omega] at e7
  rw [show (t - 2) % 16 = (t + 14) % 16 by omega] at e2
  rw [e0, e1, e7, e2]
  have := W_next p (t - 16) (by omega)
  rw [show t - 16 + 16 = t by omega, show t - 16 + 14 = t - 2 by omega, show t - 16 + 9 = t - 7 by omega, show t - 16 + 1 = t - 15 by omega] at this
  rw [this]; exact rev4 _ _ _ _

/-- So many bytes of word t. -/
def part (p : List (BitVec 8)) (t : Nat) : Nat → BitVec 32
  | 0 => 0
  | k + 1 => part p t k <<< 8 ||| (p.getD (4 * t + k) 0).setWidth 32
theorem part_4 (p : List (BitVec 8)) (t : Nat) : part p t 4 = wordAt p t := by
  unfold wordAt word
  simp only [part, Nat.add_zero]
  generalize p.getD (4 * t) 0 = a; generalize p.getD (4 * t + 1) 0 = b; generalize p.getD (4 * t + 2) 0 = c; generalize p.getD (4 * t + 3) 0 = d
  ext i hi
  simp only [BitVec.getElem_or, BitVec.getElem_shiftLeft, BitVec.getElem_setWidth]
  by_cases h1 : i < 8
  · simp [h1, show i < 16 by omega, show i < 24 by omega]
  · by_cases h2 : i < 16
    · simp [h1, h2, show i < 24 by omega, show i - 8 < 8 by omega]
    · by_cases h3 : i < 24
      · have h4 : ¬ i - 8 < 8 := by omega
        simp [h1, h2, h3, h4]
        have := d.getLsbD_of_ge i (by omega); have h5 := c.getLsbD_of_ge (i - 8) (by omega)
        simp [this, h5, show i - 8 - 8 = i - 16 by omega, show i - 16 < 8 by omega]
      · have h4 : ¬ i - 8 < 8 := by omega
        have h5 : ¬ i - 16 < 8 := by omega
        simp [h1, h2, h3, h4]
        have := d.getLsbD_of_ge i (by omega); have h6 := c.getLsbD_of_ge (i - 8) (by omega); have h7 := b.getLsbD_of_ge (i - 16) (by omega)
        simp [this, h6, h7, h5, show i - 8 - 8 = i - 16 by omega, show i - 16 - 8 = i - 24 by omega, show i - 24 < 8 by omega]
theorem part_U (x : BitVec 32) (b : BitVec 8) : bits .or .u32 (U x * (256 : Int) % (4294967296 : Int)) (Y b) = U (x <<< 8 ||| b.setWidth 32) := by
  have h1 : U x * (256 : Int) % (4294967296 : Int) = U (x <<< 8) := w32_shl x 8
  have h2 : Y b = U (b.setWidth 32) := w8_w32 b
  rw [h1, h2, U_or]

/-- The words moved by one place, from the last one down to place k. -/
def moved (s : St) (k : Nat) : List (BitVec 32) := (List.range 8).map fun j => if k < j then s.list.getD (j - 1) 0 else s.list.getD j 0
end Go.Proofs.YtbjndfnpfmeioaaDoor
