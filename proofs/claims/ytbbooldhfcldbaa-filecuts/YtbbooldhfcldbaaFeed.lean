/- What is left of bytes behind their whole blocks, and how a sum goes on piece by piece. No program, no conditions. -/
import Derived.Test.YtbbooldhfcldbaaSpec
namespace Go.Proofs.Ytbbooldhfcldbaa

/-- What is left behind the whole blocks. -/
def restOf (l : List (BitVec 8)) : List (BitVec 8) := if 64 ≤ l.length then restOf (l.drop 64) else l
  termination_by l.length
  decreasing_by simp only [List.length_drop]; omega
theorem restOf_short (l : List (BitVec 8)) (h : l.length < 64) : restOf l = l := by rw [restOf, if_neg (by omega)]
theorem restOf_long (l : List (BitVec 8)) (h : 64 ≤ l.length) : restOf l = restOf (l.drop 64) := by
  rw [restOf, if_pos h]

theorem feed (n : Nat) : ∀ (l : List (BitVec 8)), l.length ≤ n → ∀ (s : St) (r : List (BitVec 8)),
    mixAll s (l ++ r) = mixAll (mixAll s l) (restOf l ++ r) ∧ restOf (l ++ r) = restOf (restOf l ++ r) := by
  induction n with
  | zero =>
    intro l hl s r
    rw [restOf_short l (by omega), mixAll_short s l (by omega)]; exact ⟨rfl, rfl⟩
  | succ n ih =>
    intro l hl s r
    by_cases h : 64 ≤ l.length
    · have h1 : (l ++ r).take 64 = l.take 64 := List.take_append_of_le_length h
      have h2 : (l ++ r).drop 64 = l.drop 64 ++ r := List.drop_append_of_le_length h
      have hh := ih (l.drop 64) (by rw [List.length_drop]; omega) (mix s (l.take 64)) r
      rw [mixAll_long s (l ++ r) (by rw [List.length_append]; omega), mixAll_long s l h, restOf_long l h, restOf_long (l ++ r) (by rw [List.length_append]; omega), h1, h2]
      exact hh
    · rw [restOf_short l (by omega), mixAll_short s l (by omega)]; exact ⟨rfl, rfl⟩
theorem mixAll_app (s : St) (l r : List (BitVec 8)) : mixAll s (l ++ r) = mixAll (mixAll s l) (restOf l ++ r) := (feed l.length l (Nat.le_refl _) s r).1
theorem restOf_app (l r : List (BitVec 8)) : restOf (l ++ r) = restOf (restOf l ++ r) := (feed l.length l (Nat.le_refl _) start r).2
theorem restOf_lt (n : Nat) : ∀ l : List (BitVec 8), l.length ≤ n → (restOf l).length < 64 := by
  induction n with
  | zero => intro l hl; rw [restOf_short l (by omega)]; omega
  | succ n ih =>
    intro l hl
    by_cases h : 64 ≤ l.length
    · rw [restOf_long l h]; exact ih _ (by rw [List.length_drop]; omega)
    · rw [restOf_short l (by omega)]; omega
theorem restOf_length_lt (l : List (BitVec 8)) : (restOf l).length < 64 := restOf_lt l.length l (Nat.le_refl _)
theorem restOf_mod (n : Nat) : ∀ l : List (BitVec 8), l.length ≤ n → (restOf l).length = l.length % 64 := by
  induction n with
  | zero => intro l hl; rw [restOf_short l (by omega)]; omega
  | succ n ih =>
    intro l hl
    by_cases h : 64 ≤ l.length
    · rw [restOf_long l h, ih _ (by rw [List.length_drop]; omega), List.length_drop]; omega
    · rw [restOf_short l (by omega)]; omega
theorem restOf_length (l : List (BitVec 8)) : (restOf l).length = l.length % 64 := restOf_mod l.length l (Nat.le_refl _)
/-- A piece that does not fill the block. -/
theorem feed_less (s : St) (q x : List (BitVec 8)) (h : q.length + x.length < 64) : mixAll s (q ++ x) = s ∧ restOf (q ++ x) = q ++ x :=
  ⟨mixAll_short s _ (by rw [List.length_append]; exact h), restOf_short _ (by rw [List.length_append]; exact h)⟩
/-- A piece that fills it. -/
theorem feed_full (s : St) (q x : List (BitVec 8)) (h : q.length + x.length = 64) : mixAll s (q ++ x) = mix s (q ++ x) ∧ restOf (q ++ x) = [] := by
  have hl : (q ++ x).length = 64 := by rw [List.length_append]; exact h
  constructor
  · have := mixAll_block s (q ++ x) [] hl
    rw [List.append_nil] at this
    rw [this, mixAll_short _ _ (by simp)]
  · rw [restOf_long _ (by omega), restOf_short _ (by rw [List.length_drop]; omega), List.drop_of_length_le (by omega)]
end Go.Proofs.Ytbbooldhfcldbaa
