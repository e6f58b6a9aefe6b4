/- The document's own closing of a sum is the standard's. No program, no conditions. -/
import Derived.Test.YtbjndfnpfmeioaaDoorEndMath2
namespace Go.Proofs.YtbjndfnpfmeioaaDoor
/-- Behind k whole blocks. -/
theorem mixAll_blocks (s : St) (bs : List (BitVec 8)) (k : Nat) (h : 64 * k + 64 ≤ bs.length) : mixAll s (bs.take (64 * (k + 1))) = mix (mixAll s (bs.take (64 * k))) ((bs.drop (64 * k)).take 64) := by
  rw [show 64 * (k + 1) = 64 * k + 64 by omega, List.take_add, mixAll_app]
  have e : restOf (bs.take (64 * k)) = [] := by
    apply List.length_eq_zero_iff.1
    rw [restOf_length, List.length_take]; omega
  rw [e]
  have := mixAll_block (mixAll s (bs.take (64 * k))) ((bs.drop (64 * k)).take 64) [] (by rw [List.length_take, List.length_drop]; omega)
  rw [List.append_nil] at this
  rw [List.nil_append, this, mixAll_short _ [] (by decide)]
/-- What is left behind all whole blocks. -/
theorem rest_of_blocks (bs : List (BitVec 8)) (k : Nat) (h1 : 64 * k ≤ bs.length) (h2 : bs.length < 64 * k + 64) : mixAll start (bs.take (64 * k)) = mixAll start bs ∧ restOf bs = bs.drop (64 * k) := by
  have e : restOf (bs.take (64 * k)) = [] := by
    apply List.length_eq_zero_iff.1
    rw [restOf_length, List.length_take]; omega
  constructor
  · conv => rhs; rw [← List.take_append_drop (64 * k) bs]
    rw [mixAll_app, e, List.nil_append, mixAll_short _ (bs.drop (64 * k)) (by rw [List.length_drop]; omega)]
  · conv => lhs; rw [← List.take_append_drop (64 * k) bs]
    rw [restOf_app, e, List.nil_append, restOf_short _ (by rw [List.length_drop]; omega)]
/-- How long the closing blocks are. -/
def lastLen (r : Nat) : Nat := if 55 < r then 128 else 64
theorem lastLen_eq (n r : Nat) (h : r = n % 64) : lastLen r = r + 1 + noughts n + 8 := by
  unfold lastLen noughts; split <;> omega
/-- The closing blocks, j bytes of the count written. -/
def lastAt (q : List (BitVec 8)) (n j : Nat) : List (BitVec 8) := (q ++ [128#8] ++ zerosN (noughts n)) ++ (List.replicate (8 - j) 0#8 ++ (counted n).drop (8 - j))
theorem lastAt_length (q : List (BitVec 8)) (n j : Nat) (hj : j ≤ 8) : (lastAt q n j).length = q.length + 1 + noughts n + 8 := by
  unfold lastAt; simp only [List.length_append, List.length_singleton, zerosN_length, List.length_replicate, List.length_drop, counted_length]; omega
theorem lastAt_0 (q : List (BitVec 8)) (n : Nat) (hq : q.length = n % 64) : (q ++ List.replicate (lastLen q.length - q.length) 0#8).set q.length 128#8 = lastAt q n 0 := by
  have h := lastLen_eq n q.length hq
  rw [List.set_append_right _ _ (Nat.le_refl _), Nat.sub_self, show lastLen q.length - q.length = (noughts n + 8) + 1 by omega, List.replicate_succ, List.set_cons_zero]
  unfold lastAt zerosN
  rw [List.drop_of_length_le (by rw [counted_length]; exact Nat.le_refl _), List.append_nil, List.append_assoc, List.append_assoc]
  have e : List.replicate (noughts n) (0 : BitVec 8) ++ List.replicate (8 - 0) 0#8 = List.replicate (noughts n + 8) 0#8 := List.replicate_append_replicate
  rw [e]; rfl
theorem lastAt_next (q : List (BitVec 8)) (n j : Nat) (hj : j < 8) : (lastAt q n j).set (q.length + 1 + noughts n + (7 - j)) ((counted n).getD (7 - j) 0) = lastAt q n (j + 1) := by
  unfold lastAt
  have hl : (q ++ [128#8] ++ zerosN (noughts n)).length = q.length + 1 + noughts n := by simp only [List.length_append, List.length_singleton, zerosN_length]
  rw [List.set_append_right _ _ (by rw [hl]; omega), hl, Nat.add_sub_cancel_left]
  congr 1
  rw [show 8 - j = (7 - j) + 1 by omega, List.replicate_succ', List.append_assoc, List.set_append_right _ _ (by simp), List.length_replicate, Nat.sub_self]
  rw [show 8 - (j + 1) = 7 - j by omega, List.drop_eq_getElem_cons (i := 7 - j) (by rw [counted_length]; omega)]
  rw [List.getD_eq_getElem?_getD, List.getElem?_eq_getElem (by rw [counted_length]; omega)]
  rfl
theorem counted_zero (n j : Nat) (hj : j ≤ 8) (h : 8 * n / 2 ^ (8 * j) = 0) : (counted n).take (8 - j) = List.replicate (8 - j) 0#8 := by
  apply List.ext_getElem
  · simp [counted_length]
  · intro i h1 h2
    have hi : i < 8 - j := by simpa using h2
    rw [List.getElem_take, List.getElem_replicate]
    unfold counted
    rw [List.getElem_map, List.getElem_range]
    have hz : 8 * n < 2 ^ (8 * j) := by
      rcases Nat.lt_or_ge (8 * n) (2 ^ (8 * j)) with h3 | h3
      · exact h3
      · have := Nat.div_pos h3 (Nat.pow_pos (by omega)); omega
    rw [Nat.div_eq_of_lt (Nat.lt_of_lt_of_le hz (Nat.pow_le_pow_right (by omega) (by omega)))]
theorem lastAt_end (q : List (BitVec 8)) (n j : Nat) (hj : j ≤ 8) (h : 8 * n / 2 ^ (8 * j) = 0) : lastAt q n j = q ++ padOf n := by
  unfold lastAt padOf
  rw [← counted_zero n j hj h, List.take_append_drop]
  simp [List.append_assoc]
theorem counted_at (n j : Nat) (hj : j < 8) : Y ((counted n).getD (7 - j) 0) = ((8 * n / 2 ^ (8 * j) % 256 : Nat) : Int) := by
  rw [counted_get n (7 - j) (by omega), show 7 - (7 - j) = j by omega]
theorem bits_next (n j : Nat) : 8 * n / 2 ^ (8 * j) / 256 = 8 * n / 2 ^ (8 * (j + 1)) := by
  rw [Nat.div_div_eq_div_mul, show 8 * (j + 1) = 8 * j + 8 by omega, Nat.pow_add]
theorem bits_over (n j : Nat) (hn : n < 144115188075855872) (h : 0 < 8 * n / 2 ^ (8 * j)) : j < 8 := by
  rcases Nat.lt_or_ge j 8 with h1 | h1
  · exact h1
  · exfalso
    have : 8 * n < 2 ^ (8 * j) := Nat.lt_of_lt_of_le (by omega : 8 * n < 2 ^ 64) (Nat.pow_le_pow_right (by omega) (by omega))
    rw [Nat.div_eq_of_lt this] at h; omega
end Go.Proofs.YtbjndfnpfmeioaaDoor
