/- Plain facts on rows of forms, one behind the other. No program is named here. -/
import Derived.Test.YtchfjbhhcdfobaaMath
namespace Go.Proofs.Ytchfjbhhcdfobaa

/-- The forms of the first k numbers, one behind the other. -/
def cat (Z : List Int) : Nat → List Int
  | 0 => []
  | k + 1 => cat Z k ++ bytesN (Z.getD k 0)

/-- The first k numbers have forms. -/
def Good (Z : List Int) (k : Nat) : Prop := ∀ i, i < k → 0 ≤ Z.getD i 0 ∧ Z.getD i 0 ≤ 4611686018427387904

theorem sizeN_le (n : Int) : 0 ≤ sizeN n ∧ sizeN n ≤ 9 := by
  rcases five n with h | ⟨h, h'⟩ | ⟨h, h'⟩ | ⟨h, h'⟩ | ⟨h, h'⟩
  · rw [sizeN_none h]; omega
  · rw [sizeN_1 h h']; omega
  · rw [sizeN_3 h h']; omega
  · rw [sizeN_5 h h']; omega
  · rw [sizeN_9 h h']; omega

theorem sizeN_pos {n : Int} (h0 : 0 ≤ n) (h1 : n ≤ 4611686018427387904) : 1 ≤ sizeN n := by
  rcases five n with h | ⟨h, h'⟩ | ⟨h, h'⟩ | ⟨h, h'⟩ | ⟨h, h'⟩
  · omega
  · rw [sizeN_1 h h']; omega
  · rw [sizeN_3 h h']; omega
  · rw [sizeN_5 h h']; omega
  · rw [sizeN_9 h h']; omega

theorem cat_length_le (Z : List Int) (k : Nat) : (cat Z k).length ≤ 9 * k := by
  induction k with
  | zero => simp [cat]
  | succ k ih =>
    have h1 := bytesN_length (Z.getD k 0)
    have h2 := (sizeN_le (Z.getD k 0)).2
    rw [cat, List.length_append]; omega

theorem isBytes_append {a b : List Int} (ha : IsBytes a) (hb : IsBytes b) : IsBytes (a ++ b) := fun x hx => by
  rcases List.mem_append.1 hx with h | h
  · exact ha x h
  · exact hb x h

theorem isBytes_cat (Z : List Int) (k : Nat) : IsBytes (cat Z k) := by
  induction k with
  | zero => intro x hx; simp [cat] at hx
  | succ k ih => exact isBytes_append ih (isBytes_N _)

theorem cat_parts (Z : List Int) (k m : Nat) (h : k < m) : ∃ t, cat Z m = cat Z k ++ (bytesN (Z.getD k 0) ++ t) := by
  induction m with
  | zero => omega
  | succ m ih =>
    by_cases hk : k = m
    · subst hk; exact ⟨[], by simp [cat]⟩
    · obtain ⟨t, ht⟩ := ih (by omega)
      exact ⟨t ++ bytesN (Z.getD m 0), by rw [cat, ht]; simp⟩

/-- From the k-th form on, the k-th number is read. -/
theorem getR_cat (Z : List Int) (k m : Nat) (r : List Int) (h : k < m) (hg : Good Z m) :
    getR ((cat Z m ++ r).drop (cat Z k).length) = (Z.getD k 0, sizeN (Z.getD k 0), 0) := by
  obtain ⟨t, ht⟩ := cat_parts Z k m h
  rw [ht, List.append_assoc, List.drop_left, List.append_assoc]
  exact getR_bytesN _ (hg k h).1 (hg k h).2 _

theorem spanN_first {n : Int} (h0 : 253 ≤ n) (h1 : n ≤ 4611686018427387904) : ∃ x t, bytesN n = x :: t ∧ spanN x = sizeN n ∧ sizeN n ≠ 1 := by
  rcases five n with h | ⟨h, h'⟩ | ⟨h, h'⟩ | ⟨h, h'⟩ | ⟨h, h'⟩
  · omega
  · omega
  · rw [bytesN_3 h h', sizeN_3 h h']; exact ⟨_, _, rfl, rfl, by omega⟩
  · rw [bytesN_5 h h', sizeN_5 h h']; exact ⟨_, _, rfl, rfl, by omega⟩
  · rw [bytesN_9 h h', sizeN_9 h h']; exact ⟨_, _, rfl, rfl, by omega⟩

/-- A form that is cut is none. -/
theorem getR_cut {n : Int} (h0 : 0 ≤ n) (h1 : n ≤ 4611686018427387904) {r : Nat} (hr : r < (bytesN n).length) : getR ((bytesN n).take r) = (0, 0, 2) := by
  rcases Nat.eq_zero_or_pos r with rfl | hp
  · rfl
  · have hl := bytesN_length n
    by_cases hs : n < 253
    · rw [sizeN_1 h0 hs] at hl; omega
    · obtain ⟨x, t, ht, hsp, _⟩ := spanN_first (show 253 ≤ n by omega) h1
      obtain ⟨q, rfl⟩ : ∃ q, r = q + 1 := ⟨r - 1, by omega⟩
      rw [ht] at hl hr ⊢
      rw [List.take_succ_cons]
      refine getR_short (s := (x :: t).length) (by simp) ?_ (by simp only [List.length_cons] at hr ⊢; omega) (by simp only [List.length_cons, List.length_take] at hr ⊢; omega)
      show spanN x = _
      rw [hsp, hl]

/-- The last form, cut. -/
theorem getR_last {Z : List Int} {m r : Nat} (hm : 1 ≤ m) (hg : Good Z m) (hr : r < (cat Z m).length - (cat Z (m - 1)).length) :
    getR (((cat Z m).drop (cat Z (m - 1)).length).take r) = (0, 0, 2) := by
  obtain ⟨q, rfl⟩ : ∃ q, m = q + 1 := ⟨m - 1, by omega⟩
  rw [show q + 1 - 1 = q by omega] at hr ⊢
  rw [cat, List.length_append] at hr
  rw [cat, List.drop_left]
  exact getR_cut (hg q (by omega)).1 (hg q (by omega)).2 (by omega)
end Go.Proofs.Ytchfjbhhcdfobaa
