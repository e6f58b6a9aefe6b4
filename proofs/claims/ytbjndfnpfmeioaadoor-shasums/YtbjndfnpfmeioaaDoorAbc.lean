/- The first bytes of the standard's sum of abc. No program, no conditions. -/
import Derived.Test.YtbjndfnpfmeioaaDoorLanes3
namespace Go.Proofs.YtbjndfnpfmeioaaDoor
def abc : List (BitVec 8) := [97#8, 98#8, 99#8]
theorem small_good (x : Nat) (h : x < 4294967296) : Good x := fun j hj => by
  cases Nat.lt_or_ge j 32 with
  | inl h1 => omega
  | inr h1 =>
    rw [Nat.testBit_lt_two_pow (Nat.lt_of_lt_of_le h (Nat.pow_le_pow_right (by omega) h1 : 2 ^ 32 ≤ 2 ^ j))] at hj
    exact absurd hj (by decide)
theorem lane_0 (x : Nat) : lane x 0 = BitVec.ofNat 32 x := by unfold lane; simp
theorem closed_abc : closed abc = [97#8, 98#8, 99#8, 128#8] ++ List.replicate 59 0#8 ++ [24#8] := by kernel_rfl
theorem abc_words : WOK (closed abc) 0 0 [1633837952, 0, 0, 0, 0, 0, 0, 0, 0, 0, 0, 0, 0, 0, 0, 24] := by
  constructor
  · intro j hj
    obtain (rfl | rfl | rfl | rfl | rfl | rfl | rfl | rfl | rfl | rfl | rfl | rfl | rfl | rfl | rfl | rfl) : j = 0 ∨ j = 1 ∨ j = 2 ∨ j = 3 ∨ j = 4 ∨ j = 5 ∨ j = 6 ∨ j = 7 ∨ j = 8 ∨ j = 9 ∨ j = 10 ∨ j = 11 ∨ j = 12 ∨ j = 13 ∨ j = 14 ∨ j = 15 := by omega
    all_goals exact small_good _ (by decide)
  · intro j hj _
    rw [Nat.zero_add, W_first _ j hj, lane_0, closed_abc]
    obtain (rfl | rfl | rfl | rfl | rfl | rfl | rfl | rfl | rfl | rfl | rfl | rfl | rfl | rfl | rfl | rfl) : j = 0 ∨ j = 1 ∨ j = 2 ∨ j = 3 ∨ j = 4 ∨ j = 5 ∨ j = 6 ∨ j = 7 ∨ j = 8 ∨ j = 9 ∨ j = 10 ∨ j = 11 ∨ j = 12 ∨ j = 13 ∨ j = 14 ∨ j = 15 := by omega
    all_goals rfl
theorem abc_reckoned : Nat.mod (V8.a (mixV startV 1633837952 0 0 0 0 0 0 0 0 0 0 0 0 0 0 24)) 4294967296 = 3128432319 := by kernel_rfl
theorem of_mod (z : Nat) (h : Nat.mod z 4294967296 = 3128432319) : BitVec.ofNat 32 z = 3128432319#32 := by
  apply BitVec.eq_of_toNat_eq
  rw [BitVec.toNat_ofNat]
  exact h
theorem abc_first : (mixAll start (closed abc)).a = 3128432319#32 := by
  obtain ⟨h1, h2⟩ := startV_ok 0 (by omega)
  obtain ⟨_, h4⟩ := mixV_ok (closed abc) startV 0 (by omega) 1633837952 0 0 0 0 0 0 0 0 0 0 0 0 0 0 24 h1 abc_words
  rw [h2] at h4
  have h5 := mixAll_block start (closed abc) [] (by rw [closed_abc]; rfl)
  rw [List.append_nil, mixAll_short _ [] (by decide)] at h5
  rw [h5, ← h4]
  show lane _ 0 = _
  rw [lane_0]
  exact of_mod _ abc_reckoned
theorem sum_abc : (sum abc).getD 0 0 = 186#8 ∧ (sum abc).getD 1 0 = 120#8 ∧ (sum abc).getD 2 0 = 22#8 ∧ (sum abc).getD 3 0 = 191#8 := by
  unfold sum
  have e : (mixAll start (closed abc)).list.getD 0 0 = 3128432319#32 := abc_first
  refine ⟨?_, ?_, ?_, ?_⟩
  all_goals
    rw [bytes_get _ _ (by omega)]
    simp only [Nat.reduceDiv]
    rw [e]
    rfl
end Go.Proofs.YtbjndfnpfmeioaaDoor
