/- The double sum of the law's own header is not nought. No program, no conditions. -/
import Derived.Test.YtlaifphedhaemaaGreatDoorZS2
import Derived.Test.YtlaifphedhaemaaGreatDoorZX3
namespace Go.Proofs.YtlaifphedhaemaaGreatDoor
/-- What a header of nothing but Work 1 is. -/
def kb_B0 : List (BitVec 8) := [0#8, 0#8, 0#8, 0#8, 0#8, 0#8, 0#8, 0#8, 0#8, 0#8, 0#8, 0#8, 0#8, 0#8, 0#8, 0#8, 0#8, 0#8, 0#8, 0#8, 0#8, 0#8, 0#8, 0#8, 0#8, 0#8, 0#8, 0#8, 0#8, 0#8, 0#8, 0#8, 0#8, 0#8, 0#8, 0#8, 0#8, 0#8, 0#8, 0#8, 0#8, 0#8, 0#8, 0#8, 0#8, 0#8, 0#8, 0#8, 0#8, 0#8, 0#8, 0#8, 0#8, 0#8, 0#8, 0#8, 0#8, 0#8, 0#8, 0#8, 0#8, 0#8, 0#8, 0#8, 1#8, 0#8]
def kb_P1 : List (BitVec 8) := [0#8, 0#8, 0#8, 0#8, 0#8, 0#8, 0#8, 0#8, 0#8, 0#8, 0#8, 0#8, 0#8, 0#8, 0#8, 0#8, 0#8, 0#8, 0#8, 0#8, 0#8, 0#8, 0#8, 0#8, 0#8, 0#8, 0#8, 0#8, 0#8, 0#8, 0#8, 0#8, 0#8, 0#8, 0#8, 0#8, 0#8, 0#8, 0#8, 0#8, 0#8, 0#8, 0#8, 0#8, 0#8, 0#8, 0#8, 0#8, 0#8, 0#8, 0#8, 0#8, 0#8, 0#8, 0#8, 0#8, 0#8, 0#8, 0#8, 0#8, 0#8, 0#8, 0#8, 0#8]
def kb_P2 : List (BitVec 8) := [1#8, 0#8, 128#8, 0#8, 0#8, 0#8, 0#8, 0#8, 0#8, 0#8, 0#8, 0#8, 0#8, 0#8, 0#8, 0#8, 0#8, 0#8, 0#8, 0#8, 0#8, 0#8, 0#8, 0#8, 0#8, 0#8, 0#8, 0#8, 0#8, 0#8, 0#8, 0#8, 0#8, 0#8, 0#8, 0#8, 0#8, 0#8, 0#8, 0#8, 0#8, 0#8, 0#8, 0#8, 0#8, 0#8, 0#8, 0#8, 0#8, 0#8, 0#8, 0#8, 0#8, 0#8, 0#8, 0#8, 0#8, 0#8, 0#8, 0#8, 0#8, 0#8, 2#8, 16#8]
def kb_H1 : List (BitVec 8) := [200#8, 117#8, 142#8, 44#8, 230#8, 201#8, 63#8, 241#8, 126#8, 213#8, 183#8, 78#8, 120#8, 216#8, 174#8, 128#8, 145#8, 180#8, 211#8, 83#8, 246#8, 55#8, 149#8, 242#8, 236#8, 203#8, 61#8, 179#8, 74#8, 73#8, 61#8, 193#8]
def kb_Q1 : List (BitVec 8) := [200#8, 117#8, 142#8, 44#8, 230#8, 201#8, 63#8, 241#8, 126#8, 213#8, 183#8, 78#8, 120#8, 216#8, 174#8, 128#8, 145#8, 180#8, 211#8, 83#8, 246#8, 55#8, 149#8, 242#8, 236#8, 203#8, 61#8, 179#8, 74#8, 73#8, 61#8, 193#8, 128#8, 0#8, 0#8, 0#8, 0#8, 0#8, 0#8, 0#8, 0#8, 0#8, 0#8, 0#8, 0#8, 0#8, 0#8, 0#8, 0#8, 0#8, 0#8, 0#8, 0#8, 0#8, 0#8, 0#8, 0#8, 0#8, 0#8, 0#8, 0#8, 0#8, 1#8, 0#8]
def kb_St2 : St := ⟨3363147308#32, 3871948785#32, 2127935310#32, 2027466368#32, 2444546899#32, 4130838002#32, 3972742579#32, 1246313921#32⟩
theorem kb_closed_B0 : closed kb_B0 = kb_P1 ++ kb_P2 := by kernel_rfl
theorem kb_closed_H1 : closed kb_H1 = kb_Q1 := by kernel_rfl
theorem kb_words_P1 : WOK kb_P1 0 0 [0, 0, 0, 0, 0, 0, 0, 0, 0, 0, 0, 0, 0, 0, 0, 0] := by
  constructor
  · intro j hj
    obtain (rfl | rfl | rfl | rfl | rfl | rfl | rfl | rfl | rfl | rfl | rfl | rfl | rfl | rfl | rfl | rfl) : j = 0 ∨ j = 1 ∨ j = 2 ∨ j = 3 ∨ j = 4 ∨ j = 5 ∨ j = 6 ∨ j = 7 ∨ j = 8 ∨ j = 9 ∨ j = 10 ∨ j = 11 ∨ j = 12 ∨ j = 13 ∨ j = 14 ∨ j = 15 := by omega
    all_goals exact small_good _ (by decide)
  · intro j hj _
    rw [Nat.zero_add, W_first _ j hj, lane_0]
    obtain (rfl | rfl | rfl | rfl | rfl | rfl | rfl | rfl | rfl | rfl | rfl | rfl | rfl | rfl | rfl | rfl) : j = 0 ∨ j = 1 ∨ j = 2 ∨ j = 3 ∨ j = 4 ∨ j = 5 ∨ j = 6 ∨ j = 7 ∨ j = 8 ∨ j = 9 ∨ j = 10 ∨ j = 11 ∨ j = 12 ∨ j = 13 ∨ j = 14 ∨ j = 15 := by omega
    all_goals rfl
theorem kb_words_P2 : WOK kb_P2 0 0 [16809984, 0, 0, 0, 0, 0, 0, 0, 0, 0, 0, 0, 0, 0, 0, 528] := by
  constructor
  · intro j hj
    obtain (rfl | rfl | rfl | rfl | rfl | rfl | rfl | rfl | rfl | rfl | rfl | rfl | rfl | rfl | rfl | rfl) : j = 0 ∨ j = 1 ∨ j = 2 ∨ j = 3 ∨ j = 4 ∨ j = 5 ∨ j = 6 ∨ j = 7 ∨ j = 8 ∨ j = 9 ∨ j = 10 ∨ j = 11 ∨ j = 12 ∨ j = 13 ∨ j = 14 ∨ j = 15 := by omega
    all_goals exact small_good _ (by decide)
  · intro j hj _
    rw [Nat.zero_add, W_first _ j hj, lane_0]
    obtain (rfl | rfl | rfl | rfl | rfl | rfl | rfl | rfl | rfl | rfl | rfl | rfl | rfl | rfl | rfl | rfl) : j = 0 ∨ j = 1 ∨ j = 2 ∨ j = 3 ∨ j = 4 ∨ j = 5 ∨ j = 6 ∨ j = 7 ∨ j = 8 ∨ j = 9 ∨ j = 10 ∨ j = 11 ∨ j = 12 ∨ j = 13 ∨ j = 14 ∨ j = 15 := by omega
    all_goals rfl
theorem kb_words_Q1 : WOK kb_Q1 0 0 [3363147308, 3871948785, 2127935310, 2027466368, 2444546899, 4130838002, 3972742579, 1246313921, 2147483648, 0, 0, 0, 0, 0, 0, 256] := by
  constructor
  · intro j hj
    obtain (rfl | rfl | rfl | rfl | rfl | rfl | rfl | rfl | rfl | rfl | rfl | rfl | rfl | rfl | rfl | rfl) : j = 0 ∨ j = 1 ∨ j = 2 ∨ j = 3 ∨ j = 4 ∨ j = 5 ∨ j = 6 ∨ j = 7 ∨ j = 8 ∨ j = 9 ∨ j = 10 ∨ j = 11 ∨ j = 12 ∨ j = 13 ∨ j = 14 ∨ j = 15 := by omega
    all_goals exact small_good _ (by decide)
  · intro j hj _
    rw [Nat.zero_add, W_first _ j hj, lane_0]
    obtain (rfl | rfl | rfl | rfl | rfl | rfl | rfl | rfl | rfl | rfl | rfl | rfl | rfl | rfl | rfl | rfl) : j = 0 ∨ j = 1 ∨ j = 2 ∨ j = 3 ∨ j = 4 ∨ j = 5 ∨ j = 6 ∨ j = 7 ∨ j = 8 ∨ j = 9 ∨ j = 10 ∨ j = 11 ∨ j = 12 ∨ j = 13 ∨ j = 14 ∨ j = 15 := by omega
    all_goals rfl
noncomputable def kb_v1 : V8 := mixV startV 0 0 0 0 0 0 0 0 0 0 0 0 0 0 0 0
noncomputable def kb_v2 : V8 := mixV kb_v1 16809984 0 0 0 0 0 0 0 0 0 0 0 0 0 0 528
theorem kb_v2_a : Nat.mod (V8.a kb_v2) 4294967296 = 3363147308 := by kernel_rfl
theorem kb_v2_b : Nat.mod (V8.b kb_v2) 4294967296 = 3871948785 := by kernel_rfl
theorem kb_v2_c : Nat.mod (V8.c kb_v2) 4294967296 = 2127935310 := by kernel_rfl
theorem kb_v2_d : Nat.mod (V8.d kb_v2) 4294967296 = 2027466368 := by kernel_rfl
theorem kb_v2_e : Nat.mod (V8.e kb_v2) 4294967296 = 2444546899 := by kernel_rfl
theorem kb_v2_f : Nat.mod (V8.f kb_v2) 4294967296 = 4130838002 := by kernel_rfl
theorem kb_v2_g : Nat.mod (V8.g kb_v2) 4294967296 = 3972742579 := by kernel_rfl
theorem kb_v2_h : Nat.mod (V8.h kb_v2) 4294967296 = 1246313921 := by kernel_rfl
theorem kb_mix_B0 : mixAll start (closed kb_B0) = kb_St2 := by
  obtain ⟨h1, h2⟩ := startV_ok 0 (by omega)
  obtain ⟨g1, g2⟩ := mixV_ok kb_P1 startV 0 (by omega) 0 0 0 0 0 0 0 0 0 0 0 0 0 0 0 0 h1 kb_words_P1
  obtain ⟨_, k2⟩ := mixV_ok kb_P2 kb_v1 0 (by omega) 16809984 0 0 0 0 0 0 0 0 0 0 0 0 0 0 528 g1 kb_words_P2
  rw [h2] at g2
  rw [show laneV kb_v1 0 = mix start kb_P1 from g2] at k2
  have e1 := mixAll_block start kb_P1 kb_P2 rfl
  have e2 := mixAll_block (mix start kb_P1) kb_P2 [] rfl
  rw [List.append_nil, mixAll_short _ [] (by decide)] at e2
  rw [kb_closed_B0, e1, e2, ← k2]
  show (⟨lane (V8.a kb_v2) 0, lane (V8.b kb_v2) 0, lane (V8.c kb_v2) 0, lane (V8.d kb_v2) 0, lane (V8.e kb_v2) 0, lane (V8.f kb_v2) 0, lane (V8.g kb_v2) 0, lane (V8.h kb_v2) 0⟩ : St) = kb_St2
  rw [lane_0, lane_0, lane_0, lane_0, lane_0, lane_0, lane_0, lane_0, of_modN _ _ kb_v2_a, of_modN _ _ kb_v2_b, of_modN _ _ kb_v2_c, of_modN _ _ kb_v2_d, of_modN _ _ kb_v2_e, of_modN _ _ kb_v2_f, of_modN _ _ kb_v2_g, of_modN _ _ kb_v2_h]
  rfl
theorem kb_sum_B0 : sum kb_B0 = kb_H1 := by
  unfold sum
  rw [kb_mix_B0]
  kernel_rfl
theorem kb_q_reckoned : Nat.mod (V8.a (mixV startV 3363147308 3871948785 2127935310 2027466368 2444546899 4130838002 3972742579 1246313921 2147483648 0 0 0 0 0 0 256)) 4294967296 = 1848877454 := by kernel_rfl
theorem kb_sum_H1 : (sum kb_H1).getD 0 0 = 110#8 := by
  obtain ⟨h1, h2⟩ := startV_ok 0 (by omega)
  obtain ⟨_, k2⟩ := mixV_ok kb_Q1 startV 0 (by omega) 3363147308 3871948785 2127935310 2027466368 2444546899 4130838002 3972742579 1246313921 2147483648 0 0 0 0 0 0 256 h1 kb_words_Q1
  rw [h2] at k2
  have e2 := mixAll_block start kb_Q1 [] rfl
  rw [List.append_nil, mixAll_short _ [] (by decide)] at e2
  have e : (mixAll start (closed kb_H1)).list.getD 0 0 = 1848877454#32 := by
    rw [kb_closed_H1, e2, ← k2]
    show lane _ 0 = _
    rw [lane_0]
    exact of_modN _ _ kb_q_reckoned
  unfold sum
  rw [bytes_get _ _ (by omega)]
  simp only [Nat.reduceDiv]
  rw [e]
  rfl
theorem kb_twice_B0 : sum (sum kb_B0) ≠ zeros32 := fun h => by
  have e := kb_sum_H1
  rw [← kb_sum_B0, h] at e
  exact absurd e (by decide)
end Go.Proofs.YtlaifphedhaemaaGreatDoor
