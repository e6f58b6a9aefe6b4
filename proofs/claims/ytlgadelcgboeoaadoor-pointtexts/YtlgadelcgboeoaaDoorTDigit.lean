/- sha.digit: what one small hex digit says. -/
import Derived.Test.YtlgadelcgboeoaaDoorPtT
namespace Go.Proofs.YtlgadelcgboeoaaDoor
open Go.ChangeShapes Go.WideShapes Go.ChangeAt Go.RowKit

theorem un_cases (c : BitVec 8) : (∃ x, un c = some x ∧ ((48 ≤ Y c ∧ Y c ≤ 57 ∧ Y x = Y c - 48) ∨ (97 ≤ Y c ∧ Y c ≤ 102 ∧ Y x = Y c - 87))) ∨ (un c = none ∧ (Y c < 48 ∨ (57 < Y c ∧ Y c < 97) ∨ 102 < Y c)) := by
  have hY : Y c = (c.toNat : Int) := rfl
  unfold un
  by_cases h1 : 48 ≤ c.toNat ∧ c.toNat ≤ 57
  · rw [if_pos h1]
    refine .inl ⟨_, rfl, .inl ⟨by omega, by omega, ?_⟩⟩
    unfold Y
    rw [BitVec.toNat_sub]
    simp; omega
  · rw [if_neg h1]
    by_cases h2 : 97 ≤ c.toNat ∧ c.toNat ≤ 102
    · rw [if_pos h2]
      refine .inl ⟨_, rfl, .inr ⟨by omega, by omega, ?_⟩⟩
      unfold Y
      rw [BitVec.toNat_sub]
      simp; omega
    · rw [if_neg h2]
      exact .inr ⟨rfl, by omega⟩

set_option maxRecDepth 100000 in
set_option maxHeartbeats 4000000 in
theorem digit_some (c x : BitVec 8) (w : World) (h : un c = some x) :
    Calls Tryd.prog 43 #[.int .u8 (Y c)] w fun e w' => e = .returned (.tuple #[.int .u8 (Y x), .bool true]) ∧ w = w' := by
  rcases un_cases c with ⟨x', hx, hc⟩ | ⟨hn, _⟩
  · rw [h] at hx
    injection hx with hx
    subst hx
    clear h
    generalize Y c = y at *
    generalize Y x = v at *
    rcases hc with ⟨h1, h2, h3⟩ | ⟨h1, h2, h3⟩
    · subst h3
      go_enter Tryd.func43, Tryd.ntmps43
      go_wp2_with fail
      go_ret2
      exact ⟨rfl, rfl⟩
    · have HV : Hid (v = y - 87) := h3
      have h4 : ¬ y ≤ 57 := by omega
      have h5 : (48 : Int) ≤ y := by omega
      have e1 : IntKind.u8.wrap (y - 97) = y - 97 := by rw [IntKind.wrap_u8]; omega
      have e2 : IntKind.u8.wrap (y - 97 + 10) = y - 97 + 10 := by rw [IntKind.wrap_u8]; omega
      clear h3
      go_enter Tryd.func43, Tryd.ntmps43
      go_wp2_with fail
      go_ret2
      refine ⟨?_, rfl⟩
      show Ending.returned (.tuple #[.int .u8 (y - 97 + 10), .bool true]) = _
      rw [HV.out, show y - 97 + 10 = y - 87 by omega]
  · rw [h] at hn; cases hn

set_option maxRecDepth 100000 in
set_option maxHeartbeats 4000000 in
theorem digit_none (c : BitVec 8) (w : World) (h : un c = none) :
    Calls Tryd.prog 43 #[.int .u8 (Y c)] w fun e w' => e = .returned (.tuple #[.int .u8 0, .bool false]) ∧ w = w' := by
  rcases un_cases c with ⟨x', hx, hc⟩ | ⟨_, hn⟩
  · rw [h] at hx; cases hx
  · clear h
    generalize Y c = y at *
    by_cases h1 : y < 48
    · have h2 : ¬ (48 : Int) ≤ y := by omega
      have h3 : ¬ (97 : Int) ≤ y := by omega
      go_enter Tryd.func43, Tryd.ntmps43
      go_wp2_with fail
      go_ret2
      exact ⟨rfl, rfl⟩
    · have h2 : (48 : Int) ≤ y := by omega
      have h3 : ¬ y ≤ 57 := by omega
      by_cases h4 : y < 97
      · have h5 : ¬ (97 : Int) ≤ y := by omega
        go_enter Tryd.func43, Tryd.ntmps43
        go_wp2_with fail
        go_ret2
        exact ⟨rfl, rfl⟩
      · have h5 : (97 : Int) ≤ y := by omega
        have h6 : ¬ y ≤ 102 := by omega
        go_enter Tryd.func43, Tryd.ntmps43
        go_wp2_with fail
        go_ret2
        exact ⟨rfl, rfl⟩
theorem digit_any (c : BitVec 8) (w : World) :
    Calls Tryd.prog 43 #[.int .u8 (Y c)] w fun e w' => ∃ v ok, e = .returned (.tuple #[.int .u8 v, .bool ok]) ∧ ((ok = true ∧ ∃ x, un c = some x ∧ v = Y x) ∨ (ok = false ∧ un c = none)) ∧ w = w' := by
  cases h : un c with
  | none => exact (digit_none c w h).mono fun _ _ ⟨he, hw⟩ => ⟨_, _, he, .inr ⟨rfl, rfl⟩, hw⟩
  | some x => exact (digit_some c x w h).mono fun _ _ ⟨he, hw⟩ => ⟨_, _, he, .inl ⟨rfl, x, rfl, rfl⟩, hw⟩
end Go.Proofs.YtlgadelcgboeoaaDoor
