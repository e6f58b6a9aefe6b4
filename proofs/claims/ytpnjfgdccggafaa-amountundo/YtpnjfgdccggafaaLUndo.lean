/- AmountUndo: whatever the numbers, the row and the place, the law returns true. No conditions. The walk. -/
import Derived.Test.YtpnjfgdccggafaaLSums
import Derived.Test.YtpnjfgdccggafaaTotMath
import Derived.Deep.CutBlock
import Derived.Deep.DeepCutAuto
namespace Go.Proofs.Ytpnjfgdccggafaa
open Go.ChangeShapes Go.WideShapes Go.ChangeAt Go.RowKit

theorem undo_awake (x y : Int) (a : Option Addr) (n cap : Nat) (j : Int) (w : World) (h : 50 < n) :
    Calls Try.prog 6 #[.int .i64 x, .int .i64 y, .slice a n cap, .int .i64 j] w fun e w' => e = .returned (.bool true) ∧ Below w.heap.size w w' := by
  go_enter Try.func6, Try.ntmps6
  go_wp2_with (go_at_call 7; refine (awake_any _).mono ?_; rintro e w' ⟨rfl, rfl⟩)
  go_ret
  exact ⟨rfl, Below.refl _ _⟩

theorem round_range (j m : Int) (hm : 0 < m) : ∃ k : Nat, (j.tmod m + m) % m = (k : Int) ∧ (k : Int) < m := by
  obtain ⟨k, hk⟩ := Int.eq_ofNat_of_zero_le (Int.emod_nonneg (j.tmod m + m) (show m ≠ 0 by omega))
  exact ⟨k, hk, by rw [← hk]; exact Int.emod_lt_of_pos _ hm⟩

set_option maxHeartbeats 4000000 in
theorem undo_in (x y : Int) (a : Option Addr) (n cap : Nat) (Z : List Int) (j : Int) (w : World) (hn : Z.length = n) (hz : Ints w a Z) (hc : n ≤ cap) (hcm : cap ≤ maxLen) (hl : n ≤ 50) :
    Calls Try.prog 6 #[.int .i64 x, .int .i64 y, .slice a n cap, .int .i64 j] w fun e w' => e = .returned (.bool true) ∧ Below w.heap.size w w' := by
  have j1 : -((n : Int) + 1) < j.tmod ((n : Int) + 1) := by
    have := Int.lt_tmod_of_pos j (show 0 < (n : Int) + 1 by omega); omega
  have j2 : j.tmod ((n : Int) + 1) < (n : Int) + 1 := Int.tmod_lt_of_pos j (by omega)
  obtain ⟨k, hk, hk2⟩ := round_range j ((n : Int) + 1) (by omega)
  rw [← Int.add_assoc] at hk
  have HK : Hid ((j.tmod ((n : Int) + 1) + (n : Int) + 1) % ((n : Int) + 1) = (k : Int)) := hk
  clear hk
  have hkn : k ≤ n := by omega
  clear hk2
  obtain ⟨adr, hadr⟩ : ∃ v, (if cap = k then a else Option.map (fun v => v.add k) a) = v := ⟨_, rfl⟩
  have GX : Hid (∀ w', w = w' → Calls Try.prog 11 #[.slice a k cap] w' fun e w'' => e = .returned (.tuple #[.int .i64 (totN (Z.take k)), .int .i64 (totE (Z.take k))]) ∧ w' = w'') := by
    rintro w' rfl; exact atotal_any a k cap _ w (hz.take k) (by rw [List.length_take]; omega) (by omega) (by omega)
  have GY : Hid (∀ w', w = w' → Calls Try.prog 11 #[.slice adr (n - k) (cap - k)] w' fun e w'' => e = .returned (.tuple #[.int .i64 (totN (Z.drop k)), .int .i64 (totE (Z.drop k))]) ∧ w' = w'') := by
    rintro w' rfl; exact atotal_any adr (n - k) (cap - k) _ w (by rw [← hadr]; exact hz.drop k cap (by omega)) (by rw [List.length_drop]; omega) (by omega) (by omega)
  have GZ : Hid (∀ w', w = w' → Calls Try.prog 11 #[.slice a n cap] w' fun e w'' => e = .returned (.tuple #[.int .i64 (totN Z), .int .i64 (totE Z)]) ∧ w' = w'') := by
    rintro w' rfl; exact atotal_any a n cap _ w hz hn hc (by omega)
  have hparts := tot_parts Z k
  generalize totN (Z.take k) = p at *
  generalize totE (Z.take k) = pe at *
  generalize totN (Z.drop k) = q at *
  generalize totE (Z.drop k) = qe at *
  generalize totN Z = r at *
  generalize totE Z = re at *
  have GW : Hid (∀ w', Calls Try.prog 8 #[.int .i64 p, .int .i64 q] w' fun e w'' => e = .returned (.tuple #[.int .i64 (addN p q), .int .i64 (addE p q)]) ∧ w' = w'') := fun w' => aadd_any p q w'
  clear hz hn hcm
  by_cases hA : Amt x ∧ Amt y ∧ Amt (x + y)
  · have GA : Hid (∀ w', Calls Try.prog 8 #[.int .i64 x, .int .i64 y] w' fun e w'' => e = .returned (.tuple #[.int .i64 (x + y), .int .i64 0]) ∧ w' = w'') := fun w' => aadd_ok x y w' hA.1 hA.2.1 hA.2.2
    have GS : Hid (∀ w', Calls Try.prog 10 #[.int .i64 (x + y), .int .i64 y] w' fun e w'' => e = .returned (.tuple #[.int .i64 x, .int .i64 0]) ∧ w' = w'') := fun w' => by
      have h := asub_ok (x + y) y w' hA.2.2 hA.2.1 (by rw [Int.add_sub_cancel]; exact hA.1)
      rw [Int.add_sub_cancel] at h; exact h
    have GB : Hid (∀ w', Calls Try.prog 8 #[.int .i64 y, .int .i64 x] w' fun e w'' => e = .returned (.tuple #[.int .i64 (x + y), .int .i64 0]) ∧ w' = w'') := fun w' => by
      have h := aadd_ok y x w' hA.2.1 hA.1 (by rw [Int.add_comm]; exact hA.2.2)
      rw [Int.add_comm y x] at h; exact h
    clear hA
    generalize x + y = s at *
    rcases hparts with ⟨rfl, rfl, rfl⟩ | ⟨rfl, rfl, rfl, rfl⟩ | ⟨rfl, rfl, rfl, rfl⟩
    · go_enter Try.func6, Try.ntmps6
      go_wp2_with fail
      refine Calls.mono (GA.out _) ?_
      rintro e w' ⟨rfl, rfl⟩
      go_wp2_with fail
      refine Calls.mono (GS.out _) ?_
      rintro e w' ⟨rfl, rfl⟩
      go_wp2_with fail
      refine Calls.mono (GB.out _) ?_
      rintro e w' ⟨rfl, rfl⟩
      go_upto_region 10 with fail
      rw [HK.out]
      clear HK
      go_wp2_with fail
      refine Calls.mono (GX.out _ rfl) ?_
      rintro e w' ⟨rfl, rfl⟩
      go_wp2_with fail
      refine Calls.mono (GY.out _ rfl) ?_
      rintro e w' ⟨rfl, rfl⟩
      go_wp2_with fail
      refine Calls.mono (GZ.out _ rfl) ?_
      rintro e w' ⟨rfl, rfl⟩
      go_wp2_with (go_at_call 7; refine (awake_any _).mono ?_; rintro e w' ⟨rfl, rfl⟩)
      go_ret
      exact ⟨rfl, Below.refl _ _⟩
    · go_enter Try.func6, Try.ntmps6
      go_wp2_with fail
      refine Calls.mono (GA.out _) ?_
      rintro e w' ⟨rfl, rfl⟩
      go_wp2_with fail
      refine Calls.mono (GS.out _) ?_
      rintro e w' ⟨rfl, rfl⟩
      go_wp2_with fail
      refine Calls.mono (GB.out _) ?_
      rintro e w' ⟨rfl, rfl⟩
      go_upto_region 10 with fail
      rw [HK.out]
      clear HK
      go_wp2_with fail
      refine Calls.mono (GX.out _ rfl) ?_
      rintro e w' ⟨rfl, rfl⟩
      go_wp2_with fail
      refine Calls.mono (GY.out _ rfl) ?_
      rintro e w' ⟨rfl, rfl⟩
      go_wp2_with fail
      refine Calls.mono (GZ.out _ rfl) ?_
      rintro e w' ⟨rfl, rfl⟩
      go_wp2_with (go_at_call 7; refine (awake_any _).mono ?_; rintro e w' ⟨rfl, rfl⟩)
      go_ret
      exact ⟨rfl, Below.refl _ _⟩
    · go_enter Try.func6, Try.ntmps6
      go_wp2_with fail
      refine Calls.mono (GA.out _) ?_
      rintro e w' ⟨rfl, rfl⟩
      go_wp2_with fail
      refine Calls.mono (GS.out _) ?_
      rintro e w' ⟨rfl, rfl⟩
      go_wp2_with fail
      refine Calls.mono (GB.out _) ?_
      rintro e w' ⟨rfl, rfl⟩
      go_upto_region 10 with fail
      rw [HK.out]
      clear HK
      go_wp2_with fail
      refine Calls.mono (GX.out _ rfl) ?_
      rintro e w' ⟨rfl, rfl⟩
      go_wp2_with fail
      refine Calls.mono (GY.out _ rfl) ?_
      rintro e w' ⟨rfl, rfl⟩
      go_wp2_with fail
      refine Calls.mono (GZ.out _ rfl) ?_
      rintro e w' ⟨rfl, rfl⟩
      generalize addN p q = r at *
      generalize addE p q = re at *
      go_wp2_with fail
      refine Calls.mono (GW.out _) ?_
      rintro e w' ⟨rfl, rfl⟩
      go_wp2_with (go_at_call 7; refine (awake_any _).mono ?_; rintro e w' ⟨rfl, rfl⟩)
      go_ret
      exact ⟨rfl, Below.refl _ _⟩
  · have GA : Hid (∀ w', Calls Try.prog 8 #[.int .i64 x, .int .i64 y] w' fun e w'' => e = .returned (.tuple #[.int .i64 0, .int .i64 11]) ∧ w' = w'') := fun w' => aadd_over x y w' hA
    clear hA
    rcases hparts with ⟨rfl, rfl, rfl⟩ | ⟨rfl, rfl, rfl, rfl⟩ | ⟨rfl, rfl, rfl, rfl⟩
    · go_enter Try.func6, Try.ntmps6
      go_wp2_with fail
      refine Calls.mono (GA.out _) ?_
      rintro e w' ⟨rfl, rfl⟩
      go_upto_region 10 with fail
      rw [HK.out]
      clear HK
      go_wp2_with fail
      refine Calls.mono (GX.out _ rfl) ?_
      rintro e w' ⟨rfl, rfl⟩
      go_wp2_with fail
      refine Calls.mono (GY.out _ rfl) ?_
      rintro e w' ⟨rfl, rfl⟩
      go_wp2_with fail
      refine Calls.mono (GZ.out _ rfl) ?_
      rintro e w' ⟨rfl, rfl⟩
      go_wp2_with (go_at_call 7; refine (awake_any _).mono ?_; rintro e w' ⟨rfl, rfl⟩)
      go_ret
      exact ⟨rfl, Below.refl _ _⟩
    · go_enter Try.func6, Try.ntmps6
      go_wp2_with fail
      refine Calls.mono (GA.out _) ?_
      rintro e w' ⟨rfl, rfl⟩
      go_upto_region 10 with fail
      rw [HK.out]
      clear HK
      go_wp2_with fail
      refine Calls.mono (GX.out _ rfl) ?_
      rintro e w' ⟨rfl, rfl⟩
      go_wp2_with fail
      refine Calls.mono (GY.out _ rfl) ?_
      rintro e w' ⟨rfl, rfl⟩
      go_wp2_with fail
      refine Calls.mono (GZ.out _ rfl) ?_
      rintro e w' ⟨rfl, rfl⟩
      go_wp2_with (go_at_call 7; refine (awake_any _).mono ?_; rintro e w' ⟨rfl, rfl⟩)
      go_ret
      exact ⟨rfl, Below.refl _ _⟩
    · go_enter Try.func6, Try.ntmps6
      go_wp2_with fail
      refine Calls.mono (GA.out _) ?_
      rintro e w' ⟨rfl, rfl⟩
      go_upto_region 10 with fail
      rw [HK.out]
      clear HK
      go_wp2_with fail
      refine Calls.mono (GX.out _ rfl) ?_
      rintro e w' ⟨rfl, rfl⟩
      go_wp2_with fail
      refine Calls.mono (GY.out _ rfl) ?_
      rintro e w' ⟨rfl, rfl⟩
      go_wp2_with fail
      refine Calls.mono (GZ.out _ rfl) ?_
      rintro e w' ⟨rfl, rfl⟩
      generalize addN p q = r at *
      generalize addE p q = re at *
      go_wp2_with fail
      refine Calls.mono (GW.out _) ?_
      rintro e w' ⟨rfl, rfl⟩
      go_wp2_with (go_at_call 7; refine (awake_any _).mono ?_; rintro e w' ⟨rfl, rfl⟩)
      go_ret
      exact ⟨rfl, Below.refl _ _⟩

theorem undo_any (x y : Int) (a : Option Addr) (n cap : Nat) (zs : List Int) (j : Int) (w : World) (h : IsRow .i64 w a n cap zs) :
    Calls Try.prog 6 #[.int .i64 x, .int .i64 y, .slice a n cap, .int .i64 j] w fun e w' => e = .returned (.bool true) ∧ Below w.heap.size w w' := by
  by_cases hl : 50 < n
  · exact undo_awake x y a n cap j w hl
  · obtain ⟨Z, hZ, hI, hc, hm⟩ := h.ints
    exact undo_in x y a n cap Z j w hZ hI hc hm (by omega)
end Go.Proofs.Ytpnjfgdccggafaa
