/- Contracts of amount.Total and of the document's own Total: whatever the row of numbers; the world stays as it was. Conditions: the row lies in memory as the numbers say. -/
import Derived.Test.YtpnjfgdccggafaaAmB
namespace Go.Proofs.Ytpnjfgdccggafaa
open Go.ChangeShapes Go.WideShapes Go.ChangeAt Go.RowKit

/-- The sum from s on, each number and each sum on the way an amount; else none. -/
def totR (s : Int) : List Int → Option Int
  | [] => some s
  | z :: zs => if Amt z ∧ Amt (s + z) then totR (s + z) zs else none
def totN (Z : List Int) : Int := (totR 0 Z).getD 0
def totE (Z : List Int) : Int := if (totR 0 Z).isSome then 0 else 11

/-- A row of numbers in memory. -/
def Ints (w : World) (a : Option Addr) (Z : List Int) : Prop := Z = [] ∨ ∃ b off, a = some ⟨b, off, none⟩ ∧ ∀ i, i < Z.length → w.cell? ⟨b, off + i, none⟩ = some (.int .i64 (Z.getD i 0))

theorem ret_tot {x y x' y' : Int} (h : x = x') (k : y = y') : Ending.returned (.tuple #[.int .i64 x, .int .i64 y]) = .returned (.tuple #[.int .i64 x', .int .i64 y']) := by rw [h, k]
theorem totNE {Z : List Int} {o : Option Int} (h : totR 0 Z = o) : totN Z = o.getD 0 ∧ totE Z = if o.isSome then 0 else 11 := by unfold totN totE; rw [h]; exact ⟨rfl, rfl⟩
theorem totR_drop_lt {s : Int} {Z : List Int} {k : Nat} (h : k < Z.length) : totR s (Z.drop k) = if Amt (Z.getD k 0) ∧ Amt (s + Z.getD k 0) then totR (s + Z.getD k 0) (Z.drop (k + 1)) else none := by
  rw [List.drop_eq_getElem_cons h, totR, List.getD_eq_getElem?_getD, List.getElem?_eq_getElem h]; rfl

set_option maxHeartbeats 2000000 in
theorem atotal_any (a : Option Addr) (n cap : Nat) (Z : List Int) (w : World) (h : Ints w a Z) (hn : Z.length = n) (hc : n ≤ cap) (hb : n ≤ maxLen) :
    Calls Try.prog 11 #[.slice a n cap] w fun e w' => e = .returned (.tuple #[.int .i64 (totN Z), .int .i64 (totE Z)]) ∧ w = w' := by
  have hb' : n ≤ 9223372036854775807 := by unfold maxLen at hb; omega
  have HN : Hid (Z.length = n) := hn
  have H : Hid (Ints w a Z) := h
  clear h hn hb
  go_enter Try.func11, Try.ntmps11
  go_wp2
  refine wp_scope_hops 1 ?_
  go_hide hQ
  go_wp2_with fail
  go_loop [4, 9] (fun s i => ∃ (k : Nat) (t : Int), k ≤ n ∧ s = .int .i64 t ∧ i = .int .i64 k ∧ 0 ≤ t ∧ t ≤ 2100000000000000 ∧ Hid (totR 0 Z = totR t (Z.drop k))) (fun _ i => n - (intOf i).toNat)
  case atStart => exact ⟨0, 0, by omega, rfl, rfl, by omega, by omega, show totR 0 Z = totR 0 (Z.drop 0) by rw [List.drop_zero]⟩
  case round =>
    obtain ⟨k, t, hk, rfl, rfl, ht0, ht1, HT⟩ := hrel
    by_cases hlt : k < n
    · have hkz : Hid (k < Z.length) := show k < Z.length by rw [HN.out]; exact hlt
      obtain ⟨b, off, rfl, hcs⟩ : ∃ b off, a = some ⟨b, off, none⟩ ∧ ∀ i, i < Z.length → w.cell? ⟨b, off + i, none⟩ = some (.int .i64 (Z.getD i 0)) := by
        rcases H.out with h | h
        · have := hkz.out; rw [h] at this; simp at this
        · exact h
      have hcx := hcs k hkz.out
      have HD : Hid (totR t (Z.drop k) = if Amt (Z.getD k 0) ∧ Amt (t + Z.getD k 0) then totR (t + Z.getD k 0) (Z.drop (k + 1)) else none) := totR_drop_lt hkz.out
      clear hcs
      generalize Z.getD k 0 = z at *
      have e0 : (0 : Int) ≤ (k : Int) := by omega
      have e1 : (k : Int) < (n : Int) := by omega
      by_cases hz : Amt z
      · have HZ : Hid (Amt z) := hz
        by_cases hs : Amt (t + z)
        · have HS : Hid (Amt (t + z)) := hs
          have HE : Hid (totR 0 Z = totR (t + z) (Z.drop (k + 1))) := show _ = _ by rw [HT.out, HD.out, if_pos ⟨hz, hs⟩]
          obtain ⟨z0, z1⟩ := hz
          obtain ⟨s0, s1⟩ := hs
          go_wp2_with fail
          refine (avalid_yes _ _ HZ.out).mono ?_
          rintro e w' ⟨rfl, rfl⟩
          go_wp2_with fail
          refine (avalid_yes _ _ HS.out).mono ?_
          rintro e w' ⟨rfl, rfl⟩
          go_wp2_with fail
          go_round
          case rel => exact ⟨k + 1, t + z, by omega, rfl, by go_num, s0, s1, HE.out⟩
          case measure => simp [intOf]; omega
        · have HS : Hid (¬ Amt (t + z)) := hs
          have HE : Hid (totR 0 Z = none) := show _ = _ by rw [HT.out, HD.out, if_neg fun h => hs h.2]
          obtain ⟨z0, z1⟩ := hz
          clear hs
          go_wp2_with fail
          refine (avalid_yes _ _ HZ.out).mono ?_
          rintro e w' ⟨rfl, rfl⟩
          go_wp2_with fail
          refine (avalid_no _ _ HS.out).mono ?_
          rintro e w' ⟨rfl, rfl⟩
          go_wp2_with fail
          go_step3
          subst hQ
          refine show hops _ _ _ 1 (Exit.goto 0) _ _ from ?_
          rw [hops_goto]
          refine ⟨_, rfl, ?_⟩
          go_hide hQ
          go_wp2_with fail
          subst hQ
          rw [hops_ret]
          go_ret2
          exact ⟨ret_tot (totNE HE.out).1.symm (totNE HE.out).2.symm, rfl⟩
      · have HZ : Hid (¬ Amt z) := hz
        have HE : Hid (totR 0 Z = none) := show _ = _ by rw [HT.out, HD.out, if_neg fun h => hz h.1]
        clear hz
        go_wp2_with fail
        refine (avalid_no _ _ HZ.out).mono ?_
        rintro e w' ⟨rfl, rfl⟩
        go_wp2_with fail
        go_step3
        subst hQ
        refine show hops _ _ _ 1 (Exit.goto 0) _ _ from ?_
        rw [hops_goto]
        refine ⟨_, rfl, ?_⟩
        go_hide hQ
        go_wp2_with fail
        subst hQ
        rw [hops_ret]
        go_ret2
        exact ⟨ret_tot (totNE HE.out).1.symm (totNE HE.out).2.symm, rfl⟩
    · obtain rfl : k = n := by omega
      have HE : Hid (totR 0 Z = some t) := show _ = _ by rw [HT.out, List.drop_of_length_le (by rw [HN.out]; omega)]; rfl
      go_wp2_with fail
      subst hQ
      rw [hops_ret]
      go_ret2
      exact ⟨ret_tot (totNE HE.out).1.symm (totNE HE.out).2.symm, rfl⟩

set_option maxHeartbeats 2000000 in
theorem rtotal_any (a : Option Addr) (n cap : Nat) (Z : List Int) (w : World) (h : Ints w a Z) (hn : Z.length = n) (hc : n ≤ cap) (hb : n ≤ maxLen) :
    Calls Try.prog 12 #[.slice a n cap] w fun e w' => e = .returned (.tuple #[.int .i64 (totN Z), .int .i64 (totE Z)]) ∧ w = w' := by
  have hb' : n ≤ 9223372036854775807 := by unfold maxLen at hb; omega
  have HN : Hid (Z.length = n) := hn
  have H : Hid (Ints w a Z) := h
  clear h hn hb
  go_enter Try.func12, Try.ntmps12
  go_wp2_with fail
  go_loop [4, 5] (fun s i => ∃ (k : Nat) (t : Int), k ≤ n ∧ s = .int .i64 t ∧ i = .int .i64 k ∧ Amt t ∧ Hid (totR 0 Z = totR t (Z.drop k))) (fun _ i => n - (intOf i).toNat)
  case atStart => exact ⟨0, 0, by omega, rfl, rfl, ⟨by omega, by omega⟩, show totR 0 Z = totR 0 (Z.drop 0) by rw [List.drop_zero]⟩
  case round =>
    obtain ⟨k, t, hk, rfl, rfl, ht, HT⟩ := hrel
    by_cases hlt : k < n
    · have hkz : Hid (k < Z.length) := show k < Z.length by rw [HN.out]; exact hlt
      obtain ⟨b, off, rfl, hcs⟩ : ∃ b off, a = some ⟨b, off, none⟩ ∧ ∀ i, i < Z.length → w.cell? ⟨b, off + i, none⟩ = some (.int .i64 (Z.getD i 0)) := by
        rcases H.out with h | h
        · have := hkz.out; rw [h] at this; simp at this
        · exact h
      have hcx := hcs k hkz.out
      have HD : Hid (totR t (Z.drop k) = if Amt (Z.getD k 0) ∧ Amt (t + Z.getD k 0) then totR (t + Z.getD k 0) (Z.drop (k + 1)) else none) := totR_drop_lt hkz.out
      clear hcs
      generalize Z.getD k 0 = z at *
      have e0 : (0 : Int) ≤ (k : Int) := by omega
      have e1 : (k : Int) < (n : Int) := by omega
      have HA : Hid (Amt t) := ht
      clear ht
      by_cases hs : Amt z ∧ Amt (t + z)
      · have HS : Hid (Amt z ∧ Amt (t + z)) := hs
        have HE : Hid (totR 0 Z = totR (t + z) (Z.drop (k + 1))) := show _ = _ by rw [HT.out, HD.out, if_pos hs]
        clear hs
        go_wp2_with fail
        refine (radd_ok _ _ _ HA.out HS.out.1 HS.out.2).mono ?_
        rintro e w' ⟨rfl, rfl⟩
        go_wp2_with fail
        go_round
        case rel => exact ⟨k + 1, t + z, by omega, rfl, by go_num, HS.out.2, HE.out⟩
        case measure => simp [intOf]; omega
      · have HS : Hid (¬ (Amt z ∧ Amt (t + z))) := hs
        have HE : Hid (totR 0 Z = none) := show _ = _ by rw [HT.out, HD.out, if_neg hs]
        clear hs
        go_wp2_with fail
        refine (radd_over _ _ _ fun h => HS.out h.2).mono ?_
        rintro e w' ⟨rfl, rfl⟩
        go_wp2_with fail
        go_ret2
        exact ⟨ret_tot (totNE HE.out).1.symm (totNE HE.out).2.symm, rfl⟩
    · obtain rfl : k = n := by omega
      have HE : Hid (totR 0 Z = some t) := show _ = _ by rw [HT.out, List.drop_of_length_le (by rw [HN.out]; omega)]; rfl
      go_wp2_with fail
      go_ret2
      exact ⟨ret_tot (totNE HE.out).1.symm (totNE HE.out).2.symm, rfl⟩
end Go.Proofs.Ytpnjfgdccggafaa
