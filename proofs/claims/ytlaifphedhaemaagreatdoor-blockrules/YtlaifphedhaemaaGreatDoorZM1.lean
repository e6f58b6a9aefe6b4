/- Contracts of amount.Valid, Add, Sub and of the document's own Money, Add: whatever the numbers; the world stays as it was. No conditions. Contracts of the document's own Add, of amount.Fee and Rate and the document's own Fee and Rate: whatever the numbers; the world stays as it was. No conditions but that the numbers fit. Contracts of amount.Total and of the document's own Total: whatever the row of numbers; the world stays as it was. Conditions: the row lies in memory as the numbers say. -/
import Derived.Test.YtlaifphedhaemaaGreatDoorRows
import Derived.Test.YtlaifphedhaemaaGreatDoorZQ1
import Derived.WalkKit
import Derived.ProofKit
import Derived.OpenShut
import Derived.Handy
import Derived.WalkSpells
import Derived.Deep.RegionWith
namespace Go.Proofs.YtlaifphedhaemaaGreatDoor
open Go.ChangeShapes Go.WideShapes Go.ChangeAt Go.RowKit

/-- An amount: 0 to the most money. -/
def Amt (a : Int) : Prop := 0 ≤ a ∧ a ≤ 2100000000000000
instance (a : Int) : Decidable (Amt a) := inferInstanceAs (Decidable (_ ∧ _))

theorem avalid_yes (a : Int) (w : World) (h : Amt a) :
    Calls Tryz.prog 118 #[.int .i64 a] w fun e w' => e = .returned (.bool true) ∧ w = w' := by
  obtain ⟨h0, h1⟩ := h
  go_enter Tryz.func118, Tryz.ntmps118
  go_wp2
  go_ret
  exact ⟨rfl, rfl⟩

theorem avalid_no (a : Int) (w : World) (h : ¬ Amt a) :
    Calls Tryz.prog 118 #[.int .i64 a] w fun e w' => e = .returned (.bool false) ∧ w = w' := by
  unfold Amt at h
  by_cases h0 : 0 ≤ a
  · have h1 : ¬ a ≤ 2100000000000000 := by omega
    clear h
    go_enter Tryz.func118, Tryz.ntmps118
    go_wp2
    go_ret
    exact ⟨rfl, rfl⟩
  · clear h
    go_enter Tryz.func118, Tryz.ntmps118
    go_wp2
    go_ret
    exact ⟨rfl, rfl⟩

/-- Valid, whatever the number. -/
theorem avalid_any (a : Int) (w : World) :
    Calls Tryz.prog 118 #[.int .i64 a] w fun e w' => e = .returned (.bool (decide (Amt a))) ∧ w = w' := by
  by_cases h : Amt a
  · rw [decide_eq_true h]; exact avalid_yes a w h
  · rw [decide_eq_false h]; exact avalid_no a w h

theorem money_yes (a : Int) (w : World) (h : Amt a) :
    Calls Tryz.prog 121 #[.int .i64 a] w fun e w' => e = .returned (.bool true) ∧ w = w' := by
  obtain ⟨h0, h1⟩ := h
  go_enter Tryz.func121, Tryz.ntmps121
  go_wp2
  go_ret
  exact ⟨rfl, rfl⟩

theorem money_no (a : Int) (w : World) (h : ¬ Amt a) :
    Calls Tryz.prog 121 #[.int .i64 a] w fun e w' => e = .returned (.bool false) ∧ w = w' := by
  unfold Amt at h
  by_cases h0 : 0 ≤ a
  · have h1 : ¬ a ≤ 2100000000000000 := by omega
    clear h
    go_enter Tryz.func121, Tryz.ntmps121
    go_wp2
    go_ret
    exact ⟨rfl, rfl⟩
  · clear h
    go_enter Tryz.func121, Tryz.ntmps121
    go_wp2
    go_ret
    exact ⟨rfl, rfl⟩

/-- Money, whatever the number. -/
theorem money_any (a : Int) (w : World) :
    Calls Tryz.prog 121 #[.int .i64 a] w fun e w' => e = .returned (.bool (decide (Amt a))) ∧ w = w' := by
  by_cases h : Amt a
  · rw [decide_eq_true h]; exact money_yes a w h
  · rw [decide_eq_false h]; exact money_no a w h

/-- What Add answers: the sum, and 0; or 0, and ErrOver. -/
def addN (a b : Int) : Int := if Amt a ∧ Amt b ∧ Amt (a + b) then a + b else 0
def addE (a b : Int) : Int := if Amt a ∧ Amt b ∧ Amt (a + b) then 0 else 11

/-- What Sub answers: the difference, and 0; or 0, and ErrOver. -/
def subN (a b : Int) : Int := if Amt a ∧ Amt b ∧ Amt (a - b) then a - b else 0
def subE (a b : Int) : Int := if Amt a ∧ Amt b ∧ Amt (a - b) then 0 else 11

end Go.Proofs.YtlaifphedhaemaaGreatDoor
namespace Go.Proofs.YtlaifphedhaemaaGreatDoor
open Go.ChangeShapes Go.WideShapes Go.ChangeAt Go.RowKit

theorem radd_ok (a b : Int) (w : World) (ha : Amt a) (hb : Amt b) (hs : Amt (a + b)) :
    Calls Tryz.prog 109 #[.int .i64 a, .int .i64 b] w fun e w' => e = .returned (.tuple #[.int .i64 (a + b), .int .i64 0]) ∧ w = w' := by
  have HA : Hid (Amt a) := ha
  have HB : Hid (Amt b) := hb
  have HS : Hid (Amt (a + b)) := hs
  obtain ⟨a0, a1⟩ := ha
  obtain ⟨b0, b1⟩ := hb
  clear hs
  go_enter Tryz.func109, Tryz.ntmps109
  go_wp2_with (first
    | (go_at_call_of 121 (Value.int IntKind.i64 a); refine (money_yes a _ HA.out).mono ?_; rintro e w' ⟨rfl, rfl⟩)
    | (go_at_call_of 121 (Value.int IntKind.i64 b); refine (money_yes b _ HB.out).mono ?_; rintro e w' ⟨rfl, rfl⟩)
    | (go_at_call_of 121 (Value.int IntKind.i64 (a + b)); refine (money_yes (a + b) _ HS.out).mono ?_; rintro e w' ⟨rfl, rfl⟩))
  go_ret2
  exact ⟨rfl, rfl⟩

theorem radd_over (a b : Int) (w : World) (h : ¬ (Amt a ∧ Amt b ∧ Amt (a + b))) :
    Calls Tryz.prog 109 #[.int .i64 a, .int .i64 b] w fun e w' => e = .returned (.tuple #[.int .i64 0, .int .i64 11]) ∧ w = w' := by
  have H : Hid (¬ (Amt a ∧ Amt b ∧ Amt (a + b))) := h
  clear h
  by_cases ha : Amt a
  · by_cases hb : Amt b
    · have HA : Hid (Amt a) := ha
      have HB : Hid (Amt b) := hb
      have HS : Hid (¬ Amt (a + b)) := fun h => H.out ⟨ha, hb, h⟩
      obtain ⟨a0, a1⟩ := ha
      obtain ⟨b0, b1⟩ := hb
      go_enter Tryz.func109, Tryz.ntmps109
      go_wp2_with (first
        | (go_at_call_of 121 (Value.int IntKind.i64 a); refine (money_yes a _ HA.out).mono ?_; rintro e w' ⟨rfl, rfl⟩)
        | (go_at_call_of 121 (Value.int IntKind.i64 b); refine (money_yes b _ HB.out).mono ?_; rintro e w' ⟨rfl, rfl⟩)
        | (go_at_call_of 121 (Value.int IntKind.i64 (a + b)); refine (money_no (a + b) _ HS.out).mono ?_; rintro e w' ⟨rfl, rfl⟩))
      go_ret2
      exact ⟨rfl, rfl⟩
    · have HA : Hid (Amt a) := ha
      have HB : Hid (¬ Amt b) := hb
      clear ha hb
      go_enter Tryz.func109, Tryz.ntmps109
      go_wp2_with fail
      refine (money_yes a _ HA.out).mono ?_
      rintro e w' ⟨rfl, rfl⟩
      go_wp2_with fail
      refine (money_no b _ HB.out).mono ?_
      rintro e w' ⟨rfl, rfl⟩
      go_wp2
      go_ret2
      exact ⟨rfl, rfl⟩
  · have HA : Hid (¬ Amt a) := ha
    clear ha
    go_enter Tryz.func109, Tryz.ntmps109
    go_wp2_with fail
    refine (money_no a _ HA.out).mono ?_
    rintro e w' ⟨rfl, rfl⟩
    go_wp2
    go_ret2
    exact ⟨rfl, rfl⟩

/-- The document's own Add, whatever the numbers. -/
theorem radd_any (a b : Int) (w : World) :
    Calls Tryz.prog 109 #[.int .i64 a, .int .i64 b] w fun e w' => e = .returned (.tuple #[.int .i64 (addN a b), .int .i64 (addE a b)]) ∧ w = w' := by
  by_cases h : Amt a ∧ Amt b ∧ Amt (a + b)
  · unfold addN addE; rw [if_pos h, if_pos h]; exact radd_ok a b w h.1 h.2.1 h.2.2
  · unfold addN addE; rw [if_neg h, if_neg h]; exact radd_over a b w h

/-- What a weight costs at a rate, cut up, where both may be. -/
def costN (weight rate : Int) : Int := (weight * rate + 999) / 1000
/-- A weight and a rate that may be. -/
def FeeIn (weight rate : Int) : Prop := 0 ≤ weight ∧ weight ≤ 4000000 ∧ 0 ≤ rate ∧ rate ≤ 1000000000
instance (x y : Int) : Decidable (FeeIn x y) := inferInstanceAs (Decidable (_ ∧ _))
def feeN (weight rate : Int) : Int := if FeeIn weight rate ∧ Amt (costN weight rate) then costN weight rate else 0
def feeE (weight rate : Int) : Int := if FeeIn weight rate ∧ Amt (costN weight rate) then 0 else 11

theorem prod_range {x y a b : Int} (h0 : 0 ≤ x) (h1 : x ≤ a) (h2 : 0 ≤ y) (h3 : y ≤ b) : 0 ≤ x * y ∧ x * y ≤ a * b :=
  ⟨Int.mul_nonneg h0 h2, Int.mul_le_mul h1 h3 h2 (Int.le_trans h0 h1)⟩

theorem feeIn_not {x y : Int} (h : ¬ FeeIn x y) : x < 0 ∨ (0 ≤ x ∧ 4000000 < x) ∨ (0 ≤ x ∧ x ≤ 4000000 ∧ y < 0) ∨ (0 ≤ x ∧ x ≤ 4000000 ∧ 0 ≤ y ∧ 1000000000 < y) := by
  unfold FeeIn at h; omega

/-- A fee and a weight that may be. -/
def RateIn (fee weight : Int) : Prop := Amt fee ∧ 1 ≤ weight ∧ weight ≤ 4000000
instance (x y : Int) : Decidable (RateIn x y) := inferInstanceAs (Decidable (_ ∧ _))
def paysN (fee weight : Int) : Int := min (fee * 1000 / weight) 1000000000
def rateN (fee weight : Int) : Int := if RateIn fee weight then paysN fee weight else 0
def rateE (fee weight : Int) : Int := if RateIn fee weight then 0 else 11

theorem aret_two {a b e : Int} (h : a = b) : Ending.returned (.tuple #[.int .i64 a, .int .i64 e]) = .returned (.tuple #[.int .i64 b, .int .i64 e]) := by rw [h]

theorem rateIn_not {x y : Int} (h : ¬ RateIn x y) : ¬ Amt x ∨ (Amt x ∧ y < 1) ∨ (Amt x ∧ 1 ≤ y ∧ 4000000 < y) := by
  unfold RateIn at h
  by_cases hx : Amt x
  · refine .inr ?_
    by_cases hy : 1 ≤ y
    · refine .inr ⟨hx, hy, ?_⟩
      rcases Classical.em (4000000 < y) with h1 | h1
      · exact h1
      · exact absurd ⟨hx, hy, by omega⟩ h
    · exact .inl ⟨hx, by omega⟩
  · exact .inl hx

end Go.Proofs.YtlaifphedhaemaaGreatDoor
namespace Go.Proofs.YtlaifphedhaemaaGreatDoor
open Go.ChangeShapes Go.WideShapes Go.ChangeAt Go.RowKit

/-- The sum from s on, each number and each sum on the way an amount; else none. -/
def totR (s : Int) : List Int → Option Int
  | [] => some s
  | z :: zs => if Amt z ∧ Amt (s + z) then totR (s + z) zs else none
def totN (Z : List Int) : Int := (totR 0 Z).getD 0
def totE (Z : List Int) : Int := if (totR 0 Z).isSome then 0 else 11

/-- A row of numbers in memory. -/
def Ints (w : World) (a : Option Addr) (Z : List Int) : Prop := Z = [] ∨ ∃ b off, a = some ⟨b, off, none⟩ ∧ ∀ i, i < Z.length → w.cell? ⟨b, off + i, none⟩ = some (.int .i64 (Z.getD i 0))

theorem ret_tot {x y x' y' : Int} (h : x = x') (k : y = y') : Ending.returned (.tuple #[.int .i64 x, .int .i64 y]) = .returned (.tuple #[.int .i64 x', .int .i64 y']) := by rw [h, k]
theorem totNE {Z : List Int} {o : Option Int} (h : totR 0 Z = o) : totN Z = o.getD 0 ∧ totE Z = if o.isSome then 0 else 11 := by unfold totN totE; rw [h]; exact ⟨rfl, rfl⟩
theorem totR_drop_lt {s : Int} {Z : List Int} {k : Nat} (h : k < Z.length) : totR s (Z.drop k) = if Amt (Z.getD k 0) ∧ Amt (s + Z.getD k 0) then totR (s + Z.getD k 0) (Z.drop (k + 1)) else none := by
  rw [List.drop_eq_getElem_cons h, totR, List.getD_eq_getElem?_getD, List.getElem?_eq_getElem h]; rfl

set_option maxHeartbeats 2000000 in
theorem atotal_any (a : Option Addr) (n cap : Nat) (Z : List Int) (w : World) (h : Ints w a Z) (hn : Z.length = n) (hc : n ≤ cap) (hb : n ≤ maxLen) :
    Calls Tryz.prog 96 #[.slice a n cap] w fun e w' => e = .returned (.tuple #[.int .i64 (totN Z), .int .i64 (totE Z)]) ∧ w = w' := by
  have hb' : n ≤ 9223372036854775807 := by unfold maxLen at hb; omega
  have HN : Hid (Z.length = n) := hn
  have H : Hid (Ints w a Z) := h
  clear h hn hb
  go_enter Tryz.func96, Tryz.ntmps96
  go_wp2
  refine wp_scope_hops 1 ?_
  go_hide hQ
  go_wp2_with fail
  go_loop [4, 9] (fun s i => ∃ (k : Nat) (t : Int), k ≤ n ∧ s = .int .i64 t ∧ i = .int .i64 k ∧ 0 ≤ t ∧ t ≤ 2100000000000000 ∧ Hid (totR 0 Z = totR t (Z.drop k))) (fun _ i => n - (intOf i).toNat)
  case atStart => exact ⟨0, 0, by omega, rfl, rfl, by omega, by omega, show totR 0 Z = totR 0 (Z.drop 0) by rw [List.drop_zero]⟩
  case round =>
    obtain ⟨k, t, hk, rfl, rfl, ht0, ht1, HT⟩ := hrel
    by_cases hlt : k < n
    · have hkz : Hid (k < Z.length) := show k < Z.length by rw [HN.out]; exact hlt
      obtain ⟨b, off, rfl, hcs⟩ : ∃ b off, a = some ⟨b, off, none⟩ ∧ ∀ i, i < Z.length → w.cell? ⟨b, off + i, none⟩ = some (.int .i64 (Z.getD i 0)) := by
        rcases H.out with h | h
        · have := hkz.out; rw [h] at this; simp at this
        · exact h
      have hcx := hcs k hkz.out
      have HD : Hid (totR t (Z.drop k) = if Amt (Z.getD k 0) ∧ Amt (t + Z.getD k 0) then totR (t + Z.getD k 0) (Z.drop (k + 1)) else none) := totR_drop_lt hkz.out
      clear hcs
      generalize Z.getD k 0 = z at *
      have e0 : (0 : Int) ≤ (k : Int) := by omega
      have e1 : (k : Int) < (n : Int) := by omega
      by_cases hz : Amt z
      · have HZ : Hid (Amt z) := hz
        by_cases hs : Amt (t + z)
        · have HS : Hid (Amt (t + z)) := hs
          have HE : Hid (totR 0 Z = totR (t + z) (Z.drop (k + 1))) := show _ = _ by rw [HT.out, HD.out, if_pos ⟨hz, hs⟩]
          obtain ⟨z0, z1⟩ := hz
          obtain ⟨s0, s1⟩ := hs
          go_wp2_with fail
          refine (avalid_yes _ _ HZ.out).mono ?_
          rintro e w' ⟨rfl, rfl⟩
          go_wp2_with fail
          refine (avalid_yes _ _ HS.out).mono ?_
          rintro e w' ⟨rfl, rfl⟩
          go_wp2_with fail
          go_round
          case rel => exact ⟨k + 1, t + z, by omega, rfl, by go_num, s0, s1, HE.out⟩
          case measure => simp [intOf]; omega
        · have HS : Hid (¬ Amt (t + z)) := hs
          have HE : Hid (totR 0 Z = none) := show _ = _ by rw [HT.out, HD.out, if_neg fun h => hs h.2]
          obtain ⟨z0, z1⟩ := hz
          clear hs
          go_wp2_with fail
          refine (avalid_yes _ _ HZ.out).mono ?_
          rintro e w' ⟨rfl, rfl⟩
          go_wp2_with fail
          refine (avalid_no _ _ HS.out).mono ?_
          rintro e w' ⟨rfl, rfl⟩
          go_wp2_with fail
          go_step3
          subst hQ
          refine show hops _ _ _ 1 (Exit.goto 0) _ _ from ?_
          rw [hops_goto]
          refine ⟨_, rfl, ?_⟩
          go_hide hQ
          go_wp2_with fail
          subst hQ
          rw [hops_ret]
          go_ret2
          exact ⟨ret_tot (totNE HE.out).1.symm (totNE HE.out).2.symm, rfl⟩
      · have HZ : Hid (¬ Amt z) := hz
        have HE : Hid (totR 0 Z = none) := show _ = _ by rw [HT.out, HD.out, if_neg fun h => hz h.1]
        clear hz
        go_wp2_with fail
        refine (avalid_no _ _ HZ.out).mono ?_
        rintro e w' ⟨rfl, rfl⟩
        go_wp2_with fail
        go_step3
        subst hQ
        refine show hops _ _ _ 1 (Exit.goto 0) _ _ from ?_
        rw [hops_goto]
        refine ⟨_, rfl, ?_⟩
        go_hide hQ
        go_wp2_with fail
        subst hQ
        rw [hops_ret]
        go_ret2
        exact ⟨ret_tot (totNE HE.out).1.symm (totNE HE.out).2.symm, rfl⟩
    · obtain rfl : k = n := by omega
      have HE : Hid (totR 0 Z = some t) := show _ = _ by rw [HT.out, List.drop_of_length_le (by rw [HN.out]; omega)]; rfl
      go_wp2_with fail
      subst hQ
      rw [hops_ret]
      go_ret2
      exact ⟨ret_tot (totNE HE.out).1.symm (totNE HE.out).2.symm, rfl⟩

set_option maxHeartbeats 2000000 in
theorem rtotal_any (a : Option Addr) (n cap : Nat) (Z : List Int) (w : World) (h : Ints w a Z) (hn : Z.length = n) (hc : n ≤ cap) (hb : n ≤ maxLen) :
    Calls Tryz.prog 81 #[.slice a n cap] w fun e w' => e = .returned (.tuple #[.int .i64 (totN Z), .int .i64 (totE Z)]) ∧ w = w' := by
  have hb' : n ≤ 9223372036854775807 := by unfold maxLen at hb; omega
  have HN : Hid (Z.length = n) := hn
  have H : Hid (Ints w a Z) := h
  clear h hn hb
  go_enter Tryz.func81, Tryz.ntmps81
  go_wp2_with fail
  go_loop [4, 5] (fun s i => ∃ (k : Nat) (t : Int), k ≤ n ∧ s = .int .i64 t ∧ i = .int .i64 k ∧ Amt t ∧ Hid (totR 0 Z = totR t (Z.drop k))) (fun _ i => n - (intOf i).toNat)
  case atStart => exact ⟨0, 0, by omega, rfl, rfl, ⟨by omega, by omega⟩, show totR 0 Z = totR 0 (Z.drop 0) by rw [List.drop_zero]⟩
  case round =>
    obtain ⟨k, t, hk, rfl, rfl, ht, HT⟩ := hrel
    by_cases hlt : k < n
    · have hkz : Hid (k < Z.length) := show k < Z.length by rw [HN.out]; exact hlt
      obtain ⟨b, off, rfl, hcs⟩ : ∃ b off, a = some ⟨b, off, none⟩ ∧ ∀ i, i < Z.length → w.cell? ⟨b, off + i, none⟩ = some (.int .i64 (Z.getD i 0)) := by
        rcases H.out with h | h
        · have := hkz.out; rw [h] at this; simp at this
        · exact h
      have hcx := hcs k hkz.out
      have HD : Hid (totR t (Z.drop k) = if Amt (Z.getD k 0) ∧ Amt (t + Z.getD k 0) then totR (t + Z.getD k 0) (Z.drop (k + 1)) else none) := totR_drop_lt hkz.out
      clear hcs
      generalize Z.getD k 0 = z at *
      have e0 : (0 : Int) ≤ (k : Int) := by omega
      have e1 : (k : Int) < (n : Int) := by omega
      have HA : Hid (Amt t) := ht
      clear ht
      by_cases hs : Amt z ∧ Amt (t + z)
      · have HS : Hid (Amt z ∧ Amt (t + z)) := hs
        have HE : Hid (totR 0 Z = totR (t + z) (Z.drop (k + 1))) := show _ = _ by rw [HT.out, HD.out, if_pos hs]
        clear hs
        go_wp2_with fail
        refine (radd_ok _ _ _ HA.out HS.out.1 HS.out.2).mono ?_
        rintro e w' ⟨rfl, rfl⟩
        go_wp2_with fail
        go_round
        case rel => exact ⟨k + 1, t + z, by omega, rfl, by go_num, HS.out.2, HE.out⟩
        case measure => simp [intOf]; omega
      · have HS : Hid (¬ (Amt z ∧ Amt (t + z))) := hs
        have HE : Hid (totR 0 Z = none) := show _ = _ by rw [HT.out, HD.out, if_neg hs]
        clear hs
        go_wp2_with fail
        refine (radd_over _ _ _ fun h => HS.out h.2).mono ?_
        rintro e w' ⟨rfl, rfl⟩
        go_wp2_with fail
        go_ret2
        exact ⟨ret_tot (totNE HE.out).1.symm (totNE HE.out).2.symm, rfl⟩
    · obtain rfl : k = n := by omega
      have HE : Hid (totR 0 Z = some t) := show _ = _ by rw [HT.out, List.drop_of_length_le (by rw [HN.out]; omega)]; rfl
      go_wp2_with fail
      go_ret2
      exact ⟨ret_tot (totNE HE.out).1.symm (totNE HE.out).2.symm, rfl⟩
end Go.Proofs.YtlaifphedhaemaaGreatDoor
