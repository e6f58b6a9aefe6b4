/- Contracts of the document's own Add, of amount.Fee and Rate and the document's own Fee and Rate: whatever the numbers; the world stays as it was. No conditions but that the numbers fit. -/
import Derived.Test.YtpnjfgdccggafaaAmA
namespace Go.Proofs.Ytpnjfgdccggafaa
open Go.ChangeShapes Go.WideShapes Go.ChangeAt Go.RowKit

theorem radd_ok (a b : Int) (w : World) (ha : Amt a) (hb : Amt b) (hs : Amt (a + b)) :
    Calls Try.prog 9 #[.int .i64 a, .int .i64 b] w fun e w' => e = .returned (.tuple #[.int .i64 (a + b), .int .i64 0]) ∧ w = w' := by
  have HA : Hid (Amt a) := ha
  have HB : Hid (Amt b) := hb
  have HS : Hid (Amt (a + b)) := hs
  obtain ⟨a0, a1⟩ := ha
  obtain ⟨b0, b1⟩ := hb
  clear hs
  go_enter Try.func9, Try.ntmps9
  go_wp2_with (first
    | (go_at_call_of 13 (Value.int IntKind.i64 a); refine (money_yes a _ HA.out).mono ?_; rintro e w' ⟨rfl, rfl⟩)
    | (go_at_call_of 13 (Value.int IntKind.i64 b); refine (money_yes b _ HB.out).mono ?_; rintro e w' ⟨rfl, rfl⟩)
    | (go_at_call_of 13 (Value.int IntKind.i64 (a + b)); refine (money_yes (a + b) _ HS.out).mono ?_; rintro e w' ⟨rfl, rfl⟩))
  go_ret2
  exact ⟨rfl, rfl⟩

theorem radd_over (a b : Int) (w : World) (h : ¬ (Amt a ∧ Amt b ∧ Amt (a + b))) :
    Calls Try.prog 9 #[.int .i64 a, .int .i64 b] w fun e w' => e = .returned (.tuple #[.int .i64 0, .int .i64 11]) ∧ w = w' := by
  have H : Hid (¬ (Amt a ∧ Amt b ∧ Amt (a + b))) := h
  clear h
  by_cases ha : Amt a
  · by_cases hb : Amt b
    · have HA : Hid (Amt a) := ha
      have HB : Hid (Amt b) := hb
      have HS : Hid (¬ Amt (a + b)) := fun h => H.out ⟨ha, hb, h⟩
      obtain ⟨a0, a1⟩ := ha
      obtain ⟨b0, b1⟩ := hb
      go_enter Try.func9, Try.ntmps9
      go_wp2_with (first
        | (go_at_call_of 13 (Value.int IntKind.i64 a); refine (money_yes a _ HA.out).mono ?_; rintro e w' ⟨rfl, rfl⟩)
        | (go_at_call_of 13 (Value.int IntKind.i64 b); refine (money_yes b _ HB.out).mono ?_; rintro e w' ⟨rfl, rfl⟩)
        | (go_at_call_of 13 (Value.int IntKind.i64 (a + b)); refine (money_no (a + b) _ HS.out).mono ?_; rintro e w' ⟨rfl, rfl⟩))
      go_ret2
      exact ⟨rfl, rfl⟩
    · have HA : Hid (Amt a) := ha
      have HB : Hid (¬ Amt b) := hb
      clear ha hb
      go_enter Try.func9, Try.ntmps9
      go_wp2_with fail
      refine (money_yes a _ HA.out).mono ?_
      rintro e w' ⟨rfl, rfl⟩
      go_wp2_with fail
      refine (money_no b _ HB.out).mono ?_
      rintro e w' ⟨rfl, rfl⟩
      go_wp2
      go_ret2
      exact ⟨rfl, rfl⟩
  · have HA : Hid (¬ Amt a) := ha
    clear ha
    go_enter Try.func9, Try.ntmps9
    go_wp2_with fail
    refine (money_no a _ HA.out).mono ?_
    rintro e w' ⟨rfl, rfl⟩
    go_wp2
    go_ret2
    exact ⟨rfl, rfl⟩

/-- The document's own Add, whatever the numbers. -/
theorem radd_any (a b : Int) (w : World) :
    Calls Try.prog 9 #[.int .i64 a, .int .i64 b] w fun e w' => e = .returned (.tuple #[.int .i64 (addN a b), .int .i64 (addE a b)]) ∧ w = w' := by
  by_cases h : Amt a ∧ Amt b ∧ Amt (a + b)
  · unfold addN addE; rw [if_pos h, if_pos h]; exact radd_ok a b w h.1 h.2.1 h.2.2
  · unfold addN addE; rw [if_neg h, if_neg h]; exact radd_over a b w h

/-- What a weight costs at a rate, cut up, where both may be. -/
def costN (weight rate : Int) : Int := (weight * rate + 999) / 1000
/-- A weight and a rate that may be. -/
def FeeIn (weight rate : Int) : Prop := 0 ≤ weight ∧ weight ≤ 4000000 ∧ 0 ≤ rate ∧ rate ≤ 1000000000
instance (x y : Int) : Decidable (FeeIn x y) := inferInstanceAs (Decidable (_ ∧ _))
def feeN (weight rate : Int) : Int := if FeeIn weight rate ∧ Amt (costN weight rate) then costN weight rate else 0
def feeE (weight rate : Int) : Int := if FeeIn weight rate ∧ Amt (costN weight rate) then 0 else 11

theorem prod_range {x y a b : Int} (h0 : 0 ≤ x) (h1 : x ≤ a) (h2 : 0 ≤ y) (h3 : y ≤ b) : 0 ≤ x * y ∧ x * y ≤ a * b :=
  ⟨Int.mul_nonneg h0 h2, Int.mul_le_mul h1 h3 h2 (Int.le_trans h0 h1)⟩

set_option maxHeartbeats 400000 in
theorem afee_ok (x y : Int) (w : World) (h : FeeIn x y) (hs : Amt (costN x y)) :
    Calls Try.prog 15 #[.int .i64 x, .int .i64 y] w fun e w' => e = .returned (.tuple #[.int .i64 (costN x y), .int .i64 0]) ∧ w = w' := by
  obtain ⟨x0, x1, y0, y1⟩ := h
  obtain ⟨p0, p1⟩ := prod_range x0 x1 y0 y1
  have HS : Hid (Amt (costN x y)) := hs
  clear hs
  have HD : Hid (costN x y = (x * y + 1000 - 1) / 1000) := show _ = _ by unfold costN; omega
  go_enter Try.func15, Try.ntmps15
  go_wp2
  refine wp_scope_hops 0 ?_
  go_hide hQ
  go_wp2_with fail
  rw [← HD.out]
  refine (avalid_yes _ _ HS.out).mono ?_
  rintro e w' ⟨rfl, rfl⟩
  go_wp2
  subst hQ
  rw [hops_ret]
  go_ret2
  exact ⟨rfl, rfl⟩

theorem feeIn_not {x y : Int} (h : ¬ FeeIn x y) : x < 0 ∨ (0 ≤ x ∧ 4000000 < x) ∨ (0 ≤ x ∧ x ≤ 4000000 ∧ y < 0) ∨ (0 ≤ x ∧ x ≤ 4000000 ∧ 0 ≤ y ∧ 1000000000 < y) := by
  unfold FeeIn at h; omega

set_option maxHeartbeats 400000 in
theorem afee_out (x y : Int) (w : World) (h : ¬ FeeIn x y) :
    Calls Try.prog 15 #[.int .i64 x, .int .i64 y] w fun e w' => e = .returned (.tuple #[.int .i64 0, .int .i64 11]) ∧ w = w' := by
  rcases feeIn_not h with h1 | ⟨h1, h2⟩ | ⟨h1, h2, h3⟩ | ⟨h1, h2, h3, h4⟩
  all_goals
    clear h
    go_enter Try.func15, Try.ntmps15
    go_wp2
    refine wp_scope_hops 1 ?_
    go_hide hQ
    go_wp2
    go_step3
    simp only [Exit.then]
    subst hQ
    rw [hops_goto]
    refine ⟨_, rfl, ?_⟩
    go_hide hQ
    go_wp2
    subst hQ
    rw [hops_ret]
    go_ret2
    exact ⟨rfl, rfl⟩

set_option maxHeartbeats 400000 in
theorem afee_over (x y : Int) (w : World) (h : FeeIn x y) (hs : ¬ Amt (costN x y)) :
    Calls Try.prog 15 #[.int .i64 x, .int .i64 y] w fun e w' => e = .returned (.tuple #[.int .i64 0, .int .i64 11]) ∧ w = w' := by
  obtain ⟨x0, x1, y0, y1⟩ := h
  obtain ⟨p0, p1⟩ := prod_range x0 x1 y0 y1
  have HS : Hid (¬ Amt (costN x y)) := hs
  clear hs
  have HD : Hid (costN x y = (x * y + 1000 - 1) / 1000) := show _ = _ by unfold costN; omega
  go_enter Try.func15, Try.ntmps15
  go_wp2
  refine wp_scope_hops 1 ?_
  go_hide hQ
  go_wp2_with fail
  rw [← HD.out]
  refine (avalid_no _ _ HS.out).mono ?_
  rintro e w' ⟨rfl, rfl⟩
  go_wp2
  go_step3
  simp only [Exit.then]
  subst hQ
  rw [hops_goto]
  refine ⟨_, rfl, ?_⟩
  go_hide hQ
  go_wp2
  subst hQ
  rw [hops_ret]
  go_ret2
  exact ⟨rfl, rfl⟩

/-- Fee, whatever the numbers. -/
theorem afee_any (x y : Int) (w : World) :
    Calls Try.prog 15 #[.int .i64 x, .int .i64 y] w fun e w' => e = .returned (.tuple #[.int .i64 (feeN x y), .int .i64 (feeE x y)]) ∧ w = w' := by
  unfold feeN feeE
  by_cases h : FeeIn x y ∧ Amt (costN x y)
  · rw [if_pos h, if_pos h]; exact afee_ok x y w h.1 h.2
  · rw [if_neg h, if_neg h]
    by_cases h1 : FeeIn x y
    · exact afee_over x y w h1 fun h2 => h ⟨h1, h2⟩
    · exact afee_out x y w h1

set_option maxHeartbeats 400000 in
theorem rfee_out (x y : Int) (w : World) (h : ¬ FeeIn x y) :
    Calls Try.prog 16 #[.int .i64 x, .int .i64 y] w fun e w' => e = .returned (.tuple #[.int .i64 0, .int .i64 11]) ∧ w = w' := by
  rcases feeIn_not h with h1 | ⟨h1, h2⟩ | ⟨h1, h2, h3⟩ | ⟨h1, h2, h3, h4⟩
  all_goals
    clear h
    go_enter Try.func16, Try.ntmps16
    go_wp2
    go_ret2
    exact ⟨rfl, rfl⟩

set_option maxHeartbeats 1000000 in
theorem rfee_in (x y : Int) (w : World) (h : FeeIn x y) :
    Calls Try.prog 16 #[.int .i64 x, .int .i64 y] w fun e w' => e = .returned (if Amt (costN x y) then .tuple #[.int .i64 (costN x y), .int .i64 0] else .tuple #[.int .i64 0, .int .i64 11]) ∧ w = w' := by
  obtain ⟨x0, x1, y0, y1⟩ := h
  obtain ⟨p0, p1⟩ := prod_range x0 x1 y0 y1
  have HP : Hid (costN x y = (x * y + 999) / 1000) := show _ = _ by unfold costN; omega
  by_cases hm : 0 < x * y % 1000
  · have HD : Hid (costN x y = x * y / 1000 + 1) := show _ = _ by rw [HP.out]; omega
    by_cases hs : Amt (costN x y)
    · rw [if_pos hs]
      have HS : Hid (Amt (costN x y)) := hs
      clear hs
      go_enter Try.func16, Try.ntmps16
      go_wp2_with fail
      rw [← HD.out]
      refine (money_yes _ _ HS.out).mono ?_
      rintro e w' ⟨rfl, rfl⟩
      go_wp2
      go_ret2
      exact ⟨rfl, rfl⟩
    · rw [if_neg hs]
      have HS : Hid (¬ Amt (costN x y)) := hs
      clear hs
      go_enter Try.func16, Try.ntmps16
      go_wp2_with fail
      rw [← HD.out]
      refine (money_no _ _ HS.out).mono ?_
      rintro e w' ⟨rfl, rfl⟩
      go_wp2
      go_ret2
      exact ⟨rfl, rfl⟩
  · have HD : Hid (costN x y = x * y / 1000) := show _ = _ by rw [HP.out]; omega
    by_cases hs : Amt (costN x y)
    · rw [if_pos hs]
      have HS : Hid (Amt (costN x y)) := hs
      clear hs
      go_enter Try.func16, Try.ntmps16
      go_wp2_with fail
      rw [← HD.out]
      refine (money_yes _ _ HS.out).mono ?_
      rintro e w' ⟨rfl, rfl⟩
      go_wp2
      go_ret2
      exact ⟨rfl, rfl⟩
    · rw [if_neg hs]
      have HS : Hid (¬ Amt (costN x y)) := hs
      clear hs
      go_enter Try.func16, Try.ntmps16
      go_wp2_with fail
      rw [← HD.out]
      refine (money_no _ _ HS.out).mono ?_
      rintro e w' ⟨rfl, rfl⟩
      go_wp2
      go_ret2
      exact ⟨rfl, rfl⟩

/-- The document's own Fee, whatever the numbers. -/
theorem rfee_any (x y : Int) (w : World) :
    Calls Try.prog 16 #[.int .i64 x, .int .i64 y] w fun e w' => e = .returned (.tuple #[.int .i64 (feeN x y), .int .i64 (feeE x y)]) ∧ w = w' := by
  unfold feeN feeE
  by_cases h1 : FeeIn x y
  · by_cases h2 : Amt (costN x y)
    · rw [if_pos ⟨h1, h2⟩, if_pos ⟨h1, h2⟩]
      have h := rfee_in x y w h1
      rw [if_pos h2] at h
      exact h
    · rw [if_neg fun h => h2 h.2, if_neg fun h => h2 h.2]
      have h := rfee_in x y w h1
      rw [if_neg h2] at h
      exact h
  · rw [if_neg fun h => h1 h.1, if_neg fun h => h1 h.1]
    exact rfee_out x y w h1

/-- A fee and a weight that may be. -/
def RateIn (fee weight : Int) : Prop := Amt fee ∧ 1 ≤ weight ∧ weight ≤ 4000000
instance (x y : Int) : Decidable (RateIn x y) := inferInstanceAs (Decidable (_ ∧ _))
def paysN (fee weight : Int) : Int := min (fee * 1000 / weight) 1000000000
def rateN (fee weight : Int) : Int := if RateIn fee weight then paysN fee weight else 0
def rateE (fee weight : Int) : Int := if RateIn fee weight then 0 else 11

theorem aret_two {a b e : Int} (h : a = b) : Ending.returned (.tuple #[.int .i64 a, .int .i64 e]) = .returned (.tuple #[.int .i64 b, .int .i64 e]) := by rw [h]

set_option maxHeartbeats 400000 in
theorem arate_ok (x y : Int) (w : World) (h : RateIn x y) :
    Calls Try.prog 17 #[.int .i64 x, .int .i64 y] w fun e w' => e = .returned (.tuple #[.int .i64 (paysN x y), .int .i64 0]) ∧ w = w' := by
  obtain ⟨hx, y0, y1⟩ := h
  have HX : Hid (Amt x) := hx
  obtain ⟨x0, x1⟩ := hx
  have hy : (y == 0) = false := beq_eq_false_iff_ne.2 (by omega)
  go_enter Try.func17, Try.ntmps17
  go_wp2
  refine wp_scope_hops 0 ?_
  go_hide hQ
  go_wp2_with fail
  refine (avalid_yes _ _ HX.out).mono ?_
  rintro e w' ⟨rfl, rfl⟩
  go_wp2
  all_goals
    subst hQ
    rw [hops_ret]
    go_ret2
  all_goals exact ⟨aret_two (by unfold paysN; omega), rfl⟩

theorem rateIn_not {x y : Int} (h : ¬ RateIn x y) : ¬ Amt x ∨ (Amt x ∧ y < 1) ∨ (Amt x ∧ 1 ≤ y ∧ 4000000 < y) := by
  unfold RateIn at h
  by_cases hx : Amt x
  · refine .inr ?_
    by_cases hy : 1 ≤ y
    · refine .inr ⟨hx, hy, ?_⟩
      rcases Classical.em (4000000 < y) with h1 | h1
      · exact h1
      · exact absurd ⟨hx, hy, by omega⟩ h
    · exact .inl ⟨hx, by omega⟩
  · exact .inl hx

set_option maxHeartbeats 400000 in
theorem arate_over (x y : Int) (w : World) (h : ¬ RateIn x y) :
    Calls Try.prog 17 #[.int .i64 x, .int .i64 y] w fun e w' => e = .returned (.tuple #[.int .i64 0, .int .i64 11]) ∧ w = w' := by
  rcases rateIn_not h with h1 | ⟨h1, h2⟩ | ⟨h1, h2, h3⟩
  · have HX : Hid (¬ Amt x) := h1
    clear h h1
    go_enter Try.func17, Try.ntmps17
    go_wp2
    refine wp_scope_hops 1 ?_
    go_hide hQ
    go_wp2_with fail
    refine (avalid_no _ _ HX.out).mono ?_
    rintro e w' ⟨rfl, rfl⟩
    go_wp2
    go_step3
    simp only [Exit.then]
    subst hQ
    rw [hops_goto]
    refine ⟨_, rfl, ?_⟩
    go_hide hQ
    go_wp2
    subst hQ
    rw [hops_ret]
    go_ret2
    exact ⟨rfl, rfl⟩
  all_goals
    have HX : Hid (Amt x) := h1
    clear h h1
    go_enter Try.func17, Try.ntmps17
    go_wp2
    refine wp_scope_hops 1 ?_
    go_hide hQ
    go_wp2_with fail
    refine (avalid_yes _ _ HX.out).mono ?_
    rintro e w' ⟨rfl, rfl⟩
    go_wp2
    go_step3
    simp only [Exit.then]
    subst hQ
    rw [hops_goto]
    refine ⟨_, rfl, ?_⟩
    go_hide hQ
    go_wp2
    subst hQ
    rw [hops_ret]
    go_ret2
    exact ⟨rfl, rfl⟩

/-- Rate, whatever the numbers. -/
theorem arate_any (x y : Int) (w : World) :
    Calls Try.prog 17 #[.int .i64 x, .int .i64 y] w fun e w' => e = .returned (.tuple #[.int .i64 (rateN x y), .int .i64 (rateE x y)]) ∧ w = w' := by
  unfold rateN rateE
  by_cases h : RateIn x y
  · rw [if_pos h, if_pos h]; exact arate_ok x y w h
  · rw [if_neg h, if_neg h]; exact arate_over x y w h

set_option maxHeartbeats 400000 in
theorem rrate_ok (x y : Int) (w : World) (h : RateIn x y) :
    Calls Try.prog 18 #[.int .i64 x, .int .i64 y] w fun e w' => e = .returned (.tuple #[.int .i64 (paysN x y), .int .i64 0]) ∧ w = w' := by
  obtain ⟨hx, y0, y1⟩ := h
  have HX : Hid (Amt x) := hx
  obtain ⟨x0, x1⟩ := hx
  have hy : (y == 0) = false := beq_eq_false_iff_ne.2 (by omega)
  go_enter Try.func18, Try.ntmps18
  go_wp2_with fail
  refine (money_yes _ _ HX.out).mono ?_
  rintro e w' ⟨rfl, rfl⟩
  go_wp2
  all_goals go_ret2
  all_goals exact ⟨aret_two (by unfold paysN; omega), rfl⟩

set_option maxHeartbeats 400000 in
theorem rrate_over (x y : Int) (w : World) (h : ¬ RateIn x y) :
    Calls Try.prog 18 #[.int .i64 x, .int .i64 y] w fun e w' => e = .returned (.tuple #[.int .i64 0, .int .i64 11]) ∧ w = w' := by
  rcases rateIn_not h with h1 | ⟨h1, h2⟩ | ⟨h1, h2, h3⟩
  · have HX : Hid (¬ Amt x) := h1
    clear h h1
    go_enter Try.func18, Try.ntmps18
    go_wp2_with fail
    refine (money_no _ _ HX.out).mono ?_
    rintro e w' ⟨rfl, rfl⟩
    go_wp2
    go_ret2
    exact ⟨rfl, rfl⟩
  all_goals
    have HX : Hid (Amt x) := h1
    clear h h1
    go_enter Try.func18, Try.ntmps18
    go_wp2_with fail
    refine (money_yes _ _ HX.out).mono ?_
    rintro e w' ⟨rfl, rfl⟩
    go_wp2
    go_ret2
    exact ⟨rfl, rfl⟩

/-- The document's own Rate, whatever the numbers. -/
theorem rrate_any (x y : Int) (w : World) :
    Calls Try.prog 18 #[.int .i64 x, .int .i64 y] w fun e w' => e = .returned (.tuple #[.int .i64 (rateN x y), .int .i64 (rateE x y)]) ∧ w = w' := by
  unfold rateN rateE
  by_cases h : RateIn x y
  · rw [if_pos h, if_pos h]; exact rrate_ok x y w h
  · rw [if_neg h, if_neg h]; exact rrate_over x y w h
end Go.Proofs.Ytpnjfgdccggafaa
