/- AmountSums: whatever the numbers and the row, the law returns true. No conditions. The walk. -/
import Derived.Test.YtpnjfgdccggafaaLFees
namespace Go.Proofs.Ytpnjfgdccggafaa
open Go.ChangeShapes Go.WideShapes Go.ChangeAt Go.RowKit

/-- A slice of integers that came in: it is nil, or it leads to a row of as many cells as its capacity says. -/
def IsRow (k : IntKind) (w : World) (a : Option Addr) (len cap : Nat) (zs : List Int) : Prop :=
  (a = none ∧ len = 0 ∧ cap = 0 ∧ zs = []) ∨
  ∃ x, a = some x ∧ len ≤ cap ∧ cap ≤ maxLen ∧ zs.length = cap ∧ (∀ i, i < zs.length → w.cell? (x.add i) = some (.int k (zs.getD i 0))) ∧ ∀ n ∈ zs, (Lit.int k n).wf = true

theorem IsRow.ints {w : World} {a : Option Addr} {len cap : Nat} {zs : List Int} (h : IsRow .i64 w a len cap zs) : ∃ Z : List Int, Z.length = len ∧ Ints w a Z ∧ len ≤ cap ∧ cap ≤ maxLen := by
  rcases h with ⟨rfl, rfl, rfl, rfl⟩ | ⟨x, rfl, hl, hm, hz, hcell, _⟩
  · exact ⟨[], rfl, .inl rfl, Nat.le_refl _, Nat.zero_le _⟩
  · refine ⟨zs.take len, by rw [List.length_take]; omega, ?_, hl, hm⟩
    rcases Nat.eq_zero_or_pos len with h0 | h0
    · exact .inl (by rw [h0]; rfl)
    · obtain ⟨b, off, spot⟩ := x
      have hc := hcell 0 (by omega)
      have hspot : spot = none := by simpa [Addr.add] using World.cell?_spot hc
      subst hspot
      refine .inr ⟨b, off, rfl, fun i hi => ?_⟩
      rw [List.length_take] at hi
      have h1 := hcell i (by omega)
      have hadd : (⟨b, off, none⟩ : Addr).add i = ⟨b, off + i, none⟩ := by unfold Addr.add; split <;> simp_all
      rw [hadd] at h1
      rw [h1, List.getD_eq_getElem?_getD, List.getD_eq_getElem?_getD, List.getElem?_take_of_lt (by omega)]

theorem sums_awake (x y : Int) (a : Option Addr) (n cap : Nat) (w : World) (h : 100 < n) :
    Calls Try.prog 3 #[.int .i64 x, .int .i64 y, .slice a n cap] w fun e w' => e = .returned (.bool true) ∧ Below w.heap.size w w' := by
  go_enter Try.func3, Try.ntmps3
  go_wp2_with (go_at_call 7; refine (awake_any _).mono ?_; rintro e w' ⟨rfl, rfl⟩)
  go_ret
  exact ⟨rfl, Below.refl _ _⟩

set_option maxHeartbeats 2000000 in
theorem sums_in (x y : Int) (a : Option Addr) (n cap : Nat) (Z : List Int) (w : World) (hn : Z.length = n) (hz : Ints w a Z) (hc : n ≤ cap) (hl : n ≤ 100) :
    Calls Try.prog 3 #[.int .i64 x, .int .i64 y, .slice a n cap] w fun e w' => e = .returned (.bool true) ∧ Below w.heap.size w w' := by
  have H1 := aadd_any x y w
  have H2 := radd_any x y w
  have H3 := atotal_any a n cap Z w hz hn hc (by unfold maxLen; omega)
  have H4 := rtotal_any a n cap Z w hz hn hc (by unfold maxLen; omega)
  obtain ⟨q0, q1⟩ := addE_range x y
  obtain ⟨s0, s1⟩ := totE_range Z
  generalize addN x y = p at *
  generalize addE x y = q at *
  generalize totN Z = r at *
  generalize totE Z = s at *
  have G1 : Hid _ := H1
  have G2 : Hid _ := H2
  have G3 : Hid _ := H3
  have G4 : Hid _ := H4
  clear H1 H2 H3 H4 hz hn
  by_cases hx : Amt x
  · have HX : Hid (Amt x) := hx
    by_cases hy : Amt y
    · have HY : Hid (Amt y) := hy
      obtain ⟨x0, x1⟩ := hx
      obtain ⟨y0, y1⟩ := hy
      by_cases hxy : y ≤ x
      · go_enter Try.func3, Try.ntmps3
        go_wp2_with fail
        refine Calls.mono G1.out ?_
        rintro e w' ⟨rfl, rfl⟩
        go_wp2_with fail
        refine Calls.mono G2.out ?_
        rintro e w' ⟨rfl, rfl⟩
        go_wp2_with fail
        refine (asub_ok x y _ HX.out HY.out ⟨by omega, by omega⟩).mono ?_
        rintro e w' ⟨rfl, rfl⟩
        go_wp2_with fail
        refine Calls.mono G3.out ?_
        rintro e w' ⟨rfl, rfl⟩
        go_wp2_with fail
        refine Calls.mono G4.out ?_
        rintro e w' ⟨rfl, rfl⟩
        go_wp2_with fail
        refine (money_yes x _ HX.out).mono ?_
        rintro e w' ⟨rfl, rfl⟩
        go_wp2_with fail
        refine (money_yes y _ HY.out).mono ?_
        rintro e w' ⟨rfl, rfl⟩
        go_wp2_with fail
        refine (avalid_yes x _ HX.out).mono ?_
        rintro e w' ⟨rfl, rfl⟩
        go_wp2_with fail
        refine (money_yes x _ HX.out).mono ?_
        rintro e w' ⟨rfl, rfl⟩
        go_wp2_with (go_at_call 7; refine (awake_any _).mono ?_; rintro e w' ⟨rfl, rfl⟩)
        go_ret
        exact ⟨rfl, Below.refl _ _⟩
      · have hd : decide (y ≤ x) = false := decide_eq_false (by omega)
        go_enter Try.func3, Try.ntmps3
        go_wp2_with fail
        refine Calls.mono G1.out ?_
        rintro e w' ⟨rfl, rfl⟩
        go_wp2_with fail
        refine Calls.mono G2.out ?_
        rintro e w' ⟨rfl, rfl⟩
        go_wp2_with fail
        refine (asub_over x y _ fun h => absurd h.2.2.1 (by omega)).mono ?_
        rintro e w' ⟨rfl, rfl⟩
        go_wp2_with fail
        refine Calls.mono G3.out ?_
        rintro e w' ⟨rfl, rfl⟩
        go_wp2_with fail
        refine Calls.mono G4.out ?_
        rintro e w' ⟨rfl, rfl⟩
        go_wp2_with fail
        refine (money_yes x _ HX.out).mono ?_
        rintro e w' ⟨rfl, rfl⟩
        go_wp2_with fail
        refine (money_yes y _ HY.out).mono ?_
        rintro e w' ⟨rfl, rfl⟩
        go_wp2_with fail
        refine (avalid_yes x _ HX.out).mono ?_
        rintro e w' ⟨rfl, rfl⟩
        go_wp2_with fail
        refine (money_yes x _ HX.out).mono ?_
        rintro e w' ⟨rfl, rfl⟩
        go_wp2_with (go_at_call 7; refine (awake_any _).mono ?_; rintro e w' ⟨rfl, rfl⟩)
        go_ret
        exact ⟨rfl, Below.refl _ _⟩
    · have HY : Hid (¬ Amt y) := hy
      clear hx hy
      go_enter Try.func3, Try.ntmps3
      go_wp2_with fail
      refine Calls.mono G1.out ?_
      rintro e w' ⟨rfl, rfl⟩
      go_wp2_with fail
      refine Calls.mono G2.out ?_
      rintro e w' ⟨rfl, rfl⟩
      go_wp2_with fail
      refine (asub_over x y _ fun h => HY.out h.2.1).mono ?_
      rintro e w' ⟨rfl, rfl⟩
      go_wp2_with fail
      refine Calls.mono G3.out ?_
      rintro e w' ⟨rfl, rfl⟩
      go_wp2_with fail
      refine Calls.mono G4.out ?_
      rintro e w' ⟨rfl, rfl⟩
      go_wp2_with fail
      refine (money_yes x _ HX.out).mono ?_
      rintro e w' ⟨rfl, rfl⟩
      go_wp2_with fail
      refine (money_no y _ HY.out).mono ?_
      rintro e w' ⟨rfl, rfl⟩
      go_wp2_with fail
      refine (avalid_yes x _ HX.out).mono ?_
      rintro e w' ⟨rfl, rfl⟩
      go_wp2_with fail
      refine (money_yes x _ HX.out).mono ?_
      rintro e w' ⟨rfl, rfl⟩
      go_wp2_with (go_at_call 7; refine (awake_any _).mono ?_; rintro e w' ⟨rfl, rfl⟩)
      go_ret
      exact ⟨rfl, Below.refl _ _⟩
  · have HX : Hid (¬ Amt x) := hx
    clear hx
    go_enter Try.func3, Try.ntmps3
    go_wp2_with fail
    refine Calls.mono G1.out ?_
    rintro e w' ⟨rfl, rfl⟩
    go_wp2_with fail
    refine Calls.mono G2.out ?_
    rintro e w' ⟨rfl, rfl⟩
    go_wp2_with fail
    refine (asub_over x y _ fun h => HX.out h.1).mono ?_
    rintro e w' ⟨rfl, rfl⟩
    go_wp2_with fail
    refine Calls.mono G3.out ?_
    rintro e w' ⟨rfl, rfl⟩
    go_wp2_with fail
    refine Calls.mono G4.out ?_
    rintro e w' ⟨rfl, rfl⟩
    go_wp2_with fail
    refine (money_no x _ HX.out).mono ?_
    rintro e w' ⟨rfl, rfl⟩
    go_wp2_with fail
    refine (avalid_no x _ HX.out).mono ?_
    rintro e w' ⟨rfl, rfl⟩
    go_wp2_with fail
    refine (money_no x _ HX.out).mono ?_
    rintro e w' ⟨rfl, rfl⟩
    go_wp2_with (go_at_call 7; refine (awake_any _).mono ?_; rintro e w' ⟨rfl, rfl⟩)
    go_ret
    exact ⟨rfl, Below.refl _ _⟩

theorem sums_any (x y : Int) (a : Option Addr) (n cap : Nat) (zs : List Int) (w : World) (h : IsRow .i64 w a n cap zs) :
    Calls Try.prog 3 #[.int .i64 x, .int .i64 y, .slice a n cap] w fun e w' => e = .returned (.bool true) ∧ Below w.heap.size w w' := by
  by_cases hl : 100 < n
  · exact sums_awake x y a n cap w hl
  · obtain ⟨Z, hZ, hI, hc, _⟩ := h.ints
    exact sums_in x y a n cap Z w hZ hI hc (by omega)
end Go.Proofs.Ytpnjfgdccggafaa
