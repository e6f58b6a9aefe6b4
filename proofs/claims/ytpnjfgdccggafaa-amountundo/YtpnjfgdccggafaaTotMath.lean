/- Mathematics of totals: a total is the total of its parts' totals; what is refused in part is refused in all. No conditions. -/
import Derived.Test.YtpnjfgdccggafaaAmC
namespace Go.Proofs.Ytpnjfgdccggafaa

theorem totR_append (X Y : List Int) : ∀ s, totR s (X ++ Y) = (totR s X).bind fun t => totR t Y := by
  induction X with
  | nil => intro s; rfl
  | cons z zs ih =>
    intro s
    rw [List.cons_append, totR, totR]
    by_cases h : Amt z ∧ Amt (s + z)
    · rw [if_pos h, if_pos h]; exact ih _
    · rw [if_neg h, if_neg h]; rfl
theorem totR_amt {X : List Int} : ∀ {s x}, Amt s → totR s X = some x → Amt x ∧ s ≤ x := by
  induction X with
  | nil => intro s x hs h; rw [totR] at h; obtain rfl := Option.some.inj h; exact ⟨hs, Int.le_refl _⟩
  | cons z zs ih =>
    intro s x hs h
    rw [totR] at h
    by_cases hz : Amt z ∧ Amt (s + z)
    · rw [if_pos hz] at h
      have h1 := ih hz.2 h
      have h2 := hz.1.1
      exact ⟨h1.1, by omega⟩
    · rw [if_neg hz] at h; cases h
theorem totR_shift (s : Int) (Y : List Int) (hs : Amt s) : ∀ u, 0 ≤ u → Amt (s + u) → totR (s + u) Y = (totR u Y).bind fun y => if Amt (s + y) then some (s + y) else none := by
  induction Y with
  | nil => intro u _ h; rw [totR, totR, Option.bind_some, if_pos h]
  | cons z zs ih =>
    intro u hu h
    obtain ⟨s0, s1⟩ := hs
    obtain ⟨h0, h1⟩ := h
    rw [totR, totR]
    by_cases hz : Amt z ∧ Amt (s + u + z)
    · obtain ⟨⟨z0, z1⟩, hz0, hz1⟩ := hz
      rw [if_pos ⟨⟨z0, z1⟩, hz0, hz1⟩, if_pos ⟨⟨z0, z1⟩, by omega, by omega⟩, Int.add_assoc]
      exact ih _ (by omega) ⟨by omega, by omega⟩
    · rw [if_neg hz]
      by_cases hu' : Amt z ∧ Amt (u + z)
      · rw [if_pos hu']
        cases hc : totR (u + z) zs with
        | none => rfl
        | some y =>
          have hy := totR_amt hu'.2 hc
          have hz' : ¬ Amt (s + y) := fun hA => hz ⟨hu'.1, by
            obtain ⟨⟨z0, z1⟩, _, _⟩ := hu'
            obtain ⟨_, hA1⟩ := hA
            exact ⟨by omega, by omega⟩⟩
          rw [Option.bind_some, if_neg hz']
      · rw [if_neg hu']; rfl

/-- What Total answers of a row, by its two parts. -/
theorem tot_parts (Z : List Int) (k : Nat) :
    (totE (Z.take k) = 11 ∧ totE Z = 11 ∧ totN Z = 0) ∨ (totE (Z.take k) = 0 ∧ totE (Z.drop k) = 11 ∧ totE Z = 11 ∧ totN Z = 0) ∨
    (totE (Z.take k) = 0 ∧ totE (Z.drop k) = 0 ∧ totE Z = addE (totN (Z.take k)) (totN (Z.drop k)) ∧ totN Z = addN (totN (Z.take k)) (totN (Z.drop k))) := by
  have hZ : totR 0 Z = (totR 0 (Z.take k)).bind fun t => totR t (Z.drop k) := by rw [← totR_append, List.take_append_drop]
  cases hx : totR 0 (Z.take k) with
  | none =>
    rw [hx] at hZ
    exact .inl ⟨(totNE hx).2, (totNE hZ).2, (totNE hZ).1⟩
  | some x =>
    obtain ⟨hxA, _⟩ := totR_amt (show Amt 0 by decide) hx
    have hs := totR_shift x (Z.drop k) hxA 0 (Int.le_refl _) (by rw [Int.add_zero]; exact hxA)
    rw [Int.add_zero] at hs
    rw [hx, Option.bind_some, hs] at hZ
    cases hy : totR 0 (Z.drop k) with
    | none =>
      rw [hy] at hZ
      exact .inr (.inl ⟨(totNE hx).2, (totNE hy).2, (totNE hZ).2, (totNE hZ).1⟩)
    | some y =>
      obtain ⟨hyA, _⟩ := totR_amt (show Amt 0 by decide) hy
      rw [hy, Option.bind_some] at hZ
      refine .inr (.inr ⟨(totNE hx).2, (totNE hy).2, ?_⟩)
      rw [(totNE hx).1, (totNE hy).1, (totNE hZ).1, (totNE hZ).2]
      unfold addE addN
      by_cases hA : Amt (x + y)
      · rw [if_pos hA, if_pos (show Amt ((some x).getD 0) ∧ Amt ((some y).getD 0) ∧ Amt ((some x).getD 0 + (some y).getD 0) from ⟨hxA, hyA, hA⟩), if_pos (show Amt ((some x).getD 0) ∧ Amt ((some y).getD 0) ∧ Amt ((some x).getD 0 + (some y).getD 0) from ⟨hxA, hyA, hA⟩)]
        exact ⟨rfl, rfl⟩
      · rw [if_neg hA, if_neg fun h : Amt ((some x).getD 0) ∧ Amt ((some y).getD 0) ∧ Amt ((some x).getD 0 + (some y).getD 0) => hA h.2.2, if_neg fun h : Amt ((some x).getD 0) ∧ Amt ((some y).getD 0) ∧ Amt ((some x).getD 0 + (some y).getD 0) => hA h.2.2]
        exact ⟨rfl, rfl⟩

/-- Parts of a row in memory. -/
theorem Ints.take {w : World} {a : Option Addr} {Z : List Int} (h : Ints w a Z) (k : Nat) : Ints w a (Z.take k) := by
  rcases h with rfl | ⟨b, off, rfl, hc⟩
  · exact .inl (by simp)
  · refine .inr ⟨b, off, rfl, fun i hi => ?_⟩
    rw [List.length_take] at hi
    rw [hc i (by omega), List.getD_eq_getElem?_getD, List.getD_eq_getElem?_getD, List.getElem?_take_of_lt (by omega)]
theorem Ints.drop {w : World} {a : Option Addr} {Z : List Int} (h : Ints w a Z) (k cap : Nat) (hc : Z.length ≤ cap) : Ints w (if cap = k then a else a.map (·.add k)) (Z.drop k) := by
  rcases h with rfl | ⟨b, off, rfl, hcs⟩
  · exact .inl (by simp)
  · by_cases hk : cap = k
    · exact .inl (List.drop_of_length_le (by omega))
    · rw [if_neg hk]
      refine .inr ⟨b, off + k, ?_, fun i hi => ?_⟩
      · have hadd : (⟨b, off, none⟩ : Addr).add k = ⟨b, off + k, none⟩ := by unfold Addr.add; split <;> simp_all
        rw [Option.map_some, hadd]
      · rw [List.length_drop] at hi
        rw [Nat.add_assoc, hcs (k + i) (by omega), List.getD_eq_getElem?_getD, List.getD_eq_getElem?_getD, List.getElem?_drop]
end Go.Proofs.Ytpnjfgdccggafaa
