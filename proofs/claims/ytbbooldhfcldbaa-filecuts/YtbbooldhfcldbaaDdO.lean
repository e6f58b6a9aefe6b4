/- What comes in: deeds, and picks, read as plain data. No program's text is walked here. -/
import Derived.Test.YtbbooldhfcldbaaLCuts
import Derived.ChangeArms
import Derived.OpenShut
import Derived.ShutString
import Derived.ChangeOld
namespace Go.Proofs.Ytbbooldhfcldbaa
open Go.ChangeShapes Go.WideShapes Go.ChangeAt Go.RowKit

section
variable {H : Type} {enc : TypeId × Value → H}
variable {w : World} {base : Nat} {spare : Nat → Bool} {held : Bool} {fuel : Nat}
theorem mapM_at {α β : Type} {f : α → Option β} : ∀ {l : List α} {r : List β}, l.mapM f = some r → r.length = l.length ∧ ∀ (i : Nat) (x : α), l[i]? = some x → f x = r[i]?
  | [], r, h => by simp at h; subst h; simp
  | y :: l, r, h => by
    rw [List.mapM_cons] at h
    cases hy : f y with
    | none => simp [hy] at h
    | some z =>
      cases hl : l.mapM f with
      | none => simp [hy, hl] at h
      | some zs =>
        simp [hy, hl] at h
        subst h
        obtain ⟨h1, h2⟩ := mapM_at hl
        refine ⟨by simp [h1], fun i x hx => ?_⟩
        cases i with
        | zero => simp at hx; subst hx; simpa using hy
        | succ i => simp at hx ⊢; exact h2 i x hx
theorem cells_at {a : Addr} {n : Nat} {cs : List Value} (h : w.cells? base a n = some cs) : cs.length = n ∧ ∀ j, j < n → w.cell? (a.add j) = cs[j]? := by
  unfold World.cells? at h
  split at h
  · obtain ⟨h1, h2⟩ := mapM_at h
    exact ⟨by simpa using h1, fun j hj => h2 j j (by simp [hj])⟩
  · cases h
theorem take_one {cs : List Value} {o : Nat} {v : Value} (h : (cs.drop o).take 1 = [v]) : cs[o]? = some v := by
  have := congrArg (fun l : List Value => l[0]?) h
  simpa [List.getElem?_take, List.getElem?_drop] using this
theorem open_int1 {cs : List Value} {o m : Nat} {x : Option (DataW H × List MemPlace)} {y : DataW H × List MemPlace} (hx : x = some y) (h : DataW.trod enc Try.prog w base spare held m 3 ((cs.drop o).take (Try.prog.cellsOf 3)) = x) : ∃ n, cs[o]? = some (.int .i64 n) := by
  have c3 : Try.prog.cellsOf 3 = 1 := by kernel_rfl
  rw [c3, hx] at h
  obtain ⟨n, e, _, _⟩ := DataW.trod_int Try.underlying3 h
  exact ⟨n, take_one e⟩
theorem open_str1 {cs : List Value} {o m : Nat} {x : Option (DataW H × List MemPlace)} {y : DataW H × List MemPlace} (hx : x = some y) (h : DataW.trod enc Try.prog w base spare held m 9 ((cs.drop o).take (Try.prog.cellsOf 9)) = x) : ∃ s, cs[o]? = some (.string s) := by
  have c3 : Try.prog.cellsOf 9 = 1 := by kernel_rfl
  rw [c3, hx] at h
  obtain ⟨n, e, _, _⟩ := DataW.trod_string Try.underlying9 h
  exact ⟨n, take_one e⟩
theorem open_deed {cs : List Value} {x : DataW H × List MemPlace} (h : DataW.trod enc Try.prog w base spare held fuel 32 cs = some x) : ∃ d : Deed, cs = [.int .i64 d.k, .string d.a, .string d.b, .int .i64 d.n] := by
  obtain ⟨xs, m, _, _, hl, hx, hel⟩ := DataW.trod_struct Try.underlying32 h
  have c : Try.prog.cellsOf 32 = 4 := by kernel_rfl
  rw [c] at hl
  have hx3 : xs.length = 4 := hx
  obtain ⟨k, e0⟩ := open_int1 (List.getElem?_eq_getElem (show 0 < xs.length by omega)) (hel 0 _ rfl)
  obtain ⟨a, e1⟩ := open_str1 (List.getElem?_eq_getElem (show 1 < xs.length by omega)) (hel 1 _ rfl)
  obtain ⟨b, e2⟩ := open_str1 (List.getElem?_eq_getElem (show 2 < xs.length by omega)) (hel 2 _ rfl)
  obtain ⟨n, e3⟩ := open_int1 (List.getElem?_eq_getElem (show 3 < xs.length by omega)) (hel 3 _ rfl)
  refine ⟨⟨k, a, b, n⟩, List.ext_getElem? fun i => ?_⟩
  rcases i with _ | _ | _ | _ | i
  · exact e0
  · exact e1
  · exact e2
  · exact e3
  · rw [List.getElem?_eq_none (by omega), List.getElem?_eq_none (by simp)]
/-- A row of values that read as p's: where it lies. -/
theorem open_row {S T : TypeId} {K : Nat} (hS : Try.prog.underlying S = some (.slice T)) (hc : Try.prog.cellsOf T = K) (hk : 0 < K) {α : Type} (C : α → List Value) (hC : ∀ p, (C p).length = K) (dfl : α)
    (ho : ∀ (fuel : Nat) (cs : List Value) (x : DataW H × List MemPlace), DataW.trod enc Try.prog w base spare held fuel T cs = some x → ∃ p : α, cs = C p)
    {cs : List Value} {x : DataW H × List MemPlace} (h : DataW.trod enc Try.prog w base spare held fuel S cs = some x) : ∃ (a : Option Addr) (len cap : Nat) (l : List α), cs = [.slice a len cap] ∧ l.length = len ∧ len ≤ cap ∧ cap ≤ maxLen ∧ (l = [] ∨ ∃ b o, a = some ⟨b, o, none⟩ ∧ ∀ i, i < len → ∀ j, j < K → w.cell? ⟨b, o + i * K + j, none⟩ = (C (l.getD i dfl))[j]?) := by
  rcases DataW.trod_slice hS h with ⟨hcs, _⟩ | ⟨ad, len, cap, elems, rest, m, _, hcs, _, _, hl, hm, hlen, hel, _⟩
  · exact ⟨none, 0, 0, [], hcs, rfl, Nat.le_refl _, Nat.zero_le _, .inl rfl⟩
  · have each : ∀ i, i < len → ∃ p : α, ∀ j, j < K → w.cell? ((ad.add (i * K)).add j) = (C p)[j]? := by
      intro i hi
      have h := hel i hi
      rw [hc, List.getElem?_eq_getElem (by omega)] at h
      cases hcc : w.cells? base (ad.add (i * K)) K with
      | none => rw [hcc] at h; cases h
      | some cs =>
        rw [hcc] at h
        obtain ⟨p, rfl⟩ := ho _ _ _ h
        exact ⟨p, (cells_at hcc).2⟩
    have hex : ∀ k, k ≤ len → ∃ l : List α, l.length = k ∧ ∀ i, i < k → ∀ j, j < K → w.cell? ((ad.add (i * K)).add j) = (C (l.getD i dfl))[j]? := by
      intro k
      induction k with
      | zero => intro _; exact ⟨[], rfl, fun i hi => absurd hi (Nat.not_lt_zero _)⟩
      | succ k ih =>
        intro hk
        obtain ⟨l, hl1, hl2⟩ := ih (by omega)
        obtain ⟨p, hp⟩ := each k (by omega)
        refine ⟨l ++ [p], by simp [hl1], fun i hi j hj => ?_⟩
        rw [List.getD_eq_getElem?_getD]
        by_cases e : i = k
        · subst e
          rw [List.getElem?_append_right (by omega), hl1, Nat.sub_self]
          exact hp j hj
        · rw [List.getElem?_append_left (by omega), ← List.getD_eq_getElem?_getD]
          exact hl2 i (by omega) j hj
    obtain ⟨l, hl1, hl2⟩ := hex len (Nat.le_refl _)
    refine ⟨some ad, len, cap, l, hcs, hl1, hl, hm, ?_⟩
    by_cases h0 : 0 < len
    · right
      obtain ⟨b, o, s⟩ := ad
      have hs : s = none := by
        have h := hl2 0 h0 0 hk
        cases s with
        | none => rfl
        | some q =>
          have hp : (C (l.getD 0 dfl))[0]? ≠ none := by
            rw [List.getElem?_eq_getElem (by rw [hC]; exact hk)]; exact fun e => nomatch e
          exfalso
          apply hp
          rw [← h, show ((⟨b, o, some q⟩ : Addr).add (0 * K)).add 0 = ⟨b, o, some q⟩ by simp [Addr.add]]
          unfold World.cell?
          split
          · rfl
          · rfl
      subst hs
      refine ⟨b, o, rfl, fun i hi j hj => ?_⟩
      have e := hl2 i hi j hj
      rw [Addr.add_mid, Addr.add_mid] at e
      exact e
    · left
      exact List.eq_nil_of_length_eq_zero (by omega)
theorem open_deeds {a : Option Addr} {len cap : Nat} {x : DataW H × List MemPlace} (h : DataW.trod enc Try.prog w base spare held fuel 22 [.slice a len cap] = some x) : ∃ l : List Deed, l.length = len ∧ len ≤ cap ∧ cap ≤ maxLen ∧ Deeds w a l := by
  obtain ⟨a', len', cap', l, e, h1, h2, h3, h4⟩ := open_row (α := Deed) (K := 4) Try.underlying22 (by kernel_rfl) (by decide) (fun d => [.int .i64 d.k, .string d.a, .string d.b, .int .i64 d.n]) (fun _ => rfl) ⟨0, ByteArray.empty, ByteArray.empty, 0⟩ (fun _ _ _ h => open_deed h) h
  injection e with e _
  injection e with e1 e2 e3
  subst e1 e2 e3
  refine ⟨l, h1, h2, h3, h4.imp id ?_⟩
  rintro ⟨b, o, rfl, hc⟩
  refine ⟨b, o, rfl, fun j d hd => ?_⟩
  have hj : j < len := by rw [← h1]; exact (List.getElem?_eq_some_iff.1 hd).1
  have hg : l.getD j ⟨0, ByteArray.empty, ByteArray.empty, 0⟩ = d := by rw [List.getD_eq_getElem?_getD, hd]; rfl
  have hcj := hc j hj
  rw [hg] at hcj
  exact ⟨hcj 0 (by decide), hcj 1 (by decide), hcj 2 (by decide), hcj 3 (by decide)⟩
theorem open_picks {a : Option Addr} {len cap : Nat} {x : DataW H × List MemPlace} (h : DataW.trod enc Try.prog w base spare held fuel 34 [.slice a len cap] = some x) : ∃ l : List Int, l.length = len ∧ len ≤ cap ∧ cap ≤ maxLen ∧ Ints w a l := by
  obtain ⟨a', len', cap', l, e, h1, h2, h3, h4⟩ := open_row (α := Int) (K := 1) Try.underlying34 (by kernel_rfl) (by decide) (fun d => [.int .i64 d]) (fun _ => rfl) 0 (fun _ _ _ h => by
    obtain ⟨n, e, _, _⟩ := DataW.trod_int Try.underlying3 h
    exact ⟨n, e⟩) h
  injection e with e _
  injection e with e1 e2 e3
  subst e1 e2 e3
  refine ⟨l, h1, h2, h3, h4.imp id ?_⟩
  rintro ⟨b, o, rfl, hc⟩
  refine ⟨b, o, rfl, fun i hi => ?_⟩
  have hcj := hc i (by omega) 0 (by decide)
  rw [Nat.mul_one, Nat.add_zero] at hcj
  exact hcj
end
end Go.Proofs.Ytbbooldhfcldbaa
