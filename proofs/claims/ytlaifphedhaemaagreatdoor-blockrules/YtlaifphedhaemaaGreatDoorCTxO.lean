/- What comes in: transactions, read as plain data. No program's text is walked here. -/
import Derived.Test.YtlaifphedhaemaaGreatDoorZQ1
import Derived.ChangeArms
import Derived.OpenShut
namespace Go.Proofs.YtlaifphedhaemaaGreatDoor
open Go.ChangeShapes Go.WideShapes Go.ChangeAt Go.RowKit

section
variable {H : Type} {enc : TypeId × Value → H}
variable {w : World} {base : Nat} {spare : Nat → Bool} {held : Bool} {fuel : Nat}
theorem byte_back {k : Int} (h : (Lit.int .u8 k).wf = true) : Y (BitVec.ofInt 8 k) = k := by
  have := bounds_u8 h
  unfold Y; rw [BitVec.toNat_ofInt]; omega
theorem open_hash {cs : List Value} {x : DataW H × List MemPlace} (h : DataW.trod enc Tryz.prog w base spare held fuel 23 cs = some x) : ∃ tx : List (BitVec 8), tx.length = 32 ∧ cs = u8s tx := by
  obtain ⟨xs, m, _, _, hl, hx, hel⟩ := DataW.trod_array Tryz.underlying23 h
  have c5 : Tryz.prog.cellsOf 5 = 1 := by kernel_rfl
  have c24 : Tryz.prog.cellsOf 23 = 32 := by kernel_rfl
  rw [c24] at hl
  have each : ∀ i, i < 32 → ∃ k : Int, cs[i]? = some (.int .u8 k) ∧ (Lit.int .u8 k).wf = true := by
    intro i hi
    have hi' := hel i hi
    rw [c5, Nat.mul_one, List.getElem?_eq_getElem (by omega)] at hi'
    obtain ⟨k, hk, _, hwf⟩ := DataW.trod_int Tryz.underlying5 hi'
    refine ⟨k, ?_, hwf⟩
    have := congrArg (fun l : List Value => l[0]?) hk
    simpa [List.getElem?_take, List.getElem?_drop] using this
  refine ⟨cs.map fun v => BitVec.ofInt 8 (intOf v), by simp [hl], ?_⟩
  apply List.ext_getElem?
  intro i
  by_cases hi : i < 32
  · obtain ⟨k, hk, hwf⟩ := each i hi
    rw [u8s_get _ i (by simp; omega), List.getD_eq_getElem?_getD, List.getElem?_map, hk]
    simp only [Option.map_some, Option.getD_some, intOf]
    rw [byte_back hwf]
  · rw [List.getElem?_eq_none (by omega), List.getElem?_eq_none (by simp; omega)]
theorem open_pt {cs : List Value} {x : DataW H × List MemPlace} (h : DataW.trod enc Tryz.prog w base spare held fuel 53 cs = some x) : ∃ p : Pt, cs = p.cs := by
  obtain ⟨xs, m, _, _, hl, hx, hel⟩ := DataW.trod_struct Tryz.underlying53 h
  have c26 : Tryz.prog.cellsOf 53 = 33 := by kernel_rfl
  have c24 : Tryz.prog.cellsOf 23 = 32 := by kernel_rfl
  have c3 : Tryz.prog.cellsOf 3 = 1 := by kernel_rfl
  rw [c26] at hl
  have h0 := hel 0 _ rfl
  have h1 := hel 1 _ rfl
  have hx2 : xs.length = 2 := hx
  rw [List.getElem?_eq_getElem (by omega)] at h0 h1
  change DataW.trod enc Tryz.prog w base spare held m 23 ((cs.drop 0).take (Tryz.prog.cellsOf 23)) = _ at h0
  change DataW.trod enc Tryz.prog w base spare held m 3 ((cs.drop 32).take (Tryz.prog.cellsOf 3)) = _ at h1
  rw [c24, List.drop_zero] at h0
  rw [c3] at h1
  obtain ⟨tx, htx, e0⟩ := open_hash h0
  obtain ⟨n, e1, _, _⟩ := DataW.trod_int Tryz.underlying3 h1
  refine ⟨⟨tx, n, htx⟩, ?_⟩
  have e2 : cs.drop 32 = [.int .i64 n] := by
    rw [← e1, List.take_of_length_le (by rw [List.length_drop]; omega)]
  rw [Pt.cs, ← e0, ← e2, List.take_append_drop]
theorem mapM_at {α β : Type} {f : α → Option β} : ∀ {l : List α} {r : List β}, l.mapM f = some r → r.length = l.length ∧ ∀ (i : Nat) (x : α), l[i]? = some x → f x = r[i]?
  | [], r, h => by simp at h; subst h; simp
  | y :: l, r, h => by
    rw [List.mapM_cons] at h
    cases hy : f y with
    | none => simp [hy] at h
    | some z =>
      cases hl : l.mapM f with
      | none => simp [hy, hl] at h
      | some zs =>
        simp [hy, hl] at h
        subst h
        obtain ⟨h1, h2⟩ := mapM_at hl
        refine ⟨by simp [h1], fun i x hx => ?_⟩
        cases i with
        | zero => simp at hx; subst hx; simpa using hy
        | succ i => simp at hx ⊢; exact h2 i x hx
theorem cells_at {a : Addr} {n : Nat} {cs : List Value} (h : w.cells? base a n = some cs) : cs.length = n ∧ ∀ j, j < n → w.cell? (a.add j) = cs[j]? := by
  unfold World.cells? at h
  split at h
  · obtain ⟨h1, h2⟩ := mapM_at h
    exact ⟨by simpa using h1, fun j hj => h2 j j (by simp [hj])⟩
  · cases h

/-- Fields, one behind the other. -/
theorem take_one {cs : List Value} {o : Nat} {v : Value} (h : (cs.drop o).take 1 = [v]) : cs[o]? = some v := by
  have := congrArg (fun l : List Value => l[0]?) h
  simpa [List.getElem?_take, List.getElem?_drop] using this
theorem drop_cons {cs : List Value} {o : Nat} {v : Value} (h : cs[o]? = some v) : cs.drop o = v :: cs.drop (o + 1) := by
  have hl := List.getElem?_eq_some_iff.1 h
  rw [List.drop_eq_getElem_cons hl.1, hl.2]
theorem open_int1 {cs : List Value} {o m : Nat} {x : Option (DataW H × List MemPlace)} {y : DataW H × List MemPlace} (hx : x = some y) (h : DataW.trod enc Tryz.prog w base spare held m 3 ((cs.drop o).take (Tryz.prog.cellsOf 3)) = x) : ∃ n, cs[o]? = some (.int .i64 n) := by
  have c3 : Tryz.prog.cellsOf 3 = 1 := by kernel_rfl
  rw [c3, hx] at h
  obtain ⟨n, e, _, _⟩ := DataW.trod_int Tryz.underlying3 h
  exact ⟨n, take_one e⟩
theorem open_str1 {cs : List Value} {o m : Nat} {x : Option (DataW H × List MemPlace)} {y : DataW H × List MemPlace} (hx : x = some y) (h : DataW.trod enc Tryz.prog w base spare held m 9 ((cs.drop o).take (Tryz.prog.cellsOf 9)) = x) : ∃ s, cs[o]? = some (.string s) := by
  have c3 : Tryz.prog.cellsOf 9 = 1 := by kernel_rfl
  rw [c3, hx] at h
  obtain ⟨n, e, _, _⟩ := DataW.trod_string Tryz.underlying9 h
  exact ⟨n, take_one e⟩
theorem open_wit {cs : List Value} {x : DataW H × List MemPlace} (h : DataW.trod enc Tryz.prog w base spare held fuel 55 cs = some x) : ∃ k key pre, cs = [.int .i64 k, .int .i64 key, .string pre] := by
  obtain ⟨xs, m, _, _, hl, hx, hel⟩ := DataW.trod_struct Tryz.underlying55 h
  have c : Tryz.prog.cellsOf 55 = 3 := by kernel_rfl
  rw [c] at hl
  have hx3 : xs.length = 3 := hx
  obtain ⟨k, e0⟩ := open_int1 (List.getElem?_eq_getElem (show 0 < xs.length by omega)) (hel 0 _ rfl)
  obtain ⟨key, e1⟩ := open_int1 (List.getElem?_eq_getElem (show 1 < xs.length by omega)) (hel 1 _ rfl)
  obtain ⟨pre, e2⟩ := open_str1 (List.getElem?_eq_getElem (show 2 < xs.length by omega)) (hel 2 _ rfl)
  refine ⟨k, key, pre, List.ext_getElem? fun i => ?_⟩
  rcases i with _ | _ | _ | i
  · exact e0
  · exact e1
  · exact e2
  · rw [List.getElem?_eq_none (by omega), List.getElem?_eq_none (by simp)]
theorem open_in {cs : List Value} {x : DataW H × List MemPlace} (h : DataW.trod enc Tryz.prog w base spare held fuel 57 cs = some x) : ∃ p : In, cs = p.cs := by
  obtain ⟨xs, m, _, _, hl, hx, hel⟩ := DataW.trod_struct Tryz.underlying57 h
  have c : Tryz.prog.cellsOf 57 = 37 := by kernel_rfl
  have cp : Tryz.prog.cellsOf 53 = 33 := by kernel_rfl
  have cw : Tryz.prog.cellsOf 55 = 3 := by kernel_rfl
  rw [c] at hl
  have hx3 : xs.length = 3 := hx
  have h0 := hel 0 _ rfl
  have h2 := hel 2 _ rfl
  rw [List.getElem?_eq_getElem (by omega)] at h0 h2
  change DataW.trod enc Tryz.prog w base spare held m 53 ((cs.drop 0).take (Tryz.prog.cellsOf 53)) = _ at h0
  change DataW.trod enc Tryz.prog w base spare held m 55 ((cs.drop 34).take (Tryz.prog.cellsOf 55)) = _ at h2
  rw [cp, List.drop_zero] at h0
  rw [cw] at h2
  obtain ⟨p, e0⟩ := open_pt h0
  obtain ⟨sq, e1⟩ : ∃ sq, cs[33]? = some (.int .i64 sq) := open_int1 (List.getElem?_eq_getElem (show 1 < xs.length by omega)) (hel 1 _ rfl)
  obtain ⟨k, key, pre, e2⟩ := open_wit h2
  rw [List.take_of_length_le (by rw [List.length_drop]; omega)] at e2
  refine ⟨⟨p, sq, k, key, pre⟩, ?_⟩
  have e3 : cs.drop 33 = .int .i64 sq :: cs.drop 34 := drop_cons e1
  show cs = p.cs ++ [.int .i64 sq, .int .i64 k, .int .i64 key, .string pre]
  rw [← e0, ← e2, ← e3, List.take_append_drop]
theorem open_scr {cs : List Value} {x : DataW H × List MemPlace} (h : DataW.trod enc Tryz.prog w base spare held fuel 65 cs = some x) : ∃ p : Scr, cs = p.cs := by
  obtain ⟨xs, m, _, _, hl, hx, hel⟩ := DataW.trod_struct Tryz.underlying65 h
  have c : Tryz.prog.cellsOf 65 = 38 := by kernel_rfl
  have ch : Tryz.prog.cellsOf 23 = 32 := by kernel_rfl
  rw [c] at hl
  have hx3 : xs.length = 7 := hx
  obtain ⟨n0, e0⟩ := open_int1 (List.getElem?_eq_getElem (show 0 < xs.length by omega)) (hel 0 _ rfl)
  obtain ⟨n1, e1⟩ := open_int1 (List.getElem?_eq_getElem (show 1 < xs.length by omega)) (hel 1 _ rfl)
  obtain ⟨n2, e2⟩ := open_int1 (List.getElem?_eq_getElem (show 2 < xs.length by omega)) (hel 2 _ rfl)
  obtain ⟨n3, e3⟩ := open_int1 (List.getElem?_eq_getElem (show 3 < xs.length by omega)) (hel 3 _ rfl)
  obtain ⟨n4, e4⟩ := open_int1 (List.getElem?_eq_getElem (show 4 < xs.length by omega)) (hel 4 _ rfl)
  obtain ⟨n5, e5⟩ := open_int1 (List.getElem?_eq_getElem (show 5 < xs.length by omega)) (hel 5 _ rfl)
  have h6 := hel 6 _ rfl
  rw [List.getElem?_eq_getElem (by omega)] at h6
  change DataW.trod enc Tryz.prog w base spare held m 23 ((cs.drop 6).take (Tryz.prog.cellsOf 23)) = _ at h6
  rw [ch] at h6
  obtain ⟨tx, htx, e6⟩ := open_hash h6
  rw [List.take_of_length_le (by rw [List.length_drop]; omega)] at e6
  refine ⟨⟨n0, n1, n2, n3, n4, n5, tx, htx⟩, ?_⟩
  show cs = [.int .i64 n0, .int .i64 n1, .int .i64 n2, .int .i64 n3, .int .i64 n4, .int .i64 n5] ++ u8s tx
  rw [← e6]
  apply List.ext_getElem?
  intro i
  rcases i with _ | _ | _ | _ | _ | _ | i
  · exact e0
  · exact e1
  · exact e2
  · exact e3
  · exact e4
  · exact e5
  · rw [List.getElem?_append_right (by simp), List.getElem?_drop]
    exact congrArg (fun n => cs[n]?) (by simp only [List.length_cons, List.length_nil]; omega)
theorem open_out {cs : List Value} {x : DataW H × List MemPlace} (h : DataW.trod enc Tryz.prog w base spare held fuel 67 cs = some x) : ∃ p : Out, cs = p.cs := by
  obtain ⟨xs, m, _, _, hl, hx, hel⟩ := DataW.trod_struct Tryz.underlying67 h
  have c : Tryz.prog.cellsOf 67 = 39 := by kernel_rfl
  have ch : Tryz.prog.cellsOf 65 = 38 := by kernel_rfl
  rw [c] at hl
  have hx3 : xs.length = 2 := hx
  obtain ⟨n0, e0⟩ := open_int1 (List.getElem?_eq_getElem (show 0 < xs.length by omega)) (hel 0 _ rfl)
  have h1 := hel 1 _ rfl
  rw [List.getElem?_eq_getElem (by omega)] at h1
  change DataW.trod enc Tryz.prog w base spare held m 65 ((cs.drop 1).take (Tryz.prog.cellsOf 65)) = _ at h1
  rw [ch] at h1
  obtain ⟨s, e1⟩ := open_scr h1
  rw [List.take_of_length_le (by rw [List.length_drop]; omega)] at e1
  refine ⟨⟨n0, s⟩, ?_⟩
  show cs = .int .i64 n0 :: s.cs
  rw [← e1]
  apply List.ext_getElem?
  intro i
  rcases i with _ | i
  · exact e0
  · rw [List.getElem?_cons_succ, List.getElem?_drop, Nat.add_comm]
theorem open_els {α : Type} [El α] {S T : TypeId} (hS : Tryz.prog.underlying S = some (.slice T)) (hc : Tryz.prog.cellsOf T = El.k α) (hk : 0 < El.k α)
    (ho : ∀ (fuel : Nat) (cs : List Value) (x : DataW H × List MemPlace), DataW.trod enc Tryz.prog w base spare held fuel T cs = some x → ∃ p : α, cs = El.cs p)
    {cs : List Value} {x : DataW H × List MemPlace} (h : DataW.trod enc Tryz.prog w base spare held fuel S cs = some x) : ∃ (a : Option Addr) (len cap : Nat) (l : List α), cs = [.slice a len cap] ∧ Els w a len cap l := by
  rcases DataW.trod_slice hS h with ⟨hcs, _⟩ | ⟨ad, len, cap, elems, rest, m, _, hcs, _, _, hl, hm, hlen, hel, _⟩
  · exact ⟨none, 0, 0, [], hcs, Els.nil w⟩
  · have each : ∀ i, i < len → ∃ p : α, ∀ j, j < El.k α → w.cell? ((ad.add (i * El.k α)).add j) = (El.cs p)[j]? := by
      intro i hi
      have h := hel i hi
      rw [hc, List.getElem?_eq_getElem (by omega)] at h
      cases hcc : w.cells? base (ad.add (i * El.k α)) (El.k α) with
      | none => rw [hcc] at h; cases h
      | some cs =>
        rw [hcc] at h
        obtain ⟨p, rfl⟩ := ho _ _ _ h
        exact ⟨p, (cells_at hcc).2⟩
    have hex : ∀ k, k ≤ len → ∃ l : List α, l.length = k ∧ ∀ i, i < k → ∀ j, j < El.k α → w.cell? ((ad.add (i * El.k α)).add j) = (El.cs (l.getD i El.dflt))[j]? := by
      intro k
      induction k with
      | zero => intro _; exact ⟨[], rfl, fun i hi => absurd hi (Nat.not_lt_zero _)⟩
      | succ k ih =>
        intro hk
        obtain ⟨l, hl1, hl2⟩ := ih (by omega)
        obtain ⟨p, hp⟩ := each k (by omega)
        refine ⟨l ++ [p], by simp [hl1], fun i hi j hj => ?_⟩
        rw [List.getD_eq_getElem?_getD]
        by_cases e : i = k
        · subst e
          rw [List.getElem?_append_right (by omega), hl1, Nat.sub_self]
          exact hp j hj
        · rw [List.getElem?_append_left (by omega), ← List.getD_eq_getElem?_getD]
          exact hl2 i (by omega) j hj
    obtain ⟨l, hl1, hl2⟩ := hex len (Nat.le_refl _)
    refine ⟨some ad, len, cap, l, hcs, hl1, hl, hm, (fun e => nomatch e), fun h0 => ?_⟩
    obtain ⟨b, o, s⟩ := ad
    have hs : s = none := by
      have h := hl2 0 h0 0 hk
      cases s with
      | none => rfl
      | some q =>
        have hp : (El.cs (l.getD 0 El.dflt))[0]? ≠ none := by
          rw [List.getElem?_eq_getElem (by rw [El.len]; exact hk)]; exact fun e => nomatch e
        exfalso
        apply hp
        rw [← h, show ((⟨b, o, some q⟩ : Addr).add (0 * El.k α)).add 0 = ⟨b, o, some q⟩ by simp [Addr.add]]
        unfold World.cell?
        split
        · rfl
        · rfl
    subst hs
    refine ⟨b, o, rfl, fun t v hv => ?_⟩
    have ht : t < len * El.k α := by
      have := (List.getElem?_eq_some_iff.1 hv).1
      rw [flatE_length, hl1] at this; exact this
    have hq : t / El.k α < len := (Nat.div_lt_iff_lt_mul hk).2 ht
    have hr : t % El.k α < El.k α := Nat.mod_lt _ hk
    have e := hl2 (t / El.k α) hq (t % El.k α) hr
    rw [Addr.add_mid, Addr.add_mid, ← flatE_get l _ _ (by omega) hr, Nat.div_add_mod', hv, Nat.add_assoc, Nat.div_add_mod'] at e
    exact e
theorem open_tx {cs : List Value} {x : DataW H × List MemPlace} (h : DataW.trod enc Tryz.prog w base spare held fuel 61 cs = some x) : ∃ (tv : TxV) (t : TxD), Value.agg cs.toArray = tv.val t.lock ∧ TxAt w tv t := by
  obtain ⟨xs, m, _, _, hl, hx, hel⟩ := DataW.trod_struct Tryz.underlying61 h
  have c : Tryz.prog.cellsOf 61 = 3 := by kernel_rfl
  have c0 : Tryz.prog.cellsOf 58 = 1 := by kernel_rfl
  have c1 : Tryz.prog.cellsOf 59 = 1 := by kernel_rfl
  rw [c] at hl
  have hx3 : xs.length = 3 := hx
  have h0 := hel 0 _ rfl
  have h1 := hel 1 _ rfl
  rw [List.getElem?_eq_getElem (by omega)] at h0 h1
  change DataW.trod enc Tryz.prog w base spare held m 58 ((cs.drop 0).take (Tryz.prog.cellsOf 58)) = _ at h0
  change DataW.trod enc Tryz.prog w base spare held m 59 ((cs.drop 1).take (Tryz.prog.cellsOf 59)) = _ at h1
  rw [c0] at h0
  rw [c1] at h1
  obtain ⟨a, n, c, l, e0, hE0⟩ := open_els (α := In) Tryz.underlying58 (by kernel_rfl) (by decide) (fun _ _ _ h => open_in h) h0
  obtain ⟨b, k, d, r, e1, hE1⟩ := open_els (α := Out) Tryz.underlying59 (by kernel_rfl) (by decide) (fun _ _ _ h => open_out h) h1
  obtain ⟨lk, e2⟩ := open_int1 (List.getElem?_eq_getElem (show 2 < xs.length by omega)) (hel 2 _ rfl)
  refine ⟨⟨a, n, c, b, k, d⟩, ⟨l, r, lk⟩, ?_, ⟨hE0, hE1⟩⟩
  have : cs = [.slice a n c, .slice b k d, .int .i64 lk] := by
    apply List.ext_getElem?
    intro i
    rcases i with _ | _ | _ | i
    · exact take_one e0
    · exact take_one e1
    · exact e2
    · rw [List.getElem?_eq_none (by omega), List.getElem?_eq_none (by simp)]
  rw [this]; rfl
end
end Go.Proofs.YtlaifphedhaemaaGreatDoor
