/- What comes in: outpoints and slices of them, read as plain data; a row that lists variables, the world's shape kept. No program's text is walked here. -/
import Derived.Test.YtlgadelcgboeoaaDoorLSets
import Derived.Test.YtlgadelcgboeoaaDoorTie
import Derived.Test.YtlgadelcgboeoaaDoorCards
import Derived.HandedShaped
import Derived.ShutString
import Derived.ChangeOld
import Derived.LaidMore
namespace Go.Proofs.YtlgadelcgboeoaaDoor
open Go.ChangeShapes Go.WideShapes Go.ChangeAt Go.RowKit

section
variable {H : Type} {enc : TypeId × Value → H}
/-- The builder: a condition on the world beside, and the world's shape. -/
theorem handed_both {a : Assume} {C : Checked} {os : Os} {f : FuncId} {fn : Func} {s : ChangeSpec} {conds : List PathCond} {apart fresh handsOn again : Bool} {X : World → Array Value → Prop}
    (hX : ∀ (w w' : World) (args : Array Value), w.heap = w'.heap → X w args → X w' args)
    (own : ownKnob C.prog.godebug = none) (started : os.Started) (noInit : C.prog.inits.idxOf? f = none) (hfn : C.prog.funcs[f]? = some fn)
    (witness : ∃ (w : World) (tape : Tape) (i : Input), w.os = os ∧ (w.forCall tape i).Shaped C.prog ∧ i.vars = [] ∧ Input.okWide C.prog (w.forCall tape i) .any w.heap.size f i ∧
      ((s.pre enc C.prog fn conds apart (w.forCall tape i).memory i.args ∧ X (w.forCall tape i).memory i.args) ∧ sizedMet enc C.prog fn (OpenSpec.ofChange s) apart (w.forCall tape i).memory i.args) ∧ a.holds C.prog (lone (Frame.enter C.prog f i.args .normal) [] (w.forCall tape i)))
    (contract : ∀ (W : World) (base : Nat) (args : Array Value) (ds gs : List (DataW H)) (before : List MemPlace),
      (∀ (j : Nat) t v, fn.params[j]? = some t → args[j]? = some v → Value.okWide C.prog W .any base t v) →
      DataW.Whole enc C.prog fn.params.toList s.vars apart W args.toList ds gs before → X W args → W.ShapedOpen C.prog →
      Calls C.prog f args W fun e W' => ∃ v, e = .returned v ∧ s.post enc C.prog fn apart fresh handsOn again W args v W') :
    ReturnsInHanded a C os f .any (fun w args => (s.pre enc C.prog fn conds apart w args ∧ X w args) ∧ sizedMet enc C.prog fn (OpenSpec.ofChange s) apart w args) (s.post enc C.prog fn apart fresh handsOn again) := by
  refine returnsInHanded_of_calls own started noInit witness ?_
  rintro w tape i - hsh - ⟨_, _, _, fn', hf, _, _, _, _, hval⟩ ⟨⟨⟨ds, gs, before, hw, _⟩, hx⟩, _⟩ _
  obtain rfl : fn' = fn := Option.some.inj (hf.symm.trans hfn)
  have hw' := DataW.Whole.of_heap (w' := w.forCall tape i) (by rfl) hw
  have hx' := hX _ (w.forCall tape i) _ (by rfl) hx
  refine (contract (w.forCall tape i) _ i.args ds gs before hval hw' hx' hsh).mono ?_
  rintro e W' ⟨v, rfl, hp⟩
  exact ChangeSpec.post_blind hp

variable {w : World} {base : Nat} {spare : Nat → Bool} {held : Bool} {fuel : Nat}
theorem byte_back {k : Int} (h : (Lit.int .u8 k).wf = true) : Y (BitVec.ofInt 8 k) = k := by
  have := bounds_u8 h
  unfold Y; rw [BitVec.toNat_ofInt]; omega
theorem open_hash {cs : List Value} {x : DataW H × List MemPlace} (h : DataW.trod enc Tryd.prog w base spare held fuel 24 cs = some x) : ∃ tx : List (BitVec 8), tx.length = 32 ∧ cs = u8s tx := by
  obtain ⟨xs, m, _, _, hl, hx, hel⟩ := DataW.trod_array Tryd.underlying24 h
  have c5 : Tryd.prog.cellsOf 5 = 1 := by kernel_rfl
  have c24 : Tryd.prog.cellsOf 24 = 32 := by kernel_rfl
  rw [c24] at hl
  have each : ∀ i, i < 32 → ∃ k : Int, cs[i]? = some (.int .u8 k) ∧ (Lit.int .u8 k).wf = true := by
    intro i hi
    have hi' := hel i hi
    rw [c5, Nat.mul_one, List.getElem?_eq_getElem (by omega)] at hi'
    obtain ⟨k, hk, _, hwf⟩ := DataW.trod_int Tryd.underlying5 hi'
    refine ⟨k, ?_, hwf⟩
    have := congrArg (fun l : List Value => l[0]?) hk
    simpa [List.getElem?_take, List.getElem?_drop] using this
  refine ⟨cs.map fun v => BitVec.ofInt 8 (intOf v), by simp [hl], ?_⟩
  apply List.ext_getElem?
  intro i
  by_cases hi : i < 32
  · obtain ⟨k, hk, hwf⟩ := each i hi
    rw [u8s_get _ i (by simp; omega), List.getD_eq_getElem?_getD, List.getElem?_map, hk]
    simp only [Option.map_some, Option.getD_some, intOf]
    rw [byte_back hwf]
  · rw [List.getElem?_eq_none (by omega), List.getElem?_eq_none (by simp; omega)]
theorem open_pt {cs : List Value} {x : DataW H × List MemPlace} (h : DataW.trod enc Tryd.prog w base spare held fuel 26 cs = some x) : ∃ p : Pt, cs = p.cs := by
  obtain ⟨xs, m, _, _, hl, hx, hel⟩ := DataW.trod_struct Tryd.underlying26 h
  have c26 : Tryd.prog.cellsOf 26 = 33 := by kernel_rfl
  have c24 : Tryd.prog.cellsOf 24 = 32 := by kernel_rfl
  have c3 : Tryd.prog.cellsOf 3 = 1 := by kernel_rfl
  rw [c26] at hl
  have h0 := hel 0 _ rfl
  have h1 := hel 1 _ rfl
  have hx2 : xs.length = 2 := hx
  rw [List.getElem?_eq_getElem (by omega)] at h0 h1
  change DataW.trod enc Tryd.prog w base spare held m 24 ((cs.drop 0).take (Tryd.prog.cellsOf 24)) = _ at h0
  change DataW.trod enc Tryd.prog w base spare held m 3 ((cs.drop 32).take (Tryd.prog.cellsOf 3)) = _ at h1
  rw [c24, List.drop_zero] at h0
  rw [c3] at h1
  obtain ⟨tx, htx, e0⟩ := open_hash h0
  obtain ⟨n, e1, _, _⟩ := DataW.trod_int Tryd.underlying3 h1
  refine ⟨⟨tx, n, htx⟩, ?_⟩
  have e2 : cs.drop 32 = [.int .i64 n] := by
    rw [← e1, List.take_of_length_le (by rw [List.length_drop]; omega)]
  rw [Pt.cs, ← e0, ← e2, List.take_append_drop]
theorem mapM_at {α β : Type} {f : α → Option β} : ∀ {l : List α} {r : List β}, l.mapM f = some r → r.length = l.length ∧ ∀ (i : Nat) (x : α), l[i]? = some x → f x = r[i]?
  | [], r, h => by simp at h; subst h; simp
  | y :: l, r, h => by
    rw [List.mapM_cons] at h
    cases hy : f y with
    | none => simp [hy] at h
    | some z =>
      cases hl : l.mapM f with
      | none => simp [hy, hl] at h
      | some zs =>
        simp [hy, hl] at h
        subst h
        obtain ⟨h1, h2⟩ := mapM_at hl
        refine ⟨by simp [h1], fun i x hx => ?_⟩
        cases i with
        | zero => simp at hx; subst hx; simpa using hy
        | succ i => simp at hx ⊢; exact h2 i x hx
theorem cells_at {a : Addr} {n : Nat} {cs : List Value} (h : w.cells? base a n = some cs) : cs.length = n ∧ ∀ j, j < n → w.cell? (a.add j) = cs[j]? := by
  unfold World.cells? at h
  split at h
  · obtain ⟨h1, h2⟩ := mapM_at h
    exact ⟨by simpa using h1, fun j hj => h2 j j (by simp [hj])⟩
  · cases h
theorem Pts.nil0 (w : World) (l : List Pt) (h : l = []) : Pts w none 0 0 l := by subst h; exact Pts.nil w
theorem open_pts {a : Option Addr} {len cap : Nat} {x : DataW H × List MemPlace} (h : DataW.trod enc Tryd.prog w base spare held fuel 22 [.slice a len cap] = some x) : ∃ l : List Pt, Pts w a len cap l := by
  have c26 : Tryd.prog.cellsOf 26 = 33 := by kernel_rfl
  rcases DataW.trod_slice Tryd.underlying22 h with ⟨hcs, _⟩ | ⟨ad, n, c, elems, rest, m, _, hcs, _, _, hl, hm, hlen, hel, _⟩
  · injection hcs with h1
    injection h1 with h1 h2 h3
    subst h1; subst h2; subst h3
    exact ⟨[], Pts.nil w⟩
  · injection hcs with h1
    injection h1 with h1 h2 h3
    subst h1; subst h2; subst h3
    have each : ∀ i, i < len → ∃ p : Pt, ∀ j, j < 33 → w.cell? ((ad.add (i * 33)).add j) = p.cs[j]? := by
      intro i hi
      have h := hel i hi
      rw [c26, List.getElem?_eq_getElem (by omega)] at h
      cases hc : w.cells? base (ad.add (i * 33)) 33 with
      | none => rw [hc] at h; cases h
      | some cs =>
        rw [hc] at h
        obtain ⟨p, rfl⟩ := open_pt h
        exact ⟨p, (cells_at hc).2⟩
    have hex : ∀ k, k ≤ len → ∃ l : List Pt, l.length = k ∧ ∀ i, i < k → ∀ j, j < 33 → w.cell? ((ad.add (i * 33)).add j) = (l.getD i default).cs[j]? := by
      intro k
      induction k with
      | zero => intro _; exact ⟨[], rfl, fun i hi => absurd hi (Nat.not_lt_zero _)⟩
      | succ k ih =>
        intro hk
        obtain ⟨l, hl1, hl2⟩ := ih (by omega)
        obtain ⟨p, hp⟩ := each k (by omega)
        refine ⟨l ++ [p], by simp [hl1], fun i hi j hj => ?_⟩
        rw [List.getD_eq_getElem?_getD]
        by_cases e : i = k
        · subst e
          rw [List.getElem?_append_right (by omega), hl1, Nat.sub_self]
          exact hp j hj
        · rw [List.getElem?_append_left (by omega), ← List.getD_eq_getElem?_getD]
          exact hl2 i (by omega) j hj
    obtain ⟨l, hl1, hl2⟩ := hex len (Nat.le_refl _)
    refine ⟨l, hl1, hl, hm, (fun e => nomatch e), fun h0 => ?_⟩
    obtain ⟨b, o, s⟩ := ad
    have hs : s = none := by
      have h := hl2 0 h0 0 (by omega)
      cases s with
      | none => rfl
      | some q =>
        have hp : (l.getD 0 default).cs[0]? ≠ none := by
          rw [List.getElem?_eq_getElem (by rw [Pt.cs_length]; omega)]; exact fun e => nomatch e
        exfalso
        apply hp
        rw [← h, show ((⟨b, o, some q⟩ : Addr).add (0 * 33)).add 0 = ⟨b, o, some q⟩ by simp [Addr.add]]
        unfold World.cell?
        split
        · rfl
        · rfl
    subst hs
    refine ⟨b, o, rfl, fun t v hv => ?_⟩
    have ht : t < len * 33 := by
      have := (List.getElem?_eq_some_iff.1 hv).1
      rw [flat_length, hl1] at this; exact this
    have hq : t / 33 < len := by omega
    have hr : t % 33 < 33 := Nat.mod_lt _ (by omega)
    have e := hl2 (t / 33) hq (t % 33) hr
    rw [Addr.add_mid, Addr.add_mid, ← flat_get l _ _ (by omega) hr, show t / 33 * 33 + t % 33 = t by omega, hv, Nat.add_assoc, show t / 33 * 33 + t % 33 = t by omega] at e
    exact e
end
theorem mx_of_shape {w : World} (h : w.ShapedOpen Tryd.prog) : Mx w := Tryd.cutS.s1_3 w h
end Go.Proofs.YtlgadelcgboeoaaDoor
