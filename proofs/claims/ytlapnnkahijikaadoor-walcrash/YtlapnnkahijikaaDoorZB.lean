/- What comes in to law 8: rows of bytes, turns, picks, read as plain data. No program's text is walked here. -/
import Derived.Test.YtlapnnkahijikaaDoorZW6
import Derived.ChangeArms
import Derived.ChangeSlices
import Derived.OpenShut
import Derived.ShutString
import Derived.ChangeOld
namespace Go.Proofs.YtlapnnkahijikaaDoor
open Go.ChangeShapes Go.WideShapes Go.ChangeAt Go.RowKit

section
variable {H : Type} {enc : TypeId × Value → H}
variable {w : World} {base : Nat} {spare : Nat → Bool} {held : Bool} {fuel : Nat}
theorem mapM_at {α β : Type} {f : α → Option β} : ∀ {l : List α} {r : List β}, l.mapM f = some r → r.length = l.length ∧ ∀ (i : Nat) (x : α), l[i]? = some x → f x = r[i]?
  | [], r, h => by simp at h; subst h; simp
  | y :: l, r, h => by
    rw [List.mapM_cons] at h
    cases hy : f y with
    | none => simp [hy] at h
    | some z =>
      cases hl : l.mapM f with
      | none => simp [hy, hl] at h
      | some zs =>
        simp [hy, hl] at h
        subst h
        obtain ⟨h1, h2⟩ := mapM_at hl
        refine ⟨by simp [h1], fun i x hx => ?_⟩
        cases i with
        | zero => simp at hx; subst hx; simpa using hy
        | succ i => simp at hx ⊢; exact h2 i x hx
theorem cells_at {a : Addr} {n : Nat} {cs : List Value} (h : w.cells? base a n = some cs) : cs.length = n ∧ ∀ j, j < n → w.cell? (a.add j) = cs[j]? := by
  unfold World.cells? at h
  split at h
  · obtain ⟨h1, h2⟩ := mapM_at h
    exact ⟨by simpa using h1, fun j hj => h2 j j (by simp [hj])⟩
  · cases h
theorem take_one {cs : List Value} {o : Nat} {v : Value} (h : (cs.drop o).take 1 = [v]) : cs[o]? = some v := by
  have := congrArg (fun l : List Value => l[0]?) h
  simpa [List.getElem?_take, List.getElem?_drop] using this
theorem open_int1 {cs : List Value} {o m : Nat} {x : Option (DataW H × List MemPlace)} {y : DataW H × List MemPlace} (hx : x = some y) (h : DataW.trod enc Tryd.prog w base spare held m 3 ((cs.drop o).take (Tryd.prog.cellsOf 3)) = x) : ∃ n, cs[o]? = some (.int .i64 n) := by
  have c3 : Tryd.prog.cellsOf 3 = 1 := by kernel_rfl
  rw [c3, hx] at h
  obtain ⟨n, e, _, _⟩ := DataW.trod_int Tryd.underlying3 h
  exact ⟨n, take_one e⟩
/-- A row of values that read as p's: where it lies. -/
theorem open_row {S T : TypeId} {K : Nat} (hS : Tryd.prog.underlying S = some (.slice T)) (hc : Tryd.prog.cellsOf T = K) (hk : 0 < K) {α : Type} (C : α → List Value) (hC : ∀ p, (C p).length = K) (dfl : α)
    (ho : ∀ (fuel : Nat) (cs : List Value) (x : DataW H × List MemPlace), DataW.trod enc Tryd.prog w base spare held fuel T cs = some x → ∃ p : α, cs = C p)
    {cs : List Value} {x : DataW H × List MemPlace} (h : DataW.trod enc Tryd.prog w base spare held fuel S cs = some x) : ∃ (a : Option Addr) (len cap : Nat) (l : List α), cs = [.slice a len cap] ∧ l.length = len ∧ len ≤ cap ∧ cap ≤ maxLen ∧ (l = [] ∨ ∃ b o, a = some ⟨b, o, none⟩ ∧ ∀ i, i < len → ∀ j, j < K → w.cell? ⟨b, o + i * K + j, none⟩ = (C (l.getD i dfl))[j]?) := by
  rcases DataW.trod_slice hS h with ⟨hcs, _⟩ | ⟨ad, len, cap, elems, rest, m, _, hcs, _, _, hl, hm, hlen, hel, _⟩
  · exact ⟨none, 0, 0, [], hcs, rfl, Nat.le_refl _, Nat.zero_le _, .inl rfl⟩
  · have each : ∀ i, i < len → ∃ p : α, ∀ j, j < K → w.cell? ((ad.add (i * K)).add j) = (C p)[j]? := by
      intro i hi
      have h := hel i hi
      rw [hc, List.getElem?_eq_getElem (by omega)] at h
      cases hcc : w.cells? base (ad.add (i * K)) K with
      | none => rw [hcc] at h; cases h
      | some cs =>
        rw [hcc] at h
        obtain ⟨p, rfl⟩ := ho _ _ _ h
        exact ⟨p, (cells_at hcc).2⟩
    have hex : ∀ k, k ≤ len → ∃ l : List α, l.length = k ∧ ∀ i, i < k → ∀ j, j < K → w.cell? ((ad.add (i * K)).add j) = (C (l.getD i dfl))[j]? := by
      intro k
      induction k with
      | zero => intro _; exact ⟨[], rfl, fun i hi => absurd hi (Nat.not_lt_zero _)⟩
      | succ k ih =>
        intro hk
        obtain ⟨l, hl1, hl2⟩ := ih (by omega)
        obtain ⟨p, hp⟩ := each k (by omega)
        refine ⟨l ++ [p], by simp [hl1], fun i hi j hj => ?_⟩
        rw [List.getD_eq_getElem?_getD]
        by_cases e : i = k
        · subst e
          rw [List.getElem?_append_right (by omega), hl1, Nat.sub_self]
          exact hp j hj
        · rw [List.getElem?_append_left (by omega), ← List.getD_eq_getElem?_getD]
          exact hl2 i (by omega) j hj
    obtain ⟨l, hl1, hl2⟩ := hex len (Nat.le_refl _)
    refine ⟨some ad, len, cap, l, hcs, hl1, hl, hm, ?_⟩
    by_cases h0 : 0 < len
    · right
      obtain ⟨b, o, s⟩ := ad
      have hs : s = none := by
        have h := hl2 0 h0 0 hk
        cases s with
        | none => rfl
        | some q =>
          have hp : (C (l.getD 0 dfl))[0]? ≠ none := by
            rw [List.getElem?_eq_getElem (by rw [hC]; exact hk)]; exact fun e => nomatch e
          exfalso
          apply hp
          rw [← h, show ((⟨b, o, some q⟩ : Addr).add (0 * K)).add 0 = ⟨b, o, some q⟩ by simp [Addr.add]]
          unfold World.cell?
          split
          · rfl
          · rfl
      subst hs
      refine ⟨b, o, rfl, fun i hi j hj => ?_⟩
      have e := hl2 i hi j hj
      rw [Addr.add_mid, Addr.add_mid] at e
      exact e
    · left
      exact List.eq_nil_of_length_eq_zero (by omega)
theorem open_picks {a : Option Addr} {len cap : Nat} {x : DataW H × List MemPlace} (h : DataW.trod enc Tryd.prog w base spare held fuel 23 [.slice a len cap] = some x) : ∃ l : List Int, l.length = len ∧ len ≤ cap ∧ cap ≤ maxLen ∧ Ints w a l := by
  obtain ⟨a', len', cap', l, e, h1, h2, h3, h4⟩ := open_row (α := Int) (K := 1) Tryd.underlying23 (by kernel_rfl) (by decide) (fun d => [.int .i64 d]) (fun _ => rfl) 0 (fun _ _ _ h => by
    obtain ⟨n, e, _, _⟩ := DataW.trod_int Tryd.underlying3 h
    exact ⟨n, e⟩) h
  injection e with e _
  injection e with e1 e2 e3
  subst e1 e2 e3
  refine ⟨l, h1, h2, h3, h4.imp id ?_⟩
  rintro ⟨b, o, rfl, hc⟩
  refine ⟨b, o, rfl, fun i hi => ?_⟩
  have hcj := hc i (by omega) 0 (by decide)
  rw [Nat.mul_one, Nat.add_zero] at hcj
  exact hcj
theorem byte_lo {n : Int} (h : (Lit.int .u8 n).wf = true) : 0 ≤ n ∧ n ≤ 255 := bounds_u8 h
theorem spot_none {a : Addr} {v : Value} (h : w.cell? a = some v) : a.spot = none := by
  unfold World.cell? at h
  obtain ⟨b, o, s⟩ := a
  cases s with
  | none => rfl
  | some q => split at h <;> simp at h
/-- A slice of bytes that stands in a row. -/
theorem open_piece {m : Nat} {v : Value} {x : DataW H × List MemPlace} (h : DataW.trod enc Tryd.prog w 0 (fun _ => true) true m 40 [v] = some x) : ∃ bs, Bw w v bs := by
  rcases open_ints Tryd.underlying40 Tryd.underlying5 (by kernel_rfl) h with ⟨hcs, _⟩ | ⟨ad, l, c, zs, hcs, _, hl, hm, hz, _, hcell, hwz⟩
  · injection hcs with hcs
    exact ⟨[], .inl (hcs ▸ Bs.nil w)⟩
  · injection hcs with hcs
    subst hcs
    have hz' : zs.length = c := by simpa using hz
    by_cases hc0 : c = 0
    · subst hc0
      obtain rfl : l = 0 := by omega
      exact ⟨[], .inr ⟨rfl, ad, rfl⟩⟩
    · have hsp := spot_none (hcell 0 (by omega))
      obtain ⟨b, o, s⟩ := ad
      have hs : s = none := by
        cases s with
        | none => rfl
        | some q => simp [Addr.add] at hsp
      subst hs
      have hlen : ((zs.take l).map (BitVec.ofInt 8)).length = l := by rw [List.length_map, List.length_take]; omega
      refine ⟨(zs.take l).map (BitVec.ofInt 8), .inl ⟨some ⟨b, o, none⟩, c, by rw [hlen], by rw [hlen]; exact hl, hm, .inr ⟨b, o, rfl, fun j hj => ?_⟩⟩⟩
      rw [hlen] at hj
      have hjz : j < zs.length := by omega
      have h1 := hcell j hjz
      rw [Addr.add_mid] at h1
      have hb := byte_lo (hwz _ (List.getElem_mem hjz))
      rw [h1, List.getD_eq_getElem?_getD, List.getD_eq_getElem?_getD, List.getElem?_map, List.getElem?_take_of_lt hj, List.getElem?_eq_getElem hjz]
      show some (Value.int .u8 zs[j]) = some (Value.int .u8 (Y (BitVec.ofInt 8 zs[j])))
      rw [Y_ofInt _ hb.1 hb.2]
set_option maxRecDepth 100000 in
theorem open_bss {a : Option Addr} {len cap : Nat} {x : DataW H × List MemPlace} {base : Nat} (hv : Value.okWide Tryd.prog w .any base 32 (.slice a len cap))
    (h : DataW.trod enc Tryd.prog w 0 (fun _ => true) true fuel 32 [.slice a len cap] = some x) : ∃ rs : List (List (BitVec 8)), rs.length = len ∧ RowsB w (.slice a len cap) rs := by
  have hc1 : Tryd.prog.cellsOf 40 = 1 := by kernel_rfl
  rcases DataW.trod_slice Tryd.underlying32 h with ⟨hcs, _⟩ | ⟨ad, len', cap', elems, rest, m, _, hcs, _, _, hl, hm, hlen, hel, _⟩
  · injection hcs with hcs
    injection hcs with e1 e2 e3
    subst e1
    subst e2
    subst e3
    exact ⟨[], rfl, [], .inl ⟨rfl, rfl⟩, (All2.nil w).weak⟩
  · injection hcs with hcs
    injection hcs with e1 e2 e3
    subst e1
    subst e2
    subst e3
    have hv2 : w.has Tryd.prog .any base ad 40 cap := by
      simp only [Value.okWide, Tryd.underlying32, Cell.okWide, Cell.ok] at hv
      exact hv.2.2
    obtain ⟨_, hsp, _⟩ := hv2
    obtain ⟨b, o, s⟩ := ad
    simp only at hsp
    subst hsp
    have each : ∀ i, i < len → ∃ v bs, w.cell? ⟨b, o + i, none⟩ = some v ∧ Bw w v bs := by
      intro i hi
      have h := hel i hi
      rw [hc1, Nat.mul_one, Addr.add_mid, List.getElem?_eq_getElem (by omega)] at h
      cases hcc : w.cells? 0 ⟨b, o + i, none⟩ 1 with
      | none => rw [hcc] at h; cases h
      | some cs =>
        rw [hcc] at h
        obtain ⟨h1, h2⟩ := cells_at hcc
        match cs, h1 with
        | [v], _ =>
          obtain ⟨bs, hb⟩ := open_piece h
          have h3 := h2 0 (by omega)
          rw [Addr.add_mid] at h3
          exact ⟨v, bs, h3, hb⟩
    have hex : ∀ k, k ≤ len → ∃ (xs : List Value) (rs : List (List (BitVec 8))), xs.length = k ∧ rs.length = k ∧ ∀ i v, xs[i]? = some v → w.cell? ⟨b, o + i, none⟩ = some v ∧ Bw w v (rs.getD i []) := by
      intro k
      induction k with
      | zero => intro _; exact ⟨[], [], rfl, rfl, fun i v hv => by simp at hv⟩
      | succ k ih =>
        intro hk
        obtain ⟨xs, rs, h1, h2, h3⟩ := ih (by omega)
        obtain ⟨v, bs, h4, h5⟩ := each k (by omega)
        refine ⟨xs ++ [v], rs ++ [bs], by simp [h1], by simp [h2], fun i u hu => ?_⟩
        rw [List.getD_eq_getElem?_getD]
        by_cases e : i < k
        · rw [List.getElem?_append_left (by omega)] at hu
          rw [List.getElem?_append_left (by omega), ← List.getD_eq_getElem?_getD]
          exact h3 i u hu
        · have hi := (List.getElem?_eq_some_iff.1 hu).1
          rw [List.length_append, h1] at hi
          obtain rfl : i = k := by simp at hi; omega
          rw [List.getElem?_append_right (by omega), h1, Nat.sub_self] at hu
          injection hu with hu
          subst hu
          rw [List.getElem?_append_right (by omega), h2, Nat.sub_self]
          exact ⟨h4, h5⟩
    obtain ⟨xs, rs, h1, h2, h3⟩ := hex len (Nat.le_refl _)
    exact ⟨rs, h2, xs, .inr ⟨b, o, cap, by rw [h1], by rw [h1]; exact hl, hm, fun j u hu => (h3 j u hu).1⟩, by rw [h1, h2], fun i u hu => (h3 i u hu).2⟩
/-- Turns, as they lie. -/
structure Turn where
  k : Int
  n : Int
  m : Int
def Turns (w : World) (a : Option Addr) (l : List Turn) : Prop := l = [] ∨ ∃ b o, a = some ⟨b, o, none⟩ ∧ ∀ j t, l[j]? = some t → w.cell? ⟨b, o + j * 3 + 0, none⟩ = some (.int .i64 t.k) ∧ w.cell? ⟨b, o + j * 3 + 1, none⟩ = some (.int .i64 t.n) ∧ w.cell? ⟨b, o + j * 3 + 2, none⟩ = some (.int .i64 t.m)
theorem open_turn {cs : List Value} {x : DataW H × List MemPlace} (h : DataW.trod enc Tryd.prog w base spare held fuel 35 cs = some x) : ∃ d : Turn, cs = [.int .i64 d.k, .int .i64 d.n, .int .i64 d.m] := by
  obtain ⟨xs, m, _, _, hl, hx, hel⟩ := DataW.trod_struct Tryd.underlying35 h
  have c : Tryd.prog.cellsOf 35 = 3 := by kernel_rfl
  rw [c] at hl
  have hx3 : xs.length = 3 := hx
  obtain ⟨k, e0⟩ := open_int1 (List.getElem?_eq_getElem (show 0 < xs.length by omega)) (hel 0 _ rfl)
  obtain ⟨a, e1⟩ := open_int1 (List.getElem?_eq_getElem (show 1 < xs.length by omega)) (hel 1 _ rfl)
  obtain ⟨b, e2⟩ := open_int1 (List.getElem?_eq_getElem (show 2 < xs.length by omega)) (hel 2 _ rfl)
  refine ⟨⟨k, a, b⟩, List.ext_getElem? fun i => ?_⟩
  rcases i with _ | _ | _ | i
  · exact e0
  · exact e1
  · exact e2
  · rw [List.getElem?_eq_none (by omega), List.getElem?_eq_none (by simp)]
theorem open_turns {a : Option Addr} {len cap : Nat} {x : DataW H × List MemPlace} (h : DataW.trod enc Tryd.prog w base spare held fuel 22 [.slice a len cap] = some x) : ∃ l : List Turn, l.length = len ∧ len ≤ cap ∧ cap ≤ maxLen ∧ Turns w a l := by
  obtain ⟨a', len', cap', l, e, h1, h2, h3, h4⟩ := open_row (α := Turn) (K := 3) Tryd.underlying22 (by kernel_rfl) (by decide) (fun d => [.int .i64 d.k, .int .i64 d.n, .int .i64 d.m]) (fun _ => rfl) ⟨0, 0, 0⟩ (fun _ _ _ h => open_turn h) h
  injection e with e _
  injection e with e1 e2 e3
  subst e1 e2 e3
  refine ⟨l, h1, h2, h3, h4.imp id ?_⟩
  rintro ⟨b, o, rfl, hc⟩
  refine ⟨b, o, rfl, fun j d hd => ?_⟩
  have hj : j < len := by rw [← h1]; exact (List.getElem?_eq_some_iff.1 hd).1
  have hg : l.getD j ⟨0, 0, 0⟩ = d := by rw [List.getD_eq_getElem?_getD, hd]; rfl
  have hcj := hc j hj
  rw [hg] at hcj
  exact ⟨hcj 0 (by decide), hcj 1 (by decide), hcj 2 (by decide)⟩
end
end Go.Proofs.YtlapnnkahijikaaDoor
