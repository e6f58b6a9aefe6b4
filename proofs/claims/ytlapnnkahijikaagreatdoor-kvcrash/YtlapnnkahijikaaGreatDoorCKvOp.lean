/- What comes in to law 9: rows of batches, picks, read as plain data; may, small. -/
import Derived.Test.YtlapnnkahijikaaGreatDoorCKxC
import Derived.ChangeArms
import Derived.ChangeSlices
import Derived.OpenShut
import Derived.ShutString
import Derived.ChangeOld
namespace Go.Proofs.YtlapnnkahijikaaGreatDoor
open Go.ChangeShapes Go.WideShapes Go.ChangeAt Go.RowKit

section
variable {H : Type} {enc : TypeId × Value → H}
variable {w : World} {base : Nat} {spare : Nat → Bool} {held : Bool} {fuel : Nat}
theorem mapM_at {α β : Type} {f : α → Option β} : ∀ {l : List α} {r : List β}, l.mapM f = some r → r.length = l.length ∧ ∀ (i : Nat) (x : α), l[i]? = some x → f x = r[i]?
  | [], r, h => by simp at h; subst h; simp
  | y :: l, r, h => by
    rw [List.mapM_cons] at h
    cases hy : f y with
    | none => simp [hy] at h
    | some z =>
      cases hl : l.mapM f with
      | none => simp [hy, hl] at h
      | some zs =>
        simp [hy, hl] at h
        subst h
        obtain ⟨h1, h2⟩ := mapM_at hl
        refine ⟨by simp [h1], fun i x hx => ?_⟩
        cases i with
        | zero => simp at hx; subst hx; simpa using hy
        | succ i => simp at hx ⊢; exact h2 i x hx
theorem cells_at {a : Addr} {n : Nat} {cs : List Value} (h : w.cells? base a n = some cs) : cs.length = n ∧ ∀ j, j < n → w.cell? (a.add j) = cs[j]? := by
  unfold World.cells? at h
  split at h
  · obtain ⟨h1, h2⟩ := mapM_at h
    exact ⟨by simpa using h1, fun j hj => h2 j j (by simp [hj])⟩
  · cases h
theorem take_one {cs : List Value} {o : Nat} {v : Value} (h : (cs.drop o).take 1 = [v]) : cs[o]? = some v := by
  have := congrArg (fun l : List Value => l[0]?) h
  simpa [List.getElem?_take, List.getElem?_drop] using this
theorem open_int1 {cs : List Value} {o m : Nat} {x : Option (DataW H × List MemPlace)} {y : DataW H × List MemPlace} (hx : x = some y) (h : DataW.trod enc Tryz.prog w base spare held m 3 ((cs.drop o).take (Tryz.prog.cellsOf 3)) = x) : ∃ n, cs[o]? = some (.int .i64 n) := by
  have c3 : Tryz.prog.cellsOf 3 = 1 := by kernel_rfl
  rw [c3, hx] at h
  obtain ⟨n, e, _, _⟩ := DataW.trod_int Tryz.underlying3 h
  exact ⟨n, take_one e⟩
theorem open_str1 {cs : List Value} {o m : Nat} {x : Option (DataW H × List MemPlace)} {y : DataW H × List MemPlace} (hx : x = some y) (h : DataW.trod enc Tryz.prog w base spare held m 9 ((cs.drop o).take (Tryz.prog.cellsOf 9)) = x) : ∃ s, cs[o]? = some (.string s) := by
  have c3 : Tryz.prog.cellsOf 9 = 1 := by kernel_rfl
  rw [c3, hx] at h
  obtain ⟨n, e, _, _⟩ := DataW.trod_string Tryz.underlying9 h
  exact ⟨n, take_one e⟩
theorem open_bool1 {cs : List Value} {o m : Nat} {x : Option (DataW H × List MemPlace)} {y : DataW H × List MemPlace} (hx : x = some y) (h : DataW.trod enc Tryz.prog w base spare held m 4 ((cs.drop o).take (Tryz.prog.cellsOf 4)) = x) : ∃ s, cs[o]? = some (.bool s) := by
  have c3 : Tryz.prog.cellsOf 4 = 1 := by kernel_rfl
  rw [c3, hx] at h
  obtain ⟨n, e, _⟩ := DataW.trod_bool Tryz.underlying4 h
  exact ⟨n, take_one e⟩
theorem open_pr {cs : List Value} {x : DataW H × List MemPlace} (h : DataW.trod enc Tryz.prog w base spare held fuel 48 cs = some x) : ∃ d : Pr, cs = d.cs := by
  obtain ⟨xs, m, _, _, hl, hx, hel⟩ := DataW.trod_struct Tryz.underlying48 h
  have c : Tryz.prog.cellsOf 48 = 3 := by kernel_rfl
  rw [c] at hl
  have hx3 : xs.length = 3 := hx
  obtain ⟨k, e0⟩ := open_str1 (List.getElem?_eq_getElem (show 0 < xs.length by omega)) (hel 0 _ rfl)
  obtain ⟨a, e1⟩ := open_str1 (List.getElem?_eq_getElem (show 1 < xs.length by omega)) (hel 1 _ rfl)
  obtain ⟨b, e2⟩ := open_bool1 (List.getElem?_eq_getElem (show 2 < xs.length by omega)) (hel 2 _ rfl)
  refine ⟨⟨k, a, b⟩, List.ext_getElem? fun i => ?_⟩
  rcases i with _ | _ | _ | i
  · exact e0
  · exact e1
  · exact e2
  · rw [List.getElem?_eq_none (by omega), List.getElem?_eq_none (by simp [Pr.cs])]
/-- A row of values that read as p's: where it lies. -/
theorem open_row {S T : TypeId} {K : Nat} (hS : Tryz.prog.underlying S = some (.slice T)) (hc : Tryz.prog.cellsOf T = K) (hk : 0 < K) {α : Type} (C : α → List Value) (hC : ∀ p, (C p).length = K) (dfl : α)
    (ho : ∀ (fuel : Nat) (cs : List Value) (x : DataW H × List MemPlace), DataW.trod enc Tryz.prog w base spare held fuel T cs = some x → ∃ p : α, cs = C p)
    {cs : List Value} {x : DataW H × List MemPlace} (h : DataW.trod enc Tryz.prog w base spare held fuel S cs = some x) : ∃ (a : Option Addr) (len cap : Nat) (l : List α), cs = [.slice a len cap] ∧ l.length = len ∧ len ≤ cap ∧ cap ≤ maxLen ∧ (l = [] ∨ ∃ b o, a = some ⟨b, o, none⟩ ∧ ∀ i, i < len → ∀ j, j < K → w.cell? ⟨b, o + i * K + j, none⟩ = (C (l.getD i dfl))[j]?) ∧ (a = none → cap = 0) := by
  rcases DataW.trod_slice hS h with ⟨hcs, _⟩ | ⟨ad, len, cap, elems, rest, m, _, hcs, _, _, hl, hm, hlen, hel, _⟩
  · exact ⟨none, 0, 0, [], hcs, rfl, Nat.le_refl _, Nat.zero_le _, .inl rfl, fun _ => rfl⟩
  · have each : ∀ i, i < len → ∃ p : α, ∀ j, j < K → w.cell? ((ad.add (i * K)).add j) = (C p)[j]? := by
      intro i hi
      have h := hel i hi
      rw [hc, List.getElem?_eq_getElem (by omega)] at h
      cases hcc : w.cells? base (ad.add (i * K)) K with
      | none => rw [hcc] at h; cases h
      | some cs =>
        rw [hcc] at h
        obtain ⟨p, rfl⟩ := ho _ _ _ h
        exact ⟨p, (cells_at hcc).2⟩
    have hex : ∀ k, k ≤ len → ∃ l : List α, l.length = k ∧ ∀ i, i < k → ∀ j, j < K → w.cell? ((ad.add (i * K)).add j) = (C (l.getD i dfl))[j]? := by
      intro k
      induction k with
      | zero => intro _; exact ⟨[], rfl, fun i hi => absurd hi (Nat.not_lt_zero _)⟩
      | succ k ih =>
        intro hk
        obtain ⟨l, hl1, hl2⟩ := ih (by omega)
        obtain ⟨p, hp⟩ := each k (by omega)
        refine ⟨l ++ [p], by simp [hl1], fun i hi j hj => ?_⟩
        rw [List.getD_eq_getElem?_getD]
        by_cases e : i = k
        · subst e
          rw [List.getElem?_append_right (by omega), hl1, Nat.sub_self]
          exact hp j hj
        · rw [List.getElem?_append_left (by omega), ← List.getD_eq_getElem?_getD]
          exact hl2 i (by omega) j hj
    obtain ⟨l, hl1, hl2⟩ := hex len (Nat.le_refl _)
    refine ⟨some ad, len, cap, l, hcs, hl1, hl, hm, ?_, fun e => by cases e⟩
    by_cases h0 : 0 < len
    · right
      obtain ⟨b, o, s⟩ := ad
      have hs : s = none := by
        have h := hl2 0 h0 0 hk
        cases s with
        | none => rfl
        | some q =>
          have hp : (C (l.getD 0 dfl))[0]? ≠ none := by
            rw [List.getElem?_eq_getElem (by rw [hC]; exact hk)]; exact fun e => nomatch e
          exfalso
          apply hp
          rw [← h, show ((⟨b, o, some q⟩ : Addr).add (0 * K)).add 0 = ⟨b, o, some q⟩ by simp [Addr.add]]
          unfold World.cell?
          split
          · rfl
          · rfl
      subst hs
      refine ⟨b, o, rfl, fun i hi j hj => ?_⟩
      have e := hl2 i hi j hj
      rw [Addr.add_mid, Addr.add_mid] at e
      exact e
    · left
      exact List.eq_nil_of_length_eq_zero (by omega)
theorem open_picks {a : Option Addr} {len cap : Nat} {x : DataW H × List MemPlace} (h : DataW.trod enc Tryz.prog w base spare held fuel 23 [.slice a len cap] = some x) : ∃ l : List Int, l.length = len ∧ len ≤ cap ∧ cap ≤ maxLen ∧ Ints w a l := by
  obtain ⟨a', len', cap', l, e, h1, h2, h3, h4, _⟩ := open_row (α := Int) (K := 1) Tryz.underlying23 (by kernel_rfl) (by decide) (fun d => [.int .i64 d]) (fun _ => rfl) 0 (fun _ _ _ h => by
    obtain ⟨n, e, _, _⟩ := DataW.trod_int Tryz.underlying3 h
    exact ⟨n, e⟩) h
  injection e with e _
  injection e with e1 e2 e3
  subst e1 e2 e3
  refine ⟨l, h1, h2, h3, h4.imp id ?_⟩
  rintro ⟨b, o, rfl, hc⟩
  refine ⟨b, o, rfl, fun i hi => ?_⟩
  have hcj := hc i (by omega) 0 (by decide)
  rw [Nat.mul_one, Nat.add_zero] at hcj
  exact hcj
theorem open_els {v : Value} {x : DataW H × List MemPlace} (h : DataW.trod enc Tryz.prog w base spare held fuel 36 [v] = some x) : ∃ (a : Option Addr) (cap : Nat) (l : List Pr), v = .slice a l.length cap ∧ Els w a l.length cap l := by
  obtain ⟨a, len, cap, l, e, h1, h2, h3, h4, h5⟩ := open_row (α := Pr) (K := 3) Tryz.underlying36 (by kernel_rfl) (by decide) Pr.cs (fun _ => rfl) default (fun _ _ _ h => open_pr h) h
  injection e with e
  subst e
  subst h1
  refine ⟨a, cap, l, rfl, ⟨rfl, h2, h3, h5, fun hp => ?_⟩⟩
  rcases h4 with rfl | ⟨b, o, rfl, hc⟩
  · simp at hp
  · refine ⟨b, o, rfl, fun j v hv => ?_⟩
    have hjl : j < (flatE l).length := (List.getElem?_eq_some_iff.1 hv).1
    rw [flatE_length] at hjl
    have hk : El.k Pr = 3 := rfl
    rw [hk] at hjl
    have hi : j / 3 < l.length := by omega
    have hj : j % 3 < 3 := Nat.mod_lt _ (by omega)
    have h1 := hc (j / 3) hi (j % 3) hj
    have h2 := flatE_get l (j / 3) (j % 3) hi hj
    rw [hk, show j / 3 * 3 + j % 3 = j by omega] at h2
    rw [show o + j / 3 * 3 + j % 3 = o + j by omega] at h1
    rw [h1]
    rw [hv] at h2
    exact h2.symm
end
/-- Batches, as they lie. -/
def Bats (w : World) (v : Value) (L : List (List Pr)) : Prop := ∃ xs : List Value, SrcX w v xs ∧ xs.length = L.length ∧ ∀ i x, xs[i]? = some x → ∃ a c, x = .slice a (L.getD i []).length c ∧ Els w a (L.getD i []).length c (L.getD i [])
section
variable {H : Type} {enc : TypeId × Value → H}
variable {w : World} {fuel : Nat}
set_option maxRecDepth 100000 in
theorem open_bats {a : Option Addr} {len cap : Nat} {x : DataW H × List MemPlace} {base : Nat} (hv : Value.okWide Tryz.prog w .any base 22 (.slice a len cap))
    (h : DataW.trod enc Tryz.prog w 0 (fun _ => true) true fuel 22 [.slice a len cap] = some x) : ∃ rs : List (List Pr), rs.length = len ∧ Bats w (.slice a len cap) rs := by
  have hc1 : Tryz.prog.cellsOf 36 = 1 := by kernel_rfl
  rcases DataW.trod_slice Tryz.underlying22 h with ⟨hcs, _⟩ | ⟨ad, len', cap', elems, rest, m, _, hcs, _, _, hl, hm, hlen, hel, _⟩
  · injection hcs with hcs
    injection hcs with e1 e2 e3
    subst e1
    subst e2
    subst e3
    exact ⟨[], rfl, [], .inl ⟨rfl, rfl⟩, rfl, fun i x hx => by simp at hx⟩
  · injection hcs with hcs
    injection hcs with e1 e2 e3
    subst e1
    subst e2
    subst e3
    have hv2 : w.has Tryz.prog .any base ad 36 cap := by
      simp only [Value.okWide, Tryz.underlying22, Cell.okWide, Cell.ok] at hv
      exact hv.2.2
    obtain ⟨_, hsp, _⟩ := hv2
    obtain ⟨b, o, s⟩ := ad
    simp only at hsp
    subst hsp
    have each : ∀ i, i < len → ∃ (v : Value) (bs : List Pr), w.cell? ⟨b, o + i, none⟩ = some v ∧ ∃ a c, v = .slice a bs.length c ∧ Els w a bs.length c bs := by
      intro i hi
      have h := hel i hi
      rw [hc1, Nat.mul_one, Addr.add_mid, List.getElem?_eq_getElem (by omega)] at h
      cases hcc : w.cells? 0 ⟨b, o + i, none⟩ 1 with
      | none => rw [hcc] at h; cases h
      | some cs =>
        rw [hcc] at h
        obtain ⟨h1, h2⟩ := cells_at hcc
        match cs, h1 with
        | [v], _ =>
          obtain ⟨a9, c9, bs, hb, he⟩ := open_els h
          have h3 := h2 0 (by omega)
          rw [Addr.add_mid] at h3
          exact ⟨v, bs, h3, a9, c9, hb, he⟩
    have hex : ∀ k, k ≤ len → ∃ (xs : List Value) (rs : List (List Pr)), xs.length = k ∧ rs.length = k ∧ ∀ i v, xs[i]? = some v → w.cell? ⟨b, o + i, none⟩ = some v ∧ ∃ a c, v = .slice a (rs.getD i []).length c ∧ Els w a (rs.getD i []).length c (rs.getD i []) := by
      intro k
      induction k with
      | zero => intro _; exact ⟨[], [], rfl, rfl, fun i v hv => by simp at hv⟩
      | succ k ih =>
        intro hk
        obtain ⟨xs, rs, h1, h2, h3⟩ := ih (by omega)
        obtain ⟨v, bs, h4, h5⟩ := each k (by omega)
        refine ⟨xs ++ [v], rs ++ [bs], by simp [h1], by simp [h2], fun i u hu => ?_⟩
        rw [List.getD_eq_getElem?_getD]
        by_cases e : i < k
        · rw [List.getElem?_append_left (by omega)] at hu
          rw [List.getElem?_append_left (by omega), ← List.getD_eq_getElem?_getD]
          exact h3 i u hu
        · have hi := (List.getElem?_eq_some_iff.1 hu).1
          rw [List.length_append, h1] at hi
          obtain rfl : i = k := by simp at hi; omega
          rw [List.getElem?_append_right (by omega), h1, Nat.sub_self] at hu
          injection hu with hu
          subst hu
          rw [List.getElem?_append_right (by omega), h2, Nat.sub_self]
          exact ⟨h4, h5⟩
    obtain ⟨xs, rs, h1, h2, h3⟩ := hex len (Nat.le_refl _)
    exact ⟨rs, h2, xs, .inr ⟨b, o, cap, by rw [h1], by rw [h1]; exact hl, hm, fun j u hu => (h3 j u hu).1⟩, by rw [h1, h2], fun i u hu => (h3 i u hu).2⟩
end
theorem Bats.shape {w : World} {v : Value} {L : List (List Pr)} (h : Bats w v L) : ∃ a c, v = .slice a L.length c := by
  obtain ⟨xs, h1, h2, _⟩ := h
  rcases h1 with ⟨rfl, rfl⟩ | ⟨b, o, cap, rfl, _⟩
  · exact ⟨_, _, by rw [← h2]; rfl⟩
  · exact ⟨_, _, by rw [h2]⟩
theorem Bats.below {w w' : World} {v : Value} {L : List (List Pr)} (h : Bats w v L) (hb : Below w.heap.size w w') : Bats w' v L := by
  obtain ⟨xs, h1, h2, h3⟩ := h
  refine ⟨xs, ?_, h2, fun i x hx => ?_⟩
  · rcases h1 with h1 | ⟨b, o, cap, e, h5, h6, hc⟩
    · exact .inl h1
    · exact .inr ⟨b, o, cap, e, h5, h6, fun j x hx => cell_below' hb (hc j x hx)⟩
  · obtain ⟨a, c, e, he⟩ := h3 i x hx
    exact ⟨a, c, e, he.below hb⟩
theorem Bats.at {w : World} {a : Option Addr} {n cap : Nat} {L : List (List Pr)} (h : Bats w (.slice a n cap) L) {k : Nat} (hk : k < L.length) : ∃ b o, a = some ⟨b, o, none⟩ ∧ ∃ a' c', w.cell? ⟨b, o + k, none⟩ = some (.slice a' (L.getD k []).length c') ∧ Els w a' (L.getD k []).length c' (L.getD k []) := by
  obtain ⟨xs, h1, h2, h3⟩ := h
  rcases h1 with ⟨_, rfl⟩ | ⟨b, o, cap, e, _, _, hc⟩
  · simp at h2; omega
  · injection e with e _ _
    obtain ⟨x, hx⟩ : ∃ x, xs[k]? = some x := ⟨_, List.getElem?_eq_getElem (by omega)⟩
    obtain ⟨a', c', rfl, he⟩ := h3 k x hx
    exact ⟨b, o, e, a', c', hc k _ hx, he⟩
/-- What a Put of a batch tells, with power, if its values are short. -/
def mayE (l : List Pr) : Int := if l.length = 0 then 1 else if l.all pArg = true then 0 else 1
set_option maxRecDepth 100000 in
set_option maxHeartbeats 2000000 in
theorem may_any (a : Option Addr) (n cap : Nat) (l : List Pr) (w : World) (hl : Els w a n cap l) :
    Calls Tryz.prog 11 #[.slice a n cap] w fun e w' => e = .returned (.int .i64 (mayE l)) ∧ Below w.heap.size w w' := by
  have HL : Hid (Els w a n cap l) := hl
  have HN : Hid (l.length = n) := hl.len
  have hn63 : n ≤ 9223372036854775807 := by have h1 := hl.fits; have h2 := hl.most; unfold maxLen at h2; omega
  have HE : Hid (mayE l = if l.length = 0 then 1 else if l.all pArg = true then 0 else 1) := show _ = _ from rfl
  clear hl
  generalize mayE l = E at *
  go_enter Tryz.func11, Tryz.ntmps11
  by_cases h0 : n = 0
  · have e0 : (n : Int) = 0 := by omega
    have HE' : Hid (E = 1) := show _ = _ by rw [HE.out, if_pos (by rw [HN.out]; exact h0)]
    go_wp2_with fail
    go_ret
    exact ⟨ret_int HE'.out.symm, Below.refl _ _⟩
  · have e0 : ¬ (n : Int) = 0 := by omega
    have HP : Hid (0 < n) := show _ < _ by omega
    go_wp2_with fail
    go_loopw [3] (fun i wr => ∃ k : Nat, k ≤ n ∧ i = .int .i64 k ∧ Hid (Below w.heap.size w wr) ∧ Hid (∀ j, j < k → pArg (l.getD j default) = true)) (fun i _ => n - (intOf i).toNat)
    case atStart => exact ⟨0, by omega, rfl, Below.refl _ _, fun j hj => absurd hj (Nat.not_lt_zero _)⟩
    case round =>
      obtain ⟨k, hk, rfl, HB, HALL⟩ := hrel
      by_cases hlt : k < n
      · have e1 : (0 : Int) ≤ (k : Int) := by omega
        have e2 : (k : Int) < (n : Int) := by omega
        obtain ⟨b, o, rfl, c0, c1, c2⟩ := HL.out.pr hlt
        replace c0 := cell_below' HB.out c0
        replace c1 := cell_below' HB.out c1
        replace c2 := cell_below' HB.out c2
        have HPA : Hid (∀ p, p = l.getD k default → pArg p = false → E = 1) := fun p hp hf => by
          rw [HE.out, if_neg (by have := HN.out; have := HP.out; omega), if_neg]
          rw [Bool.not_eq_true, List.all_eq_false]
          refine ⟨p, ?_, by rw [hf]; simp⟩
          rw [hp, List.getD_eq_getElem?_getD, List.getElem?_eq_getElem (by rw [HN.out]; exact hlt)]
          exact List.getElem_mem _
        obtain ⟨p, hp⟩ : ∃ p, p = l.getD k default := ⟨_, rfl⟩
        rw [← hp] at c0 c1 c2
        have HPK : Hid (p = l.getD k default) := hp
        clear hp
        obtain ⟨pk, pv, pg⟩ := p
        have HSZ : Hid (pArg ⟨pk, pv, pg⟩ = (decide (1 ≤ pk.size) && decide (pk.size ≤ 100) && (!pg || decide (pv.size = 0)))) := show _ = _ from rfl
        by_cases hA : pk.size = 0
        · have HE' : Hid (E = 1) := HPA.out _ HPK.out (by rw [HSZ.out, hA]; rfl)
          have e3 : (pk.size : Int) < 1 := by omega
          go_wp2_with fail
          go_ret
          exact ⟨ret_int HE'.out.symm, HB.out.alloc HB.out.size _⟩
        · have e3 : ¬ (pk.size : Int) < 1 := by omega
          by_cases hB : pk.size ≤ 100
          · have e4 : ¬ (pk.size : Int) > 100 := by omega
            by_cases hv : pv.size = 0
            · have HT : Hid (pArg ⟨pk, pv, pg⟩ = true) := show _ = _ by rw [HSZ.out]; simp [hv, hB]; omega
              obtain rfl : pv = ⟨#[]⟩ := bytes_zero hv
              cases pg
              all_goals
                go_wp2_with fail
                go_roundw
                case rel =>
                  refine ⟨k + 1, by omega, by go_num, ?_, fun j hj => ?_⟩
                  · exact (HB.out.alloc HB.out.size _)
                  · by_cases e : j = k
                    · have h3 := HT.out; rw [HPK.out] at h3; rw [e]; simpa using h3
                    · exact HALL.out j (by omega)
                case measure => simp [intOf]; omega
            · have hvn : pv.toList.isEmpty = false := bytes_ne hv
              cases pg with
              | false =>
                have HT : Hid (pArg ⟨pk, pv, false⟩ = true) := show _ = _ by rw [HSZ.out]; simp [hB]; omega
                go_wp2_with fail
                go_roundw
                case rel =>
                  refine ⟨k + 1, by omega, by go_num, ?_, fun j hj => ?_⟩
                  · exact (HB.out.alloc HB.out.size _)
                  · by_cases e : j = k
                    · have h3 := HT.out; rw [HPK.out] at h3; rw [e]; simpa using h3
                    · exact HALL.out j (by omega)
                case measure => simp [intOf]; omega
              | true =>
                have HE' : Hid (E = 1) := HPA.out _ HPK.out (by rw [HSZ.out]; simp [hv])
                go_wp2_with fail
                go_ret
                exact ⟨ret_int HE'.out.symm, HB.out.alloc HB.out.size _⟩
          · have e4 : (pk.size : Int) > 100 := by omega
            have HE' : Hid (E = 1) := HPA.out _ HPK.out (by rw [HSZ.out]; simp [hB])
            go_wp2_with fail
            go_ret
            exact ⟨ret_int HE'.out.symm, HB.out.alloc HB.out.size _⟩
      · obtain rfl : k = n := by omega
        have e1 : ¬ (k : Int) < (k : Int) := by omega
        have HE' : Hid (E = 0) := show _ = _ by
          rw [HE.out, if_neg (by have := HN.out; have := HP.out; omega), if_pos (all_getD fun j hj => HALL.out j (by rw [← HN.out]; exact hj))]
        go_wp2_with fail
        go_ret
        exact ⟨ret_int HE'.out.symm, HB.out⟩
end Go.Proofs.YtlapnnkahijikaaGreatDoor
