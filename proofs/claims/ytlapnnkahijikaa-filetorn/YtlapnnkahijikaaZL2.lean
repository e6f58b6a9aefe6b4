/- coraclelaw7.FileCuts: what its files are, deed by deed. No walk. coraclelaw7.FileCuts: its walk. What comes in: deeds, and picks, read as plain data. No program's text is walked here. -/
import Derived.Test.YtlapnnkahijikaaZL1
import Derived.ChangeArms
import Derived.OpenShut
import Derived.ShutString
import Derived.ChangeOld
namespace Go.Proofs.Ytlapnnkahijikaa
open Go.ChangeShapes Go.WideShapes Go.ChangeAt Go.RowKit Go.Lib

def nK : ByteArray := ⟨#[107, 101, 101, 112]⟩
def keptB : List (BitVec 8) := [107, 101, 112, 116]
/-- The file that is to be kept. -/
def KeepF (L : List (ByteArray × Fl)) : Prop := ∃ fl, alook nK L = some fl ∧ 4 ≤ fl.safe ∧ 4 ≤ fl.b.length ∧ fl.b.take 4 = keptB
structure CutL (m : Nat) (L : List (ByteArray × Fl)) : Prop where
  names : ∀ p ∈ L, p.1.size ≤ 1000
  len : L.length ≤ m
  keep : KeepF L
structure CutSt (n : Int) (kk : Nat) (A : Abs) : Prop where
  counted : A.counted = true
  ops : A.ops = kk + 2
  power : ((kk : Int) ≤ n ∧ A.left = n - kk ∧ A.off = false) ∨ (n < kk ∧ A.left = 0 ∧ A.off = true)
  cutL : CutL (kk + 1) A.L
theorem aput_length {β : Type} (s : ByteArray) (v : β) (l : List (ByteArray × β)) : (aput s v l).length ≤ l.length + 1 := by
  induction l with
  | nil => simp [aput]
  | cons p l ih =>
    unfold aput
    split
    · simp
    · simp only [List.length_cons]; omega
theorem CutL.put {m : Nat} {L : List (ByteArray × Fl)} (h : CutL m L) {name : ByteArray} (hn : name.size ≤ 1000) {fl' : Fl} (hk : name = nK → 4 ≤ fl'.safe ∧ 4 ≤ fl'.b.length ∧ fl'.b.take 4 = keptB) : CutL (m + 1) (aput name fl' L) := by
  refine ⟨fun p hp => ?_, by have := aput_length name fl' L; have := h.len; omega, ?_⟩
  · rcases mem_put hp with rfl | ⟨hp, _⟩
    · exact hn
    · exact h.names p hp
  · unfold KeepF
    rw [alook_put]
    by_cases e : nK = name
    · rw [if_pos e]
      exact ⟨fl', rfl, hk e.symm⟩
    · rw [if_neg e]
      exact h.keep
theorem CutL.more {m : Nat} {L : List (ByteArray × Fl)} (h : CutL m L) : CutL (m + 1) L := ⟨h.names, by have := h.len; omega, h.keep⟩
theorem CutSt.pow {n : Int} {kk : Nat} {A : Abs} (h : CutSt n kk A) : A.pow.off = decide (n < kk + 1) ∧ ∀ L', CutL (kk + 2) L' → CutSt n (kk + 1) { A.pow with L := L' } := by
  obtain ⟨h1, h2, h3, _⟩ := h
  unfold Abs.pow
  rw [if_neg (by rw [h1]; simp)]
  rcases h3 with ⟨g1, g2, g3⟩ | ⟨g1, g2, g3⟩
  · by_cases hl : 0 < A.left
    · rw [if_pos hl]
      refine ⟨by rw [g3]; symm; rw [decide_eq_false_iff_not]; omega, fun L' hL => ⟨h1, by simp only; omega, .inl ⟨by omega, by simp only; omega, g3⟩, hL⟩⟩
    · rw [if_neg hl]
      refine ⟨by symm; rw [decide_eq_true_iff]; omega, fun L' hL => ⟨h1, by simp only; omega, .inr ⟨by omega, by simp only; omega, rfl⟩, hL⟩⟩
  · rw [if_neg (by omega)]
    refine ⟨by symm; rw [decide_eq_true_iff]; omega, fun L' hL => ⟨h1, by simp only; omega, .inr ⟨by omega, by simp only; omega, rfl⟩, hL⟩⟩
theorem beg_seven {A : Abs} {l : List ByteArray} : (A.beg l = 7 ↔ A.pow.off = true) := by
  unfold Abs.beg
  split
  · rename_i h; simp [h]
  · rename_i h
    split <;> simp [h]
theorem CutSt.app {n : Int} {kk : Nat} {A : Abs} (h : CutSt n kk A) (name : ByteArray) (bs : List (BitVec 8)) : (A.appE name bs = 7 ↔ n < (kk : Int) + 1) ∧ CutSt n (kk + 1) (A.app name bs) := by
  obtain ⟨ho, hp⟩ := h.pow
  have h7 : A.beg [name] = 7 ↔ n < (kk : Int) + 1 := by rw [beg_seven, ho, decide_eq_true_iff]
  by_cases hb : A.beg [name] = 0
  · have hn : ¬ n < (kk : Int) + 1 := fun e => by have := h7.2 e; omega
    unfold Abs.app Abs.appE
    rw [if_pos hb]
    by_cases hl : bs.length + (flOf (alook name A.L)).b.length ≤ 16777216
    · rw [if_pos hl, if_pos rfl]
      refine ⟨⟨fun e => by omega, fun e => absurd e hn⟩, hp _ ?_⟩
      have hns := (beg_zero hb).2
      simp only [List.all_cons, List.all_nil, Bool.and_true] at hns
      have := nameOK_size hns
      refine h.cutL.put (by omega) fun e => ?_
      subst e
      obtain ⟨fl, g1, g2, g3, g4⟩ := h.cutL.keep
      rw [g1]
      refine ⟨g2, ?_, ?_⟩
      · show 4 ≤ (fl.b ++ bs).length
        rw [List.length_append]; omega
      · show (fl.b ++ bs).take 4 = keptB
        rw [List.take_append_of_le_length g3, g4]
    · rw [if_neg hl, if_neg (by omega)]
      refine ⟨⟨fun e => by omega, fun e => absurd e hn⟩, ?_⟩
      have := hp A.L h.cutL.more
      rw [← Abs.pow_L] at this
      exact this
  · unfold Abs.app Abs.appE
    rw [if_neg hb, if_neg hb]
    refine ⟨h7, ?_⟩
    have := hp A.L h.cutL.more
    rw [← Abs.pow_L] at this
    exact this
theorem CutSt.syn {n : Int} {kk : Nat} {A : Abs} (h : CutSt n kk A) (name : ByteArray) : (A.opn [name] name = 7 ↔ n < (kk : Int) + 1) ∧ CutSt n (kk + 1) (A.syn name) := by
  obtain ⟨ho, hp⟩ := h.pow
  have h7 : A.beg [name] = 7 ↔ n < (kk : Int) + 1 := by rw [beg_seven, ho, decide_eq_true_iff]
  have hsame : CutSt n (kk + 1) A.pow := by
    have := hp A.L h.cutL.more
    rw [← Abs.pow_L] at this
    exact this
  by_cases hb : A.beg [name] = 0
  · have hn : ¬ n < (kk : Int) + 1 := fun e => by have := h7.2 e; omega
    unfold Abs.syn Abs.opn
    rw [if_pos hb]
    by_cases hl : (alook name A.L).isSome = true
    · rw [if_pos hl, if_pos rfl]
      refine ⟨⟨fun e => by omega, fun e => absurd e hn⟩, hp _ ?_⟩
      have hns := (beg_zero hb).2
      simp only [List.all_cons, List.all_nil, Bool.and_true] at hns
      have := nameOK_size hns
      refine h.cutL.put (by omega) fun e => ?_
      subst e
      obtain ⟨fl, g1, g2, g3, g4⟩ := h.cutL.keep
      rw [g1]
      exact ⟨g3, g3, g4⟩
    · rw [if_neg hl, if_neg (by omega)]
      exact ⟨⟨fun e => by omega, fun e => absurd e hn⟩, hsame⟩
  · unfold Abs.syn Abs.opn
    rw [if_neg hb, if_neg hb]
    exact ⟨h7, hsame⟩
/-- What a crash without picks leaves. -/
theorem alook_crash (L : List (ByteArray × Fl)) (x : ByteArray) : ∀ (ns : List ByteArray) (acc : List (ByteArray × Fl)), (x ∈ ns → alook x (crashGo L ns [] acc) = some ⟨(flOf (alook x L)).b.take (flOf (alook x L)).safe, (flOf (alook x L)).safe⟩) ∧ (x ∉ ns → alook x (crashGo L ns [] acc) = alook x acc)
  | [], acc => ⟨fun h => (List.not_mem_nil h).elim, fun _ => rfl⟩
  | n :: ns, acc => by
    unfold crashGo
    rw [keepOf_nil]
    simp only
    obtain ⟨h1, h2⟩ := alook_crash L x ns (aput n ⟨(flOf (alook n L)).b.take (flOf (alook n L)).safe, (flOf (alook n L)).safe⟩ acc)
    refine ⟨fun hm => ?_, fun hm => ?_⟩
    · by_cases hx : x ∈ ns
      · exact h1 hx
      · rw [h2 hx, alook_put]
        rcases List.mem_cons.1 hm with e | e
        · rw [if_pos e, e]
        · exact absurd e hx
    · rw [List.mem_cons, not_or] at hm
      rw [h2 hm.2, alook_put, if_neg hm.1]
theorem mem_sortN {x : ByteArray} {l : List ByteArray} (h : x ∈ l) : x ∈ sortN l := by
  unfold sortN
  refine List.mem_map.2 ⟨bytesOf x, ?_, mk_bytesOf x⟩
  rw [List.mem_mergeSort]
  exact List.mem_map.2 ⟨x, h, rfl⟩
theorem KeepF.crash {A : Abs} (h : KeepF A.L) : ∃ fl, alook nK (A.crash []).L = some fl ∧ 4 ≤ fl.b.length := by
  obtain ⟨fl, g1, g2, g3, _⟩ := h
  have hm : nK ∈ sortN (A.L.map Prod.fst) := mem_sortN (List.mem_map.2 ⟨_, mem_of_alook g1, rfl⟩)
  refine ⟨⟨fl.b.take fl.safe, fl.safe⟩, ?_, by show 4 ≤ (fl.b.take fl.safe).length; rw [List.length_take]; omega⟩
  show alook nK (crashGo A.L (sortN (A.L.map Prod.fst)) [] []) = _
  rw [(alook_crash _ _ _ _).1 hm, g1]; rfl
theorem cut_start (n : Int) (h0 : 0 ≤ n) : CutSt n 0 ⟨[(nK, ⟨keptB, 4⟩)], 2, true, n, false⟩ :=
  ⟨rfl, rfl, .inl ⟨by simpa using h0, by simp, rfl⟩, fun p hp => by simp only [List.mem_cons, List.not_mem_nil, or_false] at hp; subst hp; exact of_decide_eq_true rfl, by simp, ⟨keptB, 4⟩, rfl, by simp, by simp [keptB], rfl⟩
theorem cut_acts : (Abs.appE ⟨[], 0, false, 0, false⟩ nK keptB = 0 ∧ Abs.app ⟨[], 0, false, 0, false⟩ nK keptB = ⟨[(nK, ⟨keptB, 0⟩)], 1, false, 0, false⟩) ∧
    (Abs.opn ⟨[(nK, ⟨keptB, 0⟩)], 1, false, 0, false⟩ [nK] nK = 0 ∧ Abs.syn ⟨[(nK, ⟨keptB, 0⟩)], 1, false, 0, false⟩ nK = ⟨[(nK, ⟨keptB, 4⟩)], 2, false, 0, false⟩) :=
  ⟨⟨rfl, rfl⟩, rfl, rfl⟩
end Go.Proofs.Ytlapnnkahijikaa
namespace Go.Proofs.Ytlapnnkahijikaa
open Go.ChangeShapes Go.WideShapes Go.ChangeAt Go.RowKit Go.Lib

theorem own_cut {w wi : World} {f : Nat} {A : Abs} (h : Own7 w wi f A) (n : Int) :
    Calls Try.prog 25 #[.pointer (some ⟨f, 0, none⟩), .int .i64 n] wi fun e w' => e = .returned (.tuple #[]) ∧ Own7 w w' f { A with counted := true, left := n } := by
  obtain ⟨hb1, S, hf, ha, hfo⟩ := h
  refine (cut_any f S n wi hf).mono ?_
  rintro e w' ⟨rfl, h1, h2, _⟩
  exact ⟨rfl, Own7.after hb1 hfo ⟨_, by rw [← ha]; rfl, h1, h2⟩⟩
/-- What is known behind the deeds. -/
def CutW (w wr : World) (f : Nat) (n : Int) (kk : Nat) : Prop := ∃ A, CutSt n kk A ∧ Own7 w wr f A
theorem CutSt.sane {n : Int} {kk : Nat} {A : Abs} (h : CutSt n kk A) (hn : n ≤ 50) (hk : kk ≤ 100) : 0 ≤ A.ops ∧ A.ops ≤ 4611686018427387904 ∧ -9223372036854775808 ≤ A.left ∧ A.left ≤ 9223372036854775807 := by
  have := h.ops
  rcases h.power with ⟨g1, g2, _⟩ | ⟨g1, g2, _⟩ <;> omega
theorem CutW.append {w wi wj : World} {f : Nat} {n : Int} {kk : Nat} (h : CutW w wi f n kk) (hn : n ≤ 50) (hk : kk ≤ 100) (hb : Below wi.heap.size wi wj) (name : ByteArray) (b c m : Nat) (bs : List (BitVec 8)) (hm : m = bs.length) (hbn : wi.heap.size ≤ b) (hs : SrcB wj (.slice (some ⟨b, 0, none⟩) m c) bs) (hl : bs.length ≤ 50000000) :
    Calls Try.prog 13 #[.pointer (some ⟨f, 0, none⟩), .string name, .slice (some ⟨b, 0, none⟩) m c] wj fun e w' => ∃ E : Int, e = .returned (.int .i64 E) ∧ (E = 7 ↔ n < (kk : Int) + 1) ∧ CutW w w' f n (kk + 1) := by
  obtain ⟨A, hA, ho⟩ := h
  obtain ⟨s1, s2, s3, s4⟩ := hA.sane hn hk
  refine (own_append ho hb name b c m bs hm hbn hs hl s1 s2 s3 s4).mono ?_
  rintro e w' ⟨rfl, h⟩
  exact ⟨_, rfl, (hA.app name bs).1, _, (hA.app name bs).2, h⟩
theorem CutW.sync {w wi : World} {f : Nat} {n : Int} {kk : Nat} (h : CutW w wi f n kk) (hn : n ≤ 50) (hk : kk ≤ 100) (name : ByteArray) :
    Calls Try.prog 16 #[.pointer (some ⟨f, 0, none⟩), .string name] wi fun e w' => ∃ E : Int, e = .returned (.int .i64 E) ∧ (E = 7 ↔ n < (kk : Int) + 1) ∧ CutW w w' f n (kk + 1) := by
  obtain ⟨A, hA, ho⟩ := h
  obtain ⟨s1, s2, s3, s4⟩ := hA.sane hn hk
  refine (own_sync ho name s1 s2 s3 s4).mono ?_
  rintro e w' ⟨rfl, h⟩
  exact ⟨_, rfl, (hA.syn name).1, _, (hA.syn name).2, h⟩
theorem CutW.drewB {w wi : World} {f : Nat} {n : Int} {kk : Nat} (h : CutW w wi f n kk) : CutW w wi.drew f n kk := by
  obtain ⟨A, hA, ho⟩ := h
  exact ⟨A, hA, ho.drewB⟩
end Go.Proofs.Ytlapnnkahijikaa
namespace Go.Proofs.Ytlapnnkahijikaa
open Go.ChangeShapes Go.WideShapes Go.ChangeAt Go.RowKit

section
variable {H : Type} {enc : TypeId × Value → H}
variable {w : World} {base : Nat} {spare : Nat → Bool} {held : Bool} {fuel : Nat}
theorem mapM_at {α β : Type} {f : α → Option β} : ∀ {l : List α} {r : List β}, l.mapM f = some r → r.length = l.length ∧ ∀ (i : Nat) (x : α), l[i]? = some x → f x = r[i]?
  | [], r, h => by simp at h; subst h; simp
  | y :: l, r, h => by
    rw [List.mapM_cons] at h
    cases hy : f y with
    | none => simp [hy] at h
    | some z =>
      cases hl : l.mapM f with
      | none => simp [hy, hl] at h
      | some zs =>
        simp [hy, hl] at h
        subst h
        obtain ⟨h1, h2⟩ := mapM_at hl
        refine ⟨by simp [h1], fun i x hx => ?_⟩
        cases i with
        | zero => simp at hx; subst hx; simpa using hy
        | succ i => simp at hx ⊢; exact h2 i x hx
theorem cells_at {a : Addr} {n : Nat} {cs : List Value} (h : w.cells? base a n = some cs) : cs.length = n ∧ ∀ j, j < n → w.cell? (a.add j) = cs[j]? := by
  unfold World.cells? at h
  split at h
  · obtain ⟨h1, h2⟩ := mapM_at h
    exact ⟨by simpa using h1, fun j hj => h2 j j (by simp [hj])⟩
  · cases h
theorem take_one {cs : List Value} {o : Nat} {v : Value} (h : (cs.drop o).take 1 = [v]) : cs[o]? = some v := by
  have := congrArg (fun l : List Value => l[0]?) h
  simpa [List.getElem?_take, List.getElem?_drop] using this
theorem open_int1 {cs : List Value} {o m : Nat} {x : Option (DataW H × List MemPlace)} {y : DataW H × List MemPlace} (hx : x = some y) (h : DataW.trod enc Try.prog w base spare held m 3 ((cs.drop o).take (Try.prog.cellsOf 3)) = x) : ∃ n, cs[o]? = some (.int .i64 n) := by
  have c3 : Try.prog.cellsOf 3 = 1 := by kernel_rfl
  rw [c3, hx] at h
  obtain ⟨n, e, _, _⟩ := DataW.trod_int Try.underlying3 h
  exact ⟨n, take_one e⟩
theorem open_str1 {cs : List Value} {o m : Nat} {x : Option (DataW H × List MemPlace)} {y : DataW H × List MemPlace} (hx : x = some y) (h : DataW.trod enc Try.prog w base spare held m 9 ((cs.drop o).take (Try.prog.cellsOf 9)) = x) : ∃ s, cs[o]? = some (.string s) := by
  have c3 : Try.prog.cellsOf 9 = 1 := by kernel_rfl
  rw [c3, hx] at h
  obtain ⟨n, e, _, _⟩ := DataW.trod_string Try.underlying9 h
  exact ⟨n, take_one e⟩
theorem open_deed {cs : List Value} {x : DataW H × List MemPlace} (h : DataW.trod enc Try.prog w base spare held fuel 32 cs = some x) : ∃ d : Deed, cs = [.int .i64 d.k, .string d.a, .string d.b, .int .i64 d.n] := by
  obtain ⟨xs, m, _, _, hl, hx, hel⟩ := DataW.trod_struct Try.underlying32 h
  have c : Try.prog.cellsOf 32 = 4 := by kernel_rfl
  rw [c] at hl
  have hx3 : xs.length = 4 := hx
  obtain ⟨k, e0⟩ := open_int1 (List.getElem?_eq_getElem (show 0 < xs.length by omega)) (hel 0 _ rfl)
  obtain ⟨a, e1⟩ := open_str1 (List.getElem?_eq_getElem (show 1 < xs.length by omega)) (hel 1 _ rfl)
  obtain ⟨b, e2⟩ := open_str1 (List.getElem?_eq_getElem (show 2 < xs.length by omega)) (hel 2 _ rfl)
  obtain ⟨n, e3⟩ := open_int1 (List.getElem?_eq_getElem (show 3 < xs.length by omega)) (hel 3 _ rfl)
  refine ⟨⟨k, a, b, n⟩, List.ext_getElem? fun i => ?_⟩
  rcases i with _ | _ | _ | _ | i
  · exact e0
  · exact e1
  · exact e2
  · exact e3
  · rw [List.getElem?_eq_none (by omega), List.getElem?_eq_none (by simp)]
/-- A row of values that read as p's: where it lies. -/
theorem open_row {S T : TypeId} {K : Nat} (hS : Try.prog.underlying S = some (.slice T)) (hc : Try.prog.cellsOf T = K) (hk : 0 < K) {α : Type} (C : α → List Value) (hC : ∀ p, (C p).length = K) (dfl : α)
    (ho : ∀ (fuel : Nat) (cs : List Value) (x : DataW H × List MemPlace), DataW.trod enc Try.prog w base spare held fuel T cs = some x → ∃ p : α, cs = C p)
    {cs : List Value} {x : DataW H × List MemPlace} (h : DataW.trod enc Try.prog w base spare held fuel S cs = some x) : ∃ (a : Option Addr) (len cap : Nat) (l : List α), cs = [.slice a len cap] ∧ l.length = len ∧ len ≤ cap ∧ cap ≤ maxLen ∧ (l = [] ∨ ∃ b o, a = some ⟨b, o, none⟩ ∧ ∀ i, i < len → ∀ j, j < K → w.cell? ⟨b, o + i * K + j, none⟩ = (C (l.getD i dfl))[j]?) := by
  rcases DataW.trod_slice hS h with ⟨hcs, _⟩ | ⟨ad, len, cap, elems, rest, m, _, hcs, _, _, hl, hm, hlen, hel, _⟩
  · exact ⟨none, 0, 0, [], hcs, rfl, Nat.le_refl _, Nat.zero_le _, .inl rfl⟩
  · have each : ∀ i, i < len → ∃ p : α, ∀ j, j < K → w.cell? ((ad.add (i * K)).add j) = (C p)[j]? := by
      intro i hi
      have h := hel i hi
      rw [hc, List.getElem?_eq_getElem (by omega)] at h
      cases hcc : w.cells? base (ad.add (i * K)) K with
      | none => rw [hcc] at h; cases h
      | some cs =>
        rw [hcc] at h
        obtain ⟨p, rfl⟩ := ho _ _ _ h
        exact ⟨p, (cells_at hcc).2⟩
    have hex : ∀ k, k ≤ len → ∃ l : List α, l.length = k ∧ ∀ i, i < k → ∀ j, j < K → w.cell? ((ad.add (i * K)).add j) = (C (l.getD i dfl))[j]? := by
      intro k
      induction k with
      | zero => intro _; exact ⟨[], rfl, fun i hi => absurd hi (Nat.not_lt_zero _)⟩
      | succ k ih =>
        intro hk
        obtain ⟨l, hl1, hl2⟩ := ih (by omega)
        obtain ⟨p, hp⟩ := each k (by omega)
        refine ⟨l ++ [p], by simp [hl1], fun i hi j hj => ?_⟩
        rw [List.getD_eq_getElem?_getD]
        by_cases e : i = k
        · subst e
          rw [List.getElem?_append_right (by omega), hl1, Nat.sub_self]
          exact hp j hj
        · rw [List.getElem?_append_left (by omega), ← List.getD_eq_getElem?_getD]
          exact hl2 i (by omega) j hj
    obtain ⟨l, hl1, hl2⟩ := hex len (Nat.le_refl _)
    refine ⟨some ad, len, cap, l, hcs, hl1, hl, hm, ?_⟩
    by_cases h0 : 0 < len
    · right
      obtain ⟨b, o, s⟩ := ad
      have hs : s = none := by
        have h := hl2 0 h0 0 hk
        cases s with
        | none => rfl
        | some q =>
          have hp : (C (l.getD 0 dfl))[0]? ≠ none := by
            rw [List.getElem?_eq_getElem (by rw [hC]; exact hk)]; exact fun e => nomatch e
          exfalso
          apply hp
          rw [← h, show ((⟨b, o, some q⟩ : Addr).add (0 * K)).add 0 = ⟨b, o, some q⟩ by simp [Addr.add]]
          unfold World.cell?
          split
          · rfl
          · rfl
      subst hs
      refine ⟨b, o, rfl, fun i hi j hj => ?_⟩
      have e := hl2 i hi j hj
      rw [Addr.add_mid, Addr.add_mid] at e
      exact e
    · left
      exact List.eq_nil_of_length_eq_zero (by omega)
theorem open_deeds {a : Option Addr} {len cap : Nat} {x : DataW H × List MemPlace} (h : DataW.trod enc Try.prog w base spare held fuel 22 [.slice a len cap] = some x) : ∃ l : List Deed, l.length = len ∧ len ≤ cap ∧ cap ≤ maxLen ∧ Deeds w a l := by
  obtain ⟨a', len', cap', l, e, h1, h2, h3, h4⟩ := open_row (α := Deed) (K := 4) Try.underlying22 (by kernel_rfl) (by decide) (fun d => [.int .i64 d.k, .string d.a, .string d.b, .int .i64 d.n]) (fun _ => rfl) ⟨0, ByteArray.empty, ByteArray.empty, 0⟩ (fun _ _ _ h => open_deed h) h
  injection e with e _
  injection e with e1 e2 e3
  subst e1 e2 e3
  refine ⟨l, h1, h2, h3, h4.imp id ?_⟩
  rintro ⟨b, o, rfl, hc⟩
  refine ⟨b, o, rfl, fun j d hd => ?_⟩
  have hj : j < len := by rw [← h1]; exact (List.getElem?_eq_some_iff.1 hd).1
  have hg : l.getD j ⟨0, ByteArray.empty, ByteArray.empty, 0⟩ = d := by rw [List.getD_eq_getElem?_getD, hd]; rfl
  have hcj := hc j hj
  rw [hg] at hcj
  exact ⟨hcj 0 (by decide), hcj 1 (by decide), hcj 2 (by decide), hcj 3 (by decide)⟩
theorem open_picks {a : Option Addr} {len cap : Nat} {x : DataW H × List MemPlace} (h : DataW.trod enc Try.prog w base spare held fuel 34 [.slice a len cap] = some x) : ∃ l : List Int, l.length = len ∧ len ≤ cap ∧ cap ≤ maxLen ∧ Ints w a l := by
  obtain ⟨a', len', cap', l, e, h1, h2, h3, h4⟩ := open_row (α := Int) (K := 1) Try.underlying34 (by kernel_rfl) (by decide) (fun d => [.int .i64 d]) (fun _ => rfl) 0 (fun _ _ _ h => by
    obtain ⟨n, e, _, _⟩ := DataW.trod_int Try.underlying3 h
    exact ⟨n, e⟩) h
  injection e with e _
  injection e with e1 e2 e3
  subst e1 e2 e3
  refine ⟨l, h1, h2, h3, h4.imp id ?_⟩
  rintro ⟨b, o, rfl, hc⟩
  refine ⟨b, o, rfl, fun i hi => ?_⟩
  have hcj := hc i (by omega) 0 (by decide)
  rw [Nat.mul_one, Nat.add_zero] at hcj
  exact hcj
end
end Go.Proofs.Ytlapnnkahijikaa
