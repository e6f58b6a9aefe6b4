/- coraclelaw7.FileCuts: what its files are, deed by deed. No walk. -/
import Derived.Test.YtbbooldhfcldbaaLFew
namespace Go.Proofs.Ytbbooldhfcldbaa
open Go.ChangeShapes Go.WideShapes Go.ChangeAt Go.RowKit Go.Lib

def nK : ByteArray := ⟨#[107, 101, 101, 112]⟩
def keptB : List (BitVec 8) := [107, 101, 112, 116]
/-- The file that is to be kept. -/
def KeepF (L : List (ByteArray × Fl)) : Prop := ∃ fl, alook nK L = some fl ∧ 4 ≤ fl.safe ∧ 4 ≤ fl.b.length ∧ fl.b.take 4 = keptB
structure CutL (m : Nat) (L : List (ByteArray × Fl)) : Prop where
  names : ∀ p ∈ L, p.1.size ≤ 1000
  len : L.length ≤ m
  keep : KeepF L
structure CutSt (n : Int) (kk : Nat) (A : Abs) : Prop where
  counted : A.counted = true
  ops : A.ops = kk + 2
  power : ((kk : Int) ≤ n ∧ A.left = n - kk ∧ A.off = false) ∨ (n < kk ∧ A.left = 0 ∧ A.off = true)
  cutL : CutL (kk + 1) A.L
theorem aput_length {β : Type} (s : ByteArray) (v : β) (l : List (ByteArray × β)) : (aput s v l).length ≤ l.length + 1 := by
  induction l with
  | nil => simp [aput]
  | cons p l ih =>
    unfold aput
    split
    · simp
    · simp only [List.length_cons]; omega
theorem CutL.put {m : Nat} {L : List (ByteArray × Fl)} (h : CutL m L) {name : ByteArray} (hn : name.size ≤ 1000) {fl' : Fl} (hk : name = nK → 4 ≤ fl'.safe ∧ 4 ≤ fl'.b.length ∧ fl'.b.take 4 = keptB) : CutL (m + 1) (aput name fl' L) := by
  refine ⟨fun p hp => ?_, by have := aput_length name fl' L; have := h.len; omega, ?_⟩
  · rcases mem_put hp with rfl | ⟨hp, _⟩
    · exact hn
    · exact h.names p hp
  · unfold KeepF
    rw [alook_put]
    by_cases e : nK = name
    · rw [if_pos e]
      exact ⟨fl', rfl, hk e.symm⟩
    · rw [if_neg e]
      exact h.keep
theorem CutL.more {m : Nat} {L : List (ByteArray × Fl)} (h : CutL m L) : CutL (m + 1) L := ⟨h.names, by have := h.len; omega, h.keep⟩
theorem CutSt.pow {n : Int} {kk : Nat} {A : Abs} (h : CutSt n kk A) : A.pow.off = decide (n < kk + 1) ∧ ∀ L', CutL (kk + 2) L' → CutSt n (kk + 1) { A.pow with L := L' } := by
  obtain ⟨h1, h2, h3, _⟩ := h
  unfold Abs.pow
  rw [if_neg (by rw [h1]; simp)]
  rcases h3 with ⟨g1, g2, g3⟩ | ⟨g1, g2, g3⟩
  · by_cases hl : 0 < A.left
    · rw [if_pos hl]
      refine ⟨by rw [g3]; symm; rw [decide_eq_false_iff_not]; omega, fun L' hL => ⟨h1, by simp only; omega, .inl ⟨by omega, by simp only; omega, g3⟩, hL⟩⟩
    · rw [if_neg hl]
      refine ⟨by symm; rw [decide_eq_true_iff]; omega, fun L' hL => ⟨h1, by simp only; omega, .inr ⟨by omega, by simp only; omega, rfl⟩, hL⟩⟩
  · rw [if_neg (by omega)]
    refine ⟨by symm; rw [decide_eq_true_iff]; omega, fun L' hL => ⟨h1, by simp only; omega, .inr ⟨by omega, by simp only; omega, rfl⟩, hL⟩⟩
theorem beg_seven {A : Abs} {l : List ByteArray} : (A.beg l = 7 ↔ A.pow.off = true) := by
  unfold Abs.beg
  split
  · rename_i h; simp [h]
  · rename_i h
    split <;> simp [h]
theorem CutSt.app {n : Int} {kk : Nat} {A : Abs} (h : CutSt n kk A) (name : ByteArray) (bs : List (BitVec 8)) : (A.appE name bs = 7 ↔ n < (kk : Int) + 1) ∧ CutSt n (kk + 1) (A.app name bs) := by
  obtain ⟨ho, hp⟩ := h.pow
  have h7 : A.beg [name] = 7 ↔ n < (kk : Int) + 1 := by rw [beg_seven, ho, decide_eq_true_iff]
  by_cases hb : A.beg [name] = 0
  · have hn : ¬ n < (kk : Int) + 1 := fun e => by have := h7.2 e; omega
    unfold Abs.app Abs.appE
    rw [if_pos hb]
    by_cases hl : bs.length + (flOf (alook name A.L)).b.length ≤ 16777216
    · rw [if_pos hl, if_pos rfl]
      refine ⟨⟨fun e => by omega, fun e => absurd e hn⟩, hp _ ?_⟩
      have hns := (beg_zero hb).2
      simp only [List.all_cons, List.all_nil, Bool.and_true] at hns
      have := nameOK_size hns
      refine h.cutL.put (by omega) fun e => ?_
      subst e
      obtain ⟨fl, g1, g2, g3, g4⟩ := h.cutL.keep
      rw [g1]
      refine ⟨g2, ?_, ?_⟩
      · show 4 ≤ (fl.b ++ bs).length
        rw [List.length_append]; omega
      · show (fl.b ++ bs).take 4 = keptB
        rw [List.take_append_of_le_length g3, g4]
    · rw [if_neg hl, if_neg (by omega)]
      refine ⟨⟨fun e => by omega, fun e => absurd e hn⟩, ?_⟩
      have := hp A.L h.cutL.more
      rw [← Abs.pow_L] at this
      exact this
  · unfold Abs.app Abs.appE
    rw [if_neg hb, if_neg hb]
    refine ⟨h7, ?_⟩
    have := hp A.L h.cutL.more
    rw [← Abs.pow_L] at this
    exact this
theorem CutSt.syn {n : Int} {kk : Nat} {A : Abs} (h : CutSt n kk A) (name : ByteArray) : (A.opn [name] name = 7 ↔ n < (kk : Int) + 1) ∧ CutSt n (kk + 1) (A.syn name) := by
  obtain ⟨ho, hp⟩ := h.pow
  have h7 : A.beg [name] = 7 ↔ n < (kk : Int) + 1 := by rw [beg_seven, ho, decide_eq_true_iff]
  have hsame : CutSt n (kk + 1) A.pow := by
    have := hp A.L h.cutL.more
    rw [← Abs.pow_L] at this
    exact this
  by_cases hb : A.beg [name] = 0
  · have hn : ¬ n < (kk : Int) + 1 := fun e => by have := h7.2 e; omega
    unfold Abs.syn Abs.opn
    rw [if_pos hb]
    by_cases hl : (alook name A.L).isSome = true
    · rw [if_pos hl, if_pos rfl]
      refine ⟨⟨fun e => by omega, fun e => absurd e hn⟩, hp _ ?_⟩
      have hns := (beg_zero hb).2
      simp only [List.all_cons, List.all_nil, Bool.and_true] at hns
      have := nameOK_size hns
      refine h.cutL.put (by omega) fun e => ?_
      subst e
      obtain ⟨fl, g1, g2, g3, g4⟩ := h.cutL.keep
      rw [g1]
      exact ⟨g3, g3, g4⟩
    · rw [if_neg hl, if_neg (by omega)]
      exact ⟨⟨fun e => by omega, fun e => absurd e hn⟩, hsame⟩
  · unfold Abs.syn Abs.opn
    rw [if_neg hb, if_neg hb]
    exact ⟨h7, hsame⟩
/-- What a crash without picks leaves. -/
theorem alook_crash (L : List (ByteArray × Fl)) (x : ByteArray) : ∀ (ns : List ByteArray) (acc : List (ByteArray × Fl)), (x ∈ ns → alook x (crashGo L ns [] acc) = some ⟨(flOf (alook x L)).b.take (flOf (alook x L)).safe, (flOf (alook x L)).safe⟩) ∧ (x ∉ ns → alook x (crashGo L ns [] acc) = alook x acc)
  | [], acc => ⟨fun h => (List.not_mem_nil h).elim, fun _ => rfl⟩
  | n :: ns, acc => by
    unfold crashGo
    rw [keepOf_nil]
    simp only
    obtain ⟨h1, h2⟩ := alook_crash L x ns (aput n ⟨(flOf (alook n L)).b.take (flOf (alook n L)).safe, (flOf (alook n L)).safe⟩ acc)
    refine ⟨fun hm => ?_, fun hm => ?_⟩
    · by_cases hx : x ∈ ns
      · exact h1 hx
      · rw [h2 hx, alook_put]
        rcases List.mem_cons.1 hm with e | e
        · rw [if_pos e, e]
        · exact absurd e hx
    · rw [List.mem_cons, not_or] at hm
      rw [h2 hm.2, alook_put, if_neg hm.1]
theorem mem_sortN {x : ByteArray} {l : List ByteArray} (h : x ∈ l) : x ∈ sortN l := by
  unfold sortN
  refine List.mem_map.2 ⟨bytesOf x, ?_, mk_bytesOf x⟩
  rw [List.mem_mergeSort]
  exact List.mem_map.2 ⟨x, h, rfl⟩
theorem KeepF.crash {A : Abs} (h : KeepF A.L) : ∃ fl, alook nK (A.crash []).L = some fl ∧ 4 ≤ fl.b.length := by
  obtain ⟨fl, g1, g2, g3, _⟩ := h
  have hm : nK ∈ sortN (A.L.map Prod.fst) := mem_sortN (List.mem_map.2 ⟨_, mem_of_alook g1, rfl⟩)
  refine ⟨⟨fl.b.take fl.safe, fl.safe⟩, ?_, by show 4 ≤ (fl.b.take fl.safe).length; rw [List.length_take]; omega⟩
  show alook nK (crashGo A.L (sortN (A.L.map Prod.fst)) [] []) = _
  rw [(alook_crash _ _ _ _).1 hm, g1]; rfl
theorem cut_start (n : Int) (h0 : 0 ≤ n) : CutSt n 0 ⟨[(nK, ⟨keptB, 4⟩)], 2, true, n, false⟩ :=
  ⟨rfl, rfl, .inl ⟨by simpa using h0, by simp, rfl⟩, fun p hp => by simp only [List.mem_cons, List.not_mem_nil, or_false] at hp; subst hp; exact of_decide_eq_true rfl, by simp, ⟨keptB, 4⟩, rfl, by simp, by simp [keptB], rfl⟩
theorem cut_acts : (Abs.appE ⟨[], 0, false, 0, false⟩ nK keptB = 0 ∧ Abs.app ⟨[], 0, false, 0, false⟩ nK keptB = ⟨[(nK, ⟨keptB, 0⟩)], 1, false, 0, false⟩) ∧
    (Abs.opn ⟨[(nK, ⟨keptB, 0⟩)], 1, false, 0, false⟩ [nK] nK = 0 ∧ Abs.syn ⟨[(nK, ⟨keptB, 0⟩)], 1, false, 0, false⟩ nK = ⟨[(nK, ⟨keptB, 4⟩)], 2, false, 0, false⟩) :=
  ⟨⟨rfl, rfl⟩, rfl, rfl⟩
end Go.Proofs.Ytbbooldhfcldbaa
