/- The document's own files (coracleref10.FS), pure: a row in order of names against look-ups. No program. The document's own files in memory: NewFS, place, begin. The document's own files in memory: begin, set, gone. -/
import Derived.Test.YtlapnnkahijikaaZK1
import Derived.Test.YtlapnnkahijikaaZF5
import Derived.StillTailTactics
namespace Go.Proofs.Ytlapnnkahijikaa
open Go.ChangeShapes Go.WideShapes Go.ChangeAt Go.RowKit Go.Lib

abbrev Fil := ByteArray × Fl
instance : Inhabited Fil := ⟨(ByteArray.empty, ⟨[], 0⟩)⟩
/-- In order of names, each once. -/
def Srt (L : List Fil) : Prop := L.Pairwise fun p q => klt p.1 q.1 = true
/-- How many names stand ahead of one; does it stand there? -/
def cnt (n : ByteArray) : List Fil → Nat
  | [] => 0
  | p :: L => if klt p.1 n = true then cnt n L + 1 else 0
def shas (n : ByteArray) : List Fil → Bool
  | [] => false
  | p :: L => if klt p.1 n = true then shas n L else decide (p.1 = n)
def sput (n : ByteArray) (x : Fl) : List Fil → List Fil
  | [] => [(n, x)]
  | p :: L => if klt p.1 n = true then p :: sput n x L else if p.1 = n then (n, x) :: L else (n, x) :: p :: L
def sdel (n : ByteArray) : List Fil → List Fil
  | [] => []
  | p :: L => if klt p.1 n = true then p :: sdel n L else if p.1 = n then L else p :: L
theorem cnt_le (n : ByteArray) : ∀ L : List Fil, cnt n L ≤ L.length
  | [] => Nat.le_refl _
  | p :: L => by have := cnt_le n L; unfold cnt; split <;> simp only [List.length_cons] <;> omega
theorem cnt_below (n : ByteArray) : ∀ (L : List Fil) (j : Nat), j < cnt n L → klt (L.getD j default).1 n = true
  | [], j, h => absurd h (Nat.not_lt_zero _)
  | p :: L, j, h => by
    unfold cnt at h
    split at h
    · rename_i hp
      cases j with
      | zero => exact hp
      | succ j => exact cnt_below n L j (by omega)
    · omega
theorem cnt_at (n : ByteArray) : ∀ (L : List Fil), cnt n L < L.length → klt (L.getD (cnt n L) default).1 n = false ∧ shas n L = decide ((L.getD (cnt n L) default).1 = n)
  | [], h => absurd h (Nat.not_lt_zero _)
  | p :: L, h => by
    unfold cnt at h ⊢
    unfold shas
    split at h
    · rename_i hp
      rw [if_pos hp, if_pos hp]
      exact cnt_at n L (by simp only [List.length_cons] at h; omega)
    · rename_i hp
      rw [if_neg hp, if_neg hp]
      exact ⟨by simpa using hp, rfl⟩
theorem shas_end (n : ByteArray) : ∀ (L : List Fil), cnt n L = L.length → shas n L = false
  | [], _ => rfl
  | p :: L, h => by
    unfold cnt at h
    unfold shas
    split at h
    · rename_i hp
      rw [if_pos hp]
      exact shas_end n L (by simp only [List.length_cons] at h; omega)
    · simp only [List.length_cons] at h; omega
theorem shas_lt {n : ByteArray} {L : List Fil} (h : shas n L = true) : cnt n L < L.length := by
  have h1 := cnt_le n L
  have h2 : cnt n L ≠ L.length := fun e => by rw [shas_end n L e] at h; cases h
  omega
/-- What set lays together. -/
theorem sput_eq (n : ByteArray) (x : Fl) : ∀ L : List Fil, sput n x L = L.take (cnt n L) ++ [(n, x)] ++ L.drop (if shas n L = true then cnt n L + 1 else cnt n L)
  | [] => rfl
  | p :: L => by
    have ih := sput_eq n x L
    unfold sput cnt shas
    by_cases h1 : klt p.1 n = true
    · rw [if_pos h1, if_pos h1, if_pos h1, ih, List.take_succ_cons]
      by_cases h2 : shas n L = true
      · rw [if_pos h2, if_pos h2]; rfl
      · rw [if_neg h2, if_neg h2]; rfl
    · rw [if_neg h1, if_neg h1, if_neg h1]
      by_cases h2 : p.1 = n
      · rw [if_pos h2, if_pos (decide_eq_true h2)]; rfl
      · rw [if_neg h2, if_neg (by simpa using h2)]; rfl
theorem sdel_eq (n : ByteArray) : ∀ L : List Fil, shas n L = true → sdel n L = L.take (cnt n L) ++ L.drop (cnt n L + 1)
  | [], h => by cases h
  | p :: L, h => by
    unfold shas at h
    unfold sdel cnt
    by_cases h1 : klt p.1 n = true
    · rw [if_pos h1] at h
      rw [if_pos h1, if_pos h1, sdel_eq n L h, List.take_succ_cons]; rfl
    · rw [if_neg h1] at h
      rw [if_neg h1, if_neg h1, if_pos (of_decide_eq_true h)]; rfl
theorem sdel_none (n : ByteArray) : ∀ L : List Fil, shas n L = false → sdel n L = L
  | [], _ => rfl
  | p :: L, h => by
    unfold shas at h
    unfold sdel
    by_cases h1 : klt p.1 n = true
    · rw [if_pos h1] at h
      rw [if_pos h1, sdel_none n L h]
    · rw [if_neg h1] at h
      rw [if_neg h1, if_neg (by simpa using h)]
theorem Srt.tail {p : Fil} {L : List Fil} (h : Srt (p :: L)) : Srt L := (List.pairwise_cons.1 h).2
theorem Srt.head {p : Fil} {L : List Fil} (h : Srt (p :: L)) {q : Fil} (hq : q ∈ L) : klt p.1 q.1 = true := (List.pairwise_cons.1 h).1 q hq
theorem alook_all {n : ByteArray} {L : List Fil} (h : ∀ q ∈ L, klt n q.1 = true) : alook n L = none := alook_none_of_not_mem fun e => by
  obtain ⟨q, hq, e⟩ := List.mem_map.1 e
  have := h q hq
  rw [e, klt_irrefl] at this; cases this
theorem Srt.look {n : ByteArray} : ∀ {L : List Fil}, Srt L → alook n L = if shas n L = true then some (L.getD (cnt n L) default).2 else none
  | [], _ => rfl
  | p :: L, h => by
    have ih := Srt.look (n := n) h.tail
    unfold alook shas cnt
    by_cases h1 : klt p.1 n = true
    · rw [if_pos h1, if_pos h1, if_neg (fun e => klt_ne h1 e.symm), ih]; rfl
    · rw [if_neg h1, if_neg h1]
      by_cases h2 : p.1 = n
      · rw [if_pos h2.symm, if_pos (decide_eq_true h2)]; rfl
      · rw [if_neg (fun e => h2 e.symm), if_neg (by simpa using h2)]
        have h3 := klt_tri (by simpa using h1) h2
        exact alook_all fun q hq => klt_trans h3 (h.head hq)
theorem Srt.has {n : ByteArray} {L : List Fil} (h : Srt L) : shas n L = (alook n L).isSome := by
  rw [h.look]
  cases shas n L <;> rfl
theorem mem_sput {n : ByteArray} {x : Fl} {q : Fil} : ∀ {L : List Fil}, q ∈ sput n x L → q = (n, x) ∨ q ∈ L
  | [], h => by unfold sput at h; exact .inl (List.mem_singleton.1 h)
  | p :: L, h => by
    unfold sput at h
    split at h
    · rcases List.mem_cons.1 h with e | e
      · exact .inr (by rw [e]; exact List.mem_cons_self ..)
      · exact (mem_sput e).imp id fun e => List.mem_cons_of_mem _ e
    · split at h
      · rcases List.mem_cons.1 h with e | e
        · exact .inl e
        · exact .inr (List.mem_cons_of_mem _ e)
      · rcases List.mem_cons.1 h with e | e
        · exact .inl e
        · exact .inr e
theorem mem_sdel {n : ByteArray} {q : Fil} : ∀ {L : List Fil}, q ∈ sdel n L → q ∈ L
  | [], h => by cases h
  | p :: L, h => by
    unfold sdel at h
    split at h
    · rcases List.mem_cons.1 h with e | e
      · rw [e]; exact List.mem_cons_self ..
      · exact List.mem_cons_of_mem _ (mem_sdel e)
    · split at h
      · exact List.mem_cons_of_mem _ h
      · exact h
theorem srt_sput {n : ByteArray} {x : Fl} : ∀ {L : List Fil}, Srt L → Srt (sput n x L)
  | [], _ => List.pairwise_singleton _ _
  | p :: L, h => by
    have ih := srt_sput (n := n) (x := x) h.tail
    unfold sput
    by_cases h1 : klt p.1 n = true
    · rw [if_pos h1]
      refine List.pairwise_cons.2 ⟨fun q hq => ?_, ih⟩
      rcases mem_sput hq with e | e
      · rw [e]; exact h1
      · exact h.head e
    · rw [if_neg h1]
      by_cases h2 : p.1 = n
      · rw [if_pos h2]
        exact List.pairwise_cons.2 ⟨fun q hq => by rw [← h2]; exact h.head hq, h.tail⟩
      · rw [if_neg h2]
        have h3 := klt_tri (by simpa using h1) h2
        refine List.pairwise_cons.2 ⟨fun q hq => ?_, h⟩
        rcases List.mem_cons.1 hq with e | e
        · rw [e]; exact h3
        · exact klt_trans h3 (h.head e)
theorem srt_sdel {n : ByteArray} : ∀ {L : List Fil}, Srt L → Srt (sdel n L)
  | [], _ => List.Pairwise.nil
  | p :: L, h => by
    have ih := srt_sdel (n := n) h.tail
    unfold sdel
    split
    · exact List.pairwise_cons.2 ⟨fun q hq => h.head (mem_sdel hq), ih⟩
    · split
      · exact h.tail
      · exact h
theorem alook_sput (n : ByteArray) (x : Fl) (t : ByteArray) : ∀ {L : List Fil}, Srt L → alook t (sput n x L) = if t = n then some x else alook t L
  | [], _ => by unfold sput alook; rfl
  | p :: L, h => by
    have ih := alook_sput n x t h.tail
    unfold sput
    by_cases h1 : klt p.1 n = true
    · rw [if_pos h1]
      show (if t = p.1 then some p.2 else alook t (sput n x L)) = if t = n then some x else if t = p.1 then some p.2 else alook t L
      rw [ih]
      by_cases e : t = p.1
      · rw [if_pos e, if_pos e, if_neg (fun e2 => klt_ne h1 (e.symm.trans e2))]
      · rw [if_neg e, if_neg e]
    · rw [if_neg h1]
      by_cases h2 : p.1 = n
      · rw [if_pos h2]
        show (if t = n then some x else alook t L) = if t = n then some x else if t = p.1 then some p.2 else alook t L
        by_cases e : t = n
        · rw [if_pos e, if_pos e]
        · rw [if_neg e, if_neg e, if_neg (fun e2 => e (e2.trans h2))]
      · rw [if_neg h2]; rfl
theorem alook_sdel (n t : ByteArray) : ∀ {L : List Fil}, Srt L → alook t (sdel n L) = if t = n then none else alook t L
  | [], _ => by unfold sdel alook; split <;> rfl
  | p :: L, h => by
    have ih := alook_sdel n t h.tail
    unfold sdel
    by_cases h1 : klt p.1 n = true
    · rw [if_pos h1]
      show (if t = p.1 then some p.2 else alook t (sdel n L)) = if t = n then none else if t = p.1 then some p.2 else alook t L
      rw [ih]
      by_cases e : t = p.1
      · rw [if_pos e, if_pos e, if_neg (fun e2 => klt_ne h1 (e.symm.trans e2))]
      · rw [if_neg e, if_neg e]
    · rw [if_neg h1]
      by_cases h2 : p.1 = n
      · rw [if_pos h2]
        show alook t L = if t = n then none else if t = p.1 then some p.2 else alook t L
        by_cases e : t = n
        · rw [if_pos e, e, ← h2]
          exact alook_all fun q hq => h.head hq
        · rw [if_neg e, if_neg (fun e2 => e (e2.trans h2))]
      · rw [if_neg h2]
        by_cases e : t = n
        · rw [if_pos e, e]
          have h3 := klt_tri (by simpa using h1) h2
          exact alook_all fun q hq => by
            rcases List.mem_cons.1 hq with e | e
            · rw [e]; exact h3
            · exact klt_trans h3 (h.head e)
        · rw [if_neg e]
theorem Srt.nodup {L : List Fil} (h : Srt L) : (L.map Prod.fst).Nodup := by
  unfold List.Nodup
  rw [List.pairwise_map]
  exact h.imp fun {a b} h => klt_ne h
/-- The names of files of which look-ups say the same. -/
theorem srt_names {L : List Fil} {A : List Fil} (h : Srt L) (hn : (A.map Prod.fst).Nodup) (he : ∀ x, alook x L = alook x A) : sortN (A.map Prod.fst) = L.map Prod.fst := by
  have hm : ∀ x, x ∈ A.map Prod.fst ↔ x ∈ L.map Prod.fst := fun x => by
    have key : ∀ {M : List Fil}, x ∈ M.map Prod.fst ↔ (alook x M).isSome = true := fun {M} => by
      constructor
      · intro hx
        cases e : alook x M with
        | some v => rfl
        | none =>
          exfalso
          induction M with
          | nil => cases hx
          | cons p M ih =>
            unfold alook at e
            split at e
            · cases e
            · rename_i hne
              rw [List.map_cons, List.mem_cons] at hx
              rcases hx with hx | hx
              · exact hne hx
              · exact ih hx e
      · intro hx
        obtain ⟨v, hv⟩ := Option.isSome_iff_exists.1 hx
        exact List.mem_map.2 ⟨(x, v), mem_of_alook hv, rfl⟩
    rw [key, key, he]
  have hp : (A.map Prod.fst).Perm (L.map Prod.fst) := (List.perm_ext_iff_of_nodup hn h.nodup).2 hm
  unfold sortN
  have h1 : (((A.map Prod.fst).map bytesOf).mergeSort leB) = (L.map Prod.fst).map bytesOf := by
    rw [Go.mergeSort_of_perm (hp.map bytesOf)]
    refine List.mergeSort_of_pairwise ?_
    rw [List.map_map, List.pairwise_map]
    refine h.imp fun {a b} hab => ?_
    unfold klt at hab
    rw [decide_eq_true_eq] at hab
    simp only [leB, decide_eq_true_eq, Function.comp]
    exact List.not_lt.1 fun e => List.lt_irrefl _ (List.lt_trans hab e)
  rw [h1, List.map_map]
  exact (List.map_congr_left fun k _ => mk_bytesOf k).trans (List.map_id _)
/-- What a crash leaves of a row, one behind the other. -/
def scrash : List Fil → List Int → List Fil
  | [], _ => []
  | p :: L, ps => (p.1, ⟨p.2.b.take (keepOf p.2 ps).1, (keepOf p.2 ps).1⟩) :: scrash L (keepOf p.2 ps).2
theorem scrash_cons (p : Fil) (L : List Fil) (ps : List Int) : scrash (p :: L) ps = (p.1, ⟨p.2.b.take (keepOf p.2 ps).1, (keepOf p.2 ps).1⟩) :: scrash L (keepOf p.2 ps).2 := rfl
theorem scrash_names : ∀ (L : List Fil) (ps : List Int), (scrash L ps).map Prod.fst = L.map Prod.fst
  | [], _ => rfl
  | p :: L, ps => by rw [scrash_cons, List.map_cons, List.map_cons, scrash_names]
theorem srt_scrash {L : List Fil} (h : Srt L) (ps : List Int) : Srt (scrash L ps) := by
  have h1 : (L.map Prod.fst).Pairwise fun a b => klt a b = true := List.pairwise_map.2 h
  rw [← scrash_names L ps] at h1
  exact List.pairwise_map.1 h1
theorem alook_none_of {x : ByteArray} {M : List Fil} (h : ∀ q ∈ M, q.1 ≠ x) : alook x M = none := alook_none_of_not_mem fun e => by
  obtain ⟨q, hq, e⟩ := List.mem_map.1 e
  exact h q hq e
theorem crashGo_look {A : List Fil} : ∀ (L : List Fil) (ps : List Int) (acc : List Fil), (∀ p ∈ L, alook p.1 A = some p.2) → (L.map Prod.fst).Nodup → (∀ p ∈ L, alook p.1 acc = none) → ∀ x, alook x (crashGo A (L.map Prod.fst) ps acc) = (alook x (scrash L ps)).or (alook x acc)
  | [], ps, acc, _, _, _, x => rfl
  | p :: L, ps, acc, hA, hn, hd, x => by
    rw [List.map_cons, List.nodup_cons] at hn
    have hp := hA p (List.mem_cons_self ..)
    have ih := crashGo_look (A := A) L (keepOf p.2 ps).2 (aput p.1 ⟨p.2.b.take (keepOf p.2 ps).1, (keepOf p.2 ps).1⟩ acc) (fun q hq => hA q (List.mem_cons_of_mem _ hq)) hn.2 (fun q hq => by
      rw [alook_put, if_neg fun e => hn.1 (by rw [← e]; exact List.mem_map.2 ⟨q, hq, rfl⟩)]
      exact hd q (List.mem_cons_of_mem _ hq)) x
    have e1 : crashGo A ((p :: L).map Prod.fst) ps acc = crashGo A (L.map Prod.fst) (keepOf p.2 ps).2 (aput p.1 ⟨p.2.b.take (keepOf p.2 ps).1, (keepOf p.2 ps).1⟩ acc) := by
      rw [List.map_cons]
      show crashGo A (L.map Prod.fst) (keepOf (flOf (alook p.1 A)) ps).2 _ = _
      rw [hp]; rfl
    rw [e1, ih, alook_put, scrash_cons]
    show _ = (if x = p.1 then some _ else alook x (scrash L (keepOf p.2 ps).2)).or (alook x acc)
    by_cases e : x = p.1
    · rw [if_pos e, if_pos e, e]
      rw [alook_none_of fun q hq e2 => hn.1 (by rw [← scrash_names L (keepOf p.2 ps).2, ← e2]; exact List.mem_map.2 ⟨q, hq, rfl⟩)]
      rfl
    · rw [if_neg e, if_neg e]
/-- The document's files: its row, acts till the power goes, whether it is dark, how many acts. -/
structure RS where
  L : List Fil
  fuse : Int
  dark : Bool
  ops : Int
/-- A state of the program's files and one of the document's say the same. -/
structure Twin (A : Abs) (R : RS) : Prop where
  srt : Srt R.L
  nodup : (A.L.map Prod.fst).Nodup
  look : ∀ x, alook x R.L = alook x A.L
  ops : A.ops = R.ops
  fuse : R.dark = true ∨ (A.counted = false ∧ R.fuse = -1) ∨ (A.counted = true ∧ R.fuse = max A.left 0)
  dark : A.off = R.dark
theorem Twin.names {A : Abs} {R : RS} (h : Twin A R) : sortN (A.L.map Prod.fst) = R.L.map Prod.fst := srt_names h.srt h.nodup h.look
/-- The document's begin. -/
def RS.pow (R : RS) : RS := if R.dark = true ∨ R.fuse = 0 then ⟨R.L, R.fuse, true, R.ops + 1⟩ else ⟨R.L, if 0 < R.fuse then R.fuse - 1 else R.fuse, false, R.ops + 1⟩
def RS.beg (R : RS) (a b : ByteArray) : Int := if R.pow.dark = true then 7 else if nameOK a = true ∧ nameOK b = true then 0 else 1
theorem RS.pow_L (R : RS) : R.pow.L = R.L := by unfold RS.pow; split <;> rfl
theorem RS.pow_ops (R : RS) : R.pow.ops = R.ops + 1 := by unfold RS.pow; split <;> rfl
theorem RS.pow_fuse (R : RS) : R.pow.fuse ≤ R.fuse ∧ (-1 ≤ R.fuse → -1 ≤ R.pow.fuse) := by
  unfold RS.pow
  split
  · exact ⟨Int.le_refl _, id⟩
  · simp only
    split
    · omega
    · exact ⟨Int.le_refl _, id⟩
theorem Twin.pow {A : Abs} {R : RS} (h : Twin A R) : Twin A.pow R.pow := by
  obtain ⟨h1, h2, h3, h4, h5, h6⟩ := h
  have k1 : Srt R.pow.L := by rw [RS.pow_L]; exact h1
  have k2 : (A.pow.L.map Prod.fst).Nodup := by rw [Abs.pow_L]; exact h2
  have k3 : ∀ x, alook x R.pow.L = alook x A.pow.L := fun x => by rw [RS.pow_L, Abs.pow_L]; exact h3 x
  have k4 : A.pow.ops = A.ops + 1 := by unfold Abs.pow; repeat' split
                                        all_goals rfl
  by_cases hd : R.dark = true
  · have e1 : R.pow = ⟨R.L, R.fuse, true, R.ops + 1⟩ := by unfold RS.pow; rw [if_pos (.inl hd)]
    have e2 : A.pow.off = true := by
      have h7 : A.off = true := h6.trans hd
      unfold Abs.pow
      repeat' split
      all_goals first | exact h7 | rfl
    exact ⟨k1, k2, k3, by rw [k4, RS.pow_ops, h4], .inl (by rw [e1]), by rw [e1, e2]⟩
  · have hd' : R.dark = false := by simpa using hd
    rcases h5 with e | ⟨e1, e2⟩ | ⟨e1, e2⟩
    · exact absurd e hd
    · have f1 : R.pow = ⟨R.L, R.fuse, false, R.ops + 1⟩ := by
        unfold RS.pow
        rw [if_neg (by rw [e2]; intro e; rcases e with e | e; exact hd e; omega), if_neg (by omega)]
      have f2 : A.pow = { A with ops := A.ops + 1 } := by unfold Abs.pow; rw [if_pos e1]
      exact ⟨k1, k2, k3, by rw [k4, RS.pow_ops, h4], .inr (.inl ⟨by rw [f2]; exact e1, by rw [f1]; exact e2⟩), by rw [f1, f2]; exact h6.trans hd'⟩
    · have e3 : ¬ A.counted = false := by rw [e1]; decide
      by_cases hl : 0 < A.left
      · have f1 : R.pow = ⟨R.L, R.fuse - 1, false, R.ops + 1⟩ := by
          unfold RS.pow
          rw [if_neg (by rw [e2]; intro e; rcases e with e | e; exact hd e; omega), if_pos (by omega)]
        have f2 : A.pow = { A with ops := A.ops + 1, left := A.left - 1 } := by unfold Abs.pow; rw [if_neg e3, if_pos hl]
        exact ⟨k1, k2, k3, by rw [k4, RS.pow_ops, h4], .inr (.inr ⟨by rw [f2]; exact e1, by rw [f1, f2]; simp only; omega⟩), by rw [f1, f2]; exact h6.trans hd'⟩
      · have f1 : R.pow = ⟨R.L, R.fuse, true, R.ops + 1⟩ := by
          unfold RS.pow
          rw [if_pos (.inr (by omega))]
        have f2 : A.pow = { A with ops := A.ops + 1, off := true } := by unfold Abs.pow; rw [if_neg e3, if_neg hl]
        exact ⟨k1, k2, k3, by rw [k4, RS.pow_ops, h4], .inl (by rw [f1]), by rw [f1, f2]⟩
theorem Twin.beg {A : Abs} {R : RS} (h : Twin A R) (l : List ByteArray) (a b : ByteArray) (hl : l.all nameOK = decide (nameOK a = true ∧ nameOK b = true)) : A.beg l = R.beg a b := by
  unfold Abs.beg RS.beg
  rw [h.pow.dark, hl]
  simp only [decide_eq_true_eq]
/-- A row of files laid anew, on both sides. -/
theorem Twin.lay {A : Abs} {R : RS} (h : Twin A R) {L1 L2 : List Fil} (h1 : Srt L2) (h2 : (L1.map Prod.fst).Nodup) (h3 : ∀ x, alook x L2 = alook x L1) : Twin { A with L := L1 } { R with L := L2 } := ⟨h1, h2, h3, h.ops, h.fuse, h.dark⟩
theorem nodup_aput {n : ByteArray} {x : Fl} {A : List Fil} (h : (A.map Prod.fst).Nodup) : ((aput n x A).map Prod.fst).Nodup := by
  induction A with
  | nil => unfold aput; simp
  | cons p A ih =>
    rw [List.map_cons, List.nodup_cons] at h
    unfold aput
    split
    · rename_i e
      rw [List.map_cons, List.nodup_cons]
      exact ⟨by rw [e]; exact h.1, h.2⟩
    · rename_i e
      rw [List.map_cons, List.nodup_cons]
      refine ⟨fun hm => ?_, ih h.2⟩
      obtain ⟨q, hq, e2⟩ := List.mem_map.1 hm
      rcases mem_put hq with rfl | ⟨hq, _⟩
      · exact e e2
      · exact h.1 (by rw [← e2]; exact List.mem_map.2 ⟨q, hq, rfl⟩)
theorem Twin.put {A : Abs} {R : RS} (h : Twin A R) (n : ByteArray) (x : Fl) : Twin { A with L := aput n x A.L } { R with L := sput n x R.L } :=
  h.lay (srt_sput h.srt) (nodup_aput h.nodup) fun t => by rw [alook_sput n x t h.srt, alook_put, h.look t]
theorem Twin.del {A : Abs} {R : RS} (h : Twin A R) (n : ByteArray) : Twin { A with L := adel n A.L } { R with L := sdel n R.L } :=
  h.lay (srt_sdel h.srt) (((adel_sub n A.L).map Prod.fst).nodup h.nodup) fun t => by rw [alook_sdel n t h.srt, alook_del h.nodup, h.look t]
theorem Twin.crash {A : Abs} {R : RS} (h : Twin A R) (ps : List Int) : Twin (A.crash ps) ⟨scrash R.L ps, -1, false, 0⟩ := by
  have hg : ∀ x, alook x (crashGo A.L (sortN (A.L.map Prod.fst)) ps []) = alook x (scrash R.L ps) := fun x => by
    rw [h.names, crashGo_look R.L ps [] (fun p hp => by rw [← h.look]; exact alook_of_mem h.srt.nodup hp) h.srt.nodup (fun p _ => rfl) x]
    cases alook x (scrash R.L ps) <;> rfl
  refine ⟨srt_scrash h.srt ps, ?_, fun x => (hg x).symm, rfl, .inr (.inl ⟨rfl, rfl⟩), rfl⟩
  show ((crashGo A.L (sortN (A.L.map Prod.fst)) ps []).map Prod.fst).Nodup
  have : ∀ (ns : List ByteArray) (ps : List Int) (acc : List Fil), (acc.map Prod.fst).Nodup → ((crashGo A.L ns ps acc).map Prod.fst).Nodup := by
    intro ns
    induction ns with
    | nil => exact fun _ _ h => h
    | cons n ns ih => exact fun ps acc hacc => ih _ _ (nodup_aput hacc)
  exact this _ _ _ List.nodup_nil
end Go.Proofs.Ytlapnnkahijikaa
namespace Go.Proofs.Ytlapnnkahijikaa
open Go.ChangeShapes Go.WideShapes Go.ChangeAt Go.RowKit Go.Lib

theorem rless (a b : ByteArray) : Op.bytesLess a.toList b.toList = klt a b := by
  rw [Go.Proofs.bytesLess_eq, ByteArray.toList_eq, ByteArray.toList_eq]; rfl
theorem req (a b : ByteArray) : (a.toList == b.toList) = decide (a = b) := by
  rw [ByteArray.toList_eq, ByteArray.toList_eq, Bool.eq_iff_iff]
  simp only [beq_iff_eq, decide_eq_true_eq]
  refine ⟨fun h => kb_inj h, fun h => by rw [h]⟩
def filC (p : Fil) : List Value := [.string p.1, .string (ofB p.2.b), .int .i64 p.2.safe]
instance : El Fil := ⟨filC, 3, fun _ => rfl, fun x v hv => by
  simp only [filC, List.mem_cons, List.not_mem_nil, or_false] at hv
  rcases hv with rfl | rfl | rfl <;> rfl, default⟩
theorem Try.infoF : (Try.prog.info? 60).map (fun i => (i.zero, i.size, i.bytes)) = some (some (.agg (filC default).toArray), 3, 40) := by kernel_rfl
theorem elF : ElT Fil Try.prog 48 60 40 := ⟨Try.underlying48, Try.infoF, by omega, by decide, by decide⟩
abbrev OwnF (w : World) (B : Nat) (v : Value) (l : List Fil) : Prop := OwnE 60 w B v l
theorem Els.fil {w : World} {a : Option Addr} {n cap : Nat} {l : List Fil} (h : Els w a n cap l) {k : Nat} (hk : k < n) : ∃ b o, a = some ⟨b, o, none⟩ ∧ w.cell? ⟨b, o + k * 3, none⟩ = some (.string (l.getD k default).1) ∧ w.cell? ⟨b, o + k * 3 + 1, none⟩ = some (.string (ofB (l.getD k default).2.b)) ∧ w.cell? ⟨b, o + k * 3 + 2, none⟩ = some (.int .i64 (l.getD k default).2.safe) := by
  obtain ⟨b, o, ha, hr⟩ := h.at k hk
  exact ⟨b, o, ha, hr 0 _ rfl, hr 1 _ rfl, hr 2 _ rfl⟩
theorem wp_region_readsR {P : Program} {id : Nat} {Q : Exit → Act → World → Prop} {a : Act} {w : World} {l : List Oper} (hm : P.follows .mixedOrders = true) (hB : Region.lexB .any l.toArray = true)
    (h : wpStill P l.toArray w.drew (fun a' => Q .normal a' w.drew) l a) : (Code.region id l.toArray true).wp P Q a w :=
  wp_region_still_lit hm hB h
/-- The document's files lie at m; their row at v. -/
structure RkAt (w : World) (m : Nat) (v : Value) (R : RS) : Prop where
  blk : Blk w m [v, .int .i64 R.fuse, .bool R.dark, .int .i64 R.ops]
  own : OwnF w 0 v R.L
  ne : ∀ k, v.ownBlock = some k → k ≠ m
/-- A row is the elder one, or a new one. -/
def Mvd (w : World) (v v' : Value) : Prop := ∀ k, v'.ownBlock = some k → v.ownBlock = some k ∨ w.heap.size ≤ k
section
variable {w w' : World} {m : Nat} {v : Value} {R : RS}
theorem Mvd.refl (w : World) (v : Value) : Mvd w v v := fun _ h => .inl h
theorem RkAt.below (h : RkAt w m v R) (hb : Below w.heap.size w w') : RkAt w' m v R := ⟨h.blk.below hb h.blk.lt, h.own.below hb, h.ne⟩
theorem RkAt.drew (h : RkAt w m v R) : RkAt w.drew m v R := h.below (Below.refl _ _).drew
theorem RkAt.shape (h : RkAt w m v R) : ∃ a c, v = .slice a R.L.length c ∧ Els w a R.L.length c R.L := h.own.els
/-- A store into its own block. -/
theorem RkAt.keep {R' : RS} (h : RkAt w m v R) (hk : Keep m w w') (hb : Blk w' m [v, .int .i64 R'.fuse, .bool R'.dark, .int .i64 R'.ops]) (hl : R'.L = R.L) : RkAt w' m v R' :=
  ⟨hb, by rw [hl]; exact h.own.same fun k e => hk.block k (h.own.lt k e).2 (h.ne k e), h.ne⟩
end
set_option maxRecDepth 100000 in
set_option maxHeartbeats 2000000 in
theorem newFS_any (w : World) : Calls Try.prog 8 #[] w fun e w' => e = .returned (.pointer (some ⟨w.heap.size, 0, none⟩)) ∧ RkAt w' w.heap.size (.slice none 0 0) ⟨[], -1, false, 0⟩ ∧ Below w.heap.size w w' := by
  go_enter Try.func8, Try.ntmps8
  go_wp2_with fail
  go_ret
  exact ⟨rfl, ⟨Blk.mk _ _ _ rfl rfl, OwnE.nil _ _, fun k e => by cases e⟩, (Below.refl _ _).alloc (Nat.le_refl _) _⟩
set_option maxRecDepth 100000 in
set_option maxHeartbeats 4000000 in
theorem place_any (m : Nat) (v : Value) (R : RS) (n : ByteArray) (w : World) (h : RkAt w m v R) :
    Calls Try.prog 36 #[.pointer (some ⟨m, 0, none⟩), .string n] w fun e w' => e = .returned (.tuple #[.int .i64 (cnt n R.L), .bool (shas n R.L)]) ∧ Below w.heap.size w w' := by
  have HMO : Hid (Try.prog.follows .mixedOrders = true) := show _ = _ by kernel_rfl
  obtain ⟨a, c, rfl, hels⟩ := h.shape
  obtain ⟨L, fuse, dark, ops⟩ := R
  simp only at hels
  obtain ⟨z, hz⟩ : ∃ z, z = L.length := ⟨_, rfl⟩
  have hz63 : z ≤ 9223372036854775807 := by have h1 := hels.fits; have h2 := hels.most; unfold maxLen at h2; omega
  have hc0 : w.cell? ⟨m, 0, none⟩ = some (.slice a z c) := by rw [hz]; exact h.blk.one rfl
  rw [← hz] at hels
  have HE : Hid (Els w a z c L) := hels
  have HN : Hid (z = L.length) := hz
  have HP : Hid (cnt n L ≤ z) := show _ ≤ _ by rw [hz]; exact cnt_le n L
  have HL : Hid (∀ k, k < cnt n L → klt (L.getD k default).1 n = true) := fun k hk => cnt_below n L k hk
  have HA : Hid (cnt n L < z → klt (L.getD (cnt n L) default).1 n = false ∧ shas n L = decide ((L.getD (cnt n L) default).1 = n)) := fun hk => cnt_at n L (by rw [← hz]; exact hk)
  have HT : Hid (cnt n L = z → shas n L = false) := fun e => shas_end n L (by rw [← hz]; exact e)
  have HC : Hid (w.cell? ⟨m, 0, none⟩ = some (.slice a z c)) := hc0
  clear h hz hels
  show Calls _ _ _ _ fun e w' => e = .returned (.tuple #[.int .i64 (cnt n L), .bool (shas n L)]) ∧ Below w.heap.size w w'
  generalize cnt n L = P at *
  generalize shas n L = TA at *
  obtain ⟨wb, hwb⟩ : ∃ x, x = w := ⟨_, rfl⟩
  rw [← hwb] at hc0 HE HC ⊢
  clear hwb
  go_enter Try.func36, Try.ntmps36
  go_wp2_with fail
  go_loopw [6] (fun i wr => ∃ k : Nat, k ≤ P ∧ i = .int .i64 k ∧ wr = wb) (fun i _ => P - (intOf i).toNat)
  case atStart => exact ⟨0, Nat.zero_le _, rfl, rfl⟩
  case round =>
    obtain ⟨k, hk, rfl, rfl⟩ := hrel
    have hPn := HP.out
    by_cases hlt : k < P
    · have e0 : (0 : Int) ≤ (k : Int) := by omega
      have e1 : (k : Int) < (z : Int) := by omega
      obtain ⟨g, o, rfl, hcg, _, _⟩ := HE.out.fil (k := k) (by omega)
      have hless := HL.out k hlt
      rw [← rless] at hless
      generalize (L.getD k default).1 = kk at *
      go_wp2_with fail
      go_roundw
      case rel => exact ⟨k + 1, by omega, by go_num, trivial⟩
      case measure => simp [intOf]; omega
    · obtain rfl : k = P := by omega
      by_cases hkn : k < z
      · have e0 : (0 : Int) ≤ (k : Int) := by omega
        have e1 : (k : Int) < (z : Int) := by omega
        obtain ⟨g, o, rfl, hcg, _, _⟩ := HE.out.fil (k := k) hkn
        obtain ⟨hless, hta⟩ := HA.out hkn
        rw [← rless] at hless
        have HT2 : Hid (TA = decide ((L.getD k default).1 = n)) := hta
        clear hta
        generalize (L.getD k default).1 = kk at *
        have heq := req kk n
        have HE2 : Hid (_ = decide (kk = n)) := HT2.out
        generalize decide (kk = n) = dd at *
        go_upto_region 4 with fail
        refine wp_region_readsR HMO.out (by kernel_rfl) ?_
        iterate 22 still_step
        refine wpStill_nil ?_
        go_wp2_with fail
        go_ret2
        exact ⟨by rw [HE2.out]; rfl, (Below.refl _ _).drew⟩
      · obtain rfl : k = z := by omega
        have e1 : ¬ (k : Int) < (k : Int) := by omega
        have HT2 : Hid (TA = false) := HT.out rfl
        go_upto_region 4 with fail
        refine wp_region_noPanic ?_
        refine wp_region_held_drew (S := fun w' => w'.cell? ⟨m, 0, none⟩ = some (.slice a k c)) HMO.out (HC.out) (fun hHeld => ?_)
        refine wpAnyH_take (i := 0) (oi := { dst := some 28, op := .move (.tmp 6), type := 3, pos := "chain.go:47", after := #[], guard := none }) (v := ?_) rfl (by kernel_rfl) (by kernel_rfl) (by kernel_rfl) (fun _ _ _ h => h) (Or.inl ⟨by rfl, ?_⟩) (by assumption) ?_
        rotate_left
        · intro _ _; go_simp; first | done | with_reducible rfl
        simp only [Act.put, List.setIfInBounds_toArray, List.set_cons_zero, List.set_cons_succ]
        refine wpAnyH_take (i := 1) (oi := { dst := some 29, op := .move (.tmp 6), type := 3, pos := "chain.go:47", after := #[], guard := none }) (v := ?_) rfl (by kernel_rfl) (by kernel_rfl) (by kernel_rfl) (fun _ _ _ h => h) (Or.inl ⟨by rfl, ?_⟩) (by assumption) ?_
        rotate_left
        · intro _ _; go_simp; first | done | with_reducible rfl
        simp only [Act.put, List.setIfInBounds_toArray, List.set_cons_zero, List.set_cons_succ]
        refine wpAnyH_take (i := 2) (oi := { dst := some 30, op := .move (.tmp 0), type := 27, pos := "chain.go:47", after := #[], guard := none }) (v := ?_) rfl (by kernel_rfl) (by kernel_rfl) (by kernel_rfl) (fun _ _ _ h => h) (Or.inl ⟨by rfl, ?_⟩) (by assumption) ?_
        rotate_left
        · intro _ _; go_simp; first | done | with_reducible rfl
        simp only [Act.put, List.setIfInBounds_toArray, List.set_cons_zero, List.set_cons_succ]
        refine wpAnyH_take (i := 3) (oi := { dst := some 31, op := .nilCheck (.tmp 30), type := 0, pos := "chain.go:47", after := #[{ on := 2, ground := .data }], guard := none }) (v := ?_) rfl (by kernel_rfl) (by kernel_rfl) (by kernel_rfl) (fun _ _ _ h => h) (Or.inl ⟨by rfl, ?_⟩) (by assumption) ?_
        rotate_left
        · intro _ _; go_simp; first | done | with_reducible rfl
        simp only [Act.put, List.setIfInBounds_toArray, List.set_cons_zero, List.set_cons_succ]
        refine wpAnyH_take (i := 4) (oi := { dst := some 32, op := .fieldAddr 50 (.tmp 31) 0, type := 0, pos := "chain.go:47", after := #[{ on := 3, ground := .data }], guard := none }) (v := ?_) rfl (by kernel_rfl) (by kernel_rfl) (by kernel_rfl) (fun _ _ _ h => h) (Or.inl ⟨by rfl, ?_⟩) (by assumption) ?_
        rotate_left
        · intro _ _; go_simp; first | done | with_reducible rfl
        simp only [Act.put, List.setIfInBounds_toArray, List.set_cons_zero, List.set_cons_succ]
        refine wpAnyH_take (i := 5) (oi := { dst := some 33, op := .load 48 (.tmp 32), type := 48, pos := "chain.go:47", after := #[{ on := 4, ground := .data }], guard := none }) (v := .slice a k c) rfl (by kernel_rfl) (by kernel_rfl) (by kernel_rfl) (fun _ _ _ h => h) (Or.inl ⟨by rfl, ?_⟩) (by assumption) ?_
        · intro _ _; rename_i wz hz; have cz := hz; go_simp
        simp only [Act.put, List.setIfInBounds_toArray, List.set_cons_zero, List.set_cons_succ]
        refine wpAnyH_take (i := 6) (oi := { dst := some 34, op := .call { callee := .builtin Go.Builtin.len, args := #[.tmp 33], argTypes := #[48] }, type := 3, pos := "chain.go:47", after := #[{ on := 5, ground := .data }], guard := none }) (v := ?_) rfl (by kernel_rfl) (by kernel_rfl) (by kernel_rfl) (fun _ _ _ h => h) (Or.inl ⟨by rfl, ?_⟩) (by assumption) ?_
        rotate_left
        · intro _ _; go_simp; first | done | with_reducible rfl
        simp only [Act.put, List.setIfInBounds_toArray, List.set_cons_zero, List.set_cons_succ]
        refine wpAnyH_take (i := 7) (oi := { dst := some 35, op := .binOp Go.BinOp.lss 3 (.tmp 29) (.tmp 34) 3, type := 4, pos := "chain.go:47", after := #[{ on := 1, ground := .data }, { on := 6, ground := .data }], guard := none }) (v := .bool false) rfl (by kernel_rfl) (by kernel_rfl) (by kernel_rfl) (fun _ _ _ h => h) (Or.inl ⟨by rfl, ?_⟩) (by assumption) ?_
        · intro _ _; go_simp
        simp only [Act.put, List.setIfInBounds_toArray, List.set_cons_zero, List.set_cons_succ]
        refine wpAnyH_take (i := 8) (oi := { dst := some 36, op := .move (.tmp 35), type := 4, pos := "chain.go:47", after := #[{ on := 7, ground := .data }], guard := none }) (v := ?_) rfl (by kernel_rfl) (by kernel_rfl) (by kernel_rfl) (fun _ _ _ h => h) (Or.inl ⟨by rfl, ?_⟩) (by assumption) ?_
        rotate_left
        · intro _ _; go_simp; first | done | with_reducible rfl
        simp only [Act.put, List.setIfInBounds_toArray, List.set_cons_zero, List.set_cons_succ]
        refine wpAnyH_take (i := 9) (oi := { dst := some 37, op := .move (.tmp 0), type := 27, pos := "chain.go:47", after := #[{ on := 8, ground := .guard }, { on := 20, ground := .gcOnly Go.Departure.lateStores }], guard := some (8, true) }) (v := undef) rfl (by kernel_rfl) (by kernel_rfl) (by kernel_rfl) (fun _ _ _ h => h) (Or.inr ⟨by rfl, rfl⟩) (by assumption) ?_
        simp only [Act.put, List.setIfInBounds_toArray, List.set_cons_zero, List.set_cons_succ]
        refine wpAnyH_take (i := 10) (oi := { dst := some 38, op := .nilCheck (.tmp 37), type := 0, pos := "chain.go:47", after := #[{ on := 9, ground := .data }, { on := 8, ground := .guard }, { on := 20, ground := .gcOnly Go.Departure.lateStores }], guard := some (8, true) }) (v := undef) rfl (by kernel_rfl) (by kernel_rfl) (by kernel_rfl) (fun _ _ _ h => h) (Or.inr ⟨by rfl, rfl⟩) (by assumption) ?_
        simp only [Act.put, List.setIfInBounds_toArray, List.set_cons_zero, List.set_cons_succ]
        refine wpAnyH_take (i := 11) (oi := { dst := some 39, op := .fieldAddr 50 (.tmp 38) 0, type := 0, pos := "chain.go:47", after := #[{ on := 10, ground := .data }, { on := 8, ground := .guard }, { on := 20, ground := .gcOnly Go.Departure.lateStores }], guard := some (8, true) }) (v := undef) rfl (by kernel_rfl) (by kernel_rfl) (by kernel_rfl) (fun _ _ _ h => h) (Or.inr ⟨by rfl, rfl⟩) (by assumption) ?_
        simp only [Act.put, List.setIfInBounds_toArray, List.set_cons_zero, List.set_cons_succ]
        refine wpAnyH_take (i := 12) (oi := { dst := some 40, op := .load 48 (.tmp 39), type := 48, pos := "chain.go:47", after := #[{ on := 11, ground := .data }, { on := 8, ground := .guard }, { on := 20, ground := .gcOnly Go.Departure.lateStores }], guard := some (8, true) }) (v := undef) rfl (by kernel_rfl) (by kernel_rfl) (by kernel_rfl) (fun _ _ _ h => h) (Or.inr ⟨by rfl, rfl⟩) (by assumption) ?_
        simp only [Act.put, List.setIfInBounds_toArray, List.set_cons_zero, List.set_cons_succ]
        refine wpAnyH_take (i := 13) (oi := { dst := some 41, op := .move (.tmp 6), type := 3, pos := "chain.go:47", after := #[{ on := 8, ground := .guard }, { on := 20, ground := .gcOnly Go.Departure.lateStores }], guard := some (8, true) }) (v := undef) rfl (by kernel_rfl) (by kernel_rfl) (by kernel_rfl) (fun _ _ _ h => h) (Or.inr ⟨by rfl, rfl⟩) (by assumption) ?_
        simp only [Act.put, List.setIfInBounds_toArray, List.set_cons_zero, List.set_cons_succ]
        refine wpAnyH_take (i := 14) (oi := { dst := some 42, op := .indexAddr 48 (.tmp 40) (.tmp 41), type := 0, pos := "chain.go:47", after := #[{ on := 12, ground := .data }, { on := 13, ground := .data }, { on := 8, ground := .guard }, { on := 20, ground := .gcOnly Go.Departure.lateStores }], guard := some (8, true) }) (v := undef) rfl (by kernel_rfl) (by kernel_rfl) (by kernel_rfl) (fun _ _ _ h => h) (Or.inr ⟨by rfl, rfl⟩) (by assumption) ?_
        simp only [Act.put, List.setIfInBounds_toArray, List.set_cons_zero, List.set_cons_succ]
        refine wpAnyH_take (i := 15) (oi := { dst := some 43, op := .fieldAddr 60 (.tmp 42) 0, type := 0, pos := "chain.go:47", after := #[{ on := 14, ground := .data }, { on := 8, ground := .guard }, { on := 20, ground := .gcOnly Go.Departure.lateStores }], guard := some (8, true) }) (v := undef) rfl (by kernel_rfl) (by kernel_rfl) (by kernel_rfl) (fun _ _ _ h => h) (Or.inr ⟨by rfl, rfl⟩) (by assumption) ?_
        simp only [Act.put, List.setIfInBounds_toArray, List.set_cons_zero, List.set_cons_succ]
        refine wpAnyH_take (i := 16) (oi := { dst := some 44, op := .load 9 (.tmp 43), type := 9, pos := "chain.go:47", after := #[{ on := 15, ground := .data }, { on := 8, ground := .guard }, { on := 20, ground := .gcOnly Go.Departure.lateStores }], guard := some (8, true) }) (v := undef) rfl (by kernel_rfl) (by kernel_rfl) (by kernel_rfl) (fun _ _ _ h => h) (Or.inr ⟨by rfl, rfl⟩) (by assumption) ?_
        simp only [Act.put, List.setIfInBounds_toArray, List.set_cons_zero, List.set_cons_succ]
        refine wpAnyH_take (i := 17) (oi := { dst := some 45, op := .move (.tmp 1), type := 9, pos := "chain.go:47", after := #[{ on := 8, ground := .guard }, { on := 20, ground := .gcOnly Go.Departure.lateStores }], guard := some (8, true) }) (v := undef) rfl (by kernel_rfl) (by kernel_rfl) (by kernel_rfl) (fun _ _ _ h => h) (Or.inr ⟨by rfl, rfl⟩) (by assumption) ?_
        simp only [Act.put, List.setIfInBounds_toArray, List.set_cons_zero, List.set_cons_succ]
        refine wpAnyH_take (i := 18) (oi := { dst := some 46, op := .binOp Go.BinOp.eql 9 (.tmp 44) (.tmp 45) 9, type := 4, pos := "chain.go:47", after := #[{ on := 16, ground := .data }, { on := 17, ground := .data }, { on := 8, ground := .guard }, { on := 20, ground := .gcOnly Go.Departure.lateStores }], guard := some (8, true) }) (v := undef) rfl (by kernel_rfl) (by kernel_rfl) (by kernel_rfl) (fun _ _ _ h => h) (Or.inr ⟨by rfl, rfl⟩) (by assumption) ?_
        simp only [Act.put, List.setIfInBounds_toArray, List.set_cons_zero, List.set_cons_succ]
        refine wpAnyH_take (i := 19) (oi := { dst := some 47, op := .pick (.tmp 36) (.tmp 46) (.const (.bool false)), type := 4, pos := "chain.go:47", after := #[{ on := 8, ground := .data }, { on := 18, ground := .data }, { on := 20, ground := .gcOnly Go.Departure.lateStores }], guard := none }) (v := ?_) rfl (by kernel_rfl) (by kernel_rfl) (by kernel_rfl) (fun _ _ _ h => h) (Or.inl ⟨by rfl, ?_⟩) (by assumption) ?_
        rotate_left
        · intro _ _; go_simp; first | done | with_reducible rfl
        simp only [Act.put, List.setIfInBounds_toArray, List.set_cons_zero, List.set_cons_succ]
        refine wpAnyH_take (i := 20) (oi := { dst := some 4, op := .assign (.tmp 28), type := 3, pos := "chain.go:47", after := #[{ on := 0, ground := .data }, { on := 8, ground := .chain }, { on := 0, ground := .phase }, { on := 1, ground := .textOnly Go.Departure.lateStores }, { on := 2, ground := .textOnly Go.Departure.lateStores }, { on := 3, ground := .textOnly Go.Departure.lateStores }, { on := 4, ground := .textOnly Go.Departure.lateStores }, { on := 5, ground := .textOnly Go.Departure.lateStores }, { on := 6, ground := .textOnly Go.Departure.lateStoresUnsure }, { on := 7, ground := .textOnly Go.Departure.lateStores }, { on := 8, ground := .textOnly Go.Departure.lateStores }, { on := 9, ground := .textOnly Go.Departure.lateStores }, { on := 10, ground := .textOnly Go.Departure.lateStores }, { on := 11, ground := .textOnly Go.Departure.lateStores }, { on := 12, ground := .textOnly Go.Departure.lateStores }, { on := 13, ground := .textOnly Go.Departure.lateStores }, { on := 14, ground := .textOnly Go.Departure.lateStores }, { on := 15, ground := .textOnly Go.Departure.lateStores }, { on := 16, ground := .textOnly Go.Departure.lateStores }, { on := 17, ground := .textOnly Go.Departure.lateStores }, { on := 18, ground := .textOnly Go.Departure.lateStores }, { on := 19, ground := .textOnly Go.Departure.lateStores }], guard := none }) (v := ?_) rfl (by kernel_rfl) (by kernel_rfl) (by kernel_rfl) (fun _ _ _ h => h) (Or.inl ⟨by rfl, ?_⟩) (by assumption) ?_
        rotate_left
        · intro _ _; go_simp; first | done | with_reducible rfl
        simp only [Act.put, List.setIfInBounds_toArray, List.set_cons_zero, List.set_cons_succ]
        refine wpAnyH_take (i := 21) (oi := { dst := some 5, op := .assign (.tmp 47), type := 4, pos := "chain.go:47", after := #[{ on := 19, ground := .data }, { on := 20, ground := .chain }, { on := 0, ground := .phase }, { on := 1, ground := .phase }, { on := 2, ground := .phase }, { on := 3, ground := .phase }, { on := 4, ground := .phase }, { on := 5, ground := .phase }, { on := 6, ground := .phase }, { on := 7, ground := .phase }, { on := 8, ground := .phase }, { on := 9, ground := .phase }, { on := 10, ground := .phase }, { on := 11, ground := .phase }, { on := 12, ground := .phase }, { on := 13, ground := .phase }, { on := 14, ground := .phase }, { on := 15, ground := .phase }, { on := 16, ground := .phase }, { on := 17, ground := .phase }, { on := 18, ground := .phase }, { on := 19, ground := .phase }, { on := 20, ground := .phase }], guard := none }) (v := ?_) rfl (by kernel_rfl) (by kernel_rfl) (by kernel_rfl) (fun _ _ _ h => h) (Or.inl ⟨by rfl, ?_⟩) (by assumption) ?_
        rotate_left
        · intro _ _; go_simp; first | done | with_reducible rfl
        simp only [Act.put, List.setIfInBounds_toArray, List.set_cons_zero, List.set_cons_succ]
        refine wpAnyH_done (by kernel_rfl) ?_ _
        refine NoPanic.normal ?_
        clear hHeld
        go_wp2_with fail
        go_ret2
        exact ⟨by rw [HT2.out]; rfl, (Below.refl _ _).drew⟩
end Go.Proofs.Ytlapnnkahijikaa
namespace Go.Proofs.Ytlapnnkahijikaa
open Go.ChangeShapes Go.WideShapes Go.ChangeAt Go.RowKit Go.Lib

set_option maxRecDepth 100000 in
set_option maxHeartbeats 4000000 in
theorem rbegin_any (m : Nat) (v : Value) (R : RS) (x y : ByteArray) (w : World) (h : RkAt w m v R) (h0 : -9223372036854775808 ≤ R.ops) (h1 : R.ops ≤ 4611686018427387904) (h2 : -1 ≤ R.fuse) (h3 : R.fuse ≤ 9223372036854775807) :
    Calls Try.prog 35 #[.pointer (some ⟨m, 0, none⟩), .string x, .string y] w fun e w' => e = .returned (.int .i64 (R.beg x y)) ∧ RkAt w' m v R.pow ∧ Keep m w w' := by
  have H : Hid (∀ w', Keep m w w' → Blk w' m [v, .int .i64 R.pow.fuse, .bool R.pow.dark, .int .i64 R.pow.ops] → RkAt w' m v R.pow ∧ Keep m w w') := fun w' k hb => ⟨h.keep k hb R.pow_L, k⟩
  have HB : Hid (Blk w m [v, .int .i64 R.fuse, .bool R.dark, .int .i64 R.ops]) := h.blk
  have HPW : Hid (R.pow = if R.dark = true ∨ R.fuse = 0 then ⟨R.L, R.fuse, true, R.ops + 1⟩ else ⟨R.L, if 0 < R.fuse then R.fuse - 1 else R.fuse, false, R.ops + 1⟩) := show _ = _ from rfl
  obtain ⟨a, c, rfl, _⟩ := h.shape
  clear h
  obtain ⟨z, hz⟩ : ∃ z, z = R.L.length := ⟨_, rfl⟩
  rw [← hz] at HB H ⊢
  clear hz
  obtain ⟨R9, hR9⟩ : ∃ T, T = R := ⟨_, rfl⟩
  show Calls _ _ _ _ fun e w' => e = .returned (.int .i64 (R.beg x y)) ∧ RkAt w' m _ R.pow ∧ Keep m w w'
  rw [← hR9] at H HPW ⊢
  obtain ⟨L, fuse, dark, ops⟩ := R
  simp only at h0 h1 h2 h3 HB
  have c3 : w.cell? ⟨m, 3, none⟩ = some (.int .i64 ops) := HB.out.one rfl
  have g3 : w.frozen? ⟨m, 3, none⟩ = false := HB.out.frozen 3
  go_enter Try.func35, Try.ntmps35
  go_upto_region 2 with fail
  generalize hw1 : World.setCell w _ _ = w1
  have HB1 : Hid (Blk w1 m [.slice a z c, .int .i64 fuse, .bool dark, .int .i64 (ops + 1)]) := by rw [← hw1]; exact HB.out.set 3 _
  have HK1 : Hid (Keep m w w1) := by rw [← hw1]; exact (Keep.refl _ _).setCell _ _
  clear hw1 c3 g3 HB
  have c1 : w1.cell? ⟨m, 1, none⟩ = some (.int .i64 fuse) := HB1.out.one rfl
  have c2 : w1.cell? ⟨m, 2, none⟩ = some (.bool dark) := HB1.out.one rfl
  have g1 : w1.frozen? ⟨m, 1, none⟩ = false := HB1.out.frozen 1
  have g2 : w1.frozen? ⟨m, 2, none⟩ = false := HB1.out.frozen 2
  by_cases hf : fuse = 0
  · subst hf
    have HT : Hid (R9.pow = ⟨L, 0, true, ops + 1⟩) := show _ = _ by rw [HPW.out, hR9]; exact if_pos (.inr rfl)
    have HNE : Hid (R9.beg x y = 7) := show _ = _ by unfold RS.beg; rw [HT.out]; rfl
    clear hR9 HPW
    go_upto_region 4 with fail
    generalize hw2 : World.setCell w1 _ _ = w2
    have HB2 : Hid (Blk w2 m [.slice a z c, .int .i64 0, .bool true, .int .i64 (ops + 1)]) := by rw [← hw2]; exact HB1.out.set 2 _
    have HK2 : Hid (Keep m w w2) := by rw [← hw2]; exact HK1.out.setCell _ _
    clear hw2 c1 c2 g1 g2
    have c2 : w2.cell? ⟨m, 2, none⟩ = some (.bool true) := HB2.out.one rfl
    go_wp2_with fail
    go_ret
    exact ⟨by rw [HNE.out]; rfl, H.out _ HK2.out (by rw [HT.out]; exact HB2.out)⟩
  · have hf2 : (fuse == 0) = false := beq_eq_false_iff_ne.2 hf
    cases dark with
    | true =>
      have HT : Hid (R9.pow = ⟨L, fuse, true, ops + 1⟩) := show _ = _ by rw [HPW.out, hR9]; exact if_pos (.inl rfl)
      have HNE : Hid (R9.beg x y = 7) := show _ = _ by unfold RS.beg; rw [HT.out]; rfl
      clear hR9 HPW
      go_wp2_with fail
      go_ret
      exact ⟨by rw [HNE.out]; rfl, H.out _ HK1.out (by rw [HT.out]; exact HB1.out)⟩
    | false =>
      by_cases hp : 0 < fuse
      · have hp' : fuse > 0 := hp
        have HT : Hid (R9.pow = ⟨L, fuse - 1, false, ops + 1⟩) := show _ = _ by
          rw [HPW.out, hR9]
          show (if false = true ∨ fuse = 0 then _ else _) = _
          rw [if_neg (by intro e; rcases e with e | e; cases e; exact hf e), if_pos hp]
        clear hR9 HPW
        go_upto_region 8 with fail
        generalize hw2 : World.setCell w1 _ _ = w2
        have HB2 : Hid (Blk w2 m [.slice a z c, .int .i64 (fuse - 1), .bool false, .int .i64 (ops + 1)]) := by rw [← hw2]; exact HB1.out.set 1 _
        have HK2 : Hid (Keep m w w2) := by rw [← hw2]; exact HK1.out.setCell _ _
        clear hw2 c1 c2 g1 g2
        have HNM : Hid (R9.beg x y = if nameOK x = true ∧ nameOK y = true then 0 else 1) := show _ = _ by unfold RS.beg; rw [HT.out]; rfl
        by_cases hxy : (1 ≤ x.size ∧ x.size ≤ 50) ∧ (1 ≤ y.size ∧ y.size ≤ 50)
        · obtain ⟨⟨j1, j2⟩, j3, j4⟩ := hxy
          have HNE : Hid (R9.beg x y = 0) := show _ = _ by rw [HNM.out, if_pos ⟨by unfold nameOK; simp; omega, by unfold nameOK; simp; omega⟩]
          have i1 : ¬ (x.size : Int) < 1 := by omega
          have i2 : ¬ (x.size : Int) > 50 := by omega
          have i3 : ¬ (y.size : Int) < 1 := by omega
          have i4 : ¬ (y.size : Int) > 50 := by omega
          clear j1 j2 j3 j4
          go_wp2_with fail
          go_ret
          exact ⟨by rw [HNE.out]; rfl, H.out _ HK2.out (by rw [HT.out]; exact HB2.out)⟩
        · have HNE : Hid (R9.beg x y = 1) := show _ = _ by rw [HNM.out, if_neg]; unfold nameOK; simp only [Bool.and_eq_true, decide_eq_true_eq]; exact hxy
          rcases (show (x.size < 1) ∨ (1 ≤ x.size ∧ 50 < x.size) ∨ (1 ≤ x.size ∧ x.size ≤ 50 ∧ y.size < 1) ∨ (1 ≤ x.size ∧ x.size ≤ 50 ∧ 1 ≤ y.size ∧ 50 < y.size) by omega) with j | j | j | j
          · have i0 : (x.size : Int) < 1 := by omega
            clear hxy j
            go_wp2_with fail
            go_ret
            exact ⟨by rw [HNE.out]; rfl, H.out _ HK2.out (by rw [HT.out]; exact HB2.out)⟩
          · have i0 : ¬ (x.size : Int) < 1 := by omega
            have i1 : (x.size : Int) > 50 := by omega
            clear hxy j
            go_wp2_with fail
            go_ret
            exact ⟨by rw [HNE.out]; rfl, H.out _ HK2.out (by rw [HT.out]; exact HB2.out)⟩
          · have i0 : ¬ (x.size : Int) < 1 := by omega
            have i1 : ¬ (x.size : Int) > 50 := by omega
            have i2 : (y.size : Int) < 1 := by omega
            clear hxy j
            go_wp2_with fail
            go_ret
            exact ⟨by rw [HNE.out]; rfl, H.out _ HK2.out (by rw [HT.out]; exact HB2.out)⟩
          · have i0 : ¬ (x.size : Int) < 1 := by omega
            have i1 : ¬ (x.size : Int) > 50 := by omega
            have i2 : ¬ (y.size : Int) < 1 := by omega
            have i3 : (y.size : Int) > 50 := by omega
            clear hxy j
            go_wp2_with fail
            go_ret
            exact ⟨by rw [HNE.out]; rfl, H.out _ HK2.out (by rw [HT.out]; exact HB2.out)⟩
      · have hp' : ¬ fuse > 0 := hp
        have HT : Hid (R9.pow = ⟨L, fuse, false, ops + 1⟩) := show _ = _ by
          rw [HPW.out, hR9]
          show (if false = true ∨ fuse = 0 then _ else _) = _
          rw [if_neg (by intro e; rcases e with e | e; cases e; exact hf e), if_neg hp]
        clear hR9 HPW
        have HNM : Hid (R9.beg x y = if nameOK x = true ∧ nameOK y = true then 0 else 1) := show _ = _ by unfold RS.beg; rw [HT.out]; rfl
        by_cases hxy : (1 ≤ x.size ∧ x.size ≤ 50) ∧ (1 ≤ y.size ∧ y.size ≤ 50)
        · obtain ⟨⟨j1, j2⟩, j3, j4⟩ := hxy
          have HNE : Hid (R9.beg x y = 0) := show _ = _ by rw [HNM.out, if_pos ⟨by unfold nameOK; simp; omega, by unfold nameOK; simp; omega⟩]
          have i1 : ¬ (x.size : Int) < 1 := by omega
          have i2 : ¬ (x.size : Int) > 50 := by omega
          have i3 : ¬ (y.size : Int) < 1 := by omega
          have i4 : ¬ (y.size : Int) > 50 := by omega
          clear j1 j2 j3 j4
          go_wp2_with fail
          go_ret
          exact ⟨by rw [HNE.out]; rfl, H.out _ HK1.out (by rw [HT.out]; exact HB1.out)⟩
        · have HNE : Hid (R9.beg x y = 1) := show _ = _ by rw [HNM.out, if_neg]; unfold nameOK; simp only [Bool.and_eq_true, decide_eq_true_eq]; exact hxy
          rcases (show (x.size < 1) ∨ (1 ≤ x.size ∧ 50 < x.size) ∨ (1 ≤ x.size ∧ x.size ≤ 50 ∧ y.size < 1) ∨ (1 ≤ x.size ∧ x.size ≤ 50 ∧ 1 ≤ y.size ∧ 50 < y.size) by omega) with j | j | j | j
          · have i0 : (x.size : Int) < 1 := by omega
            clear hxy j
            go_wp2_with fail
            go_ret
            exact ⟨by rw [HNE.out]; rfl, H.out _ HK1.out (by rw [HT.out]; exact HB1.out)⟩
          · have i0 : ¬ (x.size : Int) < 1 := by omega
            have i1 : (x.size : Int) > 50 := by omega
            clear hxy j
            go_wp2_with fail
            go_ret
            exact ⟨by rw [HNE.out]; rfl, H.out _ HK1.out (by rw [HT.out]; exact HB1.out)⟩
          · have i0 : ¬ (x.size : Int) < 1 := by omega
            have i1 : ¬ (x.size : Int) > 50 := by omega
            have i2 : (y.size : Int) < 1 := by omega
            clear hxy j
            go_wp2_with fail
            go_ret
            exact ⟨by rw [HNE.out]; rfl, H.out _ HK1.out (by rw [HT.out]; exact HB1.out)⟩
          · have i0 : ¬ (x.size : Int) < 1 := by omega
            have i1 : ¬ (x.size : Int) > 50 := by omega
            have i2 : ¬ (y.size : Int) < 1 := by omega
            have i3 : (y.size : Int) > 50 := by omega
            clear hxy j
            go_wp2_with fail
            go_ret
            exact ⟨by rw [HNE.out]; rfl, H.out _ HK1.out (by rw [HT.out]; exact HB1.out)⟩
end Go.Proofs.Ytlapnnkahijikaa
