/- What Check tells of the transactions that TxLimits makes: plain mathematics. -/
import Derived.Test.YteikbpkjikacmaaDoorZX3
import Derived.Test.YteikbpkjikacmaaDoorCLNm
namespace Go.Proofs.YteikbpkjikacmaaDoor

/-- The input at place j, as the law makes it. -/
structure Fit (pl sq : Int) (pr : Nat) (x : In) (j : Nat) : Prop where
  prev : x.prev = ⟨nameB j, pl, nameB_length j⟩
  seq : x.seq = sq
  key : x.key = 0
  size : x.pre.size = pr
  kind : x.kind = if 0 < pr then 2 else 1
theorem Fit.ok {pl sq : Int} {pr : Nat} {x : In} {j : Nat} (h : Fit pl sq pr x j) : inOK x = (wi pl 0 99 && wi sq 0 65535 && wi pr 0 64) := by
  unfold inOK witOK
  rw [h.prev, h.seq, h.key, h.size, h.kind]
  by_cases hp : 0 < pr
  · rw [if_pos hp, if_pos rfl]
    have e : wi (2 : Int) 1 4 = true := by decide
    have e2 : wi (0 : Int) 0 1073741824 = true := by decide
    have e3 : wi (pr : Int) 1 64 = wi (pr : Int) 0 64 := by unfold wi; rw [decide_eq_decide]; omega
    rw [e, e2, e3]; rfl
  · obtain rfl : pr = 0 := by omega
    have e : wi (1 : Int) 1 4 = true := by decide
    have e2 : wi (0 : Int) 0 1073741824 = true := by decide
    rw [if_neg hp, if_neg (by decide), e, e2]; rfl
/-- The inputs, as the law makes them. -/
def Fits (pl sq : Int) (pr : Nat) (L : List In) : Prop := ∀ j, j < L.length → Fit pl sq pr (L.getD j default) j
theorem Fits.next {pl sq : Int} {pr : Nat} {L : List In} {x : In} (h : Fits pl sq pr L) (hx : Fit pl sq pr x L.length) : Fits pl sq pr (L ++ [x]) := fun j hj => by
  rw [List.length_append] at hj
  by_cases e : j < L.length
  · have := h j e
    rwa [List.getD_eq_getElem?_getD, List.getElem?_append_left e, ← List.getD_eq_getElem?_getD]
  · obtain rfl : j = L.length := by simp at hj; omega
    rw [List.getD_eq_getElem?_getD, List.getElem?_append_right (Nat.le_refl _)]
    simpa using hx
theorem Fits.all {pl sq : Int} {pr : Nat} {L : List In} (h : Fits pl sq pr L) (h0 : L ≠ []) : L.all inOK = (wi pl 0 99 && wi sq 0 65535 && wi pr 0 64) := by
  cases hb : (wi pl 0 99 && wi sq 0 65535 && wi (pr : Int) 0 64) with
  | true => exact all_true (d := default) fun j hj => by rw [(h j hj).ok, hb]
  | false =>
    have hl : 0 < L.length := List.length_pos_iff.2 h0
    exact all_false (d := default) (k := 0) hl (by rw [(h 0 hl).ok, hb])
theorem Fits.solo {pl sq : Int} {pr : Nat} {L : List In} (h : Fits pl sq pr L) (hl : L.length ≤ 256) : sole L = true := by
  unfold sole
  rw [decide_eq_true_iff, List.Nodup, List.pairwise_iff_getElem]
  intro i j hi hj hij e
  rw [List.length_map] at hi hj
  rw [List.getElem_map, List.getElem_map] at e
  have h1 := (h i hi).prev
  have h2 := (h j hj).prev
  rw [List.getD_eq_getElem?_getD, List.getElem?_eq_getElem hi] at h1
  rw [List.getD_eq_getElem?_getD, List.getElem?_eq_getElem hj] at h2
  simp only [Option.getD_some] at h1 h2
  rw [h1, h2] at e
  injection e with e _
  have := nameB_inj (by omega) (by omega) e
  omega
def oneOut : Out := ⟨1, ⟨1, 0, 0, 0, 0, 0, List.replicate 32 0, rfl⟩⟩
theorem ones_ok (m : Nat) : (List.replicate m oneOut).all (fun o => scrOK o.scr) = true := by
  rw [List.all_eq_true]
  intro x hx
  rw [(List.mem_replicate.1 hx).2]; rfl
theorem totR_ones : ∀ (m : Nat) (s : Int), 0 ≤ s → s + m ≤ 1000 → totR s (List.replicate m 1) = some (s + m)
  | 0, s, _, _ => by simp [totR]
  | m + 1, s, h0, h1 => by
    rw [List.replicate_succ, totR, if_pos ⟨⟨by omega, by omega⟩, ⟨by omega, by omega⟩⟩, totR_ones m (s + 1) (by omega) (by omega)]
    congr 1; omega
theorem ones_tot (m : Nat) (h : m ≤ 100) : totE ((List.replicate m oneOut).map Out.value) = 0 := by
  rw [List.map_replicate]
  unfold totE
  rw [show oneOut.value = 1 from rfl, totR_ones m 0 (by omega) (by omega)]; rfl
/-- What the law asks for. -/
def wantE (n m : Nat) (pl sq lk : Int) (pr : Nat) : Int :=
  if 100 < n ∨ 100 < m then 3 else if n = 0 ∨ pl < 0 ∨ 99 < pl ∨ sq < 0 ∨ 65535 < sq ∨ 64 < pr ∨ lk < 0 ∨ 1000000 < lk then 1 else 0
theorem lim_check {n m : Nat} {pl sq lk : Int} {pr : Nat} {L : List In} (h : Fits pl sq pr L) (hn : L.length = n) (hn2 : n ≤ 256) : chkE ⟨L, List.replicate m oneOut, lk⟩ = wantE n m pl sq lk pr := by
  have hlen : (List.replicate m oneOut).length = m := List.length_replicate ..
  unfold wantE
  by_cases hb : 100 < n ∨ 100 < m
  · rw [if_pos hb]
    exact chk_big (by rw [hn, hlen]; exact hb)
  · rw [if_neg hb]
    have hb' : ¬ (100 < L.length ∨ 100 < (List.replicate m oneOut).length) := by rw [hn, hlen]; exact hb
    by_cases h0 : n = 0
    · rw [if_pos (.inl h0)]
      exact chk_none hb' (List.eq_nil_of_length_eq_zero (by rw [hn]; exact h0))
    · have hne : L ≠ [] := fun e => h0 (by rw [← hn, e]; rfl)
      have ha := h.all hne
      by_cases hv : n = 0 ∨ pl < 0 ∨ 99 < pl ∨ sq < 0 ∨ 65535 < sq ∨ 64 < pr ∨ lk < 0 ∨ 1000000 < lk
      · rw [if_pos hv]
        by_cases hlk : lk < 0 ∨ 1000000 < lk
        · exact chk_lock hb' (decide_eq_false (by show ¬ (0 ≤ lk ∧ lk ≤ 1000000); omega))
        · refine chk_in hb' ?_
          show L.all inOK = false
          rw [ha]
          have : (wi pl 0 99 && wi sq 0 65535 && wi (pr : Int) 0 64) = decide ((0 ≤ pl ∧ pl ≤ 99) ∧ (0 ≤ sq ∧ sq ≤ 65535) ∧ (0 ≤ (pr : Int) ∧ (pr : Int) ≤ 64)) := by
            unfold wi; simp [Bool.and_assoc]
          rw [this]
          exact decide_eq_false (by omega)
      · rw [if_neg hv]
        rw [chk_sum hb' hne ?_ (h.solo (by omega)) (ones_ok m) (decide_eq_true (by show 0 ≤ lk ∧ lk ≤ 1000000; omega)), ones_tot m (by omega)]
        show L.all inOK = true
        rw [ha]
        have : (wi pl 0 99 && wi sq 0 65535 && wi (pr : Int) 0 64) = decide ((0 ≤ pl ∧ pl ≤ 99) ∧ (0 ≤ sq ∧ sq ≤ 65535) ∧ (0 ≤ (pr : Int) ∧ (pr : Int) ≤ 64)) := by
          unfold wi; simp [Bool.and_assoc]
        rw [this]
        exact decide_eq_true (by omega)
theorem lim_twice {m : Nat} {lk : Int} {L : List In} (h0 : 0 < L.length) (h1 : L.length < 100) (hm : m ≤ 100) : chkE ⟨L ++ [L.getD 0 default], List.replicate m oneOut, lk⟩ = 1 := by
  refine chk_dup ?_ ?_
  · show ¬ (100 < (L ++ _).length ∨ 100 < (List.replicate m oneOut).length)
    rw [List.length_append, List.length_replicate, List.length_singleton]; omega
  · show sole (L ++ [L.getD 0 default]) = false
    unfold sole
    refine decide_eq_false fun hd => ?_
    rw [List.map_append] at hd
    have := (List.nodup_append.1 hd).2.2 (L.getD 0 default).prev (List.mem_map_of_mem (by rw [List.getD_eq_getElem?_getD, List.getElem?_eq_getElem h0]; exact List.getElem_mem h0)) (L.getD 0 default).prev (by simp)
    exact this rfl
end Go.Proofs.YteikbpkjikacmaaDoor
