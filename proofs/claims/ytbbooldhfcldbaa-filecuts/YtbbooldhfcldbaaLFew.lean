/- coraclelaw7: deeds; few. -/
import Derived.Test.YtbbooldhfcldbaaLNames
namespace Go.Proofs.Ytbbooldhfcldbaa
open Go.ChangeShapes Go.WideShapes Go.ChangeAt Go.RowKit Go.Lib

structure Deed where
  k : Int
  a : ByteArray
  b : ByteArray
  n : Int
/-- Deeds that lie at a. -/
def Deeds (w : World) (a : Option Addr) (l : List Deed) : Prop := l = [] ∨ ∃ b o, a = some ⟨b, o, none⟩ ∧ ∀ j d, l[j]? = some d → w.cell? ⟨b, o + j * 4, none⟩ = some (.int .i64 d.k) ∧ w.cell? ⟨b, o + j * 4 + 1, none⟩ = some (.string d.a) ∧ w.cell? ⟨b, o + j * 4 + 2, none⟩ = some (.string d.b) ∧ w.cell? ⟨b, o + j * 4 + 3, none⟩ = some (.int .i64 d.n)
theorem Deeds.below {w w' : World} {a : Option Addr} {l : List Deed} (h : Deeds w a l) (hb : Below w.heap.size w w') : Deeds w' a l := by
  rcases h with h | ⟨b, o, rfl, hc⟩
  · exact .inl h
  · exact .inr ⟨b, o, rfl, fun j d hd => ⟨cell_below hb (hc j d hd).1, cell_below hb (hc j d hd).2.1, cell_below hb (hc j d hd).2.2.1, cell_below hb (hc j d hd).2.2.2⟩⟩
def Deed.ok (d : Deed) : Bool := decide (d.a.size ≤ 200) && decide (d.b.size ≤ 200)
/-- How long the second texts are. -/
def sumB (l : List Deed) : Nat := (l.map fun d => d.b.size).sum
def fewB (l : List Deed) : Bool := (l.take 100).all Deed.ok && (decide (l.length ≤ 60) && decide (sumB (l.take 100) ≤ 3000))
theorem sumB_snoc (l : List Deed) (d : Deed) : sumB (l ++ [d]) = sumB l + d.b.size := by simp [sumB]
theorem take_snoc {α : Type} {l : List α} {k : Nat} {d : α} (h : l[k]? = some d) : l.take (k + 1) = l.take k ++ [d] := by
  obtain ⟨hk, rfl⟩ := List.getElem?_eq_some_iff.1 h
  rw [List.take_succ_eq_append_getElem hk]
set_option maxRecDepth 100000 in
set_option maxHeartbeats 2000000 in
theorem few_any (a : Option Addr) (n cap : Nat) (l : List Deed) (w : World) (h : Deeds w a l) (hn : l.length = n) (hc : n ≤ cap) (hcm : cap ≤ maxLen) :
    Calls Try.prog 8 #[.slice a n cap] w fun e w' => e = .returned (.bool (fewB l)) ∧ w' = w := by
  have HD : Hid (Deeds w a l) := h
  have hn63 : (n : Int) ≤ 9223372036854775807 := by unfold maxLen at hcm; omega
  have HN : Hid (l.length = n) := hn
  have HF : Hid (fewB l = ((l.take 100).all Deed.ok && (decide (l.length ≤ 60) && decide (sumB (l.take 100) ≤ 3000)))) := show _ = _ from rfl
  clear h hn hc hcm
  go_enter Try.func8, Try.ntmps8
  go_wp2_with fail
  go_loopw [3, 4] (fun s i wr => ∃ k : Nat, k ≤ n ∧ k ≤ 100 ∧ i = .int .i64 k ∧ s = .int .i64 (sumB (l.take k)) ∧ sumB (l.take k) ≤ 200 * k ∧ wr = w ∧ Hid ((l.take k).all Deed.ok = true)) (fun _ i _ => 100 - (intOf i).toNat)
  case atStart => exact ⟨0, Nat.zero_le _, Nat.zero_le _, rfl, by simp [sumB], by simp [sumB], rfl, (rfl : (l.take 0).all Deed.ok = true)⟩
  case round =>
    obtain ⟨k, hk, hk1, rfl, rfl, hs, rfl, HA⟩ := hrel
    by_cases hlt : k < n ∧ k < 100
    · have e0 : (0 : Int) ≤ (k : Int) := by omega
      have e1 : (k : Int) < (n : Int) := by omega
      have e2 : (k : Int) < 100 := by omega
      obtain ⟨d, hd⟩ : ∃ d, l[k]? = some d := ⟨_, List.getElem?_eq_getElem (by have := HN.out; omega)⟩
      have hdd := HD.out
      rcases hdd with h0 | ⟨b, o, rfl, hcs⟩
      · rw [h0] at hd; cases hd
      obtain ⟨_, ca, cb, _⟩ := hcs k d hd
      have HT : Hid (l.take (k + 1) = l.take k ++ [d]) := take_snoc hd
      have HS : Hid (sumB (l.take (k + 1)) = sumB (l.take k) + d.b.size) := show _ = _ by rw [HT.out, sumB_snoc]
      have HD2 : Hid (l[k]? = some d) := hd
      clear hcs hd
      obtain ⟨sm, hsm⟩ : ∃ sm, sm = sumB (l.take k) := ⟨_, rfl⟩
      rw [← hsm] at hs HS ⊢
      clear hsm
      by_cases ha : d.a.size ≤ 200
      · by_cases hb : d.b.size ≤ 200
        · have f1 : ¬ (d.a.size : Int) > 200 := by omega
          have f2 : ¬ (d.b.size : Int) > 200 := by omega
          go_wp2_with fail
          go_roundw
          case rel =>
            refine ⟨k + 1, by omega, by omega, by go_num, by rw [HS.out]; go_num, by rw [HS.out]; omega, trivial, ?_⟩
            show _ = _
            rw [HT.out, List.all_append, HA.out]
            simp [Deed.ok, ha, hb]
          case measure => simp [intOf]; omega
        · have f1 : ¬ (d.a.size : Int) > 200 := by omega
          have f2 : (d.b.size : Int) > 200 := by omega
          have HR : Hid (fewB l = false) := by
            have hm : d ∈ l.take 100 := List.mem_of_getElem? (i := k) (by rw [List.getElem?_take_of_lt (by omega)]; exact HD2.out)
            have : (l.take 100).all Deed.ok = false := by
              rw [List.all_eq_false]
              exact ⟨d, hm, by simp [Deed.ok, hb]⟩
            show _ = _
            rw [HF.out, this]; rfl
          go_wp2_with fail
          go_ret
          exact ⟨ret_bool HR.out.symm, rfl⟩
      · have f1 : (d.a.size : Int) > 200 := by omega
        have HR : Hid (fewB l = false) := by
          have hm : d ∈ l.take 100 := List.mem_of_getElem? (i := k) (by rw [List.getElem?_take_of_lt (by omega)]; exact HD2.out)
          have : (l.take 100).all Deed.ok = false := by
            rw [List.all_eq_false]
            exact ⟨d, hm, by simp [Deed.ok, ha]⟩
          show _ = _
          rw [HF.out, this]; rfl
        go_wp2_with fail
        go_ret
        exact ⟨ret_bool HR.out.symm, rfl⟩
    · have htk : l.take k = l.take 100 := by
        by_cases h100 : k = 100
        · rw [h100]
        · have hkn : k = n := by omega
          rw [hkn, ← HN.out, List.take_length, List.take_of_length_le (by rw [HN.out]; omega)]
      have HR : Hid (fewB l = (decide (n ≤ 60) && decide (sumB (l.take k) ≤ 3000))) := show _ = _ by
        rw [HF.out, ← htk, HA.out, HN.out]; simp
      clear htk
      obtain ⟨sm, hsm⟩ : ∃ sm, sm = sumB (l.take k) := ⟨_, rfl⟩
      rw [← hsm] at hs HR ⊢
      clear hsm
      by_cases h60 : n ≤ 60
      · have g0 : ¬ (k : Int) < (n : Int) := by omega
        by_cases h3 : sm ≤ 3000
        · have g1 : (sm : Int) ≤ 3000 := by omega
          go_wp2_with fail
          go_ret
          exact ⟨ret_bool (by rw [HR.out, decide_eq_true h60, decide_eq_true h3]; simp; try omega), rfl⟩
        · have g1 : ¬ (sm : Int) ≤ 3000 := by omega
          go_wp2_with fail
          go_ret
          exact ⟨ret_bool (by rw [HR.out, decide_eq_true h60, decide_eq_false h3]; simp; try omega), rfl⟩
      · by_cases hkn : k < n
        · have g0 : ¬ (k : Int) < 100 := by omega
          go_wp2_with fail
          go_ret
          exact ⟨ret_bool (by rw [HR.out]; simp [h60]), rfl⟩
        · have g0 : ¬ (k : Int) < (n : Int) := by omega
          go_wp2_with fail
          go_ret
          exact ⟨ret_bool (by rw [HR.out]; simp [h60]), rfl⟩
end Go.Proofs.Ytbbooldhfcldbaa
