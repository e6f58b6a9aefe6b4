/- coraclelaw9.small. -/
import Derived.Test.YtlapnnkahijikaaGreatDoorCKvOp
namespace Go.Proofs.YtlapnnkahijikaaGreatDoor
open Go.ChangeShapes Go.WideShapes Go.ChangeAt Go.RowKit Go.Lib

def SmL (L : List (List Pr)) : Prop := L.length ≤ 25 ∧ ∀ j, j < L.length → (L.getD j []).length ≤ 10 ∧ ∀ i, i < (L.getD j []).length → SmP ((L.getD j []).getD i default)
def SmOut (e : Ending) (L : List (List Pr)) : Prop := ∃ x, e = .returned (.bool x) ∧ (x = true → SmL L)
theorem SmOut.no (L : List (List Pr)) : SmOut (.returned (.bool false)) L := ⟨false, rfl, fun h => by cases h⟩
theorem SmOut.yes {L : List (List Pr)} (h : SmL L) : SmOut (.returned (.bool true)) L := ⟨true, rfl, fun _ => h⟩
set_option maxRecDepth 100000 in
set_option maxHeartbeats 4000000 in
theorem small_any (v : Value) (L : List (List Pr)) (w : World) (h : Bats w v L) :
    Calls Tryz.prog 7 #[v] w fun e w' => SmOut e L ∧ w' = w := by
  obtain ⟨a, cap, rfl⟩ := h.shape
  obtain ⟨n, hn⟩ : ∃ n, n = L.length := ⟨_, rfl⟩
  rw [← hn] at h ⊢
  have HB : Hid (Bats w (.slice a n cap) L) := h
  have HN : Hid (n = L.length) := hn
  clear h hn
  go_enter Tryz.func7, Tryz.ntmps7
  by_cases h0 : n ≤ 25
  · have e0 : ¬ (n : Int) > 25 := by omega
    go_wp2_with fail
    go_loopw [3] (fun i wr => ∃ k : Nat, k ≤ n ∧ i = .int .i64 k ∧ wr = w ∧ Hid (∀ j, j < k → (L.getD j []).length ≤ 10 ∧ ∀ i, i < (L.getD j []).length → SmP ((L.getD j []).getD i default))) (fun i _ => n - (intOf i).toNat)
    case atStart => exact ⟨0, by omega, rfl, rfl, fun j hj => absurd hj (Nat.not_lt_zero _)⟩
    case round =>
      obtain ⟨k, hk, rfl, rfl, HALL⟩ := hrel
      by_cases hlt : k < n
      · have e1 : (0 : Int) ≤ (k : Int) := by omega
        have e2 : (k : Int) < (n : Int) := by omega
        obtain ⟨b, o, rfl, a', c', hc, he⟩ := HB.out.at (k := k) (by rw [← HN.out]; exact hlt)
        have HK : Hid ((L.getD k []).length ≤ 10 → (∀ i, i < (L.getD k []).length → SmP ((L.getD k []).getD i default)) → ∀ j, j < k + 1 → (L.getD j []).length ≤ 10 ∧ ∀ i, i < (L.getD j []).length → SmP ((L.getD j []).getD i default)) := fun h1 h2 j hj => by
          by_cases e : j = k
          · rw [e]; exact ⟨h1, h2⟩
          · exact HALL.out j (by omega)
        generalize L.getD k [] = l at *
        obtain ⟨q, hq⟩ : ∃ q, q = l.length := ⟨_, rfl⟩
        rw [← hq] at hc he HK
        have HE : Hid (Els wr a' q c' l) := he
        have HC : Hid (wr.cell? ⟨b, o + k, none⟩ = some (.slice a' q c')) := hc
        clear he hq
        by_cases h1 : q ≤ 10
        · have e3 : ¬ (q : Int) > 10 := by omega
          go_wp2_with fail
          clear hc
          go_loopw [4] (fun i wr' => ∃ m : Nat, m ≤ q ∧ i = .int .i64 m ∧ wr' = wr ∧ Hid (∀ i, i < m → SmP (l.getD i default))) (fun i _ => q - (intOf i).toNat)
          case atStart => exact ⟨0, by omega, rfl, rfl, fun j hj => absurd hj (Nat.not_lt_zero _)⟩
          case round =>
            obtain ⟨m, hm, rfl, rfl, HIN⟩ := hrel
            have hc := HC.out
            by_cases hlt2 : m < q
            · have e4 : (0 : Int) ≤ (m : Int) := by omega
              have e5 : (m : Int) < (q : Int) := by omega
              obtain ⟨b2, o2, rfl, c0, c1, _⟩ := HE.out.pr hlt2
              have HP : Hid ((l.getD m default).k.size ≤ 150 → (l.getD m default).v.size ≤ 300 → ∀ i, i < m + 1 → SmP (l.getD i default)) := fun h1 h2 i hi => by
                by_cases e : i = m
                · rw [e]; exact ⟨h1, h2⟩
                · exact HIN.out i (by omega)
              generalize l.getD m default = p at *
              obtain ⟨pk, pv, pg⟩ := p
              simp only at HP c0 c1
              by_cases h2 : pk.size ≤ 150
              · have e6 : ¬ (pk.size : Int) > 150 := by omega
                by_cases h3 : pv.size ≤ 300
                · have e7 : ¬ (pv.size : Int) > 300 := by omega
                  go_wp2_with fail
                  go_roundw
                  case rel => exact ⟨m + 1, by omega, by go_num, trivial, HP.out h2 h3⟩
                  case measure => simp [intOf]; omega
                · have e7 : (pv.size : Int) > 300 := by omega
                  go_wp2_with fail
                  go_ret
                  exact ⟨SmOut.no L, rfl⟩
              · have e6 : (pk.size : Int) > 150 := by omega
                go_wp2_with fail
                go_ret
                exact ⟨SmOut.no L, rfl⟩
            · obtain rfl : m = q := by omega
              have e4 : ¬ (m : Int) < (m : Int) := by omega
              go_wp2_with fail
              go_roundw
              case rel => exact ⟨k + 1, by omega, by go_num, trivial, HK.out h1 HIN.out⟩
              case measure => simp [intOf]; omega
        · have e3 : (q : Int) > 10 := by omega
          go_wp2_with fail
          go_ret
          exact ⟨SmOut.no L, rfl⟩
      · obtain rfl : k = n := by omega
        have e1 : ¬ (k : Int) < (k : Int) := by omega
        go_wp2_with fail
        go_ret
        exact ⟨SmOut.yes ⟨by rw [← HN.out]; exact h0, fun j hj => HALL.out j (by rw [HN.out]; exact hj)⟩, rfl⟩
  · have e0 : (n : Int) > 25 := by omega
    go_wp2_with fail
    go_ret
    exact ⟨SmOut.no L, rfl⟩
end Go.Proofs.YtlapnnkahijikaaGreatDoor
