/- sha.Less: two hashes by their bytes, the first one first. coraclealike.Round. -/
import Derived.Test.YtlgadelcgboeoaaDoorPtA
import Derived.Deep.QuietTactic
import Derived.BigQuiet
import Derived.Test.YtlgadelcgboeoaaDoorRows
import Derived.ProofKit
import Derived.OpenShut
import Derived.Handy
import Derived.WalkSpells
import Derived.WalkLawsBesides
namespace Go.Proofs.YtlgadelcgboeoaaDoor
open Go.ChangeShapes Go.WideShapes Go.ChangeAt Go.RowKit

/-- Below block N all is as it was, and no draw was taken back. -/
def Gr (N : Nat) (w w' : World) : Prop := Below N w w' ∧ w.drawn ≤ w'.drawn
section
variable {N M : Nat} {w w' w'' : World}
theorem Gr.refl (N : Nat) (w : World) : Gr N w w := ⟨Below.refl _ _, Nat.le_refl _⟩
theorem Gr.trans (h : Gr N w w') (k : Gr N w' w'') : Gr N w w'' := ⟨h.1.trans k.1, Nat.le_trans h.2 k.2⟩
theorem Gr.mono (h : Gr N w w') (hM : M ≤ N) : Gr M w w' := ⟨h.1.mono hM, h.2⟩
theorem Gr.alloc (h : Gr N w w') (hN : N ≤ w'.heap.size) (o : Obj) : Gr N w (w'.alloc o) := ⟨h.1.alloc hN o, h.2⟩
theorem Gr.drewN (h : Gr N w w') (n : Nat) : Gr N w (w'.drewN n) := ⟨below_drewN h.1 n, Nat.le_trans h.2 (Nat.le_add_right _ _)⟩
theorem Gr.drew (h : Gr N w w') : Gr N w w'.drew := ⟨h.1.drew, Nat.le_trans h.2 (Nat.le_succ _)⟩
/-- One call behind another. -/
theorem Gr.then (h : Gr N w w') (k : Gr w'.heap.size w' w'') (hN : N ≤ w.heap.size) : Gr N w w'' := h.trans (k.mono (Nat.le_trans hN h.1.size))
end

/-- Which comes first, by bytes. -/
def lessB : List (BitVec 8) → List (BitVec 8) → Bool
  | x :: xs, y :: ys => if x = y then lessB xs ys else decide (x.toNat < y.toNat)
  | _, _ => false
theorem ret_bool {a b : Bool} (h : a = b) : Ending.returned (.bool a) = .returned (.bool b) := by rw [h]
theorem ret_int {k : IntKind} {a b : Int} (h : a = b) : Ending.returned (.int k a) = .returned (.int k b) := by rw [h]
theorem lessB_skip (a b : List (BitVec 8)) : ∀ k, k ≤ a.length → a.length = b.length → (∀ j, j < k → a.getD j 0 = b.getD j 0) → lessB a b = lessB (a.drop k) (b.drop k) := by
  induction a generalizing b with
  | nil => intro k hk hl _; cases b with
    | nil => simp
    | cons y ys => simp at hl
  | cons x xs ih =>
    intro k hk hl he
    cases b with
    | nil => simp at hl
    | cons y ys =>
      cases k with
      | zero => rfl
      | succ k =>
        have h0 : x = y := he 0 (by omega)
        rw [lessB, if_pos h0, List.drop_succ_cons, List.drop_succ_cons]
        refine ih ys k (by simpa using hk) (by simpa using hl) fun j hj => ?_
        have := he (j + 1) (by omega)
        simpa using this
theorem lessB_at (a b : List (BitVec 8)) (k : Nat) (hk : k < a.length) (hl : a.length = b.length) (he : ∀ j, j < k → a.getD j 0 = b.getD j 0) (hne : a.getD k 0 ≠ b.getD k 0) : lessB a b = decide (Y (a.getD k 0) < Y (b.getD k 0)) := by
  rw [lessB_skip a b k (by omega) hl he, List.drop_eq_getElem_cons hk, List.drop_eq_getElem_cons (show k < b.length by omega)]
  rw [List.getD_eq_getElem?_getD, List.getD_eq_getElem?_getD, List.getElem?_eq_getElem hk, List.getElem?_eq_getElem (show k < b.length by omega)] at hne ⊢
  simp only [Option.getD_some] at hne ⊢
  rw [lessB, if_neg hne]
  unfold Y
  congr 1
  exact propext ⟨fun h => by omega, fun h => by omega⟩
theorem lessB_same (a b : List (BitVec 8)) (hl : a.length = b.length) (he : ∀ j, j < a.length → a.getD j 0 = b.getD j 0) : lessB a b = false := by
  rw [lessB_skip a b a.length (Nat.le_refl _) hl he, List.drop_length]; rfl

set_option maxRecDepth 100000 in
set_option maxHeartbeats 4000000 in
theorem less_any (a b : List (BitVec 8)) (ha : a.length = 32) (hb : b.length = 32) (w : World) :
    Calls Tryd.prog 29 #[.agg (u8s a).toArray, .agg (u8s b).toArray] w fun e w' => e = .returned (.bool (lessB a b)) ∧ Gr w.heap.size w w' := by
  have HA : Hid (a.length = 32) := ha
  have HB : Hid (b.length = 32) := hb
  clear ha hb
  go_enter Tryd.func29, Tryd.ntmps29
  go_wp2_with fail
  generalize hw1 : World.alloc (World.alloc w _) _ = w1
  have hA1 : Blk w1 w.heap.size (u8s a) := by rw [← hw1]; exact (Blk.new _ _ _).alloc _
  have hB1 : Blk w1 (w.heap.size + 1) (u8s b) := by rw [← hw1]; exact Blk.mk _ _ _ (by simp) rfl
  have hb1 : Gr w.heap.size w w1 := by rw [← hw1]; exact ((Gr.refl _ _).alloc (Nat.le_refl _) _).alloc (by simp) _
  clear hw1
  generalize hN : w.heap.size = N at *
  go_loopw [6] (fun i wr => ∃ k : Nat, k ≤ 32 ∧ i = .int .i64 k ∧ Hid (∀ j, j < k → a.getD j 0 = b.getD j 0) ∧ Blk wr N (u8s a) ∧ Blk wr (N + 1) (u8s b) ∧ Gr N w wr) (fun i _ => 32 - (intOf i).toNat)
  case atStart => exact ⟨0, by omega, rfl, fun j hj => by omega, hA1, hB1, hb1⟩
  case round =>
    obtain ⟨k, hk, rfl, HE, hA, hB, hbel⟩ := hrel
    clear hA1 hB1 hb1
    by_cases hlt : k < 32
    · have e0 : (0 : Int) ≤ (k : Int) := by omega
      have e1 : (k : Int) < 32 := by omega
      have ca := hA.cell k
      rw [u8s_get a k (by rw [HA.out]; exact hlt)] at ca
      have cb := hB.cell k
      rw [u8s_get b k (by rw [HB.out]; exact hlt)] at cb
      obtain ⟨x, hx⟩ : ∃ x, x = a.getD k 0 := ⟨_, rfl⟩
      obtain ⟨y, hy⟩ : ∃ y, y = b.getD k 0 := ⟨_, rfl⟩
      rw [← hx] at ca
      rw [← hy] at cb
      have HX : Hid (x = a.getD k 0) := hx
      have HY : Hid (y = b.getD k 0) := hy
      clear hx hy
      have x0 := Y_lo x
      have x1 := Y_hi x
      have y0 := Y_lo y
      have y1 := Y_hi y
      by_cases hxy : x = y
      · subst hxy
        have HAD : Hid (Blk wr N (u8s a) ∧ Blk wr (N + 1) (u8s b) ∧ Gr N w wr) := ⟨hA, hB, hbel⟩
        clear hA hB hbel
        go_wp2_with fail
        go_quiet (fail)
        go_wp2_with fail
        go_roundw
        case rel =>
          obtain ⟨h1, h2, h3⟩ := HAD.out
          refine ⟨k + 1, by omega, by go_num, ?_, h1.drewN _, h2.drewN _, h3.drewN _⟩
          intro j hj
          by_cases hjk : j = k
          · subst hjk; rw [← HX.out, ← HY.out]
          · exact HE.out j (by omega)
        case measure => simp [intOf]; omega
      · have hne : ¬ Y x = Y y := fun h => hxy (Y_inj h)
        have hd : (Y x == Y y) = false := by simpa using hne
        have HL : Hid (lessB a b = decide (Y x < Y y)) := by
          show lessB a b = _
          rw [HX.out, HY.out]
          exact lessB_at a b k (by rw [HA.out]; exact hlt) (by rw [HA.out, HB.out]) HE.out (by rw [← HX.out, ← HY.out]; exact hxy)
        have HAD : Hid (Gr N w wr) := hbel
        clear hA hB hbel
        go_wp2_with fail
        go_quiet (fail)
        go_wp2_with fail
        go_quiet (fail)
        go_wp2_with fail
        go_ret
        subst hN
        exact ⟨ret_bool HL.out.symm, (HAD.out.drewN _).drewN _⟩
    · obtain rfl : k = 32 := by omega
      go_wp2_with fail
      go_ret
      subst hN
      exact ⟨ret_bool (lessB_same a b (by rw [HA.out, HB.out]) (by rw [HA.out]; exact HE.out)).symm, hbel⟩

theorem round_eq (k n : Int) (hn : 1 ≤ n) : (k.tmod n + n) % n = k % n := by
  rw [Int.add_emod_right, Int.tmod_eq_emod]
  split
  · simp
  · rw [Int.natAbs_of_nonneg (by omega), Int.sub_emod_right, Int.emod_emod]
set_option maxHeartbeats 1000000 in
theorem round_any (k n : Int) (w : World) (hn : 1 ≤ n) (hn2 : n ≤ 1152921504606846976) :
    Calls Tryd.prog 18 #[.int .i64 k, .int .i64 n] w fun e w' => e = .returned (.int .i64 (k % n)) ∧ w = w' := by
  have h1 : -n < k.tmod n := by
    have := Int.lt_tmod_of_pos k (show 0 < n by omega); omega
  have h2 : k.tmod n < n := Int.tmod_lt_of_pos k (by omega)
  have HR : Hid ((k.tmod n + n) % n = k % n) := round_eq k n hn
  go_enter Tryd.func18, Tryd.ntmps18
  go_wp2
  go_ret
  exact ⟨ret_int HR.out, rfl⟩
end Go.Proofs.YtlgadelcgboeoaaDoor
