/- The document's own witness, In1, Valid. -/
import Derived.Test.YteikbpkjikacmaaGreatDoorZX3
namespace Go.Proofs.YteikbpkjikacmaaGreatDoor
open Go.ChangeShapes Go.WideShapes Go.ChangeAt Go.RowKit

set_option maxRecDepth 100000 in
set_option maxHeartbeats 4000000 in
theorem rwitness_any (kind key : Int) (pre : ByteArray) (w : World) :
    Calls Tryz.prog 70 #[.agg #[.int .i64 kind, .int .i64 key, .string pre]] w fun e w' => e = .returned (.bool (witOK kind key pre.size)) ∧ Below w.heap.size w w' := by
  have HB : Hid (Below w.heap.size w (w.alloc (.cells #[.int .i64 kind, .int .i64 key, .string pre] 50))) := (Below.refl _ _).alloc (Nat.le_refl _) _
  have hW : ∀ q : Bool, (q = true ↔ (1 ≤ kind ∧ kind ≤ 4 ∧ 0 ≤ key ∧ key ≤ 1073741824 ∧ pre.size ≤ 64 ∧ (kind = 2 ↔ 0 < pre.size))) → witOK kind key pre.size = q := fun q hq => by
    rw [Bool.eq_iff_iff, hq]
    unfold witOK wi
    by_cases hk : kind = 2
    · rw [if_pos hk]; simp only [Bool.and_eq_true, decide_eq_true_eq]; omega
    · rw [if_neg hk]; simp only [Bool.and_eq_true, decide_eq_true_eq]; omega
  have HW : Hid (_ : Prop) := hW
  clear hW
  rcases (show kind < 1 ∨ (1 ≤ kind ∧ 4 < kind) ∨ (1 ≤ kind ∧ kind ≤ 4 ∧ key < 0) ∨ (1 ≤ kind ∧ kind ≤ 4 ∧ 0 ≤ key ∧ 1073741824 < key) ∨ (1 ≤ kind ∧ kind ≤ 4 ∧ 0 ≤ key ∧ key ≤ 1073741824 ∧ 64 < pre.size) ∨ (1 ≤ kind ∧ kind ≤ 4 ∧ 0 ≤ key ∧ key ≤ 1073741824 ∧ pre.size ≤ 64) by omega) with h | ⟨h1, h⟩ | ⟨h1, h2, h⟩ | ⟨h1, h2, h3, h⟩ | ⟨h1, h2, h3, h4, h⟩ | ⟨h1, h2, h3, h4, h5⟩
  · have e1 : ¬ 1 ≤ kind := by omega
    rw [HW.out false (by simp; omega)]
    go_enter Tryz.func70, Tryz.ntmps70
    go_wp2
    go_ret
    exact ⟨rfl, HB.out⟩
  · have e1 : ¬ kind ≤ 4 := by omega
    rw [HW.out false (by simp; omega)]
    go_enter Tryz.func70, Tryz.ntmps70
    go_wp2
    go_ret
    exact ⟨rfl, HB.out⟩
  · have e1 : ¬ 0 ≤ key := by omega
    rw [HW.out false (by simp; omega)]
    go_enter Tryz.func70, Tryz.ntmps70
    go_wp2
    go_ret
    exact ⟨rfl, HB.out⟩
  · have e1 : ¬ key ≤ 1073741824 := by omega
    rw [HW.out false (by simp; omega)]
    go_enter Tryz.func70, Tryz.ntmps70
    go_wp2
    go_ret
    exact ⟨rfl, HB.out⟩
  · have e1 : ¬ (pre.size : Int) ≤ 64 := by omega
    rw [HW.out false (by simp; omega)]
    go_enter Tryz.func70, Tryz.ntmps70
    go_wp2
    go_ret
    exact ⟨rfl, HB.out⟩
  · have e1 : (pre.size : Int) ≤ 64 := by omega
    go_enter Tryz.func70, Tryz.ntmps70
    go_wp2
    go_ret
    refine ⟨ret_bool (HW.out _ ?_).symm, HB.out⟩
    have hp : pre.toList.isEmpty = decide (pre.size = 0) := by
      rw [ByteArray.toList_eq, Bool.eq_iff_iff, List.isEmpty_iff_length_eq_zero, decide_eq_true_iff, Array.length_toList]
      exact Iff.rfl
    rw [hp]
    by_cases hk : kind = 2
    · by_cases hz : pre.size = 0
      · simp [hk, hz]
      · simp [hk, hz]; omega
    · by_cases hz : pre.size = 0
      · simp [hk, hz]; omega
      · simp [hk, hz]
theorem In.wit_arr (x : In) : (#[.int .i64 x.kind, .int .i64 x.key, .string x.pre] : Array Value) = x.wit.toArray := rfl
set_option maxRecDepth 100000 in
set_option maxHeartbeats 4000000 in
theorem rin_any (x : In) (w : World) :
    Calls Tryz.prog 44 #[.agg x.cs.toArray] w fun e w' => e = .returned (.bool (inOK x)) ∧ Below w.heap.size w w' := by
  have HW : Hid (∀ w, Calls Tryz.prog 70 #[.agg #[.int .i64 x.kind, .int .i64 x.key, .string x.pre]] w fun e w' => e = .returned (.bool (witOK x.kind x.key x.pre.size)) ∧ Below w.heap.size w w') := fun w => rwitness_any x.kind x.key x.pre w
  have hV : ∀ q : Bool, (q = true ↔ (0 ≤ x.prev.n ∧ x.prev.n < 100 ∧ 0 ≤ x.seq ∧ x.seq ≤ 65535 ∧ witOK x.kind x.key x.pre.size = true)) → inOK x = q := fun q hq => by
    rw [Bool.eq_iff_iff, hq]
    unfold inOK wi
    simp
    constructor
    · rintro ⟨⟨⟨h1, h2⟩, h3, h4⟩, h5⟩; exact ⟨h1, by omega, h3, h4, h5⟩
    · rintro ⟨h1, h2, h3, h4, h5⟩; exact ⟨⟨⟨h1, by omega⟩, h3, h4⟩, h5⟩
  have HV : Hid (_ : Prop) := hV
  clear hV
  go_enter Tryz.func44, Tryz.ntmps44
  go_upto_region 1 with fail
  generalize hw1 : World.alloc w _ = w1
  have hA1 : Blk w1 w.heap.size x.cs := by rw [← hw1]; exact Blk.new _ _ _
  have HB1 : Hid (Below w.heap.size w w1) := by rw [← hw1]; exact (Below.refl _ _).alloc (Nat.le_refl _) _
  clear hw1
  have c1 := hA1.one x.n_at
  have c2 := hA1.one x.seq_at
  have c3 := hA1.one x.kind_at
  have c4 := hA1.one x.key_at
  have c5 := hA1.one x.pre_at
  clear hA1
  rcases (show x.prev.n < 0 ∨ (0 ≤ x.prev.n ∧ 100 ≤ x.prev.n) ∨ (0 ≤ x.prev.n ∧ x.prev.n < 100 ∧ x.seq < 0) ∨ (0 ≤ x.prev.n ∧ x.prev.n < 100 ∧ 0 ≤ x.seq ∧ 65535 < x.seq) ∨ (0 ≤ x.prev.n ∧ x.prev.n < 100 ∧ 0 ≤ x.seq ∧ x.seq ≤ 65535) by omega) with h | ⟨h1, h⟩ | ⟨h1, h2, h⟩ | ⟨h1, h2, h3, h⟩ | ⟨h1, h2, h3, h4⟩
  · have e1 : ¬ 0 ≤ x.prev.n := by omega
    have HQ : Hid (inOK x = false) := HV.out false (by simp; omega)
    go_wp2_with fail
    go_ret
    exact ⟨ret_bool HQ.out.symm, HB1.out⟩
  · have e1 : ¬ x.prev.n < 100 := by omega
    have HQ : Hid (inOK x = false) := HV.out false (by simp; omega)
    go_wp2_with fail
    go_ret
    exact ⟨ret_bool HQ.out.symm, HB1.out⟩
  · have e1 : ¬ 0 ≤ x.seq := by omega
    have HQ : Hid (inOK x = false) := HV.out false (by simp; omega)
    go_wp2_with fail
    go_ret
    exact ⟨ret_bool HQ.out.symm, HB1.out⟩
  · have e1 : ¬ x.seq ≤ 65535 := by omega
    have HQ : Hid (inOK x = false) := HV.out false (by simp; omega)
    go_wp2_with fail
    go_ret
    exact ⟨ret_bool HQ.out.symm, HB1.out⟩
  · have HQ : Hid (inOK x = witOK x.kind x.key x.pre.size) := HV.out _ ⟨fun h => ⟨h1, h2, h3, h4, h⟩, fun h => h.2.2.2.2⟩
    clear HV
    generalize witOK x.kind x.key x.pre.size = p at *
    go_wp2_with fail
    refine Calls.mono (HW.out _) ?_
    rintro e w2 ⟨rfl, hb2⟩
    have hs := HB1.out.size
    go_wp2_with fail
    go_ret
    exact ⟨ret_bool HQ.out.symm, HB1.out.trans (hb2.mono hs)⟩
theorem three_at (a b c : Int) (k : Nat) (h : k < 3) : ([.int .i64 a, .int .i64 b, .int .i64 c] : List Value)[k]? = some (.int .i64 ([a, b, c].getD k 0)) := by
  rcases (show k = 0 ∨ k = 1 ∨ k = 2 by omega) with rfl | rfl | rfl <;> rfl
set_option maxRecDepth 100000 in
set_option maxHeartbeats 4000000 in
theorem rvalid_any (s : Scr) (w : World) :
    Calls Tryz.prog 45 #[.agg s.cs.toArray] w fun e w' => e = .returned (.bool (scrOK s)) ∧ Below w.heap.size w w' := by
  have hV : ∀ q : Bool, (q = true ↔ ((∀ j, j < 3 → 0 ≤ [s.key, s.other, s.rev].getD j 0 ∧ [s.key, s.other, s.rev].getD j 0 ≤ 1073741824) ∧ 1 ≤ s.kind ∧ s.kind ≤ 6 ∧ 0 ≤ s.delay ∧ s.delay ≤ 65535 ∧ 0 ≤ s.expiry ∧ s.expiry ≤ 1000000)) → scrOK s = q := fun q hq => by
    rw [Bool.eq_iff_iff, hq]
    unfold scrOK wi
    simp
    constructor
    · rintro ⟨⟨⟨h1, h2⟩, ⟨h3, h4⟩, h5⟩, h6, h7⟩
      refine ⟨fun j hj => ?_, h1, h2, h6.1, h6.2, h7.1, h7.2⟩
      rcases (show j = 0 ∨ j = 1 ∨ j = 2 by omega) with rfl | rfl | rfl
      · exact h3
      · exact h4
      · exact h5
    · rintro ⟨h, h1, h2, h3, h4, h5, h6⟩
      exact ⟨⟨⟨h1, h2⟩, ⟨h 0 (by omega), h 1 (by omega)⟩, h 2 (by omega)⟩, ⟨h3, h4⟩, h5, h6⟩
  have HV : Hid (_ : Prop) := hV
  clear hV
  go_enter Tryz.func45, Tryz.ntmps45
  go_upto_region 1 with fail
  generalize hw1 : World.alloc w _ = w1
  have HA1 : Hid (Blk w1 w.heap.size s.cs) := by rw [← hw1]; exact Blk.new _ _ _
  have HB1 : Hid (Below w.heap.size w w1) := by rw [← hw1]; exact (Below.refl _ _).alloc (Nat.le_refl _) _
  clear hw1
  generalize hN : w.heap.size = N at *
  have c1 : w1.cell? ⟨N, 1, none⟩ = some (.int .i64 s.key) := HA1.out.one rfl
  have c2 : w1.cell? ⟨N, 2, none⟩ = some (.int .i64 s.other) := HA1.out.one rfl
  have c3 : w1.cell? ⟨N, 3, none⟩ = some (.int .i64 s.rev) := HA1.out.one rfl
  go_upto_region 2 with fail
  generalize hw2 : World.alloc w1 _ = w2
  have HA2 : Hid (Blk w2 N s.cs) := by rw [← hw2]; exact HA1.out.alloc _
  have HL2 : Hid (Blk w2 w1.heap.size [.int .i64 s.key, .int .i64 s.other, .int .i64 s.rev]) := by rw [← hw2]; exact Blk.mk _ _ _ rfl rfl
  have hs1 := HB1.out.size
  have HB2 : Hid (Below N w w2) := by rw [← hw2]; exact HB1.out.alloc (hN ▸ hs1) _
  clear hw2 c1 c2 c3 HA1 HB1
  generalize hM : w1.heap.size = M at *
  go_wp2_with fail
  go_loop [4] (fun i => ∃ k : Nat, k ≤ 3 ∧ i = .int .i64 k ∧ Hid (∀ j, j < k → 0 ≤ [s.key, s.other, s.rev].getD j 0 ∧ [s.key, s.other, s.rev].getD j 0 ≤ 1073741824)) (fun i => 3 - (intOf i).toNat)
  case atStart => exact ⟨0, by omega, rfl, fun j hj => absurd hj (by omega)⟩
  case round =>
    obtain ⟨k, hk, rfl, HZ⟩ := hrel
    by_cases hlt : k < 3
    · have e0 : (0 : Int) ≤ (k : Int) := by omega
      have e1 : (k : Int) < 3 := by omega
      have HK : Hid (k < 3) := hlt
      have d0 : w2.cell? ⟨M, k, none⟩ = some (.int .i64 ([s.key, s.other, s.rev].getD k 0)) := HL2.out.one (three_at _ _ _ k hlt)
      have HBAD : Hid (([s.key, s.other, s.rev].getD k 0 < 0 ∨ 1073741824 < [s.key, s.other, s.rev].getD k 0) → scrOK s = false) := fun hz => HV.out false (by
        simp only [Bool.false_eq_true, false_iff]
        intro h
        have := h.1 k HK.out
        omega)
      have HGOOD : Hid (0 ≤ [s.key, s.other, s.rev].getD k 0 → [s.key, s.other, s.rev].getD k 0 ≤ 1073741824 → ∀ j, j < k + 1 → 0 ≤ [s.key, s.other, s.rev].getD j 0 ∧ [s.key, s.other, s.rev].getD j 0 ≤ 1073741824) := fun h1 h2 j hj => by
        by_cases e : j = k
        · subst e; exact ⟨h1, h2⟩
        · exact HZ.out j (by omega)
      generalize [s.key, s.other, s.rev].getD k 0 = z at d0 HBAD HGOOD
      rcases (show z < 0 ∨ (0 ≤ z ∧ 1073741824 < z) ∨ (0 ≤ z ∧ z ≤ 1073741824) by omega) with h | ⟨h1, h⟩ | ⟨h1, h2⟩
      · have HQ : Hid (scrOK s = false) := HBAD.out (.inl h)
        go_wp2_with fail
        go_ret
        exact ⟨ret_bool HQ.out.symm, hN ▸ HB2.out⟩
      · have HQ : Hid (scrOK s = false) := HBAD.out (.inr h)
        have e2 : ¬ z < 0 := by omega
        go_wp2_with fail
        go_ret
        exact ⟨ret_bool HQ.out.symm, hN ▸ HB2.out⟩
      · have e2 : ¬ z < 0 := by omega
        have e3 : ¬ 1073741824 < z := by omega
        have HG : Hid (∀ j, j < k + 1 → 0 ≤ [s.key, s.other, s.rev].getD j 0 ∧ [s.key, s.other, s.rev].getD j 0 ≤ 1073741824) := HGOOD.out h1 h2
        go_wp2_with fail
        go_round
        case rel => exact ⟨k + 1, by omega, by go_num, HG.out⟩
        case measure => simp [intOf]; omega
    · obtain rfl : k = 3 := by omega
      have c0 : w2.cell? ⟨N, 0, none⟩ = some (.int .i64 s.kind) := HA2.out.one rfl
      have c4 : w2.cell? ⟨N, 4, none⟩ = some (.int .i64 s.delay) := HA2.out.one rfl
      have c5 : w2.cell? ⟨N, 5, none⟩ = some (.int .i64 s.expiry) := HA2.out.one rfl
      rcases (show s.kind < 1 ∨ (1 ≤ s.kind ∧ 6 < s.kind) ∨ (1 ≤ s.kind ∧ s.kind ≤ 6 ∧ s.delay < 0) ∨ (1 ≤ s.kind ∧ s.kind ≤ 6 ∧ 0 ≤ s.delay ∧ 65535 < s.delay) ∨ (1 ≤ s.kind ∧ s.kind ≤ 6 ∧ 0 ≤ s.delay ∧ s.delay ≤ 65535 ∧ s.expiry < 0) ∨ (1 ≤ s.kind ∧ s.kind ≤ 6 ∧ 0 ≤ s.delay ∧ s.delay ≤ 65535 ∧ 0 ≤ s.expiry ∧ 1000000 < s.expiry) ∨ (1 ≤ s.kind ∧ s.kind ≤ 6 ∧ 0 ≤ s.delay ∧ s.delay ≤ 65535 ∧ 0 ≤ s.expiry ∧ s.expiry ≤ 1000000) by omega) with h | ⟨h1, h⟩ | ⟨h1, h2, h⟩ | ⟨h1, h2, h3, h⟩ | ⟨h1, h2, h3, h4, h⟩ | ⟨h1, h2, h3, h4, h5, h⟩ | ⟨h1, h2, h3, h4, h5, h6⟩
      · have e1 : ¬ 1 ≤ s.kind := by omega
        have HQ : Hid (scrOK s = false) := HV.out false (by simp only [Bool.false_eq_true, false_iff]; intro h'; omega)
        go_wp2_with fail
        go_ret
        exact ⟨ret_bool HQ.out.symm, hN ▸ HB2.out⟩
      · have e1 : ¬ s.kind ≤ 6 := by omega
        have HQ : Hid (scrOK s = false) := HV.out false (by simp only [Bool.false_eq_true, false_iff]; intro h'; omega)
        go_wp2_with fail
        go_ret
        exact ⟨ret_bool HQ.out.symm, hN ▸ HB2.out⟩
      · have e1 : ¬ 0 ≤ s.delay := by omega
        have HQ : Hid (scrOK s = false) := HV.out false (by simp only [Bool.false_eq_true, false_iff]; intro h'; omega)
        go_wp2_with fail
        go_ret
        exact ⟨ret_bool HQ.out.symm, hN ▸ HB2.out⟩
      · have e1 : ¬ s.delay ≤ 65535 := by omega
        have HQ : Hid (scrOK s = false) := HV.out false (by simp only [Bool.false_eq_true, false_iff]; intro h'; omega)
        go_wp2_with fail
        go_ret
        exact ⟨ret_bool HQ.out.symm, hN ▸ HB2.out⟩
      · have e1 : ¬ 0 ≤ s.expiry := by omega
        have HQ : Hid (scrOK s = false) := HV.out false (by simp only [Bool.false_eq_true, false_iff]; intro h'; omega)
        go_wp2_with fail
        go_ret
        exact ⟨ret_bool HQ.out.symm, hN ▸ HB2.out⟩
      · have e1 : ¬ s.expiry ≤ 1000000 := by omega
        have HQ : Hid (scrOK s = false) := HV.out false (by simp only [Bool.false_eq_true, false_iff]; intro h'; omega)
        go_wp2_with fail
        go_ret
        exact ⟨ret_bool HQ.out.symm, hN ▸ HB2.out⟩
      · have HQ : Hid (scrOK s = true) := HV.out true ⟨fun _ => ⟨HZ.out, h1, h2, h3, h4, h5, h6⟩, fun _ => rfl⟩
        go_wp2_with fail
        go_ret
        exact ⟨ret_bool HQ.out.symm, hN ▸ HB2.out⟩
end Go.Proofs.YteikbpkjikacmaaGreatDoor
