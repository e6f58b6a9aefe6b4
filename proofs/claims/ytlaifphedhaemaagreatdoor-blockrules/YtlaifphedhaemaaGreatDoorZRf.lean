/- The document's own witness, In1, Valid. The document's own Check. The document's own forms: text, point, scripted. The document's own body, Encode. -/
import Derived.Test.YtlaifphedhaemaaGreatDoorZX3
import Derived.Test.YtlaifphedhaemaaGreatDoorZN2
import Derived.Test.YtlaifphedhaemaaGreatDoorCE1
namespace Go.Proofs.YtlaifphedhaemaaGreatDoor
open Go.ChangeShapes Go.WideShapes Go.ChangeAt Go.RowKit

set_option maxRecDepth 100000 in
set_option maxHeartbeats 4000000 in
theorem rwitness_any (kind key : Int) (pre : ByteArray) (w : World) :
    Calls Tryz.prog 108 #[.agg #[.int .i64 kind, .int .i64 key, .string pre]] w fun e w' => e = .returned (.bool (witOK kind key pre.size)) ∧ Below w.heap.size w w' := by
  have HB : Hid (Below w.heap.size w (w.alloc (.cells #[.int .i64 kind, .int .i64 key, .string pre] 55))) := (Below.refl _ _).alloc (Nat.le_refl _) _
  have hW : ∀ q : Bool, (q = true ↔ (1 ≤ kind ∧ kind ≤ 4 ∧ 0 ≤ key ∧ key ≤ 1073741824 ∧ pre.size ≤ 64 ∧ (kind = 2 ↔ 0 < pre.size))) → witOK kind key pre.size = q := fun q hq => by
    rw [Bool.eq_iff_iff, hq]
    unfold witOK wi
    by_cases hk : kind = 2
    · rw [if_pos hk]; simp only [Bool.and_eq_true, decide_eq_true_eq]; omega
    · rw [if_neg hk]; simp only [Bool.and_eq_true, decide_eq_true_eq]; omega
  have HW : Hid (_ : Prop) := hW
  clear hW
  rcases (show kind < 1 ∨ (1 ≤ kind ∧ 4 < kind) ∨ (1 ≤ kind ∧ kind ≤ 4 ∧ key < 0) ∨ (1 ≤ kind ∧ kind ≤ 4 ∧ 0 ≤ key ∧ 1073741824 < key) ∨ (1 ≤ kind ∧ kind ≤ 4 ∧ 0 ≤ key ∧ key ≤ 1073741824 ∧ 64 < pre.size) ∨ (1 ≤ kind ∧ kind ≤ 4 ∧ 0 ≤ key ∧ key ≤ 1073741824 ∧ pre.size ≤ 64) by omega) with h | ⟨h1, h⟩ | ⟨h1, h2, h⟩ | ⟨h1, h2, h3, h⟩ | ⟨h1, h2, h3, h4, h⟩ | ⟨h1, h2, h3, h4, h5⟩
  · have e1 : ¬ 1 ≤ kind := by omega
    rw [HW.out false (by simp; omega)]
    go_enter Tryz.func108, Tryz.ntmps108
    go_wp2
    go_ret
    exact ⟨rfl, HB.out⟩
  · have e1 : ¬ kind ≤ 4 := by omega
    rw [HW.out false (by simp; omega)]
    go_enter Tryz.func108, Tryz.ntmps108
    go_wp2
    go_ret
    exact ⟨rfl, HB.out⟩
  · have e1 : ¬ 0 ≤ key := by omega
    rw [HW.out false (by simp; omega)]
    go_enter Tryz.func108, Tryz.ntmps108
    go_wp2
    go_ret
    exact ⟨rfl, HB.out⟩
  · have e1 : ¬ key ≤ 1073741824 := by omega
    rw [HW.out false (by simp; omega)]
    go_enter Tryz.func108, Tryz.ntmps108
    go_wp2
    go_ret
    exact ⟨rfl, HB.out⟩
  · have e1 : ¬ (pre.size : Int) ≤ 64 := by omega
    rw [HW.out false (by simp; omega)]
    go_enter Tryz.func108, Tryz.ntmps108
    go_wp2
    go_ret
    exact ⟨rfl, HB.out⟩
  · have e1 : (pre.size : Int) ≤ 64 := by omega
    go_enter Tryz.func108, Tryz.ntmps108
    go_wp2
    go_ret
    refine ⟨ret_bool (HW.out _ ?_).symm, HB.out⟩
    have hp : pre.toList.isEmpty = decide (pre.size = 0) := by
      rw [ByteArray.toList_eq, Bool.eq_iff_iff, List.isEmpty_iff_length_eq_zero, decide_eq_true_iff, Array.length_toList]
      exact Iff.rfl
    rw [hp]
    by_cases hk : kind = 2
    · by_cases hz : pre.size = 0
      · simp [hk, hz]
      · simp [hk, hz]; omega
    · by_cases hz : pre.size = 0
      · simp [hk, hz]; omega
      · simp [hk, hz]
theorem In.wit_arr (x : In) : (#[.int .i64 x.kind, .int .i64 x.key, .string x.pre] : Array Value) = x.wit.toArray := rfl
set_option maxRecDepth 100000 in
set_option maxHeartbeats 4000000 in
theorem rin_any (x : In) (w : World) :
    Calls Tryz.prog 79 #[.agg x.cs.toArray] w fun e w' => e = .returned (.bool (inOK x)) ∧ Below w.heap.size w w' := by
  have HW : Hid (∀ w, Calls Tryz.prog 108 #[.agg #[.int .i64 x.kind, .int .i64 x.key, .string x.pre]] w fun e w' => e = .returned (.bool (witOK x.kind x.key x.pre.size)) ∧ Below w.heap.size w w') := fun w => rwitness_any x.kind x.key x.pre w
  have hV : ∀ q : Bool, (q = true ↔ (0 ≤ x.prev.n ∧ x.prev.n < 100 ∧ 0 ≤ x.seq ∧ x.seq ≤ 65535 ∧ witOK x.kind x.key x.pre.size = true)) → inOK x = q := fun q hq => by
    rw [Bool.eq_iff_iff, hq]
    unfold inOK wi
    simp
    constructor
    · rintro ⟨⟨⟨h1, h2⟩, h3, h4⟩, h5⟩; exact ⟨h1, by omega, h3, h4, h5⟩
    · rintro ⟨h1, h2, h3, h4, h5⟩; exact ⟨⟨⟨h1, by omega⟩, h3, h4⟩, h5⟩
  have HV : Hid (_ : Prop) := hV
  clear hV
  go_enter Tryz.func79, Tryz.ntmps79
  go_upto_region 1 with fail
  generalize hw1 : World.alloc w _ = w1
  have hA1 : Blk w1 w.heap.size x.cs := by rw [← hw1]; exact Blk.new _ _ _
  have HB1 : Hid (Below w.heap.size w w1) := by rw [← hw1]; exact (Below.refl _ _).alloc (Nat.le_refl _) _
  clear hw1
  have c1 := hA1.one x.n_at
  have c2 := hA1.one x.seq_at
  have c3 := hA1.one x.kind_at
  have c4 := hA1.one x.key_at
  have c5 := hA1.one x.pre_at
  clear hA1
  rcases (show x.prev.n < 0 ∨ (0 ≤ x.prev.n ∧ 100 ≤ x.prev.n) ∨ (0 ≤ x.prev.n ∧ x.prev.n < 100 ∧ x.seq < 0) ∨ (0 ≤ x.prev.n ∧ x.prev.n < 100 ∧ 0 ≤ x.seq ∧ 65535 < x.seq) ∨ (0 ≤ x.prev.n ∧ x.prev.n < 100 ∧ 0 ≤ x.seq ∧ x.seq ≤ 65535) by omega) with h | ⟨h1, h⟩ | ⟨h1, h2, h⟩ | ⟨h1, h2, h3, h⟩ | ⟨h1, h2, h3, h4⟩
  · have e1 : ¬ 0 ≤ x.prev.n := by omega
    have HQ : Hid (inOK x = false) := HV.out false (by simp; omega)
    go_wp2_with fail
    go_ret
    exact ⟨ret_bool HQ.out.symm, HB1.out⟩
  · have e1 : ¬ x.prev.n < 100 := by omega
    have HQ : Hid (inOK x = false) := HV.out false (by simp; omega)
    go_wp2_with fail
    go_ret
    exact ⟨ret_bool HQ.out.symm, HB1.out⟩
  · have e1 : ¬ 0 ≤ x.seq := by omega
    have HQ : Hid (inOK x = false) := HV.out false (by simp; omega)
    go_wp2_with fail
    go_ret
    exact ⟨ret_bool HQ.out.symm, HB1.out⟩
  · have e1 : ¬ x.seq ≤ 65535 := by omega
    have HQ : Hid (inOK x = false) := HV.out false (by simp; omega)
    go_wp2_with fail
    go_ret
    exact ⟨ret_bool HQ.out.symm, HB1.out⟩
  · have HQ : Hid (inOK x = witOK x.kind x.key x.pre.size) := HV.out _ ⟨fun h => ⟨h1, h2, h3, h4, h⟩, fun h => h.2.2.2.2⟩
    clear HV
    generalize witOK x.kind x.key x.pre.size = p at *
    go_wp2_with fail
    refine Calls.mono (HW.out _) ?_
    rintro e w2 ⟨rfl, hb2⟩
    have hs := HB1.out.size
    go_wp2_with fail
    go_ret
    exact ⟨ret_bool HQ.out.symm, HB1.out.trans (hb2.mono hs)⟩
theorem three_at (a b c : Int) (k : Nat) (h : k < 3) : ([.int .i64 a, .int .i64 b, .int .i64 c] : List Value)[k]? = some (.int .i64 ([a, b, c].getD k 0)) := by
  rcases (show k = 0 ∨ k = 1 ∨ k = 2 by omega) with rfl | rfl | rfl <;> rfl
set_option maxRecDepth 100000 in
set_option maxHeartbeats 4000000 in
theorem rvalid_any (s : Scr) (w : World) :
    Calls Tryz.prog 80 #[.agg s.cs.toArray] w fun e w' => e = .returned (.bool (scrOK s)) ∧ Below w.heap.size w w' := by
  have hV : ∀ q : Bool, (q = true ↔ ((∀ j, j < 3 → 0 ≤ [s.key, s.other, s.rev].getD j 0 ∧ [s.key, s.other, s.rev].getD j 0 ≤ 1073741824) ∧ 1 ≤ s.kind ∧ s.kind ≤ 6 ∧ 0 ≤ s.delay ∧ s.delay ≤ 65535 ∧ 0 ≤ s.expiry ∧ s.expiry ≤ 1000000)) → scrOK s = q := fun q hq => by
    rw [Bool.eq_iff_iff, hq]
    unfold scrOK wi
    simp
    constructor
    · rintro ⟨⟨⟨h1, h2⟩, ⟨h3, h4⟩, h5⟩, h6, h7⟩
      refine ⟨fun j hj => ?_, h1, h2, h6.1, h6.2, h7.1, h7.2⟩
      rcases (show j = 0 ∨ j = 1 ∨ j = 2 by omega) with rfl | rfl | rfl
      · exact h3
      · exact h4
      · exact h5
    · rintro ⟨h, h1, h2, h3, h4, h5, h6⟩
      exact ⟨⟨⟨h1, h2⟩, ⟨h 0 (by omega), h 1 (by omega)⟩, h 2 (by omega)⟩, ⟨h3, h4⟩, h5, h6⟩
  have HV : Hid (_ : Prop) := hV
  clear hV
  go_enter Tryz.func80, Tryz.ntmps80
  go_upto_region 1 with fail
  generalize hw1 : World.alloc w _ = w1
  have HA1 : Hid (Blk w1 w.heap.size s.cs) := by rw [← hw1]; exact Blk.new _ _ _
  have HB1 : Hid (Below w.heap.size w w1) := by rw [← hw1]; exact (Below.refl _ _).alloc (Nat.le_refl _) _
  clear hw1
  generalize hN : w.heap.size = N at *
  have c1 : w1.cell? ⟨N, 1, none⟩ = some (.int .i64 s.key) := HA1.out.one rfl
  have c2 : w1.cell? ⟨N, 2, none⟩ = some (.int .i64 s.other) := HA1.out.one rfl
  have c3 : w1.cell? ⟨N, 3, none⟩ = some (.int .i64 s.rev) := HA1.out.one rfl
  go_upto_region 2 with fail
  generalize hw2 : World.alloc w1 _ = w2
  have HA2 : Hid (Blk w2 N s.cs) := by rw [← hw2]; exact HA1.out.alloc _
  have HL2 : Hid (Blk w2 w1.heap.size [.int .i64 s.key, .int .i64 s.other, .int .i64 s.rev]) := by rw [← hw2]; exact Blk.mk _ _ _ rfl rfl
  have hs1 := HB1.out.size
  have HB2 : Hid (Below N w w2) := by rw [← hw2]; exact HB1.out.alloc (hN ▸ hs1) _
  clear hw2 c1 c2 c3 HA1 HB1
  generalize hM : w1.heap.size = M at *
  go_wp2_with fail
  go_loop [4] (fun i => ∃ k : Nat, k ≤ 3 ∧ i = .int .i64 k ∧ Hid (∀ j, j < k → 0 ≤ [s.key, s.other, s.rev].getD j 0 ∧ [s.key, s.other, s.rev].getD j 0 ≤ 1073741824)) (fun i => 3 - (intOf i).toNat)
  case atStart => exact ⟨0, by omega, rfl, fun j hj => absurd hj (by omega)⟩
  case round =>
    obtain ⟨k, hk, rfl, HZ⟩ := hrel
    by_cases hlt : k < 3
    · have e0 : (0 : Int) ≤ (k : Int) := by omega
      have e1 : (k : Int) < 3 := by omega
      have HK : Hid (k < 3) := hlt
      have d0 : w2.cell? ⟨M, k, none⟩ = some (.int .i64 ([s.key, s.other, s.rev].getD k 0)) := HL2.out.one (three_at _ _ _ k hlt)
      have HBAD : Hid (([s.key, s.other, s.rev].getD k 0 < 0 ∨ 1073741824 < [s.key, s.other, s.rev].getD k 0) → scrOK s = false) := fun hz => HV.out false (by
        simp only [Bool.false_eq_true, false_iff]
        intro h
        have := h.1 k HK.out
        omega)
      have HGOOD : Hid (0 ≤ [s.key, s.other, s.rev].getD k 0 → [s.key, s.other, s.rev].getD k 0 ≤ 1073741824 → ∀ j, j < k + 1 → 0 ≤ [s.key, s.other, s.rev].getD j 0 ∧ [s.key, s.other, s.rev].getD j 0 ≤ 1073741824) := fun h1 h2 j hj => by
        by_cases e : j = k
        · subst e; exact ⟨h1, h2⟩
        · exact HZ.out j (by omega)
      generalize [s.key, s.other, s.rev].getD k 0 = z at d0 HBAD HGOOD
      rcases (show z < 0 ∨ (0 ≤ z ∧ 1073741824 < z) ∨ (0 ≤ z ∧ z ≤ 1073741824) by omega) with h | ⟨h1, h⟩ | ⟨h1, h2⟩
      · have HQ : Hid (scrOK s = false) := HBAD.out (.inl h)
        go_wp2_with fail
        go_ret
        exact ⟨ret_bool HQ.out.symm, hN ▸ HB2.out⟩
      · have HQ : Hid (scrOK s = false) := HBAD.out (.inr h)
        have e2 : ¬ z < 0 := by omega
        go_wp2_with fail
        go_ret
        exact ⟨ret_bool HQ.out.symm, hN ▸ HB2.out⟩
      · have e2 : ¬ z < 0 := by omega
        have e3 : ¬ 1073741824 < z := by omega
        have HG : Hid (∀ j, j < k + 1 → 0 ≤ [s.key, s.other, s.rev].getD j 0 ∧ [s.key, s.other, s.rev].getD j 0 ≤ 1073741824) := HGOOD.out h1 h2
        go_wp2_with fail
        go_round
        case rel => exact ⟨k + 1, by omega, by go_num, HG.out⟩
        case measure => simp [intOf]; omega
    · obtain rfl : k = 3 := by omega
      have c0 : w2.cell? ⟨N, 0, none⟩ = some (.int .i64 s.kind) := HA2.out.one rfl
      have c4 : w2.cell? ⟨N, 4, none⟩ = some (.int .i64 s.delay) := HA2.out.one rfl
      have c5 : w2.cell? ⟨N, 5, none⟩ = some (.int .i64 s.expiry) := HA2.out.one rfl
      rcases (show s.kind < 1 ∨ (1 ≤ s.kind ∧ 6 < s.kind) ∨ (1 ≤ s.kind ∧ s.kind ≤ 6 ∧ s.delay < 0) ∨ (1 ≤ s.kind ∧ s.kind ≤ 6 ∧ 0 ≤ s.delay ∧ 65535 < s.delay) ∨ (1 ≤ s.kind ∧ s.kind ≤ 6 ∧ 0 ≤ s.delay ∧ s.delay ≤ 65535 ∧ s.expiry < 0) ∨ (1 ≤ s.kind ∧ s.kind ≤ 6 ∧ 0 ≤ s.delay ∧ s.delay ≤ 65535 ∧ 0 ≤ s.expiry ∧ 1000000 < s.expiry) ∨ (1 ≤ s.kind ∧ s.kind ≤ 6 ∧ 0 ≤ s.delay ∧ s.delay ≤ 65535 ∧ 0 ≤ s.expiry ∧ s.expiry ≤ 1000000) by omega) with h | ⟨h1, h⟩ | ⟨h1, h2, h⟩ | ⟨h1, h2, h3, h⟩ | ⟨h1, h2, h3, h4, h⟩ | ⟨h1, h2, h3, h4, h5, h⟩ | ⟨h1, h2, h3, h4, h5, h6⟩
      · have e1 : ¬ 1 ≤ s.kind := by omega
        have HQ : Hid (scrOK s = false) := HV.out false (by simp only [Bool.false_eq_true, false_iff]; intro h'; omega)
        go_wp2_with fail
        go_ret
        exact ⟨ret_bool HQ.out.symm, hN ▸ HB2.out⟩
      · have e1 : ¬ s.kind ≤ 6 := by omega
        have HQ : Hid (scrOK s = false) := HV.out false (by simp only [Bool.false_eq_true, false_iff]; intro h'; omega)
        go_wp2_with fail
        go_ret
        exact ⟨ret_bool HQ.out.symm, hN ▸ HB2.out⟩
      · have e1 : ¬ 0 ≤ s.delay := by omega
        have HQ : Hid (scrOK s = false) := HV.out false (by simp only [Bool.false_eq_true, false_iff]; intro h'; omega)
        go_wp2_with fail
        go_ret
        exact ⟨ret_bool HQ.out.symm, hN ▸ HB2.out⟩
      · have e1 : ¬ s.delay ≤ 65535 := by omega
        have HQ : Hid (scrOK s = false) := HV.out false (by simp only [Bool.false_eq_true, false_iff]; intro h'; omega)
        go_wp2_with fail
        go_ret
        exact ⟨ret_bool HQ.out.symm, hN ▸ HB2.out⟩
      · have e1 : ¬ 0 ≤ s.expiry := by omega
        have HQ : Hid (scrOK s = false) := HV.out false (by simp only [Bool.false_eq_true, false_iff]; intro h'; omega)
        go_wp2_with fail
        go_ret
        exact ⟨ret_bool HQ.out.symm, hN ▸ HB2.out⟩
      · have e1 : ¬ s.expiry ≤ 1000000 := by omega
        have HQ : Hid (scrOK s = false) := HV.out false (by simp only [Bool.false_eq_true, false_iff]; intro h'; omega)
        go_wp2_with fail
        go_ret
        exact ⟨ret_bool HQ.out.symm, hN ▸ HB2.out⟩
      · have HQ : Hid (scrOK s = true) := HV.out true ⟨fun _ => ⟨HZ.out, h1, h2, h3, h4, h5, h6⟩, fun _ => rfl⟩
        go_wp2_with fail
        go_ret
        exact ⟨ret_bool HQ.out.symm, hN ▸ HB2.out⟩
end Go.Proofs.YtlaifphedhaemaaGreatDoor
namespace Go.Proofs.YtlaifphedhaemaaGreatDoor
open Go.ChangeShapes Go.WideShapes Go.ChangeAt Go.RowKit

theorem Tryz.infoInt8 : (Tryz.prog.info? 3).map (fun i => (i.zero, i.size, i.bytes)) = some (some (.int .i64 0), 1, 8) := by kernel_rfl
/-- A row of int that grows. -/
def OwnI (w : World) (B : Nat) (v : Value) (Z : List Int) : Prop := w.ownsRow B 3 1 v Z.length (Z.map (Value.int .i64))
theorem OwnI.any {w : World} {B : Nat} {v : Value} {Z : List Int} (h : OwnI w B v Z) : ∃ a n cap, v = .slice a n cap := by
  rcases h.2 with ⟨hv, _⟩ | ⟨g, cap, cur, hv, _⟩
  · exact ⟨_, _, _, hv⟩
  · exact ⟨_, _, _, hv⟩
theorem OwnI.below {w w' : World} {B : Nat} {v : Value} {Z : List Int} (h : OwnI w B v Z) (hb : Below w.heap.size w w') : OwnI w' B v Z := by
  refine ⟨h.1, ?_⟩
  rcases h.2 with hn | ⟨g, cap, cur, hv, hbg, hg, r⟩
  · exact Or.inl hn
  · refine Or.inr ⟨g, cap, cur, hv, hbg, ?_, r⟩
    rw [hb.block g (Array.getElem?_eq_some_iff.1 hg).1]; exact hg
theorem OwnI.ints {w : World} {B : Nat} {v : Value} {Z : List Int} (h : OwnI w B v Z) : ∃ a cap, v = .slice a Z.length cap ∧ Ints w a Z ∧ Z.length ≤ cap ∧ Z.length ≤ maxLen := by
  have h0 := h
  rcases h.2 with ⟨hv, hn⟩ | ⟨g, cap, cur, hv, hb, hg, hnc, hcm, _⟩
  · obtain rfl := List.eq_nil_of_length_eq_zero hn
    exact ⟨none, 0, hv, .inl rfl, Nat.le_refl _, Nat.zero_le _⟩
  · refine ⟨_, cap, hv, .inr ⟨g, 0, rfl, fun i hi => ?_⟩, hnc, Nat.le_trans hnc hcm⟩
    subst hv
    have hc := World.ownsRow.cellAt h0 i (by omega)
    rw [Nat.zero_add, hc, List.getElem?_map, List.getElem?_eq_getElem hi, List.getD_eq_getElem?_getD, List.getElem?_eq_getElem hi]; rfl
theorem sole_false {l : List In} {i k : Nat} (hk : k < i) (hi : i < l.length) (h : (l.getD k default).prev = (l.getD i default).prev) : sole l = false := by
  unfold sole
  refine decide_eq_false fun hn => ?_
  have := List.pairwise_iff_getElem.1 hn k i (by rw [List.length_map]; omega) (by rw [List.length_map]; exact hi) hk
  rw [List.getElem_map, List.getElem_map] at this
  rw [List.getD_eq_getElem?_getD, List.getD_eq_getElem?_getD, List.getElem?_eq_getElem hi, List.getElem?_eq_getElem (show k < l.length by omega)] at h
  exact this h
theorem sole_true {l : List In} (h : ∀ i k, k < i → i < l.length → (l.getD k default).prev ≠ (l.getD i default).prev) : sole l = true := by
  unfold sole
  refine decide_eq_true (List.pairwise_iff_getElem.2 fun i j hi hj hij => ?_)
  rw [List.length_map] at hi hj
  have := h j i hij hj
  rw [List.getD_eq_getElem?_getD, List.getD_eq_getElem?_getD, List.getElem?_eq_getElem hi, List.getElem?_eq_getElem hj] at this
  rw [List.getElem_map, List.getElem_map]
  exact this
theorem vals_next (l : List Out) (k : Nat) (h : k < l.length) : (l.take (k + 1)).map Out.value = (l.take k).map Out.value ++ [(l.getD k default).value] := by
  rw [List.take_add_one, List.map_append, List.getD_eq_getElem?_getD, List.getElem?_eq_getElem h]; rfl

set_option maxHeartbeats 2000000 in
theorem rcheck_big (v : TxV) (t : TxD) (w : World) (h : TxAt w v t) (hb : 100 < v.n ∨ 100 < v.m) :
    Calls Tryz.prog 50 #[v.val t.lock] w fun e w' => e = .returned (.int .i64 (chkE t)) ∧ Below w.heap.size w w' := by
  have HC : Hid (chkE t = 3) := chk_big (by rw [h.ins.len, h.outs.len]; exact hb)
  clear h
  obtain ⟨a, n, c, b, m, d⟩ := v
  obtain ⟨ins, outs, lock⟩ := t
  unfold TxV.val
  simp only at hb
  have HB : Hid (Below w.heap.size w (w.alloc (.cells #[.slice a n c, .slice b m d, .int .i64 lock] 61))) := (Below.refl _ _).alloc (Nat.le_refl _) _
  by_cases h1 : 100 < n
  · have e1 : (100 : Int) < (n : Int) := by omega
    go_enter Tryz.func50, Tryz.ntmps50
    go_wp2_with fail
    go_ret
    exact ⟨ret_int HC.out.symm, HB.out⟩
  · have e1 : ¬ (100 : Int) < (n : Int) := by omega
    have e2 : (100 : Int) < (m : Int) := by omega
    go_enter Tryz.func50, Tryz.ntmps50
    go_wp2_with fail
    go_ret
    exact ⟨ret_int HC.out.symm, HB.out⟩
set_option maxHeartbeats 2000000 in
theorem rcheck_none (v : TxV) (t : TxD) (w : World) (h : TxAt w v t) (hm : v.m ≤ 100) (hn : v.n = 0) :
    Calls Tryz.prog 50 #[v.val t.lock] w fun e w' => e = .returned (.int .i64 (chkE t)) ∧ Below w.heap.size w w' := by
  have HC : Hid (chkE t = 1) := chk_none (by rw [h.ins.len, h.outs.len]; omega) (List.eq_nil_of_length_eq_zero (by rw [h.ins.len]; exact hn))
  obtain ⟨a, n, c, b, m, d⟩ := v
  obtain ⟨ins, outs, lock⟩ := t
  clear h
  unfold TxV.val
  simp only at hm hn
  subst hn
  have HB : Hid (Below w.heap.size w (w.alloc (.cells #[.slice a 0 c, .slice b m d, .int .i64 lock] 61))) := (Below.refl _ _).alloc (Nat.le_refl _) _
  have e2 : ¬ (100 : Int) < (m : Int) := by omega
  go_enter Tryz.func50, Tryz.ntmps50
  go_wp2_with fail
  go_ret
  exact ⟨ret_int HC.out.symm, HB.out⟩
set_option maxRecDepth 100000 in
set_option maxHeartbeats 8000000 in
theorem rcheck_some (v : TxV) (t : TxD) (w : World) (h : TxAt w v t) (hm : v.m ≤ 100) (hn : v.n ≤ 100) (hn0 : 0 < v.n) :
    Calls Tryz.prog 50 #[v.val t.lock] w fun e w' => e = .returned (.int .i64 (chkE t)) ∧ Below w.heap.size w w' := by
  have HMO := follows_mixed
  obtain ⟨dI, HDI, HRI⟩ := und_in
  obtain ⟨dS, HDS, HRS⟩ := und_scr
  obtain ⟨i0, hi, hz0, hz1, hz2⟩ := info_parts Tryz.infoInt8
  have HI0 : Hid (Tryz.prog.info? 3 = some i0 ∧ i0.zero = some (.int .i64 0) ∧ i0.size = 1 ∧ i0.bytes = 8) := ⟨hi, hz0, hz1, hz2⟩
  clear hi hz0 hz1 hz2
  have HBG : Hid (¬ (100 < t.ins.length ∨ 100 < t.outs.length)) := show ¬ _ by rw [h.ins.len, h.outs.len]; omega
  have HNE : Hid (t.ins ≠ []) := show _ ≠ _ from fun e => by have := h.ins.len; rw [e] at this; simp at this; omega
  have HC1 : Hid (∀ k, k < v.n → inOK (t.ins.getD k default) = false → chkE t = 1) := fun k hk hf => chk_in HBG.out (all_false (by rw [h.ins.len]; exact hk) hf)
  have HC2 : Hid (∀ k, k < v.m → scrOK (t.outs.getD k default).scr = false → chkE t = 1) := fun k hk hf => chk_out HBG.out (all_false (f := fun o : Out => scrOK o.scr) (by rw [h.outs.len]; exact hk) hf)
  have HLI : Hid (t.ins.length = v.n) := h.ins.len
  have HLO : Hid (t.outs.length = v.m) := h.outs.len
  have HIN : Hid (Els w v.a v.n v.c t.ins ∧ Els w v.b v.m v.d t.outs) := ⟨h.ins, h.outs⟩
  have HCS : Hid (t.ins.all inOK = true → sole t.ins = true → t.outs.all (fun o => scrOK o.scr) = true → wi t.lock 0 1000000 = true → chkE t = totE (t.outs.map Out.value)) := fun h1 h2 h3 h4 => chk_sum HBG.out HNE.out h1 h2 h3 h4
  have HCD : Hid (∀ i k, k < i → i < v.n → (t.ins.getD k default).prev = (t.ins.getD i default).prev → chkE t = 1) := fun i k h1 h2 h3 => chk_dup HBG.out (sole_false h1 (by rw [h.ins.len]; exact h2) h3)
  have HCL : Hid (wi t.lock 0 1000000 = false → chkE t = 1) := fun h1 => chk_lock HBG.out h1
  clear h HBG HNE
  generalize chkE t = E at *
  obtain ⟨ins, outs, lock⟩ := t
  obtain ⟨a, n, c, b, m, d⟩ := v
  unfold TxV.val
  simp only at *
  go_enter Tryz.func50, Tryz.ntmps50
  go_upto_region 1 with fail
  generalize hwv : World.alloc w _ = w1
  have HB0 : Hid (Blk w1 w.heap.size [.slice a n c, .slice b m d, .int .i64 lock]) := by rw [← hwv]; exact Blk.mk _ _ _ rfl rfl
  have HBL : Hid (Below w.heap.size w w1) := by rw [← hwv]; exact (Below.refl _ _).alloc (Nat.le_refl _) _
  clear hwv
  have HE1 : Hid (Els w1 a n c ins ∧ Els w1 b m d outs) := ⟨HIN.out.1.below HBL.out, HIN.out.2.below HBL.out⟩
  clear HIN
  generalize hN : w.heap.size = N at *
  have hs1 := HB0.out.lt
  have HS : Hid (∀ w', Below w1.heap.size w1 w' → w'.cell? ⟨N, 0, none⟩ = some (.slice a n c) ∧ w'.cell? ⟨N, 1, none⟩ = some (.slice b m d) ∧ w'.cell? ⟨N, 2, none⟩ = some (.int .i64 lock)) := fun w' h => ⟨(HB0.out.below h hs1).one rfl, (HB0.out.below h hs1).one rfl, (HB0.out.below h hs1).one rfl⟩
  clear HB0
  have e1 : ¬ (100 : Int) < (n : Int) := by omega
  have e2 : ¬ (100 : Int) < (m : Int) := by omega
  have e3 : ((n : Int) == 0) = false := beq_eq_false_iff_ne.2 (by omega)
  obtain ⟨c0, c1, c2⟩ := HS.out w1 (Below.refl _ _)
  go_wp2_with fail
  clear c0 c1 c2 e1 e2 e3
  go_loopw [3, 4] (fun i _ wr => ∃ k : Nat, k ≤ n ∧ i = .int .i64 k ∧ Hid (∀ j, j < k → inOK (ins.getD j default) = true) ∧ Hid (∀ i j, j < i → i < k → (ins.getD j default).prev ≠ (ins.getD i default).prev) ∧ Hid (Below w1.heap.size w1 wr)) (fun i _ _ => n - (intOf i).toNat)
  case atStart => exact ⟨0, by omega, rfl, fun j hj => absurd hj (by omega), fun i j _ hi => absurd hi (by omega), Below.refl _ _⟩
  case round =>
    obtain ⟨k, hk, rfl, HOK, HNQ, HBR⟩ := hrel
    have hszr := HBR.out.size
    have c0 : wr.cell? ⟨N, 0, none⟩ = some (.slice a n c) := (HS.out _ HBR.out).1
    by_cases hlt : k < n
    · have e0 : (0 : Int) ≤ (k : Int) := by omega
      have e1 : (k : Int) < (n : Int) := by omega
      have HK : Hid (k < n) := hlt
      obtain ⟨bb, o, rfl, hc⟩ := (HE1.out.1.below HBR.out).at k hlt
      obtain ⟨x, hx⟩ : ∃ x, x = ins.getD k default := ⟨_, rfl⟩
      change wr.rangeAt bb (o + k * 37) (In.cs (ins.getD k default)) at hc
      rw [← hx] at hc
      have HX : Hid (x = ins.getD k default) := hx
      have HC : Hid (wr.rangeAt bb (o + k * 37) x.cs) := hc
      have HIN1 : Hid (∀ w, Calls Tryz.prog 79 #[.agg x.cs.toArray] w fun e w' => e = .returned (.bool (inOK x)) ∧ Below w.heap.size w w') := fun w => rin_any x w
      have HIK : Hid (inOK (ins.getD k default) = inOK x) := show _ = _ by rw [← hx]
      clear hc hx
      generalize inOK x = r at *
      go_wp2_with (refine wpList_load_mid rfl 57 _ rfl bb (o + k * 37) rfl x.cs _ HC.out HDI.out HRI.out (size_in x) ?_)
      refine Calls.mono (HIN1.out _) ?_
      rintro e w3 ⟨rfl, hb3⟩
      have HB3 : Hid (Below w1.heap.size w1 w3) := HBR.out.trans (hb3.mono hszr)
      have hs3 := HB3.out.size
      clear hb3 HBR HC HIN1 c0 hszr
      cases r
      · have HQ : Hid (E = 1) := HC1.out k hlt HIK.out
        go_wp2_with fail
        go_ret
        subst hN
        exact ⟨ret_int HQ.out.symm, HBL.out.trans (HB3.out.mono (by omega))⟩
      · have HOK2 : Hid (∀ j, j < k + 1 → inOK (ins.getD j default) = true) := fun j hj => by
          by_cases e : j = k
          · subst e; exact HIK.out
          · exact HOK.out j (by omega)
        clear HOK HIK
        go_wp2_with fail
        go_loopw [4] (fun j wr => ∃ i : Nat, i ≤ k ∧ j = .int .i64 i ∧ Hid (∀ j, j < i → (ins.getD j default).prev ≠ (ins.getD k default).prev) ∧ Hid (Below w1.heap.size w1 wr)) (fun j _ => k - (intOf j).toNat)
        case atStart => exact ⟨0, by omega, rfl, fun j hj => absurd hj (by omega), HB3.out⟩
        case round =>
          obtain ⟨i, hik, rfl, HNE, HBR⟩ := hrel
          have hszr := HBR.out.size
          by_cases hil : i < k
          · have f0 : (0 : Int) ≤ (i : Int) := by omega
            have f1 : (i : Int) < (k : Int) := by omega
            have f2 : (i : Int) < (n : Int) := by omega
            have hin : i < n := by omega
            have HBD : Hid (Below w1.heap.size w1 wr.drew) := HBR.out.drew
            have d0 : wr.drew.cell? ⟨N, 0, none⟩ = some (.slice (some ⟨bb, o, none⟩) n c) := (HS.out _ HBD.out).1
            obtain ⟨b1, o1, q1, hc1⟩ := (HE1.out.1.below HBD.out).at k hlt
            obtain ⟨b2, o2, q2, hc2⟩ := (HE1.out.1.below HBD.out).at i hin
            injection q1 with q1
            injection q1 with q1 q1'
            injection q2 with q2
            injection q2 with q2 q2'
            subst q1; subst q1'; subst q2; subst q2'
            obtain ⟨z, hz⟩ : ∃ z, z = ins.getD i default := ⟨_, rfl⟩
            change wr.drew.rangeAt bb (o + k * 37) (In.cs (ins.getD k default)) at hc1
            change wr.drew.rangeAt bb (o + i * 37) (In.cs (ins.getD i default)) at hc2
            rw [← HX.out] at hc1
            rw [← hz] at hc2
            have HC1 : Hid (wr.drew.rangeAt bb (o + k * 37) x.prev.cs) := In.prev_at hc1
            have HC2 : Hid (wr.drew.rangeAt bb (o + i * 37) z.prev.cs) := In.prev_at hc2
            have HZX : Hid (z = ins.getD i default) := hz
            clear hc1 hc2 hz HBR
            have q1 : ∀ w', (binOp .eql 53 (.agg z.prev.cs.toArray) (.agg x.prev.cs.toArray)).run Tryz.prog w' = .ok (.bool (decide (z.prev = x.prev))) w' := eql_pt z.prev x.prev
            have q2 : ∀ (op : BinOp) (u v : Operand) w', (eqGuard op 53 u v (.agg z.prev.cs.toArray) (.agg x.prev.cs.toArray)).run Tryz.prog w' = .ok () w' := fun op u v => guard_pt op u v z.prev x.prev
            have q3 : ∀ w', (Op.equalIn 10000 53 (.agg z.prev.cs.toArray) (.agg x.prev.cs.toArray)).run Tryz.prog w' = .ok (decide (z.prev = x.prev)) w' := equalIn_pt z.prev x.prev
            go_wp2_with fail
            refine wp_region_reads HMO.out (by kernel_rfl) ?_
            iterate 5 still_step
            refine still_load_mid rfl 53 _ rfl bb (o + i * 37) rfl z.prev.cs _ HC2.out und_pt.out rfl (size_pt z.prev) ?_
            simp only [Act.put, List.setIfInBounds_toArray, List.set_cons_zero, List.set_cons_succ]
            iterate 5 still_step
            refine still_load_mid rfl 53 _ rfl bb (o + k * 37) rfl x.prev.cs _ HC1.out und_pt.out rfl (size_pt x.prev) ?_
            simp only [Act.put, List.setIfInBounds_toArray, List.set_cons_zero, List.set_cons_succ]
            still_step
            refine wpStill_nil ?_
            clear q1 q2 q3 HC1 HC2 d0
            by_cases hzx : z.prev = x.prev
            · have HQ : Hid (E = 1) := HCD.out k i hil hlt (by rw [← HX.out, ← HZX.out]; exact hzx)
              rw [decide_eq_true hzx]
              clear hzx
              go_wp2_with fail
              go_ret
              subst hN
              exact ⟨ret_int HQ.out.symm, HBL.out.trans (HBD.out.mono (by omega))⟩
            · have HNE2 : Hid (∀ j, j < i + 1 → (ins.getD j default).prev ≠ (ins.getD k default).prev) := fun j hj => by
                by_cases e : j = i
                · subst e; rw [← HX.out, ← HZX.out]; exact hzx
                · exact HNE.out j (by omega)
              rw [decide_eq_false hzx]
              clear hzx
              go_wp2_with fail
              go_roundw
              case rel => exact ⟨i + 1, by omega, by go_num, HNE2.out, HBD.out⟩
              case measure => simp [intOf]; omega
          · obtain rfl : i = k := by omega
            have HNQ2 : Hid (∀ p j, j < p → p < i + 1 → (ins.getD j default).prev ≠ (ins.getD p default).prev) := fun p j h1 h2 => by
              by_cases e : p = i
              · subst e; exact HNE.out j h1
              · exact HNQ.out p j h1 (by omega)
            go_wp2_with fail
            go_roundw
            case rel => exact ⟨i + 1, by omega, by go_num, HOK2.out, HNQ2.out, HBR.out⟩
            case measure => simp [intOf]; omega
    · obtain rfl : k = n := by omega
      have HALL : Hid (ins.all inOK = true ∧ sole ins = true) := ⟨all_true fun j hj => HOK.out j (by rw [HLI.out] at hj; exact hj), sole_true fun i j h1 h2 => HNQ.out i j h1 (by rw [HLI.out] at h2; exact h2)⟩
      have HBS : Hid (Below w1.heap.size w1 wr) := HBR.out
      clear HOK HNQ HBR
      go_wp2_with fail
      clear c0 hszr
      go_loopw [5, 6] (fun v i wr => ∃ k : Nat, k ≤ m ∧ i = .int .i64 k ∧ Hid (OwnI wr w1.heap.size v ((outs.take k).map Out.value)) ∧ Hid (∀ j, j < k → scrOK (outs.getD j default).scr = true) ∧ Hid (Below w1.heap.size w1 wr)) (fun _ i _ => m - (intOf i).toNat)
      case atStart => exact ⟨0, by omega, rfl, World.ownsRow_nil _ _ _ _, fun j hj => absurd hj (by omega), HBS.out⟩
      case round =>
        obtain ⟨k, hk, rfl, HOW, HOK, HBR⟩ := hrel
        have hszr := HBR.out.size
        obtain ⟨va, vn, vc, rfl⟩ := HOW.out.any
        have c1 : wr.cell? ⟨N, 1, none⟩ = some (.slice b m d) := (HS.out _ HBR.out).2.1
        by_cases hlt : k < m
        · have e0 : (0 : Int) ≤ (k : Int) := by omega
          have e1 : (k : Int) < (m : Int) := by omega
          obtain ⟨bb, o, rfl, hc⟩ := (HE1.out.2.below HBR.out).at k hlt
          obtain ⟨x, hx⟩ : ∃ x, x = outs.getD k default := ⟨_, rfl⟩
          change wr.rangeAt bb (o + k * 39) (Out.cs (outs.getD k default)) at hc
          rw [← hx] at hc
          have HX : Hid (x = outs.getD k default) := hx
          have HC : Hid (wr.rangeAt bb (o + k * 39) x.cs) := hc
          have HCS2 : Hid (wr.rangeAt bb (o + k * 39 + 1) x.scr.cs) := Out.scr_at hc
          have HVA : Hid (∀ w, Calls Tryz.prog 80 #[.agg x.scr.cs.toArray] w fun e w' => e = .returned (.bool (scrOK x.scr)) ∧ Below w.heap.size w w') := fun w => rvalid_any x.scr w
          have HIK : Hid (scrOK (outs.getD k default).scr = scrOK x.scr) := show _ = _ by rw [← hx]
          clear hc hx
          generalize scrOK x.scr = r at *
          go_wp2_with (refine wpList_load_mid rfl 65 _ rfl bb (o + k * 39 + 1) rfl x.scr.cs _ HCS2.out HDS.out HRS.out (size_scr x.scr) ?_)
          refine Calls.mono (HVA.out _) ?_
          rintro e w3 ⟨rfl, hb3⟩
          have HB3 : Hid (Below w1.heap.size w1 w3) := HBR.out.trans (hb3.mono hszr)
          have HOW3 : Hid (OwnI w3 w1.heap.size (.slice va vn vc) ((outs.take k).map Out.value)) := HOW.out.below hb3
          have c3 : w3.cell? ⟨bb, o + k * 39, none⟩ = some (.int .i64 x.value) := by
            have := rangeAt_below HC.out hb3 (Nat.le_refl _) 0 _ rfl
            simpa using this
          have hs3 := HB3.out.size
          clear hb3 HBR HC HCS2 HVA c1 hszr HOW
          cases r
          · have HQ : Hid (E = 1) := HC2.out k hlt HIK.out
            go_wp2_with fail
            go_ret
            subst hN
            exact ⟨ret_int HQ.out.symm, HBL.out.trans (HB3.out.mono (by omega))⟩
          · have HOK2 : Hid (∀ j, j < k + 1 → scrOK (outs.getD j default).scr = true) := fun j hj => by
              by_cases e : j = k
              · subst e; exact HIK.out
              · exact HOK.out j (by omega)
            have HNX : Hid ((outs.take (k + 1)).map Out.value = (outs.take k).map Out.value ++ [x.value]) := by
              show _ = _
              rw [HX.out]; exact vals_next outs k (by rw [HLO.out]; exact hlt)
            have c1 : w3.cell? ⟨N, 1, none⟩ = some (.slice (some ⟨bb, o, none⟩) m d) := (HS.out _ HB3.out).2.1
            have hZL : ((outs.take k).map Out.value).length ≤ 100 := by rw [List.length_map, List.length_take]; omega
            clear HOK HIK HX
            generalize (outs.take k).map Out.value = Z at *
            go_wp2_with (at_builtin; refine wpList_append_own _ rfl _ _ 113 rfl w1.heap.size 3 i0 (.int .i64 0) 1 8 Tryz.underlying113 HI0.out.1 HI0.out.2.1 HI0.out.2.2.1 HI0.out.2.2.2 rfl (by decide) _ _ _ rfl (HOW3.out.alloc _) ⟨w3.heap.size, 0, none⟩ 1 1 [.int .i64 x.value] rfl rfl ?d1 ?d2 ?d3 ?d4 ?d5 ?_)
            case d1 => exact cell_one_new _ _ _
            case d2 => intro u hu; simp at hu; subst hu; rfl
            case d3 => unfold maxLen; omega
            case d4 => omega
            case d5 => simp; omega
            intro v4 w4 hown4 hgrow4 _
            have HOW4 : Hid (OwnI w4 w1.heap.size v4 ((outs.take (k + 1)).map Out.value)) := by
              show OwnI _ _ _ _
              unfold OwnI
              rw [HNX.out, List.map_append, List.length_append]
              simpa using hown4
            have HB4 : Hid (Below w1.heap.size w1 w4) := (HB3.out.alloc hs3 _).grown hgrow4 (by simp; omega) (fun k hk => (HOW3.out.lt k hk).1)
            clear hown4 hgrow4 HOW3 c3 c1 HB3
            go_wp2_with fail
            go_roundw
            case rel => exact ⟨k + 1, by omega, by go_num, HOW4.out, HOK2.out, HB4.out⟩
            case measure => simp [intOf]; omega
        · obtain rfl : k = m := by omega
          have HALL2 : Hid (outs.all (fun o => scrOK o.scr) = true) := all_true (f := fun o : Out => scrOK o.scr) fun j hj => HOK.out j (by rw [HLO.out] at hj; exact hj)
          have HOW5 : Hid (OwnI wr w1.heap.size (.slice va vn vc) (outs.map Out.value)) := by
            have := HOW.out
            rwa [List.take_of_length_le (by rw [HLO.out]; exact Nat.le_refl _)] at this
          obtain ⟨a5, cap5, hv5, hI5, hl5, hm5⟩ := HOW5.out.ints
          injection hv5 with g1 g2 g3
          subst g1; subst g2; subst g3
          have HTOT : Hid (Calls Tryz.prog 81 #[.slice va (outs.map Out.value).length vc] wr fun e w' => e = .returned (.tuple #[.int .i64 (totN (outs.map Out.value)), .int .i64 (totE (outs.map Out.value))]) ∧ wr = w') := rtotal_any va _ vc _ wr hI5 rfl hl5 hm5
          have c2 : wr.cell? ⟨N, 2, none⟩ = some (.int .i64 lock) := (HS.out _ HBR.out).2.2
          clear hI5 hl5 hm5 HOW HOW5 HOK
          rcases (show lock < 0 ∨ (0 ≤ lock ∧ 1000000 < lock) ∨ (0 ≤ lock ∧ lock ≤ 1000000) by omega) with hl | ⟨hl0, hl⟩ | ⟨hl0, hl1⟩
          · have HQ : Hid (E = 1) := HCL.out (by unfold wi; exact decide_eq_false (by omega))
            go_wp2_with fail
            go_ret
            subst hN
            exact ⟨ret_int HQ.out.symm, HBL.out.trans (HBR.out.mono (by omega))⟩
          · have HQ : Hid (E = 1) := HCL.out (by unfold wi; exact decide_eq_false (by omega))
            have f1 : ¬ lock < 0 := by omega
            go_wp2_with fail
            go_ret
            subst hN
            exact ⟨ret_int HQ.out.symm, HBL.out.trans (HBR.out.mono (by omega))⟩
          · have HQ : Hid (E = totE (outs.map Out.value)) := HCS.out HALL.out.1 HALL.out.2 HALL2.out (by unfold wi; exact decide_eq_true ⟨hl0, hl1⟩)
            have f1 : ¬ lock < 0 := by omega
            have f2 : ¬ 1000000 < lock := by omega
            generalize totE (outs.map Out.value) = E2 at *
            generalize totN (outs.map Out.value) = N2 at *
            generalize (outs.map Out.value).length = L2 at *
            go_wp2_with fail
            refine Calls.mono HTOT.out ?_
            rintro e w9 ⟨rfl, rfl⟩
            go_wp2_with fail
            go_ret
            subst hN
            exact ⟨ret_int HQ.out.symm, HBL.out.trans (HBR.out.mono (by omega))⟩
theorem rcheck_any (v : TxV) (t : TxD) (w : World) (h : TxAt w v t) :
    Calls Tryz.prog 50 #[v.val t.lock] w fun e w' => e = .returned (.int .i64 (chkE t)) ∧ Below w.heap.size w w' := by
  by_cases hb : 100 < v.n ∨ 100 < v.m
  · exact rcheck_big v t w h hb
  · by_cases hn : v.n = 0
    · exact rcheck_none v t w h (by omega) hn
    · exact rcheck_some v t w h (by omega) (by omega) (by omega)
end Go.Proofs.YtlaifphedhaemaaGreatDoor
namespace Go.Proofs.YtlaifphedhaemaaGreatDoor
open Go.ChangeShapes Go.WideShapes Go.ChangeAt Go.RowKit

theorem undrewR {B : Nat} {w w' : World} (h : Below B w.drew w') : Below B w w' := ⟨h.os, h.tape, h.output, h.size, h.block⟩
theorem rputb_any (n : Int) (w : World) :
    Calls Tryz.prog 33 #[.int .i64 n] w fun e w' => ∃ v, e = .returned v ∧ OwnB w' w.heap.size v (numB n) ∧ Below w.heap.size w w' :=
  (rput_any n w).mono fun _ _ ⟨v, h1, h2, h3⟩ => ⟨v, h1, OwnB.put h2, h3⟩
set_option maxRecDepth 100000 in
set_option maxHeartbeats 2000000 in
theorem rtextb_any (s : ByteArray) (w : World) (hs : s.size ≤ 100000) :
    Calls Tryz.prog 35 #[.string s] w fun e w' => ∃ v, e = .returned v ∧ OwnB w' w.heap.size v (numB s.size ++ strB s) ∧ Below w.heap.size w w' := by
  go_enter Tryz.func35, Tryz.ntmps35
  go_wp2_with fail
  refine (rputb_any _ _).mono ?_
  rintro e w2 ⟨v, rfl, hO, hb⟩
  have HO : Hid (OwnB w2 w.heap.size v (numB s.size)) := hO
  have HB : Hid (Below w.heap.size w w2) := hb
  obtain ⟨a2, n2, c2, rfl⟩ := hO.any
  have hsz := hb.size
  have hln := numB_length s.size
  clear hO hb
  go_wp2_with (at_builtin; refine wpList_append_s rfl _ _ rfl w.heap.size _ _ rfl HO.out s rfl (by omega) hsz ?_; intro v3 w3 HO3 HG3 HM3; obtain ⟨a3, n3, c3, rfl⟩ := HO3.out.any)
  have HB3 : Hid (Below w.heap.size w w3) := HB.out.grown HG3.out hsz fun k hk => (HO.out.lt k hk).1
  go_ret
  exact ⟨_, rfl, HO3.out, HB3.out⟩
set_option maxRecDepth 100000 in
set_option maxHeartbeats 4000000 in
theorem rpointb_any (p : Pt) (w : World) :
    Calls Tryz.prog 89 #[.agg p.cs.toArray] w fun e w' => ∃ v, e = .returned v ∧ OwnB w' w.heap.size v (ptB p) ∧ Below w.heap.size w w' := by
  have HMO := follows_mixed
  go_enter Tryz.func89, Tryz.ntmps89
  go_upto_region 1 with fail
  generalize hw1 : World.alloc w _ = w1
  have HB1 : Hid (Below w.heap.size w w1) := by rw [← hw1]; exact (Below.refl _ _).alloc (Nat.le_refl _) _
  have HA1 : Hid (Blk w1 w.heap.size p.cs) := by rw [← hw1]; exact Blk.new _ _ _
  clear hw1
  generalize hN : w.heap.size = N at *
  have hs1 := HA1.out.lt
  have HS : Hid (∀ w', Below w1.heap.size w1 w' → w'.cell? ⟨N, 32, none⟩ = some (.int .i64 p.n)) := fun w' h => Pt.whole_n (HA1.out.below h hs1)
  have HSRC : Hid (∀ w', Below w1.heap.size w1 w' → SrcB w' (.slice (some ⟨N, 0, none⟩) 32 32) p.tx) := fun w' h => .inr ⟨N, 0, 32, by rw [p.len], (HA1.out.below h hs1).tx⟩
  clear HA1
  refine wp_region_noPanic ?_
  refine wp_region_held_drew (S := fun w' => w'.cell? ⟨N, 32, none⟩ = some (.int .i64 p.n)) HMO.out (HS.out _ (Below.refl _ _).drew) (fun hHeld => ?_)
  refine wpAnyH_take (i := 1) (oi := { dst := some 4, op := .fieldAddr 53 (.tmp 1) 0, type := 0, pos := "forms.go:216", after := #[], guard := none }) (v := ?_) rfl (by kernel_rfl) (by kernel_rfl) (by kernel_rfl) (fun _ _ _ h => h) (Or.inl ⟨by rfl, ?_⟩) (by assumption) ?_
  rotate_left
  · intro _ _; go_simp; first | done | with_reducible rfl
  simp only [Act.put, List.setIfInBounds_toArray, List.set_cons_zero, List.set_cons_succ]
  refine wpAnyH_take (i := 2) (oi := { dst := some 5, op := .slice 23 (.tmp 4) none none none, type := 29, pos := "forms.go:216", after := #[{ on := 1, ground := .data }], guard := none }) (v := ?_) rfl (by kernel_rfl) (by kernel_rfl) (by kernel_rfl) (fun _ _ _ h => h) (Or.inl ⟨by rfl, ?_⟩) (by assumption) ?_
  rotate_left
  · intro _ _; go_simp; first | done | with_reducible rfl
  simp only [Act.put, List.setIfInBounds_toArray, List.set_cons_zero, List.set_cons_succ]
  refine wpAnyH_take (i := 4) (oi := { dst := some 7, op := .fieldAddr 53 (.tmp 1) 1, type := 0, pos := "forms.go:216", after := #[], guard := none }) (v := ?_) rfl (by kernel_rfl) (by kernel_rfl) (by kernel_rfl) (fun _ _ _ h => h) (Or.inl ⟨by rfl, ?_⟩) (by assumption) ?_
  rotate_left
  · intro _ _; go_simp; first | done | with_reducible rfl
  simp only [Act.put, List.setIfInBounds_toArray, List.set_cons_zero, List.set_cons_succ]
  refine wpAnyH_take (i := 5) (oi := { dst := some 8, op := .load 3 (.tmp 7), type := 3, pos := "forms.go:216", after := #[{ on := 4, ground := .data }], guard := none }) (v := ?_) rfl (by kernel_rfl) (by kernel_rfl) (by kernel_rfl) (fun _ _ _ h => h) (Or.inl ⟨by rfl, ?_⟩) (by assumption) ?_
  rotate_left
  · intro _ _; go_simp; first | done | with_reducible rfl
  simp only [Act.put, List.setIfInBounds_toArray, List.set_cons_zero, List.set_cons_succ]
  refine wpAnyH_ready (rs := [0]) (by kernel_rfl) (by simp) ?_
  refine AllReadyH.cons (o := { dst := some 3, op := .buildSlice 29 0 #[], type := 29, pos := "forms.go:216", after := #[], guard := none }) rfl (fun K hK => ?_) AllReadyH.nil
  go_simp
  have h2 : Below w1.heap.size w1 (w1.drew.alloc (.cells #[] 5)) := (Below.refl _ w1).drew.alloc (Nat.le_refl _) _; have HO2 : Hid (OwnB (w1.drew.alloc (.cells #[] 5)) w1.heap.size (.slice (some ⟨w1.heap.size, 0, none⟩) 0 0) []) := OwnB.lit w1.drew [] (by simp)
  go_simp
  refine hK.out _ _ (HS.out _ h2) (fun hHeld => ?_)
  clear hK K
  refine wpAnyH_ready (rs := [3]) (by kernel_rfl) (by simp) ?_
  refine AllReadyH.cons (o := { dst := some 6, op := .call { callee := .builtin Go.Builtin.append, args := #[.tmp 3, .tmp 5], argTypes := #[29, 29] }, type := 29, pos := "forms.go:216", after := #[{ on := 0, ground := .data }, { on := 2, ground := .data }], guard := none }) rfl (fun K hK => ?_) AllReadyH.nil
  refine step_append_b rfl _ _ rfl w1.heap.size _ [] rfl HO2.out _ p.tx rfl (HSRC.out _ h2) (by rw [p.len]; simp) h2.size ?_; intro v3 w3 HO3 HG3 HM3; obtain ⟨a3, n3, cap3, rfl⟩ := HO3.out.any; have h3 : Below w1.heap.size w1 w3 := h2.grown HG3.out h2.size fun k hk => (HO2.out.lt k hk).1
  simp only [Act.put, List.setIfInBounds_toArray, List.set_cons_zero, List.set_cons_succ]
  refine hK.out _ _ (HS.out _ h3) (fun hHeld => ?_)
  clear hK K
  refine wpAnyH_ready (rs := [6]) (by kernel_rfl) (by simp) ?_
  refine AllReadyH.cons (o := { dst := some 9, op := .call { callee := .value (.func 33), args := #[.tmp 8], argTypes := #[3] }, type := 29, pos := "forms.go:216", after := #[{ on := 5, ground := .data }, { on := 3, ground := .chain }], guard := none }) rfl (fun K hK => ?_) AllReadyH.nil
  go_simp
  refine (rputb_any p.n _).mono ?_; rintro e w4 ⟨pv, rfl, ho4, hb4⟩; have HO4 : Hid (OwnB w4 w3.heap.size pv (numB p.n)) := ho4; have HO34 : Hid (OwnB w4 w1.heap.size (.slice a3 n3 cap3) ([] ++ p.tx)) := HO3.out.below hb4; have h4 : Below w1.heap.size w1 w4 := h3.trans (hb4.mono h3.size); clear ho4 hb4
  go_simp
  refine hK.out _ _ (HS.out _ h4) (fun hHeld => ?_)
  clear hK K
  refine wpAnyH_ready (rs := [7]) (by kernel_rfl) (by simp) ?_
  refine AllReadyH.cons (o := { dst := some 10, op := .call { callee := .builtin Go.Builtin.append, args := #[.tmp 6, .tmp 9], argTypes := #[29, 29] }, type := 29, pos := "forms.go:216", after := #[{ on := 3, ground := .data }, { on := 6, ground := .data }, { on := 6, ground := .chain }], guard := none }) rfl (fun K hK => ?_) AllReadyH.nil
  refine step_append_b rfl _ _ rfl w1.heap.size _ ([] ++ p.tx) rfl HO34.out pv (numB p.n) rfl HO4.out.src (by have := numB_length p.n; rw [List.nil_append, p.len]; omega) h4.size ?_; intro v5 w5 HO5 HG5 HM5; obtain ⟨a5, n5, cap5, rfl⟩ := HO5.out.any; have h5 : Below w1.heap.size w1 w5 := h4.grown HG5.out h4.size fun k hk => (HO34.out.lt k hk).1
  simp only [Act.put, List.setIfInBounds_toArray, List.set_cons_zero, List.set_cons_succ]
  refine hK.out _ _ (HS.out _ h5) (fun hHeld => ?_)
  clear hK K
  refine wpAnyH_take (i := 8) (oi := { dst := some 2, op := .assign (.tmp 10), type := 29, pos := "forms.go:216", after := #[{ on := 7, ground := .data }, { on := 7, ground := .chain }, { on := 0, ground := .phase }, { on := 1, ground := .phase }, { on := 2, ground := .phase }, { on := 3, ground := .phase }, { on := 4, ground := .phase }, { on := 5, ground := .phase }, { on := 6, ground := .phase }, { on := 7, ground := .phase }], guard := none }) (v := ?_) rfl (by kernel_rfl) (by kernel_rfl) (by kernel_rfl) (fun _ _ _ h => h) (Or.inl ⟨by rfl, ?_⟩) (by assumption) ?_
  rotate_left
  · intro _ _; go_simp; first | done | with_reducible rfl
  simp only [Act.put, List.setIfInBounds_toArray, List.set_cons_zero, List.set_cons_succ]
  refine wpAnyH_done (by kernel_rfl) ?_ _
  refine NoPanic.normal ?_
  clear hHeld
  go_wp2_with fail
  go_ret
  subst hN
  refine ⟨_, rfl, ?_, HB1.out.trans (h5.mono (by omega))⟩
  have := HO5.out
  rw [List.nil_append] at this
  exact this.less (by omega)
theorem six_at (s : Scr) (k : Nat) (h : k < 6) : ([.int .i64 s.kind, .int .i64 s.key, .int .i64 s.other, .int .i64 s.rev, .int .i64 s.delay, .int .i64 s.expiry] : List Value)[k]? = some (.int .i64 ([s.kind, s.key, s.other, s.rev, s.delay, s.expiry].getD k 0)) := by
  rcases (show k = 0 ∨ k = 1 ∨ k = 2 ∨ k = 3 ∨ k = 4 ∨ k = 5 by omega) with rfl | rfl | rfl | rfl | rfl | rfl <;> rfl
set_option maxRecDepth 100000 in
set_option maxHeartbeats 4000000 in
theorem rscriptb_any (s : Scr) (w : World) :
    Calls Tryz.prog 90 #[.agg s.cs.toArray] w fun e w' => ∃ v, e = .returned v ∧ OwnB w' w.heap.size v (scrB s) ∧ Below w.heap.size w w' := by
  go_enter Tryz.func90, Tryz.ntmps90
  go_upto_region 1 with fail
  generalize hw1 : World.alloc w _ = w1
  have HB1 : Hid (Below w.heap.size w w1) := by rw [← hw1]; exact (Below.refl _ _).alloc (Nat.le_refl _) _
  have HA1 : Hid (Blk w1 w.heap.size s.cs) := by rw [← hw1]; exact Blk.new _ _ _
  clear hw1
  generalize hN : w.heap.size = N at *
  have c0 : w1.cell? ⟨N, 0, none⟩ = some (.int .i64 s.kind) := HA1.out.one rfl
  have c1 : w1.cell? ⟨N, 1, none⟩ = some (.int .i64 s.key) := HA1.out.one rfl
  have c2 : w1.cell? ⟨N, 2, none⟩ = some (.int .i64 s.other) := HA1.out.one rfl
  have c3 : w1.cell? ⟨N, 3, none⟩ = some (.int .i64 s.rev) := HA1.out.one rfl
  have c4 : w1.cell? ⟨N, 4, none⟩ = some (.int .i64 s.delay) := HA1.out.one rfl
  have c5 : w1.cell? ⟨N, 5, none⟩ = some (.int .i64 s.expiry) := HA1.out.one rfl
  go_upto_region 2 with fail
  generalize hw2 : World.alloc w1 _ = w2
  have HA2 : Hid (Blk w2 N s.cs) := by rw [← hw2]; exact HA1.out.alloc _
  have HL2 : Hid (Blk w2 w1.heap.size [.int .i64 s.kind, .int .i64 s.key, .int .i64 s.other, .int .i64 s.rev, .int .i64 s.delay, .int .i64 s.expiry]) := by rw [← hw2]; exact Blk.mk _ _ _ rfl rfl
  have hs1 := HB1.out.size
  have HB2 : Hid (Below N w w2) := by rw [← hw2]; exact HB1.out.alloc (hN ▸ hs1) _
  clear hw2 c0 c1 c2 c3 c4 c5 HA1 HB1
  generalize hM : w1.heap.size = M at *
  have hs2 := HL2.out.lt
  have hs3 := HA2.out.lt
  go_wp2_with fail
  go_loopw [4, 5] (fun v i wr => ∃ k : Nat, k ≤ 6 ∧ i = .int .i64 k ∧ Hid (OwnB wr w2.heap.size v (nums ([s.kind, s.key, s.other, s.rev, s.delay, s.expiry].take k))) ∧ Hid (Below w2.heap.size w2 wr)) (fun _ i _ => 6 - (intOf i).toNat)
  case atStart => exact ⟨0, by omega, rfl, OwnB.nil _ _, Below.refl _ _⟩
  case round =>
    obtain ⟨k, hk, rfl, HOW, HBR⟩ := hrel
    have hszr := HBR.out.size
    obtain ⟨va, vn, vc, rfl⟩ := HOW.out.any
    by_cases hlt : k < 6
    · have e0 : (0 : Int) ≤ (k : Int) := by omega
      have e1 : (k : Int) < 6 := by omega
      have d0 : wr.cell? ⟨M, k, none⟩ = some (.int .i64 ([s.kind, s.key, s.other, s.rev, s.delay, s.expiry].getD k 0)) := (HL2.out.below HBR.out hs2).one (six_at s k hlt)
      have HNX : Hid (nums ([s.kind, s.key, s.other, s.rev, s.delay, s.expiry].take (k + 1)) = nums ([s.kind, s.key, s.other, s.rev, s.delay, s.expiry].take k) ++ numB ([s.kind, s.key, s.other, s.rev, s.delay, s.expiry].getD k 0)) := nums_next _ k hlt
      have hlen : (nums ([s.kind, s.key, s.other, s.rev, s.delay, s.expiry].take k)).length ≤ 54 := by
        have := nums_length ([s.kind, s.key, s.other, s.rev, s.delay, s.expiry].take k)
        rw [List.length_take] at this
        simp only [List.length_cons, List.length_nil] at this
        omega
      generalize [s.kind, s.key, s.other, s.rev, s.delay, s.expiry].getD k 0 = z at *
      generalize nums ([s.kind, s.key, s.other, s.rev, s.delay, s.expiry].take k) = bk at *
      go_wp2_with fail
      refine (rputb_any z wr).mono ?_
      rintro e w3 ⟨pv, rfl, ho3, hb3⟩
      have HO3 : Hid (OwnB w3 wr.heap.size pv (numB z)) := ho3
      have HOW3 : Hid (OwnB w3 w2.heap.size (.slice va vn vc) bk) := HOW.out.below hb3
      have HB3 : Hid (Below w2.heap.size w2 w3) := HBR.out.trans (hb3.mono hszr)
      have hs4 := HB3.out.size
      have hlz := numB_length z
      obtain ⟨pa, pn, pc, rfl⟩ := ho3.any
      clear ho3 hb3 d0 HOW HBR
      go_wp2_with (at_builtin; refine wpList_append_b rfl _ _ rfl w2.heap.size _ bk rfl HOW3.out _ (numB z) rfl HO3.out.src (by omega) hs4 ?_; intro v4 w4 HO4 HG4 HM4; obtain ⟨a4, n4, cap4, rfl⟩ := HO4.out.any)
      have HB4 : Hid (Below w2.heap.size w2 w4) := HB3.out.grown HG4.out hs4 fun k hk => (HOW3.out.lt k hk).1
      rw [← HNX.out] at HO4
      clear HG4 HM4 HOW3 HO3 HB3
      go_roundw
      case rel => exact ⟨k + 1, by omega, by go_num, HO4.out, HB4.out⟩
      case measure => simp [intOf]; omega
    · obtain rfl : k = 6 := by omega
      have HSRC : Hid (SrcB wr (.slice (some ⟨N, 6, none⟩) 32 32) s.hash) := .inr ⟨N, 6, 32, by rw [s.len], Scr.hash_at (HA2.out.below HBR.out hs3).whole⟩
      have hlen : (nums ([s.kind, s.key, s.other, s.rev, s.delay, s.expiry].take 6)).length ≤ 54 := by
        have := nums_length [s.kind, s.key, s.other, s.rev, s.delay, s.expiry]
        simpa using this
      have HOW' : Hid (OwnB wr w2.heap.size (.slice va vn vc) (nums [s.kind, s.key, s.other, s.rev, s.delay, s.expiry])) := HOW.out
      have HSB : Hid (nums [s.kind, s.key, s.other, s.rev, s.delay, s.expiry] ++ s.hash = scrB s) := show _ = _ from rfl
      have hlen' : (nums [s.kind, s.key, s.other, s.rev, s.delay, s.expiry]).length ≤ 54 := hlen
      clear HOW hlen
      generalize nums [s.kind, s.key, s.other, s.rev, s.delay, s.expiry] = bk at *
      go_wp2_with (at_builtin; refine wpList_append_b rfl _ _ rfl w2.heap.size _ bk rfl HOW'.out _ s.hash rfl HSRC.out (by rw [s.len]; omega) hszr ?_; intro v4 w4 HO4 HG4 HM4; obtain ⟨a4, n4, cap4, rfl⟩ := HO4.out.any)
      have HB4 : Hid (Below w2.heap.size w2 w4) := HBR.out.grown HG4.out hszr fun k hk => (HOW'.out.lt k hk).1
      rw [HSB.out] at HO4
      go_ret
      subst hN
      exact ⟨_, rfl, HO4.out.less (by omega), HB2.out.trans (HB4.out.mono (by omega))⟩
end Go.Proofs.YtlaifphedhaemaaGreatDoor
namespace Go.Proofs.YtlaifphedhaemaaGreatDoor
open Go.ChangeShapes Go.WideShapes Go.ChangeAt Go.RowKit

theorem ptB_len (p : Pt) : (ptB p).length ≤ 41 := by
  unfold ptB; rw [List.length_append, p.len]; have := numB_length p.n; omega
theorem scrB_len (s : Scr) : (scrB s).length ≤ 86 := by
  unfold scrB; rw [List.length_append, s.len]
  have := nums_length [s.kind, s.key, s.other, s.rev, s.delay, s.expiry]
  simp only [List.length_cons, List.length_nil] at this
  omega
theorem inB_eq (bk : List (BitVec 8)) (x : In) : bk ++ ptB x.prev ++ numB x.seq = bk ++ inB x := by unfold inB; rw [List.append_assoc]
theorem outB_eq (bk : List (BitVec 8)) (x : Out) : bk ++ numB x.value ++ scrB x.scr = bk ++ outB x := by unfold outB; rw [List.append_assoc]
theorem witB_eq (bk : List (BitVec 8)) (x : In) : bk ++ numB x.kind ++ numB x.key ++ (numB x.pre.size ++ strB x.pre) = bk ++ witB x := by
  unfold witB; simp [nums, List.append_assoc]
set_option maxRecDepth 100000 in
set_option maxHeartbeats 8000000 in
theorem rbody_any (tv : TxV) (t : TxD) (w : World) (hT : TxAt w tv t) (hn : tv.n ≤ 100) (hm : tv.m ≤ 100) :
    Calls Tryz.prog 61 #[tv.val t.lock] w fun e w' => ∃ v, e = .returned v ∧ OwnB w' w.heap.size v (bodyB t) ∧ Below w.heap.size w w' := by
  have HMO := follows_mixed
  have HUS : Hid (_ = _) := Tryz.underlying65
  have HLI : Hid (t.ins.length = tv.n) := hT.ins.len
  have HLO : Hid (t.outs.length = tv.m) := hT.outs.len
  have HIN : Hid (Els w tv.a tv.n tv.c t.ins ∧ Els w tv.b tv.m tv.d t.outs) := ⟨hT.ins, hT.outs⟩
  have HBB : Hid (bodyB t = numB tv.n ++ t.ins.flatMap inB ++ numB tv.m ++ t.outs.flatMap outB ++ numB t.lock) := show _ = _ by unfold bodyB; rw [hT.ins.len, hT.outs.len]
  clear hT
  generalize bodyB t = BB at *
  obtain ⟨ins, outs, lock⟩ := t
  obtain ⟨a, n, c, b, m, d⟩ := tv
  unfold TxV.val
  simp only at *
  go_enter Tryz.func61, Tryz.ntmps61
  go_upto_region 1 with fail
  generalize hwv : World.alloc w _ = w1
  have HB0 : Hid (Blk w1 w.heap.size [.slice a n c, .slice b m d, .int .i64 lock]) := by rw [← hwv]; exact Blk.mk _ _ _ rfl rfl
  have HBL : Hid (Below w.heap.size w w1) := by rw [← hwv]; exact (Below.refl _ _).alloc (Nat.le_refl _) _
  clear hwv
  have HE1 : Hid (Els w1 a n c ins ∧ Els w1 b m d outs) := ⟨HIN.out.1.below HBL.out, HIN.out.2.below HBL.out⟩
  clear HIN
  generalize hN : w.heap.size = N at *
  have hs1 := HB0.out.lt
  have HS : Hid (∀ w', Below w1.heap.size w1 w' → w'.cell? ⟨N, 0, none⟩ = some (.slice a n c) ∧ w'.cell? ⟨N, 1, none⟩ = some (.slice b m d) ∧ w'.cell? ⟨N, 2, none⟩ = some (.int .i64 lock)) := fun w' h => ⟨(HB0.out.below h hs1).one rfl, (HB0.out.below h hs1).one rfl, (HB0.out.below h hs1).one rfl⟩
  clear HB0
  obtain ⟨c0, c1, c2⟩ := HS.out w1 (Below.refl _ _)
  go_wp2_with fail
  refine (rputb_any _ _).mono ?_
  rintro e w2 ⟨v2, rfl, ho2, hb2⟩
  have HO2 : Hid (OwnB w2 w1.heap.size v2 (numB n)) := ho2
  have HB2 : Hid (Below w1.heap.size w1 w2) := hb2
  obtain ⟨a2, n2, cap2, rfl⟩ := ho2.any
  clear ho2 hb2 c0 c1 c2
  go_wp2_with fail
  go_loopw [3, 4] (fun v i wr => ∃ k : Nat, k ≤ n ∧ i = .int .i64 k ∧ Hid (OwnB wr w1.heap.size v (numB n ++ (ins.take k).flatMap inB)) ∧ Hid (Below w1.heap.size w1 wr)) (fun _ i _ => n - (intOf i).toNat)
  case atStart => exact ⟨0, by omega, rfl, by rw [List.take_zero, List.flatMap_nil, List.append_nil]; exact HO2.out, HB2.out⟩
  case round =>
    obtain ⟨k, hk, rfl, HOW, HBR⟩ := hrel
    have hszr := HBR.out.size
    obtain ⟨va, vn, vc, rfl⟩ := HOW.out.any
    have c0 : wr.cell? ⟨N, 0, none⟩ = some (.slice a n c) := (HS.out _ HBR.out).1
    have hlen : (numB n ++ (ins.take k).flatMap inB).length ≤ 10000 := by
      have h1 := flatMap_length inB 50 inB_length (ins.take k)
      have h2 := numB_length (n : Int)
      rw [List.length_append]; rw [List.length_take] at h1; omega
    by_cases hlt : k < n
    · have e0 : (0 : Int) ≤ (k : Int) := by omega
      have e1 : (k : Int) < (n : Int) := by omega
      have HNX : Hid (numB n ++ (ins.take (k + 1)).flatMap inB = numB n ++ (ins.take k).flatMap inB ++ inB (ins.getD k default)) := by
        show _ = _
        rw [flatMap_next inB default ins k (by rw [HLI.out]; exact hlt), List.append_assoc]
      obtain ⟨bb, o, rfl, hc⟩ := HE1.out.1.at k hlt
      obtain ⟨x, hx⟩ : ∃ x, x = ins.getD k default := ⟨_, rfl⟩
      change w1.rangeAt bb (o + k * 37) (In.cs (ins.getD k default)) at hc
      rw [← hx] at hc HNX
      have HS2 : Hid (∀ w', Below w1.heap.size w1 w' → w'.cell? ⟨N, 0, none⟩ = some (.slice (some ⟨bb, o, none⟩) n c) ∧ w'.rangeAt bb (o + k * 37) x.prev.cs ∧ w'.cell? ⟨bb, o + k * 37 + 33, none⟩ = some (.int .i64 x.seq)) := fun w' h => ⟨(HS.out _ h).1, In.prev_at (rangeAt_below hc h (Nat.le_refl _)), rangeAt_below hc h (Nat.le_refl _) 33 _ x.seq_at⟩
      clear hc hx
      generalize numB n ++ (ins.take k).flatMap inB = bk at *
      have u26 := und_pt.out
      have ix := size_pt x.prev
      have hp9 := numB_length x.seq
      have hp8 := ptB_len x.prev
      go_wp2_with fail
      clear c0
      refine wp_region_noPanic ?_
      refine wp_region_held_drew (S := fun w' => w'.cell? ⟨N, 0, none⟩ = some (.slice (some ⟨bb, o, none⟩) n c) ∧ w'.rangeAt bb (o + k * 37) x.prev.cs ∧ w'.cell? ⟨bb, o + k * 37 + 33, none⟩ = some (.int .i64 x.seq)) HMO.out (HS2.out _ HBR.out.drew) (fun hHeld => ?_)
      refine wpAnyH_take (i := 0) (oi := { dst := some 17, op := .move (.tmp 3), type := 29, pos := "forms.go:495", after := #[], guard := none }) (v := ?_) rfl (by kernel_rfl) (by kernel_rfl) (by kernel_rfl) (fun _ _ _ h => h) (Or.inl ⟨by rfl, ?_⟩) (by assumption) ?_
      rotate_left
      · intro _ _; go_simp; first | done | with_reducible rfl
      simp only [Act.put, List.setIfInBounds_toArray, List.set_cons_zero, List.set_cons_succ]
      refine wpAnyH_take (i := 1) (oi := { dst := some 18, op := .fieldAddr 61 (.tmp 1) 0, type := 0, pos := "forms.go:495", after := #[], guard := none }) (v := ?_) rfl (by kernel_rfl) (by kernel_rfl) (by kernel_rfl) (fun _ _ _ h => h) (Or.inl ⟨by rfl, ?_⟩) (by assumption) ?_
      rotate_left
      · intro _ _; go_simp; first | done | with_reducible rfl
      simp only [Act.put, List.setIfInBounds_toArray, List.set_cons_zero, List.set_cons_succ]
      refine wpAnyH_take (i := 2) (oi := { dst := some 19, op := .load 58 (.tmp 18), type := 58, pos := "forms.go:495", after := #[{ on := 1, ground := .data }], guard := none }) (v := ?_) rfl (by kernel_rfl) (by kernel_rfl) (by kernel_rfl) (fun _ _ _ h => h) (Or.inl ⟨by rfl, ?_⟩) (by assumption) ?_
      rotate_left
      · intro _ _; go_simp; first | done | with_reducible rfl
      simp only [Act.put, List.setIfInBounds_toArray, List.set_cons_zero, List.set_cons_succ]
      refine wpAnyH_take (i := 3) (oi := { dst := some 20, op := .move (.tmp 4), type := 3, pos := "forms.go:495", after := #[], guard := none }) (v := ?_) rfl (by kernel_rfl) (by kernel_rfl) (by kernel_rfl) (fun _ _ _ h => h) (Or.inl ⟨by rfl, ?_⟩) (by assumption) ?_
      rotate_left
      · intro _ _; go_simp; first | done | with_reducible rfl
      simp only [Act.put, List.setIfInBounds_toArray, List.set_cons_zero, List.set_cons_succ]
      refine wpAnyH_take (i := 4) (oi := { dst := some 21, op := .indexAddr 58 (.tmp 19) (.tmp 20), type := 0, pos := "forms.go:495", after := #[{ on := 2, ground := .data }, { on := 3, ground := .data }], guard := none }) (v := ?_) rfl (by kernel_rfl) (by kernel_rfl) (by kernel_rfl) (fun _ _ _ h => h) (Or.inl ⟨by rfl, ?_⟩) (by assumption) ?_
      rotate_left
      · intro _ _; go_simp; first | done | with_reducible rfl
      simp only [Act.put, List.setIfInBounds_toArray, List.set_cons_zero, List.set_cons_succ]
      refine wpAnyH_take (i := 5) (oi := { dst := some 22, op := .fieldAddr 57 (.tmp 21) 0, type := 0, pos := "forms.go:495", after := #[{ on := 4, ground := .data }], guard := none }) (v := ?_) rfl (by kernel_rfl) (by kernel_rfl) (by kernel_rfl) (fun _ _ _ h => h) (Or.inl ⟨by rfl, ?_⟩) (by assumption) ?_
      rotate_left
      · intro _ _; go_simp; first | done | with_reducible rfl
      simp only [Act.put, List.setIfInBounds_toArray, List.set_cons_zero, List.set_cons_succ]
      refine wpAnyH_take (i := 6) (oi := { dst := some 23, op := .load 53 (.tmp 22), type := 53, pos := "forms.go:495", after := #[{ on := 5, ground := .data }], guard := none }) (v := _) rfl (by kernel_rfl) (by kernel_rfl) (by kernel_rfl) (fun _ _ _ h => h) (yieldsIf_load_mid (by rfl) _ _ rfl (bb) (o + k * 37) rfl (x.prev.cs) _ (fun _ h => h.2.1) (u26) rfl (ix)) (by assumption) ?_
      simp only [Act.put, List.setIfInBounds_toArray, List.set_cons_zero, List.set_cons_succ]
      refine wpAnyH_take (i := 9) (oi := { dst := some 26, op := .fieldAddr 61 (.tmp 1) 0, type := 0, pos := "forms.go:495", after := #[], guard := none }) (v := ?_) rfl (by kernel_rfl) (by kernel_rfl) (by kernel_rfl) (fun _ _ _ h => h) (Or.inl ⟨by rfl, ?_⟩) (by assumption) ?_
      rotate_left
      · intro _ _; go_simp; first | done | with_reducible rfl
      simp only [Act.put, List.setIfInBounds_toArray, List.set_cons_zero, List.set_cons_succ]
      refine wpAnyH_take (i := 10) (oi := { dst := some 27, op := .load 58 (.tmp 26), type := 58, pos := "forms.go:495", after := #[{ on := 9, ground := .data }], guard := none }) (v := ?_) rfl (by kernel_rfl) (by kernel_rfl) (by kernel_rfl) (fun _ _ _ h => h) (Or.inl ⟨by rfl, ?_⟩) (by assumption) ?_
      rotate_left
      · intro _ _; go_simp; first | done | with_reducible rfl
      simp only [Act.put, List.setIfInBounds_toArray, List.set_cons_zero, List.set_cons_succ]
      refine wpAnyH_take (i := 11) (oi := { dst := some 28, op := .move (.tmp 4), type := 3, pos := "forms.go:495", after := #[], guard := none }) (v := ?_) rfl (by kernel_rfl) (by kernel_rfl) (by kernel_rfl) (fun _ _ _ h => h) (Or.inl ⟨by rfl, ?_⟩) (by assumption) ?_
      rotate_left
      · intro _ _; go_simp; first | done | with_reducible rfl
      simp only [Act.put, List.setIfInBounds_toArray, List.set_cons_zero, List.set_cons_succ]
      refine wpAnyH_take (i := 12) (oi := { dst := some 29, op := .indexAddr 58 (.tmp 27) (.tmp 28), type := 0, pos := "forms.go:495", after := #[{ on := 10, ground := .data }, { on := 11, ground := .data }], guard := none }) (v := ?_) rfl (by kernel_rfl) (by kernel_rfl) (by kernel_rfl) (fun _ _ _ h => h) (Or.inl ⟨by rfl, ?_⟩) (by assumption) ?_
      rotate_left
      · intro _ _; go_simp; first | done | with_reducible rfl
      simp only [Act.put, List.setIfInBounds_toArray, List.set_cons_zero, List.set_cons_succ]
      refine wpAnyH_take (i := 13) (oi := { dst := some 30, op := .fieldAddr 57 (.tmp 29) 1, type := 0, pos := "forms.go:495", after := #[{ on := 12, ground := .data }], guard := none }) (v := ?_) rfl (by kernel_rfl) (by kernel_rfl) (by kernel_rfl) (fun _ _ _ h => h) (Or.inl ⟨by rfl, ?_⟩) (by assumption) ?_
      rotate_left
      · intro _ _; go_simp; first | done | with_reducible rfl
      simp only [Act.put, List.setIfInBounds_toArray, List.set_cons_zero, List.set_cons_succ]
      refine wpAnyH_take (i := 14) (oi := { dst := some 31, op := .load 3 (.tmp 30), type := 3, pos := "forms.go:495", after := #[{ on := 13, ground := .data }], guard := none }) (v := ?_) rfl (by kernel_rfl) (by kernel_rfl) (by kernel_rfl) (fun _ _ _ h => h) (Or.inl ⟨by rfl, ?_⟩) (by assumption) ?_
      rotate_left
      · intro _ _; go_simp; first | done | with_reducible rfl
      simp only [Act.put, List.setIfInBounds_toArray, List.set_cons_zero, List.set_cons_succ]
      refine wpAnyH_ready (rs := [7]) (by kernel_rfl) (by simp) ?_
      refine AllReadyH.cons (o := { dst := some 24, op := .call { callee := .value (.func 89), args := #[.tmp 23], argTypes := #[53] }, type := 29, pos := "forms.go:495", after := #[{ on := 6, ground := .data }], guard := none }) rfl (fun K hK => ?_) AllReadyH.nil
      go_simp
      refine (rpointb_any x.prev _).mono ?_; rintro e w3 ⟨pv, rfl, ho3, hb3⟩; have HO3 : Hid (OwnB w3 wr.heap.size pv (ptB x.prev)) := ho3; have HOW3 : Hid (OwnB w3 w1.heap.size (.slice va vn vc) bk) := HOW.out.below (undrewR hb3); have g3 : Below wr.heap.size wr w3 := undrewR hb3; have h3 : Below w1.heap.size w1 w3 := HBR.out.trans (g3.mono hszr); clear ho3 hb3
      go_simp
      refine hK.out _ _ (HS2.out _ h3) (fun hHeld => ?_)
      clear hK K
      refine wpAnyH_ready (rs := [8]) (by kernel_rfl) (by simp) ?_
      refine AllReadyH.cons (o := { dst := some 25, op := .call { callee := .builtin Go.Builtin.append, args := #[.tmp 17, .tmp 24], argTypes := #[29, 29] }, type := 29, pos := "forms.go:495", after := #[{ on := 0, ground := .data }, { on := 7, ground := .data }, { on := 7, ground := .chain }], guard := none }) rfl (fun K hK => ?_) AllReadyH.nil
      refine step_append_b rfl _ _ rfl w1.heap.size _ bk rfl HOW3.out pv (ptB x.prev) rfl HO3.out.src (by omega) h3.size ?_; intro v4 w4 HO4 HG4 HM4; obtain ⟨a4, n4, cap4, rfl⟩ := HO4.out.any; have h4 : Below w1.heap.size w1 w4 := h3.grown HG4.out h3.size fun k hk => (HOW3.out.lt k hk).1
      simp only [Act.put, List.setIfInBounds_toArray, List.set_cons_zero, List.set_cons_succ]
      refine hK.out _ _ (HS2.out _ h4) (fun hHeld => ?_)
      clear hK K
      refine wpAnyH_ready (rs := [15]) (by kernel_rfl) (by simp) ?_
      refine AllReadyH.cons (o := { dst := some 32, op := .call { callee := .value (.func 33), args := #[.tmp 31], argTypes := #[3] }, type := 29, pos := "forms.go:495", after := #[{ on := 14, ground := .data }, { on := 8, ground := .chain }], guard := none }) rfl (fun K hK => ?_) AllReadyH.nil
      go_simp
      refine (rputb_any x.seq _).mono ?_; rintro e w5 ⟨qv, rfl, ho5, hb5⟩; have HO5 : Hid (OwnB w5 w4.heap.size qv (numB x.seq)) := ho5; have HOW5 : Hid (OwnB w5 w1.heap.size (.slice a4 n4 cap4) (bk ++ ptB x.prev)) := HO4.out.below hb5; have h5 : Below w1.heap.size w1 w5 := h4.trans (hb5.mono h4.size); clear ho5 hb5
      go_simp
      refine hK.out _ _ (HS2.out _ h5) (fun hHeld => ?_)
      clear hK K
      refine wpAnyH_ready (rs := [16]) (by kernel_rfl) (by simp) ?_
      refine AllReadyH.cons (o := { dst := some 33, op := .call { callee := .builtin Go.Builtin.append, args := #[.tmp 25, .tmp 32], argTypes := #[29, 29] }, type := 29, pos := "forms.go:495", after := #[{ on := 8, ground := .data }, { on := 15, ground := .data }, { on := 15, ground := .chain }], guard := none }) rfl (fun K hK => ?_) AllReadyH.nil
      refine step_append_b rfl _ _ rfl w1.heap.size _ (bk ++ ptB x.prev) rfl HOW5.out qv (numB x.seq) rfl HO5.out.src (by rw [List.length_append]; omega) h5.size ?_; intro v6 w6 HO6 HG6 HM6; obtain ⟨a6, n6, cap6, rfl⟩ := HO6.out.any; have h6 : Below w1.heap.size w1 w6 := h5.grown HG6.out h5.size fun k hk => (HOW5.out.lt k hk).1
      simp only [Act.put, List.setIfInBounds_toArray, List.set_cons_zero, List.set_cons_succ]
      refine hK.out _ _ (HS2.out _ h6) (fun hHeld => ?_)
      clear hK K
      refine wpAnyH_take (i := 17) (oi := { dst := some 3, op := .assign (.tmp 33), type := 29, pos := "forms.go:495", after := #[{ on := 16, ground := .data }, { on := 16, ground := .chain }, { on := 0, ground := .phase }, { on := 1, ground := .phase }, { on := 2, ground := .phase }, { on := 3, ground := .phase }, { on := 4, ground := .phase }, { on := 5, ground := .phase }, { on := 6, ground := .phase }, { on := 7, ground := .phase }, { on := 8, ground := .phase }, { on := 9, ground := .phase }, { on := 10, ground := .phase }, { on := 11, ground := .phase }, { on := 12, ground := .phase }, { on := 13, ground := .phase }, { on := 14, ground := .phase }, { on := 15, ground := .phase }, { on := 16, ground := .phase }], guard := none }) (v := ?_) rfl (by kernel_rfl) (by kernel_rfl) (by kernel_rfl) (fun _ _ _ h => h) (Or.inl ⟨by rfl, ?_⟩) (by assumption) ?_
      rotate_left
      · intro _ _; go_simp; first | done | with_reducible rfl
      simp only [Act.put, List.setIfInBounds_toArray, List.set_cons_zero, List.set_cons_succ]
      refine wpAnyH_done (by kernel_rfl) ?_ _
      refine NoPanic.normal ?_
      clear hHeld u26 ix HS2
      have HO7 : Hid (OwnB w6 w1.heap.size (.slice a6 n6 cap6) (numB n ++ (ins.take (k + 1)).flatMap inB)) := by
        have := HO6.out
        rwa [inB_eq, ← HNX.out] at this
      have HB7 : Hid (Below w1.heap.size w1 w6) := h6
      clear HO6 HG6 HM6 h6 h5 h4 h3 g3 HO5 HOW5 HO4 HG4 HM4 HO3 HOW3 HOW HBR
      go_wp2_with fail
      go_roundw
      case rel => exact ⟨k + 1, by omega, by go_num, HO7.out, HB7.out⟩
      case measure => simp [intOf]; omega
    · obtain rfl : k = n := by omega
      have c1 : wr.cell? ⟨N, 1, none⟩ = some (.slice b m d) := (HS.out _ HBR.out).2.1
      have HBE : Hid (numB k ++ (ins.take k).flatMap inB = numB k ++ ins.flatMap inB) := by
        show _ = _
        rw [List.take_of_length_le (by rw [HLI.out]; exact Nat.le_refl _)]
      rw [HBE.out] at HOW hlen
      have HBB2 : Hid (BB = numB k ++ ins.flatMap inB ++ numB m ++ outs.flatMap outB ++ numB lock) := HBB.out
      clear HBE HBB
      generalize numB k ++ ins.flatMap inB = b1 at *
      go_wp2_with fail
      refine (rputb_any _ _).mono ?_
      rintro e w3 ⟨pv, rfl, ho3, hb3⟩
      have HO3 : Hid (OwnB w3 wr.heap.size pv (numB m)) := ho3
      have HOW3 : Hid (OwnB w3 w1.heap.size (.slice va vn vc) b1) := HOW.out.below hb3
      have HB3 : Hid (Below w1.heap.size w1 w3) := HBR.out.trans (hb3.mono hszr)
      have hs3 := HB3.out.size
      have hlm := numB_length (m : Int)
      obtain ⟨pa, pn, pc, rfl⟩ := ho3.any
      clear ho3 hb3 c0 c1 HOW HBR
      go_wp2_with (at_builtin; refine wpList_append_b rfl _ _ rfl w1.heap.size _ b1 rfl HOW3.out _ (numB m) rfl HO3.out.src (by omega) hs3 ?_; intro v4 w4 HO4 HG4 HM4; obtain ⟨a4, n4, cap4, rfl⟩ := HO4.out.any)
      have HB4 : Hid (Below w1.heap.size w1 w4) := HB3.out.grown HG4.out hs3 fun k hk => (HOW3.out.lt k hk).1
      have hlen2 : (b1 ++ numB m).length ≤ 10009 := by rw [List.length_append]; omega
      clear HG4 HM4 HOW3 HO3 HB3 hszr hlen hlm
      generalize b1 ++ numB m = b2 at *
      go_loopw [3, 5] (fun v i wr => ∃ k : Nat, k ≤ m ∧ i = .int .i64 k ∧ Hid (OwnB wr w1.heap.size v (b2 ++ (outs.take k).flatMap outB)) ∧ Hid (Below w1.heap.size w1 wr)) (fun _ i _ => m - (intOf i).toNat)
      case atStart => exact ⟨0, by omega, rfl, by rw [List.take_zero, List.flatMap_nil, List.append_nil]; exact HO4.out, HB4.out⟩
      case round =>
        obtain ⟨j, hj, rfl, HOW, HBR⟩ := hrel
        have hszr := HBR.out.size
        obtain ⟨va, vn, vc, rfl⟩ := HOW.out.any
        have c0 : wr.cell? ⟨N, 1, none⟩ = some (.slice b m d) := (HS.out _ HBR.out).2.1
        have hlen : (b2 ++ (outs.take j).flatMap outB).length ≤ 20009 := by
          have h1 := flatMap_length outB 95 outB_length (outs.take j)
          rw [List.length_append]; rw [List.length_take] at h1; omega
        by_cases hlt : j < m
        · have e0 : (0 : Int) ≤ (j : Int) := by omega
          have e1 : (j : Int) < (m : Int) := by omega
          have HNX : Hid (b2 ++ (outs.take (j + 1)).flatMap outB = b2 ++ (outs.take j).flatMap outB ++ outB (outs.getD j default)) := by
            show _ = _
            rw [flatMap_next outB default outs j (by rw [HLO.out]; exact hlt), List.append_assoc]
          obtain ⟨bb, o, rfl, hc⟩ := HE1.out.2.at j hlt
          obtain ⟨x, hx⟩ : ∃ x, x = outs.getD j default := ⟨_, rfl⟩
          change w1.rangeAt bb (o + j * 39) (Out.cs (outs.getD j default)) at hc
          rw [← hx] at hc HNX
          have HS2 : Hid (∀ w', Below w1.heap.size w1 w' → w'.cell? ⟨N, 1, none⟩ = some (.slice (some ⟨bb, o, none⟩) m d) ∧ w'.rangeAt bb (o + j * 39 + 1) x.scr.cs ∧ w'.cell? ⟨bb, o + j * 39, none⟩ = some (.int .i64 x.value)) := fun w' h => ⟨(HS.out _ h).2.1, Out.scr_at (rangeAt_below hc h (Nat.le_refl _)), by
            have := rangeAt_below hc h (Nat.le_refl _) 0 _ rfl
            simpa using this⟩
          clear hc hx
          generalize b2 ++ (outs.take j).flatMap outB = bk at *
          have ix := size_scr x.scr
          have hp9 := numB_length x.value
          have hp8 := scrB_len x.scr
          go_wp2_with fail
          clear c0
          refine wp_region_noPanic ?_
          refine wp_region_held_drew (S := fun w' => w'.cell? ⟨N, 1, none⟩ = some (.slice (some ⟨bb, o, none⟩) m d) ∧ w'.rangeAt bb (o + j * 39 + 1) x.scr.cs ∧ w'.cell? ⟨bb, o + j * 39, none⟩ = some (.int .i64 x.value)) HMO.out (HS2.out _ HBR.out.drew) (fun hHeld => ?_)
          refine wpAnyH_take (i := 0) (oi := { dst := some 47, op := .move (.tmp 3), type := 29, pos := "forms.go:499", after := #[], guard := none }) (v := ?_) rfl (by kernel_rfl) (by kernel_rfl) (by kernel_rfl) (fun _ _ _ h => h) (Or.inl ⟨by rfl, ?_⟩) (by assumption) ?_
          rotate_left
          · intro _ _; go_simp; first | done | with_reducible rfl
          simp only [Act.put, List.setIfInBounds_toArray, List.set_cons_zero, List.set_cons_succ]
          refine wpAnyH_take (i := 1) (oi := { dst := some 48, op := .fieldAddr 61 (.tmp 1) 1, type := 0, pos := "forms.go:499", after := #[], guard := none }) (v := ?_) rfl (by kernel_rfl) (by kernel_rfl) (by kernel_rfl) (fun _ _ _ h => h) (Or.inl ⟨by rfl, ?_⟩) (by assumption) ?_
          rotate_left
          · intro _ _; go_simp; first | done | with_reducible rfl
          simp only [Act.put, List.setIfInBounds_toArray, List.set_cons_zero, List.set_cons_succ]
          refine wpAnyH_take (i := 2) (oi := { dst := some 49, op := .load 59 (.tmp 48), type := 59, pos := "forms.go:499", after := #[{ on := 1, ground := .data }], guard := none }) (v := ?_) rfl (by kernel_rfl) (by kernel_rfl) (by kernel_rfl) (fun _ _ _ h => h) (Or.inl ⟨by rfl, ?_⟩) (by assumption) ?_
          rotate_left
          · intro _ _; go_simp; first | done | with_reducible rfl
          simp only [Act.put, List.setIfInBounds_toArray, List.set_cons_zero, List.set_cons_succ]
          refine wpAnyH_take (i := 3) (oi := { dst := some 50, op := .move (.tmp 5), type := 3, pos := "forms.go:499", after := #[], guard := none }) (v := ?_) rfl (by kernel_rfl) (by kernel_rfl) (by kernel_rfl) (fun _ _ _ h => h) (Or.inl ⟨by rfl, ?_⟩) (by assumption) ?_
          rotate_left
          · intro _ _; go_simp; first | done | with_reducible rfl
          simp only [Act.put, List.setIfInBounds_toArray, List.set_cons_zero, List.set_cons_succ]
          refine wpAnyH_take (i := 4) (oi := { dst := some 51, op := .indexAddr 59 (.tmp 49) (.tmp 50), type := 0, pos := "forms.go:499", after := #[{ on := 2, ground := .data }, { on := 3, ground := .data }], guard := none }) (v := ?_) rfl (by kernel_rfl) (by kernel_rfl) (by kernel_rfl) (fun _ _ _ h => h) (Or.inl ⟨by rfl, ?_⟩) (by assumption) ?_
          rotate_left
          · intro _ _; go_simp; first | done | with_reducible rfl
          simp only [Act.put, List.setIfInBounds_toArray, List.set_cons_zero, List.set_cons_succ]
          refine wpAnyH_take (i := 5) (oi := { dst := some 52, op := .fieldAddr 67 (.tmp 51) 0, type := 0, pos := "forms.go:499", after := #[{ on := 4, ground := .data }], guard := none }) (v := ?_) rfl (by kernel_rfl) (by kernel_rfl) (by kernel_rfl) (fun _ _ _ h => h) (Or.inl ⟨by rfl, ?_⟩) (by assumption) ?_
          rotate_left
          · intro _ _; go_simp; first | done | with_reducible rfl
          simp only [Act.put, List.setIfInBounds_toArray, List.set_cons_zero, List.set_cons_succ]
          refine wpAnyH_take (i := 6) (oi := { dst := some 53, op := .load 3 (.tmp 52), type := 3, pos := "forms.go:499", after := #[{ on := 5, ground := .data }], guard := none }) (v := ?_) rfl (by kernel_rfl) (by kernel_rfl) (by kernel_rfl) (fun _ _ _ h => h) (Or.inl ⟨by rfl, ?_⟩) (by assumption) ?_
          rotate_left
          · intro _ _; go_simp; first | done | with_reducible rfl
          simp only [Act.put, List.setIfInBounds_toArray, List.set_cons_zero, List.set_cons_succ]
          refine wpAnyH_take (i := 9) (oi := { dst := some 56, op := .fieldAddr 61 (.tmp 1) 1, type := 0, pos := "forms.go:499", after := #[], guard := none }) (v := ?_) rfl (by kernel_rfl) (by kernel_rfl) (by kernel_rfl) (fun _ _ _ h => h) (Or.inl ⟨by rfl, ?_⟩) (by assumption) ?_
          rotate_left
          · intro _ _; go_simp; first | done | with_reducible rfl
          simp only [Act.put, List.setIfInBounds_toArray, List.set_cons_zero, List.set_cons_succ]
          refine wpAnyH_take (i := 10) (oi := { dst := some 57, op := .load 59 (.tmp 56), type := 59, pos := "forms.go:499", after := #[{ on := 9, ground := .data }], guard := none }) (v := ?_) rfl (by kernel_rfl) (by kernel_rfl) (by kernel_rfl) (fun _ _ _ h => h) (Or.inl ⟨by rfl, ?_⟩) (by assumption) ?_
          rotate_left
          · intro _ _; go_simp; first | done | with_reducible rfl
          simp only [Act.put, List.setIfInBounds_toArray, List.set_cons_zero, List.set_cons_succ]
          refine wpAnyH_take (i := 11) (oi := { dst := some 58, op := .move (.tmp 5), type := 3, pos := "forms.go:499", after := #[], guard := none }) (v := ?_) rfl (by kernel_rfl) (by kernel_rfl) (by kernel_rfl) (fun _ _ _ h => h) (Or.inl ⟨by rfl, ?_⟩) (by assumption) ?_
          rotate_left
          · intro _ _; go_simp; first | done | with_reducible rfl
          simp only [Act.put, List.setIfInBounds_toArray, List.set_cons_zero, List.set_cons_succ]
          refine wpAnyH_take (i := 12) (oi := { dst := some 59, op := .indexAddr 59 (.tmp 57) (.tmp 58), type := 0, pos := "forms.go:499", after := #[{ on := 10, ground := .data }, { on := 11, ground := .data }], guard := none }) (v := ?_) rfl (by kernel_rfl) (by kernel_rfl) (by kernel_rfl) (fun _ _ _ h => h) (Or.inl ⟨by rfl, ?_⟩) (by assumption) ?_
          rotate_left
          · intro _ _; go_simp; first | done | with_reducible rfl
          simp only [Act.put, List.setIfInBounds_toArray, List.set_cons_zero, List.set_cons_succ]
          refine wpAnyH_take (i := 13) (oi := { dst := some 60, op := .fieldAddr 67 (.tmp 59) 1, type := 0, pos := "forms.go:499", after := #[{ on := 12, ground := .data }], guard := none }) (v := ?_) rfl (by kernel_rfl) (by kernel_rfl) (by kernel_rfl) (fun _ _ _ h => h) (Or.inl ⟨by rfl, ?_⟩) (by assumption) ?_
          rotate_left
          · intro _ _; go_simp; first | done | with_reducible rfl
          simp only [Act.put, List.setIfInBounds_toArray, List.set_cons_zero, List.set_cons_succ]
          refine wpAnyH_take (i := 14) (oi := { dst := some 61, op := .load 65 (.tmp 60), type := 65, pos := "forms.go:499", after := #[{ on := 13, ground := .data }], guard := none }) (v := _) rfl (by kernel_rfl) (by kernel_rfl) (by kernel_rfl) (fun _ _ _ h => h) (yieldsIf_load_mid (by rfl) _ _ rfl (bb) (o + j * 39 + 1) rfl (x.scr.cs) _ (fun _ h => h.2.1) (HUS.out) rfl (ix)) (by assumption) ?_
          simp only [Act.put, List.setIfInBounds_toArray, List.set_cons_zero, List.set_cons_succ]
          refine wpAnyH_ready (rs := [7]) (by kernel_rfl) (by simp) ?_
          refine AllReadyH.cons (o := { dst := some 54, op := .call { callee := .value (.func 33), args := #[.tmp 53], argTypes := #[3] }, type := 29, pos := "forms.go:499", after := #[{ on := 6, ground := .data }], guard := none }) rfl (fun K hK => ?_) AllReadyH.nil
          go_simp
          refine (rputb_any x.value _).mono ?_; rintro e w3 ⟨pv, rfl, ho3, hb3⟩; have HO3 : Hid (OwnB w3 wr.heap.size pv (numB x.value)) := ho3; have HOW3 : Hid (OwnB w3 w1.heap.size (.slice va vn vc) bk) := HOW.out.below (undrewR hb3); have h3 : Below w1.heap.size w1 w3 := HBR.out.trans ((undrewR hb3).mono hszr); clear ho3 hb3
          go_simp
          refine hK.out _ _ (HS2.out _ h3) (fun hHeld => ?_)
          clear hK K
          refine wpAnyH_ready (rs := [8]) (by kernel_rfl) (by simp) ?_
          refine AllReadyH.cons (o := { dst := some 55, op := .call { callee := .builtin Go.Builtin.append, args := #[.tmp 47, .tmp 54], argTypes := #[29, 29] }, type := 29, pos := "forms.go:499", after := #[{ on := 0, ground := .data }, { on := 7, ground := .data }, { on := 7, ground := .chain }], guard := none }) rfl (fun K hK => ?_) AllReadyH.nil
          refine step_append_b rfl _ _ rfl w1.heap.size _ bk rfl HOW3.out pv (numB x.value) rfl HO3.out.src (by omega) h3.size ?_; intro v4 w4 HO4 HG4 HM4; obtain ⟨a4, n4, cap4, rfl⟩ := HO4.out.any; have h4 : Below w1.heap.size w1 w4 := h3.grown HG4.out h3.size fun k hk => (HOW3.out.lt k hk).1
          simp only [Act.put, List.setIfInBounds_toArray, List.set_cons_zero, List.set_cons_succ]
          refine hK.out _ _ (HS2.out _ h4) (fun hHeld => ?_)
          clear hK K
          refine wpAnyH_ready (rs := [15]) (by kernel_rfl) (by simp) ?_
          refine AllReadyH.cons (o := { dst := some 62, op := .call { callee := .value (.func 90), args := #[.tmp 61], argTypes := #[65] }, type := 29, pos := "forms.go:499", after := #[{ on := 14, ground := .data }, { on := 8, ground := .chain }], guard := none }) rfl (fun K hK => ?_) AllReadyH.nil
          go_simp
          refine (rscriptb_any x.scr _).mono ?_; rintro e w5 ⟨qv, rfl, ho5, hb5⟩; have HO5 : Hid (OwnB w5 w4.heap.size qv (scrB x.scr)) := ho5; have HOW5 : Hid (OwnB w5 w1.heap.size (.slice a4 n4 cap4) (bk ++ numB x.value)) := HO4.out.below hb5; have h5 : Below w1.heap.size w1 w5 := h4.trans (hb5.mono h4.size); clear ho5 hb5
          go_simp
          refine hK.out _ _ (HS2.out _ h5) (fun hHeld => ?_)
          clear hK K
          refine wpAnyH_ready (rs := [16]) (by kernel_rfl) (by simp) ?_
          refine AllReadyH.cons (o := { dst := some 63, op := .call { callee := .builtin Go.Builtin.append, args := #[.tmp 55, .tmp 62], argTypes := #[29, 29] }, type := 29, pos := "forms.go:499", after := #[{ on := 8, ground := .data }, { on := 15, ground := .data }, { on := 15, ground := .chain }], guard := none }) rfl (fun K hK => ?_) AllReadyH.nil
          refine step_append_b rfl _ _ rfl w1.heap.size _ (bk ++ numB x.value) rfl HOW5.out qv (scrB x.scr) rfl HO5.out.src (by rw [List.length_append]; omega) h5.size ?_; intro v6 w6 HO6 HG6 HM6; obtain ⟨a6, n6, cap6, rfl⟩ := HO6.out.any; have h6 : Below w1.heap.size w1 w6 := h5.grown HG6.out h5.size fun k hk => (HOW5.out.lt k hk).1
          simp only [Act.put, List.setIfInBounds_toArray, List.set_cons_zero, List.set_cons_succ]
          refine hK.out _ _ (HS2.out _ h6) (fun hHeld => ?_)
          clear hK K
          refine wpAnyH_take (i := 17) (oi := { dst := some 3, op := .assign (.tmp 63), type := 29, pos := "forms.go:499", after := #[{ on := 16, ground := .data }, { on := 16, ground := .chain }, { on := 0, ground := .phase }, { on := 1, ground := .phase }, { on := 2, ground := .phase }, { on := 3, ground := .phase }, { on := 4, ground := .phase }, { on := 5, ground := .phase }, { on := 6, ground := .phase }, { on := 7, ground := .phase }, { on := 8, ground := .phase }, { on := 9, ground := .phase }, { on := 10, ground := .phase }, { on := 11, ground := .phase }, { on := 12, ground := .phase }, { on := 13, ground := .phase }, { on := 14, ground := .phase }, { on := 15, ground := .phase }, { on := 16, ground := .phase }], guard := none }) (v := ?_) rfl (by kernel_rfl) (by kernel_rfl) (by kernel_rfl) (fun _ _ _ h => h) (Or.inl ⟨by rfl, ?_⟩) (by assumption) ?_
          rotate_left
          · intro _ _; go_simp; first | done | with_reducible rfl
          simp only [Act.put, List.setIfInBounds_toArray, List.set_cons_zero, List.set_cons_succ]
          refine wpAnyH_done (by kernel_rfl) ?_ _
          refine NoPanic.normal ?_
          clear hHeld ix HS2
          have HO7 : Hid (OwnB w6 w1.heap.size (.slice a6 n6 cap6) (b2 ++ (outs.take (j + 1)).flatMap outB)) := by
            have := HO6.out
            rwa [outB_eq, ← HNX.out] at this
          have HB7 : Hid (Below w1.heap.size w1 w6) := h6
          clear HO6 HG6 HM6 h6 h5 h4 h3 HO5 HOW5 HO4 HG4 HM4 HO3 HOW3 HOW HBR
          go_wp2_with fail
          go_roundw
          case rel => exact ⟨j + 1, by omega, by go_num, HO7.out, HB7.out⟩
          case measure => simp [intOf]; omega
        · obtain rfl : j = m := by omega
          have c2 : wr.cell? ⟨N, 2, none⟩ = some (.int .i64 lock) := (HS.out _ HBR.out).2.2
          rw [List.take_of_length_le (by rw [HLO.out]; exact Nat.le_refl _)] at HOW hlen
          generalize b2 ++ outs.flatMap outB = b3 at *
          go_wp2_with fail
          refine (rputb_any _ _).mono ?_
          rintro e w3 ⟨pv, rfl, ho3, hb3⟩
          have HO3 : Hid (OwnB w3 wr.heap.size pv (numB lock)) := ho3
          have HOW3 : Hid (OwnB w3 w1.heap.size (.slice va vn vc) b3) := HOW.out.below hb3
          have HB3 : Hid (Below w1.heap.size w1 w3) := HBR.out.trans (hb3.mono hszr)
          have hs3 := HB3.out.size
          have hlm := numB_length lock
          obtain ⟨pa, pn, pc, rfl⟩ := ho3.any
          clear ho3 hb3 c0 c2 HOW HBR
          go_wp2_with (at_builtin; refine wpList_append_b rfl _ _ rfl w1.heap.size _ b3 rfl HOW3.out _ (numB lock) rfl HO3.out.src (by omega) hs3 ?_; intro v5 w5 HO5 HG5 HM5; obtain ⟨a5, n5, cap5, rfl⟩ := HO5.out.any)
          have HB5 : Hid (Below w1.heap.size w1 w5) := HB3.out.grown HG5.out hs3 fun k hk => (HOW3.out.lt k hk).1
          go_ret
          subst hN
          refine ⟨_, rfl, ?_, HBL.out.trans (HB5.out.mono (by omega))⟩
          rw [HBB2.out]
          exact HO5.out.less (by omega)
end Go.Proofs.YtlaifphedhaemaaGreatDoor
