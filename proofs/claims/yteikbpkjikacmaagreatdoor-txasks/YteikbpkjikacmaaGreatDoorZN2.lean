/- The contracts of the document's own Put and Get. The document's own Put, whatever the number. The contract of the document's own Get: it answers what num.Get answers, at whatever bytes. The document's own Get, at whatever bytes. -/
import Derived.Test.YteikbpkjikacmaaGreatDoorZN1
namespace Go.Proofs.YteikbpkjikacmaaGreatDoor
open Go.ChangeShapes Go.WideShapes Go.ChangeAt Go.RowKit
set_option linter.unusedVariables false

theorem Tryz.info5 : (Tryz.prog.info? 5).map (fun i => (i.zero, i.size, i.bytes)) = some (some (.int .u8 0), 1, 1) := by kernel_rfl

/-- The first k bytes of n, the least first. -/
def lows (n : Int) : Nat → List Int
  | 0 => []
  | k + 1 => lows n k ++ [n / 2 ^ (8 * k) % 256]

theorem lows_2 {n : Int} (h0 : 253 ≤ n) (h1 : n < 65536) : 253 :: lows n 2 = bytesN n := by
  rw [bytesN_3 h0 h1]
  simp only [lows, List.nil_append, List.cons_append, List.cons.injEq, true_and, and_true]
  omega
theorem lows_4 {n : Int} (h0 : 65536 ≤ n) (h1 : n < 4294967296) : 254 :: lows n 4 = bytesN n := by
  rw [bytesN_5 h0 h1]
  simp only [lows, List.nil_append, List.cons_append, List.cons.injEq, true_and, and_true]
  omega
theorem lows_8 {n : Int} (h0 : 4294967296 ≤ n) (h1 : n ≤ 4611686018427387904) : 255 :: lows n 8 = bytesN n := by
  rw [bytesN_9 h0 h1]
  simp only [lows, List.nil_append, List.cons_append, List.cons.injEq, true_and, and_true]
  omega

/-- What the round does to what is owned. -/
theorem rput_rel {w wr w1 : World} {n : Int} {k : Nat} {l : Int} {v v' : Value} (hown : wr.ownsRow w.heap.size 5 1 v (k + 1) ((l :: lows n k).map (Value.int .u8))) (hbel : Below w.heap.size w wr) (o : Obj)
    (hown' : w1.ownsRow w.heap.size 5 1 v' (k + 1 + 1) ((l :: lows n k).map (Value.int .u8) ++ [.int .u8 (n / 2 ^ (8 * k) % 256)])) (hgrow : (wr.alloc o).grownBy w1 v.ownBlock) :
    w1.ownsRow w.heap.size 5 1 v' (k + 1 + 1) ((l :: lows n (k + 1)).map (Value.int .u8)) ∧ Below w.heap.size w w1 := by
  refine ⟨?_, ?_⟩
  · simpa [lows] using hown'
  · have hs := hbel.size
    exact (hbel.alloc hs _).grown hgrow (by simp; omega) (fun k hk => (hown.lt k hk).1)

set_option maxRecDepth 100000 in
set_option maxHeartbeats 1000000 in
theorem rput_3 (n : Int) (w : World) (h0 : 253 ≤ n) (h1 : n < 65536) :
    Calls Tryz.prog 29 #[.int .i64 n] w fun e w' => ∃ v, e = .returned v ∧ w'.ownsRow w.heap.size 5 1 v (bytesN n).length ((bytesN n).map (Value.int .u8)) ∧ Below w.heap.size w w' := by
  obtain ⟨i0, hi, hz0, hz1, hz2⟩ := info_parts Tryz.info5
  have hf : decide (0 ≤ n ∧ n ≤ 4611686018427387904) = true := by simp; omega
  have HN : Hid (253 :: lows n 2 = bytesN n) := lows_2 h0 h1
  go_enter Tryz.func29, Tryz.ntmps29
  go_wp2_with fail
  refine (fits_any _ _).mono ?_
  rintro e w' ⟨rfl, rfl⟩
  rw [hf]
  go_wp2_with (at_builtin; refine wpList_append_own _ rfl _ _ 26 rfl w.heap.size 5 i0 (.int .u8 0) 1 1 Tryz.underlying26 hi hz0 hz1 hz2 rfl (by decide) _ _ _ rfl ((World.ownsRow_nil w w.heap.size 5 1).alloc _) ⟨w.heap.size, 0, none⟩ 1 1 [.int .u8 253] rfl rfl ?c1 ?c2 ?c3 ?c4 ?c5 ?_)
  case c1 => exact cell_one_new _ _ _
  case c2 => intro u hu; simp at hu; subst hu; rfl
  case c3 => unfold maxLen; omega
  case c4 => omega
  case c5 => simp
  intro v' w1 hown' hgrow _
  go_wp2
  go_loopw [3, 5] (fun v i wr => ∃ k : Nat, k ≤ 2 ∧ i = .int .i64 k ∧ wr.ownsRow w.heap.size 5 1 v (k + 1) ((253 :: lows n k).map (Value.int .u8)) ∧ Below w.heap.size w wr) (fun _ i _ => 2 - (intOf i).toNat)
  case atStart => exact ⟨0, Nat.zero_le _, rfl, hown', ((Below.refl _ _).alloc (Nat.le_refl _) _).grown hgrow (by simp) (by intro k hk; cases hk)⟩
  case round =>
    obtain ⟨k, hk, rfl, hown, hbel⟩ := hrel
    by_cases hlt : k < 2
    · go_wp2_with (at_builtin; refine wpList_append_own _ rfl _ _ 26 rfl w.heap.size 5 i0 (.int .u8 0) 1 1 Tryz.underlying26 hi hz0 hz1 hz2 rfl (by decide) _ _ _ rfl (hown.alloc _) ⟨wr.heap.size, 0, none⟩ 1 1 [.int .u8 (n / 2 ^ (8 * k) % 256)] rfl rfl ?d1 ?d2 ?d3 ?d4 ?d5 ?_)
      case d1 => exact cell_one_new _ _ _
      case d2 => intro u hu; simp at hu; subst hu; rfl
      case d3 => unfold maxLen; omega
      case d4 => omega
      case d5 => have := hbel.size; simp; omega
      intro v2 w2 hown2 hgrow2 _
      have R := rput_rel hown hbel _ hown2 hgrow2
      clear hown2 hgrow2 hown hbel
      go_wp2
      go_roundw
      case rel => exact ⟨k + 1, by omega, by go_num, R.1, R.2⟩
      case measure => simp [intOf]; omega
    · have hk2 : k = 2 := by omega
      subst hk2
      go_wp2
      go_ret
      refine ⟨_, rfl, ?_, hbel⟩
      have hl : (bytesN n).length = 2 + 1 := by rw [← HN.out]; rfl
      rw [hl, ← HN.out]
      exact hown

set_option maxRecDepth 100000 in
set_option maxHeartbeats 1000000 in
theorem rput_5 (n : Int) (w : World) (h0 : 65536 ≤ n) (h1 : n < 4294967296) :
    Calls Tryz.prog 29 #[.int .i64 n] w fun e w' => ∃ v, e = .returned v ∧ w'.ownsRow w.heap.size 5 1 v (bytesN n).length ((bytesN n).map (Value.int .u8)) ∧ Below w.heap.size w w' := by
  obtain ⟨i0, hi, hz0, hz1, hz2⟩ := info_parts Tryz.info5
  have hf : decide (0 ≤ n ∧ n ≤ 4611686018427387904) = true := by simp; omega
  have HN : Hid (254 :: lows n 4 = bytesN n) := lows_4 h0 h1
  go_enter Tryz.func29, Tryz.ntmps29
  go_wp2_with fail
  refine (fits_any _ _).mono ?_
  rintro e w' ⟨rfl, rfl⟩
  rw [hf]
  go_wp2_with (at_builtin; refine wpList_append_own _ rfl _ _ 26 rfl w.heap.size 5 i0 (.int .u8 0) 1 1 Tryz.underlying26 hi hz0 hz1 hz2 rfl (by decide) _ _ _ rfl ((World.ownsRow_nil w w.heap.size 5 1).alloc _) ⟨w.heap.size, 0, none⟩ 1 1 [.int .u8 254] rfl rfl ?c1 ?c2 ?c3 ?c4 ?c5 ?_)
  case c1 => exact cell_one_new _ _ _
  case c2 => intro u hu; simp at hu; subst hu; rfl
  case c3 => unfold maxLen; omega
  case c4 => omega
  case c5 => simp
  intro v' w1 hown' hgrow _
  go_wp2
  go_loopw [3, 5] (fun v i wr => ∃ k : Nat, k ≤ 4 ∧ i = .int .i64 k ∧ wr.ownsRow w.heap.size 5 1 v (k + 1) ((254 :: lows n k).map (Value.int .u8)) ∧ Below w.heap.size w wr) (fun _ i _ => 4 - (intOf i).toNat)
  case atStart => exact ⟨0, Nat.zero_le _, rfl, hown', ((Below.refl _ _).alloc (Nat.le_refl _) _).grown hgrow (by simp) (by intro k hk; cases hk)⟩
  case round =>
    obtain ⟨k, hk, rfl, hown, hbel⟩ := hrel
    by_cases hlt : k < 4
    · go_wp2_with (at_builtin; refine wpList_append_own _ rfl _ _ 26 rfl w.heap.size 5 i0 (.int .u8 0) 1 1 Tryz.underlying26 hi hz0 hz1 hz2 rfl (by decide) _ _ _ rfl (hown.alloc _) ⟨wr.heap.size, 0, none⟩ 1 1 [.int .u8 (n / 2 ^ (8 * k) % 256)] rfl rfl ?d1 ?d2 ?d3 ?d4 ?d5 ?_)
      case d1 => exact cell_one_new _ _ _
      case d2 => intro u hu; simp at hu; subst hu; rfl
      case d3 => unfold maxLen; omega
      case d4 => omega
      case d5 => have := hbel.size; simp; omega
      intro v2 w2 hown2 hgrow2 _
      have R := rput_rel hown hbel _ hown2 hgrow2
      clear hown2 hgrow2 hown hbel
      go_wp2
      go_roundw
      case rel => exact ⟨k + 1, by omega, by go_num, R.1, R.2⟩
      case measure => simp [intOf]; omega
    · have hk2 : k = 4 := by omega
      subst hk2
      go_wp2
      go_ret
      refine ⟨_, rfl, ?_, hbel⟩
      have hl : (bytesN n).length = 4 + 1 := by rw [← HN.out]; rfl
      rw [hl, ← HN.out]
      exact hown

set_option maxRecDepth 100000 in
set_option maxHeartbeats 1000000 in
theorem rput_9 (n : Int) (w : World) (h0 : 4294967296 ≤ n) (h1 : n ≤ 4611686018427387904) :
    Calls Tryz.prog 29 #[.int .i64 n] w fun e w' => ∃ v, e = .returned v ∧ w'.ownsRow w.heap.size 5 1 v (bytesN n).length ((bytesN n).map (Value.int .u8)) ∧ Below w.heap.size w w' := by
  obtain ⟨i0, hi, hz0, hz1, hz2⟩ := info_parts Tryz.info5
  have hf : decide (0 ≤ n ∧ n ≤ 4611686018427387904) = true := by simp; omega
  have HN : Hid (255 :: lows n 8 = bytesN n) := lows_8 h0 h1
  go_enter Tryz.func29, Tryz.ntmps29
  go_wp2_with fail
  refine (fits_any _ _).mono ?_
  rintro e w' ⟨rfl, rfl⟩
  rw [hf]
  go_wp2_with (at_builtin; refine wpList_append_own _ rfl _ _ 26 rfl w.heap.size 5 i0 (.int .u8 0) 1 1 Tryz.underlying26 hi hz0 hz1 hz2 rfl (by decide) _ _ _ rfl ((World.ownsRow_nil w w.heap.size 5 1).alloc _) ⟨w.heap.size, 0, none⟩ 1 1 [.int .u8 255] rfl rfl ?c1 ?c2 ?c3 ?c4 ?c5 ?_)
  case c1 => exact cell_one_new _ _ _
  case c2 => intro u hu; simp at hu; subst hu; rfl
  case c3 => unfold maxLen; omega
  case c4 => omega
  case c5 => simp
  intro v' w1 hown' hgrow _
  go_wp2
  go_loopw [3, 5] (fun v i wr => ∃ k : Nat, k ≤ 8 ∧ i = .int .i64 k ∧ wr.ownsRow w.heap.size 5 1 v (k + 1) ((255 :: lows n k).map (Value.int .u8)) ∧ Below w.heap.size w wr) (fun _ i _ => 8 - (intOf i).toNat)
  case atStart => exact ⟨0, Nat.zero_le _, rfl, hown', ((Below.refl _ _).alloc (Nat.le_refl _) _).grown hgrow (by simp) (by intro k hk; cases hk)⟩
  case round =>
    obtain ⟨k, hk, rfl, hown, hbel⟩ := hrel
    by_cases hlt : k < 8
    · go_wp2_with (at_builtin; refine wpList_append_own _ rfl _ _ 26 rfl w.heap.size 5 i0 (.int .u8 0) 1 1 Tryz.underlying26 hi hz0 hz1 hz2 rfl (by decide) _ _ _ rfl (hown.alloc _) ⟨wr.heap.size, 0, none⟩ 1 1 [.int .u8 (n / 2 ^ (8 * k) % 256)] rfl rfl ?d1 ?d2 ?d3 ?d4 ?d5 ?_)
      case d1 => exact cell_one_new _ _ _
      case d2 => intro u hu; simp at hu; subst hu; rfl
      case d3 => unfold maxLen; omega
      case d4 => omega
      case d5 => have := hbel.size; simp; omega
      intro v2 w2 hown2 hgrow2 _
      have R := rput_rel hown hbel _ hown2 hgrow2
      clear hown2 hgrow2 hown hbel
      go_wp2
      go_roundw
      case rel => exact ⟨k + 1, by omega, by go_num, R.1, R.2⟩
      case measure => simp [intOf]; omega
    · have hk2 : k = 8 := by omega
      subst hk2
      go_wp2
      go_ret
      refine ⟨_, rfl, ?_, hbel⟩
      have hl : (bytesN n).length = 8 + 1 := by rw [← HN.out]; rfl
      rw [hl, ← HN.out]
      exact hown

theorem rput_none (n : Int) (w : World) (h : n < 0 ∨ 4611686018427387904 < n) :
    Calls Tryz.prog 29 #[.int .i64 n] w fun e w' => e = .returned (.slice none 0 0) ∧ w = w' := by
  have hf : decide (0 ≤ n ∧ n ≤ 4611686018427387904) = false := by simp; omega
  go_enter Tryz.func29, Tryz.ntmps29
  go_wp2_with fail
  refine (fits_any _ _).mono ?_
  rintro e w' ⟨rfl, rfl⟩
  rw [hf]
  go_wp2
  go_ret
  exact ⟨rfl, rfl⟩

theorem rput_1 (n : Int) (w : World) (h0 : 0 ≤ n) (h1 : n < 253) :
    Calls Tryz.prog 29 #[.int .i64 n] w fun e w' => e = .returned (.slice (some ⟨w.heap.size, 0, none⟩) 1 1) ∧ w' = w.alloc (.cells #[.int .u8 n] 5) := by
  have hf : decide (0 ≤ n ∧ n ≤ 4611686018427387904) = true := by simp; omega
  go_enter Tryz.func29, Tryz.ntmps29
  go_wp2_with fail
  refine (fits_any _ _).mono ?_
  rintro e w' ⟨rfl, rfl⟩
  rw [hf]
  go_wp2
  go_ret
  exact ⟨rfl, rfl⟩
end Go.Proofs.YteikbpkjikacmaaGreatDoor
namespace Go.Proofs.YteikbpkjikacmaaGreatDoor
open Go.ChangeShapes Go.WideShapes Go.ChangeAt Go.RowKit

/-- The document's own Put, whatever the number. -/
theorem rput_any (n : Int) (w : World) :
    Calls Tryz.prog 29 #[.int .i64 n] w fun e w' => ∃ v, e = .returned v ∧ Row w' w.heap.size v (bytesN n) ∧ Below w.heap.size w w' := by
  rcases five n with h | ⟨h, h'⟩ | ⟨h, h'⟩ | ⟨h, h'⟩ | ⟨h, h'⟩
  · refine (rput_none n w h).mono ?_
    rintro e w' ⟨rfl, rfl⟩
    rw [bytesN_none h]
    exact ⟨_, rfl, World.ownsRow_nil _ _ _ _, Below.refl _ _⟩
  · refine (rput_1 n w h h').mono ?_
    rintro e w' ⟨rfl, rfl⟩
    rw [bytesN_1 h h']
    exact ⟨_, rfl, row_lit w [n] (by unfold maxLen; simp), (Below.refl _ _).alloc (Nat.le_refl _) _⟩
  · exact rput_3 n w h h'
  · exact rput_5 n w h h'
  · exact rput_9 n w h h'
end Go.Proofs.YteikbpkjikacmaaGreatDoor
namespace Go.Proofs.YteikbpkjikacmaaGreatDoor
open Go.ChangeShapes Go.WideShapes Go.ChangeAt Go.RowKit
set_option linter.unusedVariables false

theorem rdAt_le3 {bs : List Int} (h : IsBytes bs) (len k : Nat) (hk : len - k ≤ 3) : rdAt bs len k ≤ 36028797018963967 := by
  have h1 := rdAt_lt h len k 3 hk
  have h2 : (256 ^ 3 : Nat) = 16777216 := by decide
  rw [h2] at h1; omega

/-- With a top byte of at most 64 nothing runs over on the way. -/
theorem rdAt_top {bs : List Int} (h : IsBytes bs) (hl : 9 ≤ bs.length) (ht : bs.getD 8 0 ≤ 64) (k : Nat) (hk : 2 ≤ k) : rdAt bs 9 k ≤ 36028797018963967 := by
  have e9 : rdAt bs 9 9 = 0 := rdAt_end (by omega)
  have e8 : rdAt bs 9 8 = bs.getD 8 0 + 256 * rdAt bs 9 9 := rdAt_step (by omega) hl
  have e7 : rdAt bs 9 7 = bs.getD 7 0 + 256 * rdAt bs 9 8 := rdAt_step (by omega) hl
  have e6 : rdAt bs 9 6 = bs.getD 6 0 + 256 * rdAt bs 9 7 := rdAt_step (by omega) hl
  have e5 : rdAt bs 9 5 = bs.getD 5 0 + 256 * rdAt bs 9 6 := rdAt_step (by omega) hl
  have e4 : rdAt bs 9 4 = bs.getD 4 0 + 256 * rdAt bs 9 5 := rdAt_step (by omega) hl
  have e3 : rdAt bs 9 3 = bs.getD 3 0 + 256 * rdAt bs 9 4 := rdAt_step (by omega) hl
  have e2 : rdAt bs 9 2 = bs.getD 2 0 + 256 * rdAt bs 9 3 := rdAt_step (by omega) hl
  have b7 := isBytes_getD h 7
  have b6 := isBytes_getD h 6
  have b5 := isBytes_getD h 5
  have b4 := isBytes_getD h 4
  have b3 := isBytes_getD h 3
  have b2 := isBytes_getD h 2
  by_cases h9 : 9 ≤ k
  · rw [rdAt_end h9]; omega
  · rcases (show k = 2 ∨ k = 3 ∨ k = 4 ∨ k = 5 ∨ k = 6 ∨ k = 7 ∨ k = 8 by omega) with rfl | rfl | rfl | rfl | rfl | rfl | rfl <;> omega

/-- With a top byte above 64 the number is beyond all that have a form. -/
theorem rdAt_beyond {bs : List Int} (h : IsBytes bs) (hl : 9 ≤ bs.length) (ht : 65 ≤ bs.getD 8 0) : 4611686018427387904 < rdAt bs 9 1 := by
  have e9 : rdAt bs 9 9 = 0 := rdAt_end (by omega)
  have e8 : rdAt bs 9 8 = bs.getD 8 0 + 256 * rdAt bs 9 9 := rdAt_step (by omega) hl
  have e7 : rdAt bs 9 7 = bs.getD 7 0 + 256 * rdAt bs 9 8 := rdAt_step (by omega) hl
  have e6 : rdAt bs 9 6 = bs.getD 6 0 + 256 * rdAt bs 9 7 := rdAt_step (by omega) hl
  have e5 : rdAt bs 9 5 = bs.getD 5 0 + 256 * rdAt bs 9 6 := rdAt_step (by omega) hl
  have e4 : rdAt bs 9 4 = bs.getD 4 0 + 256 * rdAt bs 9 5 := rdAt_step (by omega) hl
  have e3 : rdAt bs 9 3 = bs.getD 3 0 + 256 * rdAt bs 9 4 := rdAt_step (by omega) hl
  have e2 : rdAt bs 9 2 = bs.getD 2 0 + 256 * rdAt bs 9 3 := rdAt_step (by omega) hl
  have e1 : rdAt bs 9 1 = bs.getD 1 0 + 256 * rdAt bs 9 2 := rdAt_step (by omega) hl
  have b7 := isBytes_getD h 7
  have b6 := isBytes_getD h 6
  have b5 := isBytes_getD h 5
  have b4 := isBytes_getD h 4
  have b3 := isBytes_getD h 3
  have b2 := isBytes_getD h 2
  have b1 := isBytes_getD h 1
  omega

theorem rget_empty (a : Option Addr) (cap : Nat) (w : World) :
    Calls Tryz.prog 65 #[.slice a 0 cap] w fun e w' => e = .returned (.tuple #[.int .i64 0, .int .i64 0]) ∧ w = w' := by
  go_enter Tryz.func65, Tryz.ntmps65
  go_wp2
  go_ret2
  exact ⟨rfl, rfl⟩

theorem rget_small (b off cap len : Nat) (x : Int) (w : World) (hl : 1 ≤ len) (h0 : 0 ≤ x) (h1 : x ≤ 252) (hc : w.cell? ⟨b, off, none⟩ = some (.int .u8 x)) :
    Calls Tryz.prog 65 #[.slice (some ⟨b, off, none⟩) len cap] w fun e w' => e = .returned (.tuple #[.int .i64 x, .int .i64 1]) ∧ w = w' := by
  have e1 : ((len : Int) == 0) = false := beq_eq_false_iff_ne.2 (by omega)
  go_enter Tryz.func65, Tryz.ntmps65
  go_wp2
  go_ret2
  exact ⟨rfl, rfl⟩

theorem rget_short3 (b off cap len : Nat) (w : World) (hl : 1 ≤ len) (hls : len < 3) (hc : w.cell? ⟨b, off, none⟩ = some (.int .u8 253)) :
    Calls Tryz.prog 65 #[.slice (some ⟨b, off, none⟩) len cap] w fun e w' => e = .returned (.tuple #[.int .i64 0, .int .i64 0]) ∧ w = w' := by
  have e1 : ((len : Int) == 0) = false := beq_eq_false_iff_ne.2 (by omega)
  go_enter Tryz.func65, Tryz.ntmps65
  go_wp2
  go_ret2
  exact ⟨rfl, rfl⟩

theorem rget_short5 (b off cap len : Nat) (w : World) (hl : 1 ≤ len) (hls : len < 5) (hc : w.cell? ⟨b, off, none⟩ = some (.int .u8 254)) :
    Calls Tryz.prog 65 #[.slice (some ⟨b, off, none⟩) len cap] w fun e w' => e = .returned (.tuple #[.int .i64 0, .int .i64 0]) ∧ w = w' := by
  have e1 : ((len : Int) == 0) = false := beq_eq_false_iff_ne.2 (by omega)
  go_enter Tryz.func65, Tryz.ntmps65
  go_wp2
  go_ret2
  exact ⟨rfl, rfl⟩

theorem rget_short9 (b off cap len : Nat) (w : World) (hl : 1 ≤ len) (hls : len < 9) (hc : w.cell? ⟨b, off, none⟩ = some (.int .u8 255)) :
    Calls Tryz.prog 65 #[.slice (some ⟨b, off, none⟩) len cap] w fun e w' => e = .returned (.tuple #[.int .i64 0, .int .i64 0]) ∧ w = w' := by
  have e1 : ((len : Int) == 0) = false := beq_eq_false_iff_ne.2 (by omega)
  go_enter Tryz.func65, Tryz.ntmps65
  go_wp2
  go_ret2
  exact ⟨rfl, rfl⟩

set_option maxHeartbeats 1000000 in
theorem rget_long3 (b off cap : Nat) (bs : List Int) (w : World) (hls : 3 ≤ bs.length) (hr : IsBytes bs) (hx : bs.getD 0 0 = 253) 
    (hc : ∀ i, i < bs.length → w.cell? ⟨b, off + i, none⟩ = some (.int .u8 (bs.getD i 0))) :
    Calls Tryz.prog 65 #[.slice (some ⟨b, off, none⟩) bs.length cap] w fun e w' => e = .returned (.tuple (if sizeN (rdAt bs 3 1) ≠ 3 then #[.int .i64 0, .int .i64 0] else #[.int .i64 (rdAt bs 3 1), .int .i64 3])) ∧ Below w.heap.size w w' := by
  have e1 : ((bs.length : Int) == 0) = false := beq_eq_false_iff_ne.2 (by omega)
  have hc0 : w.cell? ⟨b, off, none⟩ = some (.int .u8 253) := by rw [← hx]; exact hc 0 (by omega)
  have HC : Hid (∀ i, i < bs.length → w.cell? ⟨b, off + i, none⟩ = some (.int .u8 (bs.getD i 0))) := hc
  clear hc hx
  have hv0 := rdAt_nonneg hr 3 1
  go_enter Tryz.func65, Tryz.ntmps65
  go_wp2
  go_loop [5, 6] (fun t i => ∃ k : Nat, k < 3 ∧ i = .int .i64 k ∧ t = .int .i64 (rdAt bs 3 (k + 1))) (fun _ i => (intOf i).toNat)
  case atStart => exact ⟨2, by omega, by go_num, by rw [rdAt_end (by omega)]⟩
  case round =>
    obtain ⟨k, hk, rfl, rfl⟩ := hrel
    by_cases h0 : 0 < k
    · have hck := HC.out k (by omega)
      have hrk := isBytes_getD hr k
      have hv0 := rdAt_nonneg hr 3 (k + 1)
      have hv1 := rdAt_le3 hr 3 (k + 1) (by omega)
      have HS : Hid (rdAt bs 3 k = bs.getD k 0 + 256 * rdAt bs 3 (k + 1)) := rdAt_step hk hls
      generalize rdAt bs 3 (k + 1) = V at *
      generalize bs.getD k 0 = x at *
      go_wp2
      go_round
      case rel => exact ⟨k - 1, by omega, by go_num, by rw [show k - 1 + 1 = k by omega, HS.out, or_i64 V x hv0 hv1 hrk.1 hrk.2]⟩
      case measure => simp [intOf]; omega
    · have h0 : k = 0 := by omega
      subst h0
      go_wp2_with fail
      refine (rput_any _ _).mono ?_
      rintro e w1 ⟨v1, rfl, hrow1, hbel1⟩
      obtain ⟨a, cp, hv, hB⟩ := hrow1.bytesAt (isBytes_N _)
      have hl := bytesN_length (rdAt bs 3 (0 + 1))
      rw [hv]
      clear hB hv hrow1
      generalize (bytesN (rdAt bs 3 (0 + 1))).length = L at *
      by_cases hsz : sizeN (rdAt bs 3 1) = 3
      · have hL : L = 3 := by have h2 : sizeN (rdAt bs 3 (0 + 1)) = 3 := hsz; omega
        subst hL
        clear hl
        go_wp2
        go_ret2
        exact ⟨rfl, hbel1⟩
      · have hL : ((L : Int) != 3) = true := by
          have h2 : sizeN (rdAt bs 3 (0 + 1)) ≠ 3 := hsz
          rw [bne_iff_ne]; omega
        clear hl
        go_wp2
        go_ret2
        exact ⟨rfl, hbel1⟩

set_option maxHeartbeats 1000000 in
theorem rget_long5 (b off cap : Nat) (bs : List Int) (w : World) (hls : 5 ≤ bs.length) (hr : IsBytes bs) (hx : bs.getD 0 0 = 254) 
    (hc : ∀ i, i < bs.length → w.cell? ⟨b, off + i, none⟩ = some (.int .u8 (bs.getD i 0))) :
    Calls Tryz.prog 65 #[.slice (some ⟨b, off, none⟩) bs.length cap] w fun e w' => e = .returned (.tuple (if sizeN (rdAt bs 5 1) ≠ 5 then #[.int .i64 0, .int .i64 0] else #[.int .i64 (rdAt bs 5 1), .int .i64 5])) ∧ Below w.heap.size w w' := by
  have e1 : ((bs.length : Int) == 0) = false := beq_eq_false_iff_ne.2 (by omega)
  have hc0 : w.cell? ⟨b, off, none⟩ = some (.int .u8 254) := by rw [← hx]; exact hc 0 (by omega)
  have HC : Hid (∀ i, i < bs.length → w.cell? ⟨b, off + i, none⟩ = some (.int .u8 (bs.getD i 0))) := hc
  clear hc hx
  have hv0 := rdAt_nonneg hr 5 1
  go_enter Tryz.func65, Tryz.ntmps65
  go_wp2
  go_loop [5, 6] (fun t i => ∃ k : Nat, k < 5 ∧ i = .int .i64 k ∧ t = .int .i64 (rdAt bs 5 (k + 1))) (fun _ i => (intOf i).toNat)
  case atStart => exact ⟨4, by omega, by go_num, by rw [rdAt_end (by omega)]⟩
  case round =>
    obtain ⟨k, hk, rfl, rfl⟩ := hrel
    by_cases h0 : 0 < k
    · have hck := HC.out k (by omega)
      have hrk := isBytes_getD hr k
      have hv0 := rdAt_nonneg hr 5 (k + 1)
      have hv1 := rdAt_le3 hr 5 (k + 1) (by omega)
      have HS : Hid (rdAt bs 5 k = bs.getD k 0 + 256 * rdAt bs 5 (k + 1)) := rdAt_step hk hls
      generalize rdAt bs 5 (k + 1) = V at *
      generalize bs.getD k 0 = x at *
      go_wp2
      go_round
      case rel => exact ⟨k - 1, by omega, by go_num, by rw [show k - 1 + 1 = k by omega, HS.out, or_i64 V x hv0 hv1 hrk.1 hrk.2]⟩
      case measure => simp [intOf]; omega
    · have h0 : k = 0 := by omega
      subst h0
      go_wp2_with fail
      refine (rput_any _ _).mono ?_
      rintro e w1 ⟨v1, rfl, hrow1, hbel1⟩
      obtain ⟨a, cp, hv, hB⟩ := hrow1.bytesAt (isBytes_N _)
      have hl := bytesN_length (rdAt bs 5 (0 + 1))
      rw [hv]
      clear hB hv hrow1
      generalize (bytesN (rdAt bs 5 (0 + 1))).length = L at *
      by_cases hsz : sizeN (rdAt bs 5 1) = 5
      · have hL : L = 5 := by have h2 : sizeN (rdAt bs 5 (0 + 1)) = 5 := hsz; omega
        subst hL
        clear hl
        go_wp2
        go_ret2
        exact ⟨rfl, hbel1⟩
      · have hL : ((L : Int) != 5) = true := by
          have h2 : sizeN (rdAt bs 5 (0 + 1)) ≠ 5 := hsz
          rw [bne_iff_ne]; omega
        clear hl
        go_wp2
        go_ret2
        exact ⟨rfl, hbel1⟩

set_option maxHeartbeats 1000000 in
theorem rget_long9 (b off cap : Nat) (bs : List Int) (w : World) (hls : 9 ≤ bs.length) (hr : IsBytes bs) (hx : bs.getD 0 0 = 255) (ht : bs.getD 8 0 ≤ 64) 
    (hc : ∀ i, i < bs.length → w.cell? ⟨b, off + i, none⟩ = some (.int .u8 (bs.getD i 0))) :
    Calls Tryz.prog 65 #[.slice (some ⟨b, off, none⟩) bs.length cap] w fun e w' => e = .returned (.tuple (if sizeN (rdAt bs 9 1) ≠ 9 then #[.int .i64 0, .int .i64 0] else #[.int .i64 (rdAt bs 9 1), .int .i64 9])) ∧ Below w.heap.size w w' := by
  have e1 : ((bs.length : Int) == 0) = false := beq_eq_false_iff_ne.2 (by omega)
  have hc0 : w.cell? ⟨b, off, none⟩ = some (.int .u8 255) := by rw [← hx]; exact hc 0 (by omega)
  have HC : Hid (∀ i, i < bs.length → w.cell? ⟨b, off + i, none⟩ = some (.int .u8 (bs.getD i 0))) := hc
  clear hc hx
  have hc8 : w.cell? ⟨b, off + 8, none⟩ = some (.int .u8 (bs.getD 8 0)) := HC.out 8 (by omega)
  have ht8 : bs.getD 8 0 ≤ 64 := ht
  have HT : Hid (∀ k, 2 ≤ k → rdAt bs 9 k ≤ 36028797018963967) := fun k hk => rdAt_top hr hls ht k hk
  clear ht
  generalize bs.getD 8 0 = x8 at hc8 ht8
  have hv0 := rdAt_nonneg hr 9 1
  go_enter Tryz.func65, Tryz.ntmps65
  go_wp2
  go_loop [5, 6] (fun t i => ∃ k : Nat, k < 9 ∧ i = .int .i64 k ∧ t = .int .i64 (rdAt bs 9 (k + 1))) (fun _ i => (intOf i).toNat)
  case atStart => exact ⟨8, by omega, by go_num, by rw [rdAt_end (by omega)]⟩
  case round =>
    obtain ⟨k, hk, rfl, rfl⟩ := hrel
    by_cases h0 : 0 < k
    · have hck := HC.out k (by omega)
      have hrk := isBytes_getD hr k
      have hv0 := rdAt_nonneg hr 9 (k + 1)
      have hv1 := HT.out (k + 1) (by omega)
      have HS : Hid (rdAt bs 9 k = bs.getD k 0 + 256 * rdAt bs 9 (k + 1)) := rdAt_step hk hls
      generalize rdAt bs 9 (k + 1) = V at *
      generalize bs.getD k 0 = x at *
      go_wp2
      go_round
      case rel => exact ⟨k - 1, by omega, by go_num, by rw [show k - 1 + 1 = k by omega, HS.out, or_i64 V x hv0 hv1 hrk.1 hrk.2]⟩
      case measure => simp [intOf]; omega
    · have h0 : k = 0 := by omega
      subst h0
      go_wp2_with fail
      refine (rput_any _ _).mono ?_
      rintro e w1 ⟨v1, rfl, hrow1, hbel1⟩
      obtain ⟨a, cp, hv, hB⟩ := hrow1.bytesAt (isBytes_N _)
      have hl := bytesN_length (rdAt bs 9 (0 + 1))
      rw [hv]
      clear hB hv hrow1
      generalize (bytesN (rdAt bs 9 (0 + 1))).length = L at *
      by_cases hsz : sizeN (rdAt bs 9 1) = 9
      · have hL : L = 9 := by have h2 : sizeN (rdAt bs 9 (0 + 1)) = 9 := hsz; omega
        subst hL
        clear hl
        go_wp2
        go_ret2
        exact ⟨rfl, hbel1⟩
      · have hL : ((L : Int) != 9) = true := by
          have h2 : sizeN (rdAt bs 9 (0 + 1)) ≠ 9 := hsz
          rw [bne_iff_ne]; omega
        clear hl
        go_wp2
        go_ret2
        exact ⟨rfl, hbel1⟩

theorem rget_beyond (b off cap : Nat) (bs : List Int) (w : World) (hls : 9 ≤ bs.length) (hx : bs.getD 0 0 = 255) (ht : 65 ≤ bs.getD 8 0)
    (hc : ∀ i, i < bs.length → w.cell? ⟨b, off + i, none⟩ = some (.int .u8 (bs.getD i 0))) :
    Calls Tryz.prog 65 #[.slice (some ⟨b, off, none⟩) bs.length cap] w fun e w' => e = .returned (.tuple #[.int .i64 0, .int .i64 0]) ∧ w = w' := by
  have e1 : ((bs.length : Int) == 0) = false := beq_eq_false_iff_ne.2 (by omega)
  have hc0 : w.cell? ⟨b, off, none⟩ = some (.int .u8 255) := by rw [← hx]; exact hc 0 (by omega)
  have hc8 : w.cell? ⟨b, off + 8, none⟩ = some (.int .u8 (bs.getD 8 0)) := hc 8 (by omega)
  clear hc hx
  have ht8 : 64 < bs.getD 8 0 := by omega
  generalize bs.getD 8 0 = x8 at *
  go_enter Tryz.func65, Tryz.ntmps65
  go_wp2
  go_ret2
  exact ⟨rfl, rfl⟩
end Go.Proofs.YteikbpkjikacmaaGreatDoor
namespace Go.Proofs.YteikbpkjikacmaaGreatDoor
open Go.ChangeShapes Go.WideShapes Go.ChangeAt Go.RowKit

theorem rget_any (a : Option Addr) (cap : Nat) (bs : List Int) (w : World) (h : BytesAt w a cap bs) :
    Calls Tryz.prog 65 #[.slice a bs.length cap] w fun e w' => e = .returned (.tuple #[.int .i64 (getR bs).1, .int .i64 (getR bs).2.1]) ∧ Below w.heap.size w w' := by
  by_cases hb : bs = []
  · subst hb
    refine (rget_empty a cap w).mono ?_
    rintro e w' ⟨rfl, rfl⟩
    exact ⟨rfl, Below.refl _ _⟩
  · have hl : 1 ≤ bs.length := by have := List.length_pos_iff.2 hb; omega
    obtain ⟨b, off, rfl, hc⟩ := h.lie hb
    have hx := isBytes_getD h.bytes 0
    have hc0 : w.cell? ⟨b, off, none⟩ = some (.int .u8 (bs.getD 0 0)) := hc 0 (by omega)
    rcases spanN_cases (bs.getD 0 0) with ⟨h1, h2⟩ | ⟨h1, h2⟩ | ⟨h1, h2⟩ | ⟨h1, h2, h3, h4⟩
    · by_cases hls : bs.length < 3
      · rw [getR_short hb (s := 3) (by rw [h2]; rfl) (by omega) hls]
        rw [h1] at hc0
        refine (rget_short3 b off cap bs.length w hl hls hc0).mono ?_
        rintro e w' ⟨rfl, rfl⟩
        exact ⟨rfl, Below.refl _ _⟩
      · rw [getR_long hb (s := 3) (by rw [h2]; rfl) (by omega) (by omega)]
        refine (rget_long3 b off cap bs w (by omega) h.bytes h1 hc).mono ?_
        rintro e w' ⟨rfl, hbel⟩
        refine ⟨?_, hbel⟩
        by_cases hsz : sizeN (rdAt bs 3 1) = 3
        · rw [if_neg (fun h => h hsz), if_neg (by intro h; rcases h with h | h; · rw [sizeN_none (Or.inr h)] at hsz; omega
                                                  · exact h hsz)]
          rfl
        · rw [if_pos hsz, if_pos (by exact Or.inr hsz)]
    · by_cases hls : bs.length < 5
      · rw [getR_short hb (s := 5) (by rw [h2]; rfl) (by omega) hls]
        rw [h1] at hc0
        refine (rget_short5 b off cap bs.length w hl hls hc0).mono ?_
        rintro e w' ⟨rfl, rfl⟩
        exact ⟨rfl, Below.refl _ _⟩
      · rw [getR_long hb (s := 5) (by rw [h2]; rfl) (by omega) (by omega)]
        refine (rget_long5 b off cap bs w (by omega) h.bytes h1 hc).mono ?_
        rintro e w' ⟨rfl, hbel⟩
        refine ⟨?_, hbel⟩
        by_cases hsz : sizeN (rdAt bs 5 1) = 5
        · rw [if_neg (fun h => h hsz), if_neg (by intro h; rcases h with h | h; · rw [sizeN_none (Or.inr h)] at hsz; omega
                                                  · exact h hsz)]
          rfl
        · rw [if_pos hsz, if_pos (by exact Or.inr hsz)]
    · by_cases hls : bs.length < 9
      · rw [getR_short hb (s := 9) (by rw [h2]; rfl) (by omega) hls]
        rw [h1] at hc0
        refine (rget_short9 b off cap bs.length w hl hls hc0).mono ?_
        rintro e w' ⟨rfl, rfl⟩
        exact ⟨rfl, Below.refl _ _⟩
      · rw [getR_long hb (s := 9) (by rw [h2]; rfl) (by omega) (by omega)]
        by_cases ht : bs.getD 8 0 ≤ 64
        · refine (rget_long9 b off cap bs w (by omega) h.bytes h1 ht hc).mono ?_
          rintro e w' ⟨rfl, hbel⟩
          refine ⟨?_, hbel⟩
          by_cases hsz : sizeN (rdAt bs 9 1) = 9
          · rw [if_neg (fun h => h hsz), if_neg (by intro h; rcases h with h | h; · rw [sizeN_none (Or.inr h)] at hsz; omega
                                                    · exact h hsz)]
            rfl
          · rw [if_pos hsz, if_pos (by exact Or.inr hsz)]
        · refine (rget_beyond b off cap bs w (by omega) h1 (by omega) hc).mono ?_
          rintro e w' ⟨rfl, rfl⟩
          refine ⟨?_, Below.refl _ _⟩
          rw [if_pos (by exact Or.inl (rdAt_beyond h.bytes (by omega) (by omega)))]
    · rw [getR_one hb h4]
      refine (rget_small b off cap bs.length _ w hl hx.1 (by omega) hc0).mono ?_
      rintro e w' ⟨rfl, rfl⟩
      exact ⟨rfl, Below.refl _ _⟩
end Go.Proofs.YteikbpkjikacmaaGreatDoor
