/- The contract of the document's own Get: it answers what num.Get answers, at whatever bytes. -/
import Derived.Test.YtchfjbhhcdfobaaNumE
namespace Go.Proofs.Ytchfjbhhcdfobaa
open Go.ChangeShapes Go.WideShapes Go.ChangeAt Go.RowKit
set_option linter.unusedVariables false

theorem rdAt_le3 {bs : List Int} (h : IsBytes bs) (len k : Nat) (hk : len - k ≤ 3) : rdAt bs len k ≤ 36028797018963967 := by
  have h1 := rdAt_lt h len k 3 hk
  have h2 : (256 ^ 3 : Nat) = 16777216 := by decide
  rw [h2] at h1; omega

/-- With a top byte of at most 64 nothing runs over on the way. -/
theorem rdAt_top {bs : List Int} (h : IsBytes bs) (hl : 9 ≤ bs.length) (ht : bs.getD 8 0 ≤ 64) (k : Nat) (hk : 2 ≤ k) : rdAt bs 9 k ≤ 36028797018963967 := by
  have e9 : rdAt bs 9 9 = 0 := rdAt_end (by omega)
  have e8 : rdAt bs 9 8 = bs.getD 8 0 + 256 * rdAt bs 9 9 := rdAt_step (by omega) hl
  have e7 : rdAt bs 9 7 = bs.getD 7 0 + 256 * rdAt bs 9 8 := rdAt_step (by omega) hl
  have e6 : rdAt bs 9 6 = bs.getD 6 0 + 256 * rdAt bs 9 7 := rdAt_step (by omega) hl
  have e5 : rdAt bs 9 5 = bs.getD 5 0 + 256 * rdAt bs 9 6 := rdAt_step (by omega) hl
  have e4 : rdAt bs 9 4 = bs.getD 4 0 + 256 * rdAt bs 9 5 := rdAt_step (by omega) hl
  have e3 : rdAt bs 9 3 = bs.getD 3 0 + 256 * rdAt bs 9 4 := rdAt_step (by omega) hl
  have e2 : rdAt bs 9 2 = bs.getD 2 0 + 256 * rdAt bs 9 3 := rdAt_step (by omega) hl
  have b7 := isBytes_getD h 7
  have b6 := isBytes_getD h 6
  have b5 := isBytes_getD h 5
  have b4 := isBytes_getD h 4
  have b3 := isBytes_getD h 3
  have b2 := isBytes_getD h 2
  by_cases h9 : 9 ≤ k
  · rw [rdAt_end h9]; omega
  · rcases (show k = 2 ∨ k = 3 ∨ k = 4 ∨ k = 5 ∨ k = 6 ∨ k = 7 ∨ k = 8 by omega) with rfl | rfl | rfl | rfl | rfl | rfl | rfl <;> omega

/-- With a top byte above 64 the number is beyond all that have a form. -/
theorem rdAt_beyond {bs : List Int} (h : IsBytes bs) (hl : 9 ≤ bs.length) (ht : 65 ≤ bs.getD 8 0) : 4611686018427387904 < rdAt bs 9 1 := by
  have e9 : rdAt bs 9 9 = 0 := rdAt_end (by omega)
  have e8 : rdAt bs 9 8 = bs.getD 8 0 + 256 * rdAt bs 9 9 := rdAt_step (by omega) hl
  have e7 : rdAt bs 9 7 = bs.getD 7 0 + 256 * rdAt bs 9 8 := rdAt_step (by omega) hl
  have e6 : rdAt bs 9 6 = bs.getD 6 0 + 256 * rdAt bs 9 7 := rdAt_step (by omega) hl
  have e5 : rdAt bs 9 5 = bs.getD 5 0 + 256 * rdAt bs 9 6 := rdAt_step (by omega) hl
  have e4 : rdAt bs 9 4 = bs.getD 4 0 + 256 * rdAt bs 9 5 := rdAt_step (by omega) hl
  have e3 : rdAt bs 9 3 = bs.getD 3 0 + 256 * rdAt bs 9 4 := rdAt_step (by omega) hl
  have e2 : rdAt bs 9 2 = bs.getD 2 0 + 256 * rdAt bs 9 3 := rdAt_step (by omega) hl
  have e1 : rdAt bs 9 1 = bs.getD 1 0 + 256 * rdAt bs 9 2 := rdAt_step (by omega) hl
  have b7 := isBytes_getD h 7
  have b6 := isBytes_getD h 6
  have b5 := isBytes_getD h 5
  have b4 := isBytes_getD h 4
  have b3 := isBytes_getD h 3
  have b2 := isBytes_getD h 2
  have b1 := isBytes_getD h 1
  omega

theorem rget_empty (a : Option Addr) (cap : Nat) (w : World) :
    Calls Try.prog 12 #[.slice a 0 cap] w fun e w' => e = .returned (.tuple #[.int .i64 0, .int .i64 0]) ∧ w = w' := by
  go_enter Try.func12, Try.ntmps12
  go_wp2
  go_ret2
  exact ⟨rfl, rfl⟩

theorem rget_small (b off cap len : Nat) (x : Int) (w : World) (hl : 1 ≤ len) (h0 : 0 ≤ x) (h1 : x ≤ 252) (hc : w.cell? ⟨b, off, none⟩ = some (.int .u8 x)) :
    Calls Try.prog 12 #[.slice (some ⟨b, off, none⟩) len cap] w fun e w' => e = .returned (.tuple #[.int .i64 x, .int .i64 1]) ∧ w = w' := by
  have e1 : ((len : Int) == 0) = false := beq_eq_false_iff_ne.2 (by omega)
  go_enter Try.func12, Try.ntmps12
  go_wp2
  go_ret2
  exact ⟨rfl, rfl⟩

theorem rget_short3 (b off cap len : Nat) (w : World) (hl : 1 ≤ len) (hls : len < 3) (hc : w.cell? ⟨b, off, none⟩ = some (.int .u8 253)) :
    Calls Try.prog 12 #[.slice (some ⟨b, off, none⟩) len cap] w fun e w' => e = .returned (.tuple #[.int .i64 0, .int .i64 0]) ∧ w = w' := by
  have e1 : ((len : Int) == 0) = false := beq_eq_false_iff_ne.2 (by omega)
  go_enter Try.func12, Try.ntmps12
  go_wp2
  go_ret2
  exact ⟨rfl, rfl⟩

theorem rget_short5 (b off cap len : Nat) (w : World) (hl : 1 ≤ len) (hls : len < 5) (hc : w.cell? ⟨b, off, none⟩ = some (.int .u8 254)) :
    Calls Try.prog 12 #[.slice (some ⟨b, off, none⟩) len cap] w fun e w' => e = .returned (.tuple #[.int .i64 0, .int .i64 0]) ∧ w = w' := by
  have e1 : ((len : Int) == 0) = false := beq_eq_false_iff_ne.2 (by omega)
  go_enter Try.func12, Try.ntmps12
  go_wp2
  go_ret2
  exact ⟨rfl, rfl⟩

theorem rget_short9 (b off cap len : Nat) (w : World) (hl : 1 ≤ len) (hls : len < 9) (hc : w.cell? ⟨b, off, none⟩ = some (.int .u8 255)) :
    Calls Try.prog 12 #[.slice (some ⟨b, off, none⟩) len cap] w fun e w' => e = .returned (.tuple #[.int .i64 0, .int .i64 0]) ∧ w = w' := by
  have e1 : ((len : Int) == 0) = false := beq_eq_false_iff_ne.2 (by omega)
  go_enter Try.func12, Try.ntmps12
  go_wp2
  go_ret2
  exact ⟨rfl, rfl⟩

set_option maxHeartbeats 1000000 in
theorem rget_long3 (b off cap : Nat) (bs : List Int) (w : World) (hls : 3 ≤ bs.length) (hr : IsBytes bs) (hx : bs.getD 0 0 = 253) 
    (hc : ∀ i, i < bs.length → w.cell? ⟨b, off + i, none⟩ = some (.int .u8 (bs.getD i 0))) :
    Calls Try.prog 12 #[.slice (some ⟨b, off, none⟩) bs.length cap] w fun e w' => e = .returned (.tuple (if sizeN (rdAt bs 3 1) ≠ 3 then #[.int .i64 0, .int .i64 0] else #[.int .i64 (rdAt bs 3 1), .int .i64 3])) ∧ Below w.heap.size w w' := by
  have e1 : ((bs.length : Int) == 0) = false := beq_eq_false_iff_ne.2 (by omega)
  have hc0 : w.cell? ⟨b, off, none⟩ = some (.int .u8 253) := by rw [← hx]; exact hc 0 (by omega)
  have HC : Hid (∀ i, i < bs.length → w.cell? ⟨b, off + i, none⟩ = some (.int .u8 (bs.getD i 0))) := hc
  clear hc hx
  have hv0 := rdAt_nonneg hr 3 1
  go_enter Try.func12, Try.ntmps12
  go_wp2
  go_loop [5, 6] (fun t i => ∃ k : Nat, k < 3 ∧ i = .int .i64 k ∧ t = .int .i64 (rdAt bs 3 (k + 1))) (fun _ i => (intOf i).toNat)
  case atStart => exact ⟨2, by omega, by go_num, by rw [rdAt_end (by omega)]⟩
  case round =>
    obtain ⟨k, hk, rfl, rfl⟩ := hrel
    by_cases h0 : 0 < k
    · have hck := HC.out k (by omega)
      have hrk := isBytes_getD hr k
      have hv0 := rdAt_nonneg hr 3 (k + 1)
      have hv1 := rdAt_le3 hr 3 (k + 1) (by omega)
      have HS : Hid (rdAt bs 3 k = bs.getD k 0 + 256 * rdAt bs 3 (k + 1)) := rdAt_step hk hls
      generalize rdAt bs 3 (k + 1) = V at *
      generalize bs.getD k 0 = x at *
      go_wp2
      go_round
      case rel => exact ⟨k - 1, by omega, by go_num, by rw [show k - 1 + 1 = k by omega, HS.out, or_i64 V x hv0 hv1 hrk.1 hrk.2]⟩
      case measure => simp [intOf]; omega
    · have h0 : k = 0 := by omega
      subst h0
      go_wp2_with fail
      refine (rput_any _ _).mono ?_
      rintro e w1 ⟨v1, rfl, hrow1, hbel1⟩
      obtain ⟨a, cp, hv, hB⟩ := hrow1.bytesAt (isBytes_N _)
      have hl := bytesN_length (rdAt bs 3 (0 + 1))
      rw [hv]
      clear hB hv hrow1
      generalize (bytesN (rdAt bs 3 (0 + 1))).length = L at *
      by_cases hsz : sizeN (rdAt bs 3 1) = 3
      · have hL : L = 3 := by have h2 : sizeN (rdAt bs 3 (0 + 1)) = 3 := hsz; omega
        subst hL
        clear hl
        go_wp2
        go_ret2
        exact ⟨rfl, hbel1⟩
      · have hL : ((L : Int) != 3) = true := by
          have h2 : sizeN (rdAt bs 3 (0 + 1)) ≠ 3 := hsz
          rw [bne_iff_ne]; omega
        clear hl
        go_wp2
        go_ret2
        exact ⟨rfl, hbel1⟩

set_option maxHeartbeats 1000000 in
theorem rget_long5 (b off cap : Nat) (bs : List Int) (w : World) (hls : 5 ≤ bs.length) (hr : IsBytes bs) (hx : bs.getD 0 0 = 254) 
    (hc : ∀ i, i < bs.length → w.cell? ⟨b, off + i, none⟩ = some (.int .u8 (bs.getD i 0))) :
    Calls Try.prog 12 #[.slice (some ⟨b, off, none⟩) bs.length cap] w fun e w' => e = .returned (.tuple (if sizeN (rdAt bs 5 1) ≠ 5 then #[.int .i64 0, .int .i64 0] else #[.int .i64 (rdAt bs 5 1), .int .i64 5])) ∧ Below w.heap.size w w' := by
  have e1 : ((bs.length : Int) == 0) = false := beq_eq_false_iff_ne.2 (by omega)
  have hc0 : w.cell? ⟨b, off, none⟩ = some (.int .u8 254) := by rw [← hx]; exact hc 0 (by omega)
  have HC : Hid (∀ i, i < bs.length → w.cell? ⟨b, off + i, none⟩ = some (.int .u8 (bs.getD i 0))) := hc
  clear hc hx
  have hv0 := rdAt_nonneg hr 5 1
  go_enter Try.func12, Try.ntmps12
  go_wp2
  go_loop [5, 6] (fun t i => ∃ k : Nat, k < 5 ∧ i = .int .i64 k ∧ t = .int .i64 (rdAt bs 5 (k + 1))) (fun _ i => (intOf i).toNat)
  case atStart => exact ⟨4, by omega, by go_num, by rw [rdAt_end (by omega)]⟩
  case round =>
    obtain ⟨k, hk, rfl, rfl⟩ := hrel
    by_cases h0 : 0 < k
    · have hck := HC.out k (by omega)
      have hrk := isBytes_getD hr k
      have hv0 := rdAt_nonneg hr 5 (k + 1)
      have hv1 := rdAt_le3 hr 5 (k + 1) (by omega)
      have HS : Hid (rdAt bs 5 k = bs.getD k 0 + 256 * rdAt bs 5 (k + 1)) := rdAt_step hk hls
      generalize rdAt bs 5 (k + 1) = V at *
      generalize bs.getD k 0 = x at *
      go_wp2
      go_round
      case rel => exact ⟨k - 1, by omega, by go_num, by rw [show k - 1 + 1 = k by omega, HS.out, or_i64 V x hv0 hv1 hrk.1 hrk.2]⟩
      case measure => simp [intOf]; omega
    · have h0 : k = 0 := by omega
      subst h0
      go_wp2_with fail
      refine (rput_any _ _).mono ?_
      rintro e w1 ⟨v1, rfl, hrow1, hbel1⟩
      obtain ⟨a, cp, hv, hB⟩ := hrow1.bytesAt (isBytes_N _)
      have hl := bytesN_length (rdAt bs 5 (0 + 1))
      rw [hv]
      clear hB hv hrow1
      generalize (bytesN (rdAt bs 5 (0 + 1))).length = L at *
      by_cases hsz : sizeN (rdAt bs 5 1) = 5
      · have hL : L = 5 := by have h2 : sizeN (rdAt bs 5 (0 + 1)) = 5 := hsz; omega
        subst hL
        clear hl
        go_wp2
        go_ret2
        exact ⟨rfl, hbel1⟩
      · have hL : ((L : Int) != 5) = true := by
          have h2 : sizeN (rdAt bs 5 (0 + 1)) ≠ 5 := hsz
          rw [bne_iff_ne]; omega
        clear hl
        go_wp2
        go_ret2
        exact ⟨rfl, hbel1⟩

set_option maxHeartbeats 1000000 in
theorem rget_long9 (b off cap : Nat) (bs : List Int) (w : World) (hls : 9 ≤ bs.length) (hr : IsBytes bs) (hx : bs.getD 0 0 = 255) (ht : bs.getD 8 0 ≤ 64) 
    (hc : ∀ i, i < bs.length → w.cell? ⟨b, off + i, none⟩ = some (.int .u8 (bs.getD i 0))) :
    Calls Try.prog 12 #[.slice (some ⟨b, off, none⟩) bs.length cap] w fun e w' => e = .returned (.tuple (if sizeN (rdAt bs 9 1) ≠ 9 then #[.int .i64 0, .int .i64 0] else #[.int .i64 (rdAt bs 9 1), .int .i64 9])) ∧ Below w.heap.size w w' := by
  have e1 : ((bs.length : Int) == 0) = false := beq_eq_false_iff_ne.2 (by omega)
  have hc0 : w.cell? ⟨b, off, none⟩ = some (.int .u8 255) := by rw [← hx]; exact hc 0 (by omega)
  have HC : Hid (∀ i, i < bs.length → w.cell? ⟨b, off + i, none⟩ = some (.int .u8 (bs.getD i 0))) := hc
  clear hc hx
  have hc8 : w.cell? ⟨b, off + 8, none⟩ = some (.int .u8 (bs.getD 8 0)) := HC.out 8 (by omega)
  have ht8 : bs.getD 8 0 ≤ 64 := ht
  have HT : Hid (∀ k, 2 ≤ k → rdAt bs 9 k ≤ 36028797018963967) := fun k hk => rdAt_top hr hls ht k hk
  clear ht
  generalize bs.getD 8 0 = x8 at hc8 ht8
  have hv0 := rdAt_nonneg hr 9 1
  go_enter Try.func12, Try.ntmps12
  go_wp2
  go_loop [5, 6] (fun t i => ∃ k : Nat, k < 9 ∧ i = .int .i64 k ∧ t = .int .i64 (rdAt bs 9 (k + 1))) (fun _ i => (intOf i).toNat)
  case atStart => exact ⟨8, by omega, by go_num, by rw [rdAt_end (by omega)]⟩
  case round =>
    obtain ⟨k, hk, rfl, rfl⟩ := hrel
    by_cases h0 : 0 < k
    · have hck := HC.out k (by omega)
      have hrk := isBytes_getD hr k
      have hv0 := rdAt_nonneg hr 9 (k + 1)
      have hv1 := HT.out (k + 1) (by omega)
      have HS : Hid (rdAt bs 9 k = bs.getD k 0 + 256 * rdAt bs 9 (k + 1)) := rdAt_step hk hls
      generalize rdAt bs 9 (k + 1) = V at *
      generalize bs.getD k 0 = x at *
      go_wp2
      go_round
      case rel => exact ⟨k - 1, by omega, by go_num, by rw [show k - 1 + 1 = k by omega, HS.out, or_i64 V x hv0 hv1 hrk.1 hrk.2]⟩
      case measure => simp [intOf]; omega
    · have h0 : k = 0 := by omega
      subst h0
      go_wp2_with fail
      refine (rput_any _ _).mono ?_
      rintro e w1 ⟨v1, rfl, hrow1, hbel1⟩
      obtain ⟨a, cp, hv, hB⟩ := hrow1.bytesAt (isBytes_N _)
      have hl := bytesN_length (rdAt bs 9 (0 + 1))
      rw [hv]
      clear hB hv hrow1
      generalize (bytesN (rdAt bs 9 (0 + 1))).length = L at *
      by_cases hsz : sizeN (rdAt bs 9 1) = 9
      · have hL : L = 9 := by have h2 : sizeN (rdAt bs 9 (0 + 1)) = 9 := hsz; omega
        subst hL
        clear hl
        go_wp2
        go_ret2
        exact ⟨rfl, hbel1⟩
      · have hL : ((L : Int) != 9) = true := by
          have h2 : sizeN (rdAt bs 9 (0 + 1)) ≠ 9 := hsz
          rw [bne_iff_ne]; omega
        clear hl
        go_wp2
        go_ret2
        exact ⟨rfl, hbel1⟩

theorem rget_beyond (b off cap : Nat) (bs : List Int) (w : World) (hls : 9 ≤ bs.length) (hx : bs.getD 0 0 = 255) (ht : 65 ≤ bs.getD 8 0)
    (hc : ∀ i, i < bs.length → w.cell? ⟨b, off + i, none⟩ = some (.int .u8 (bs.getD i 0))) :
    Calls Try.prog 12 #[.slice (some ⟨b, off, none⟩) bs.length cap] w fun e w' => e = .returned (.tuple #[.int .i64 0, .int .i64 0]) ∧ w = w' := by
  have e1 : ((bs.length : Int) == 0) = false := beq_eq_false_iff_ne.2 (by omega)
  have hc0 : w.cell? ⟨b, off, none⟩ = some (.int .u8 255) := by rw [← hx]; exact hc 0 (by omega)
  have hc8 : w.cell? ⟨b, off + 8, none⟩ = some (.int .u8 (bs.getD 8 0)) := hc 8 (by omega)
  clear hc hx
  have ht8 : 64 < bs.getD 8 0 := by omega
  generalize bs.getD 8 0 = x8 at *
  go_enter Try.func12, Try.ntmps12
  go_wp2
  go_ret2
  exact ⟨rfl, rfl⟩
end Go.Proofs.Ytchfjbhhcdfobaa
