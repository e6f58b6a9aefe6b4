/- The contract of num.Put: whatever the number, the bytes of its form in a new block of their own, or no bytes. -/
import Derived.Test.YtchfjbhhcdfobaaNumA
namespace Go.Proofs.Ytchfjbhhcdfobaa
open Go.ChangeShapes Go.WideShapes Go.ChangeAt Go.RowKit

theorem make_1 : ∀ w, (Instr.makeSlice 22 (.int .i64 1) (.int .i64 1)).run Try.prog w = .ok (.slice (some ⟨w.heap.size, 0, none⟩) 1 1) (w.alloc (.cells #[.int .u8 0] 5)) := fun _ => by kernel_rfl
theorem make_3 : ∀ w, (Instr.makeSlice 22 (.int .i64 3) (.int .i64 3)).run Try.prog w = .ok (.slice (some ⟨w.heap.size, 0, none⟩) 3 3) (w.alloc (.cells #[.int .u8 0, .int .u8 0, .int .u8 0] 5)) := fun _ => by kernel_rfl
theorem make_5 : ∀ w, (Instr.makeSlice 22 (.int .i64 5) (.int .i64 5)).run Try.prog w = .ok (.slice (some ⟨w.heap.size, 0, none⟩) 5 5) (w.alloc (.cells #[.int .u8 0, .int .u8 0, .int .u8 0, .int .u8 0, .int .u8 0] 5)) := fun _ => by kernel_rfl
theorem make_9 : ∀ w, (Instr.makeSlice 22 (.int .i64 9) (.int .i64 9)).run Try.prog w = .ok (.slice (some ⟨w.heap.size, 0, none⟩) 9 9) (w.alloc (.cells #[.int .u8 0, .int .u8 0, .int .u8 0, .int .u8 0, .int .u8 0, .int .u8 0, .int .u8 0, .int .u8 0, .int .u8 0] 5)) := fun _ => by kernel_rfl

set_option maxHeartbeats 1000000 in
theorem put_none (n : Int) (w : World) (h : n < 0 ∨ 4611686018427387904 < n) :
    Calls Try.prog 7 #[.int .i64 n] w fun e w' => e = .returned (.slice none 0 0) ∧ w = w' := by
  go_enter Try.func7, Try.ntmps7
  go_wp2
  refine wp_scope_hops 1 ?_
  go_hide hQ
  go_wp2_with (go_at_call 8; refine (size_is _ 0 _ (sizeN_none h)).mono ?_; rintro e w' ⟨rfl, rfl⟩)
  go_step3
  simp only [Exit.then]
  subst hQ
  rw [hops_goto]
  refine ⟨_, rfl, ?_⟩
  go_hide hQ
  go_wp2
  subst hQ
  rw [hops_ret]
  go_ret
  exact ⟨rfl, rfl⟩

set_option maxHeartbeats 1000000 in
theorem put_1 (n : Int) (w : World) (h0 : 0 ≤ n) (h1 : n < 253) :
    Calls Try.prog 7 #[.int .i64 n] w fun e w' => e = .returned (.slice (some ⟨w.heap.size, 0, none⟩) 1 1) ∧ w' = w.alloc (.cells #[.int .u8 n] 5) := by
  have hmk := make_1
  go_enter Try.func7, Try.ntmps7
  go_wp2
  refine wp_scope_hops 0 ?_
  go_hide hQ
  go_wp2_with (go_at_call 8; refine (size_is _ 1 _ (sizeN_1 h0 h1)).mono ?_; rintro e w' ⟨rfl, rfl⟩)
  subst hQ
  rw [hops_ret]
  go_ret
  exact ⟨rfl, rfl⟩

set_option maxHeartbeats 1000000 in
theorem put_3 (n : Int) (w : World) (h0 : 253 ≤ n) (h1 : n < 65536) :
    Calls Try.prog 7 #[.int .i64 n] w fun e w' => e = .returned (.slice (some ⟨w.heap.size, 0, none⟩) 3 3) ∧ w' = w.alloc (.cells #[.int .u8 253, .int .u8 (n % 256), .int .u8 (n / 256)] 5) := by
  have hmk := make_3
  go_enter Try.func7, Try.ntmps7
  go_wp2
  refine wp_scope_hops 0 ?_
  go_hide hQ
  go_wp2_with (first | (go_at_call 8; refine (size_is _ 3 _ (sizeN_3 h0 h1)).mono ?_; rintro e w' ⟨rfl, rfl⟩) | (go_at_call 14; refine (lead_3 _).mono ?_; rintro e w' ⟨rfl, rfl⟩))
  go_rounds 3
  go_step3
  go_wp2
  subst hQ
  rw [hops_ret]
  go_ret
  exact ⟨rfl, rfl⟩

set_option maxHeartbeats 1000000 in
theorem put_5 (n : Int) (w : World) (h0 : 65536 ≤ n) (h1 : n < 4294967296) :
    Calls Try.prog 7 #[.int .i64 n] w fun e w' => e = .returned (.slice (some ⟨w.heap.size, 0, none⟩) 5 5) ∧ w' = w.alloc (.cells #[.int .u8 254, .int .u8 (n % 256), .int .u8 (n / 256 % 256), .int .u8 (n / 256 / 256 % 256), .int .u8 (n / 256 / 256 / 256)] 5) := by
  have hmk := make_5
  go_enter Try.func7, Try.ntmps7
  go_wp2
  refine wp_scope_hops 0 ?_
  go_hide hQ
  go_wp2_with (first | (go_at_call 8; refine (size_is _ 5 _ (sizeN_5 h0 h1)).mono ?_; rintro e w' ⟨rfl, rfl⟩) | (go_at_call 14; refine (lead_5 _).mono ?_; rintro e w' ⟨rfl, rfl⟩))
  go_rounds 5
  go_step3
  go_wp2
  subst hQ
  rw [hops_ret]
  go_ret
  exact ⟨rfl, rfl⟩

set_option maxHeartbeats 2000000 in
theorem put_9 (n : Int) (w : World) (h0 : 4294967296 ≤ n) (h1 : n ≤ 4611686018427387904) :
    Calls Try.prog 7 #[.int .i64 n] w fun e w' => e = .returned (.slice (some ⟨w.heap.size, 0, none⟩) 9 9) ∧ w' = w.alloc (.cells #[.int .u8 255, .int .u8 (n % 256), .int .u8 (n / 256 % 256), .int .u8 (n / 256 / 256 % 256), .int .u8 (n / 256 / 256 / 256 % 256), .int .u8 (n / 256 / 256 / 256 / 256 % 256), .int .u8 (n / 256 / 256 / 256 / 256 / 256 % 256), .int .u8 (n / 256 / 256 / 256 / 256 / 256 / 256 % 256), .int .u8 (n / 256 / 256 / 256 / 256 / 256 / 256 / 256)] 5) := by
  have hmk := make_9
  go_enter Try.func7, Try.ntmps7
  go_wp2
  refine wp_scope_hops 0 ?_
  go_hide hQ
  go_wp2_with (first | (go_at_call 8; refine (size_is _ 9 _ (sizeN_9 h0 h1)).mono ?_; rintro e w' ⟨rfl, rfl⟩) | (go_at_call 14; refine (lead_9 _).mono ?_; rintro e w' ⟨rfl, rfl⟩))
  go_rounds 9
  go_step3
  go_wp2
  subst hQ
  rw [hops_ret]
  go_ret
  exact ⟨rfl, rfl⟩
end Go.Proofs.Ytchfjbhhcdfobaa
