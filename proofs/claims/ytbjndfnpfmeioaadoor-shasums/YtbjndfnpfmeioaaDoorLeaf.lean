/- Contracts of the small functions under both sums: a turn, and the document's mixed and drawn. No conditions. -/
import Derived.Test.YtbjndfnpfmeioaaDoorRows
import Derived.Test.YtbjndfnpfmeioaaDoorBits
import Derived.WalkKit
import Derived.ProofKit
import Derived.OpenShut
import Derived.Handy
import Derived.WalkSpells
import Derived.WalkLawsBesides
import Derived.Deep.QuietTactic
import Derived.BigQuiet
namespace Go.Proofs.YtbjndfnpfmeioaaDoor
open Go.ChangeShapes Go.WideShapes Go.ChangeAt Go.RowKit

theorem ret_u32 {a b : Int} (h : a = b) : Ending.returned (.int .u32 a) = .returned (.int .u32 b) := by rw [h]

set_option maxHeartbeats 400000 in
theorem rotl_2 (x : BitVec 32) (w : World) :
    Calls Tryd.prog 31 #[.int .u32 (x.toNat : Int), .int .i64 (-2)] w fun e w' => e = .returned (.int .u32 ((ror x 2).toNat : Int)) ∧ w = w' := by
  have hb : bits BinOp.and IntKind.u64 (IntKind.u64.wrap (-2)) 31 = 30 := by decide
  go_enter Tryd.func31, Tryd.ntmps31
  go_wp2
  go_ret
  refine ⟨ret_u32 ?_, rfl⟩
  have h1 := w32_shr x 2
  have h2 := w32_shl x 30
  have h3 := w32_or (x <<< 30) (x >>> 2)
  have h4 := ror_comm x 2
  rw [← h2, ← h1] at h3
  exact h3.trans (congrArg (fun y : BitVec 32 => (y.toNat : Int)) h4)

set_option maxHeartbeats 400000 in
theorem rotl_6 (x : BitVec 32) (w : World) :
    Calls Tryd.prog 31 #[.int .u32 (x.toNat : Int), .int .i64 (-6)] w fun e w' => e = .returned (.int .u32 ((ror x 6).toNat : Int)) ∧ w = w' := by
  have hb : bits BinOp.and IntKind.u64 (IntKind.u64.wrap (-6)) 31 = 26 := by decide
  go_enter Tryd.func31, Tryd.ntmps31
  go_wp2
  go_ret
  refine ⟨ret_u32 ?_, rfl⟩
  have h1 := w32_shr x 6
  have h2 := w32_shl x 26
  have h3 := w32_or (x <<< 26) (x >>> 6)
  have h4 := ror_comm x 6
  rw [← h2, ← h1] at h3
  exact h3.trans (congrArg (fun y : BitVec 32 => (y.toNat : Int)) h4)

set_option maxHeartbeats 400000 in
theorem rotl_7 (x : BitVec 32) (w : World) :
    Calls Tryd.prog 31 #[.int .u32 (x.toNat : Int), .int .i64 (-7)] w fun e w' => e = .returned (.int .u32 ((ror x 7).toNat : Int)) ∧ w = w' := by
  have hb : bits BinOp.and IntKind.u64 (IntKind.u64.wrap (-7)) 31 = 25 := by decide
  go_enter Tryd.func31, Tryd.ntmps31
  go_wp2
  go_ret
  refine ⟨ret_u32 ?_, rfl⟩
  have h1 := w32_shr x 7
  have h2 := w32_shl x 25
  have h3 := w32_or (x <<< 25) (x >>> 7)
  have h4 := ror_comm x 7
  rw [← h2, ← h1] at h3
  exact h3.trans (congrArg (fun y : BitVec 32 => (y.toNat : Int)) h4)

set_option maxHeartbeats 400000 in
theorem rotl_11 (x : BitVec 32) (w : World) :
    Calls Tryd.prog 31 #[.int .u32 (x.toNat : Int), .int .i64 (-11)] w fun e w' => e = .returned (.int .u32 ((ror x 11).toNat : Int)) ∧ w = w' := by
  have hb : bits BinOp.and IntKind.u64 (IntKind.u64.wrap (-11)) 31 = 21 := by decide
  go_enter Tryd.func31, Tryd.ntmps31
  go_wp2
  go_ret
  refine ⟨ret_u32 ?_, rfl⟩
  have h1 := w32_shr x 11
  have h2 := w32_shl x 21
  have h3 := w32_or (x <<< 21) (x >>> 11)
  have h4 := ror_comm x 11
  rw [← h2, ← h1] at h3
  exact h3.trans (congrArg (fun y : BitVec 32 => (y.toNat : Int)) h4)

set_option maxHeartbeats 400000 in
theorem rotl_13 (x : BitVec 32) (w : World) :
    Calls Tryd.prog 31 #[.int .u32 (x.toNat : Int), .int .i64 (-13)] w fun e w' => e = .returned (.int .u32 ((ror x 13).toNat : Int)) ∧ w = w' := by
  have hb : bits BinOp.and IntKind.u64 (IntKind.u64.wrap (-13)) 31 = 19 := by decide
  go_enter Tryd.func31, Tryd.ntmps31
  go_wp2
  go_ret
  refine ⟨ret_u32 ?_, rfl⟩
  have h1 := w32_shr x 13
  have h2 := w32_shl x 19
  have h3 := w32_or (x <<< 19) (x >>> 13)
  have h4 := ror_comm x 13
  rw [← h2, ← h1] at h3
  exact h3.trans (congrArg (fun y : BitVec 32 => (y.toNat : Int)) h4)

set_option maxHeartbeats 400000 in
theorem rotl_17 (x : BitVec 32) (w : World) :
    Calls Tryd.prog 31 #[.int .u32 (x.toNat : Int), .int .i64 (-17)] w fun e w' => e = .returned (.int .u32 ((ror x 17).toNat : Int)) ∧ w = w' := by
  have hb : bits BinOp.and IntKind.u64 (IntKind.u64.wrap (-17)) 31 = 15 := by decide
  go_enter Tryd.func31, Tryd.ntmps31
  go_wp2
  go_ret
  refine ⟨ret_u32 ?_, rfl⟩
  have h1 := w32_shr x 17
  have h2 := w32_shl x 15
  have h3 := w32_or (x <<< 15) (x >>> 17)
  have h4 := ror_comm x 17
  rw [← h2, ← h1] at h3
  exact h3.trans (congrArg (fun y : BitVec 32 => (y.toNat : Int)) h4)

set_option maxHeartbeats 400000 in
theorem rotl_18 (x : BitVec 32) (w : World) :
    Calls Tryd.prog 31 #[.int .u32 (x.toNat : Int), .int .i64 (-18)] w fun e w' => e = .returned (.int .u32 ((ror x 18).toNat : Int)) ∧ w = w' := by
  have hb : bits BinOp.and IntKind.u64 (IntKind.u64.wrap (-18)) 31 = 14 := by decide
  go_enter Tryd.func31, Tryd.ntmps31
  go_wp2
  go_ret
  refine ⟨ret_u32 ?_, rfl⟩
  have h1 := w32_shr x 18
  have h2 := w32_shl x 14
  have h3 := w32_or (x <<< 14) (x >>> 18)
  have h4 := ror_comm x 18
  rw [← h2, ← h1] at h3
  exact h3.trans (congrArg (fun y : BitVec 32 => (y.toNat : Int)) h4)

set_option maxHeartbeats 400000 in
theorem rotl_19 (x : BitVec 32) (w : World) :
    Calls Tryd.prog 31 #[.int .u32 (x.toNat : Int), .int .i64 (-19)] w fun e w' => e = .returned (.int .u32 ((ror x 19).toNat : Int)) ∧ w = w' := by
  have hb : bits BinOp.and IntKind.u64 (IntKind.u64.wrap (-19)) 31 = 13 := by decide
  go_enter Tryd.func31, Tryd.ntmps31
  go_wp2
  go_ret
  refine ⟨ret_u32 ?_, rfl⟩
  have h1 := w32_shr x 19
  have h2 := w32_shl x 13
  have h3 := w32_or (x <<< 13) (x >>> 19)
  have h4 := ror_comm x 19
  rw [← h2, ← h1] at h3
  exact h3.trans (congrArg (fun y : BitVec 32 => (y.toNat : Int)) h4)

set_option maxHeartbeats 400000 in
theorem rotl_22 (x : BitVec 32) (w : World) :
    Calls Tryd.prog 31 #[.int .u32 (x.toNat : Int), .int .i64 (-22)] w fun e w' => e = .returned (.int .u32 ((ror x 22).toNat : Int)) ∧ w = w' := by
  have hb : bits BinOp.and IntKind.u64 (IntKind.u64.wrap (-22)) 31 = 10 := by decide
  go_enter Tryd.func31, Tryd.ntmps31
  go_wp2
  go_ret
  refine ⟨ret_u32 ?_, rfl⟩
  have h1 := w32_shr x 22
  have h2 := w32_shl x 10
  have h3 := w32_or (x <<< 10) (x >>> 22)
  have h4 := ror_comm x 22
  rw [← h2, ← h1] at h3
  exact h3.trans (congrArg (fun y : BitVec 32 => (y.toNat : Int)) h4)

set_option maxHeartbeats 400000 in
theorem rotl_25 (x : BitVec 32) (w : World) :
    Calls Tryd.prog 31 #[.int .u32 (x.toNat : Int), .int .i64 (-25)] w fun e w' => e = .returned (.int .u32 ((ror x 25).toNat : Int)) ∧ w = w' := by
  have hb : bits BinOp.and IntKind.u64 (IntKind.u64.wrap (-25)) 31 = 7 := by decide
  go_enter Tryd.func31, Tryd.ntmps31
  go_wp2
  go_ret
  refine ⟨ret_u32 ?_, rfl⟩
  have h1 := w32_shr x 25
  have h2 := w32_shl x 7
  have h3 := w32_or (x <<< 7) (x >>> 25)
  have h4 := ror_comm x 25
  rw [← h2, ← h1] at h3
  exact h3.trans (congrArg (fun y : BitVec 32 => (y.toNat : Int)) h4)

set_option maxHeartbeats 400000 in
theorem mixed_e (x : BitVec 32) (w : World) :
    Calls Tryd.prog 28 #[.int .u32 (x.toNat : Int), .int .i64 6, .int .i64 11, .int .i64 25] w fun e w' => e = .returned (.int .u32 ((S1 x).toNat : Int)) ∧ ∃ n, w' = w.drewN n := by
  go_enter Tryd.func28, Tryd.ntmps28
  go_wp2
  go_quiet (fail)
  go_wp2
  go_ret
  refine ⟨ret_u32 ?_, _, rfl⟩
  have a1 := w32_shr x 6; have a2 := w32_shl x 26; have a3 := w32_or (x >>> 6) (x <<< 26); rw [← a1, ← a2] at a3
  have b1 := w32_shr x 11; have b2 := w32_shl x 21; have b3 := w32_or (x >>> 11) (x <<< 21); rw [← b1, ← b2] at b3
  have c1 := w32_shr x 25; have c2 := w32_shl x 7; have c3 := w32_or (x >>> 25) (x <<< 7); rw [← c1, ← c2] at c3
  have h1 := w32_xor (ror x 6) (ror x 11)
  have h2 := w32_xor (ror x 6 ^^^ ror x 11) (ror x 25)
  unfold ror at h1 h2
  rw [← a3, ← b3] at h1
  rw [← h1, ← c3] at h2
  exact h2

set_option maxHeartbeats 400000 in
theorem mixed_a (x : BitVec 32) (w : World) :
    Calls Tryd.prog 28 #[.int .u32 (x.toNat : Int), .int .i64 2, .int .i64 13, .int .i64 22] w fun e w' => e = .returned (.int .u32 ((S0 x).toNat : Int)) ∧ ∃ n, w' = w.drewN n := by
  go_enter Tryd.func28, Tryd.ntmps28
  go_wp2
  go_quiet (fail)
  go_wp2
  go_ret
  refine ⟨ret_u32 ?_, _, rfl⟩
  have a1 := w32_shr x 2; have a2 := w32_shl x 30; have a3 := w32_or (x >>> 2) (x <<< 30); rw [← a1, ← a2] at a3
  have b1 := w32_shr x 13; have b2 := w32_shl x 19; have b3 := w32_or (x >>> 13) (x <<< 19); rw [← b1, ← b2] at b3
  have c1 := w32_shr x 22; have c2 := w32_shl x 10; have c3 := w32_or (x >>> 22) (x <<< 10); rw [← c1, ← c2] at c3
  have h1 := w32_xor (ror x 2) (ror x 13)
  have h2 := w32_xor (ror x 2 ^^^ ror x 13) (ror x 22)
  unfold ror at h1 h2
  rw [← a3, ← b3] at h1
  rw [← h1, ← c3] at h2
  exact h2

set_option maxHeartbeats 400000 in
theorem drawn_1 (x : BitVec 32) (w : World) :
    Calls Tryd.prog 27 #[.int .u32 (x.toNat : Int), .int .i64 17, .int .i64 19, .int .i64 10] w fun e w' => e = .returned (.int .u32 ((s1 x).toNat : Int)) ∧ ∃ n, w' = w.drewN n := by
  go_enter Tryd.func27, Tryd.ntmps27
  go_wp2
  go_quiet (fail)
  go_wp2
  go_ret
  refine ⟨ret_u32 ?_, _, rfl⟩
  have a1 := w32_shr x 17; have a2 := w32_shl x 15; have a3 := w32_or (x >>> 17) (x <<< 15); rw [← a1, ← a2] at a3
  have b1 := w32_shr x 19; have b2 := w32_shl x 13; have b3 := w32_or (x >>> 19) (x <<< 13); rw [← b1, ← b2] at b3
  have c1 := w32_shr x 10
  have h1 := w32_xor (ror x 17) (ror x 19)
  have h2 := w32_xor (ror x 17 ^^^ ror x 19) (x >>> 10)
  unfold ror at h1 h2
  rw [← a3, ← b3] at h1
  rw [← h1, ← c1] at h2
  exact h2

set_option maxHeartbeats 400000 in
theorem drawn_0 (x : BitVec 32) (w : World) :
    Calls Tryd.prog 27 #[.int .u32 (x.toNat : Int), .int .i64 7, .int .i64 18, .int .i64 3] w fun e w' => e = .returned (.int .u32 ((s0 x).toNat : Int)) ∧ ∃ n, w' = w.drewN n := by
  go_enter Tryd.func27, Tryd.ntmps27
  go_wp2
  go_quiet (fail)
  go_wp2
  go_ret
  refine ⟨ret_u32 ?_, _, rfl⟩
  have a1 := w32_shr x 7; have a2 := w32_shl x 25; have a3 := w32_or (x >>> 7) (x <<< 25); rw [← a1, ← a2] at a3
  have b1 := w32_shr x 18; have b2 := w32_shl x 14; have b3 := w32_or (x >>> 18) (x <<< 14); rw [← b1, ← b2] at b3
  have c1 := w32_shr x 3
  have h1 := w32_xor (ror x 7) (ror x 18)
  have h2 := w32_xor (ror x 7 ^^^ ror x 18) (x >>> 3)
  unfold ror at h1 h2
  rw [← a3, ← b3] at h1
  rw [← h1, ← c1] at h2
  exact h2

theorem rot_2 (x : BitVec 32) (w : World) :
    Calls Tryd.prog 31 #[.int .u32 (U x), .int .i64 (-2)] w fun e w' => e = .returned (.int .u32 (U (ror x 2))) ∧ w = w' := rotl_2 x w
theorem rot_6 (x : BitVec 32) (w : World) :
    Calls Tryd.prog 31 #[.int .u32 (U x), .int .i64 (-6)] w fun e w' => e = .returned (.int .u32 (U (ror x 6))) ∧ w = w' := rotl_6 x w
theorem rot_7 (x : BitVec 32) (w : World) :
    Calls Tryd.prog 31 #[.int .u32 (U x), .int .i64 (-7)] w fun e w' => e = .returned (.int .u32 (U (ror x 7))) ∧ w = w' := rotl_7 x w
theorem rot_11 (x : BitVec 32) (w : World) :
    Calls Tryd.prog 31 #[.int .u32 (U x), .int .i64 (-11)] w fun e w' => e = .returned (.int .u32 (U (ror x 11))) ∧ w = w' := rotl_11 x w
theorem rot_13 (x : BitVec 32) (w : World) :
    Calls Tryd.prog 31 #[.int .u32 (U x), .int .i64 (-13)] w fun e w' => e = .returned (.int .u32 (U (ror x 13))) ∧ w = w' := rotl_13 x w
theorem rot_17 (x : BitVec 32) (w : World) :
    Calls Tryd.prog 31 #[.int .u32 (U x), .int .i64 (-17)] w fun e w' => e = .returned (.int .u32 (U (ror x 17))) ∧ w = w' := rotl_17 x w
theorem rot_18 (x : BitVec 32) (w : World) :
    Calls Tryd.prog 31 #[.int .u32 (U x), .int .i64 (-18)] w fun e w' => e = .returned (.int .u32 (U (ror x 18))) ∧ w = w' := rotl_18 x w
theorem rot_19 (x : BitVec 32) (w : World) :
    Calls Tryd.prog 31 #[.int .u32 (U x), .int .i64 (-19)] w fun e w' => e = .returned (.int .u32 (U (ror x 19))) ∧ w = w' := rotl_19 x w
theorem rot_22 (x : BitVec 32) (w : World) :
    Calls Tryd.prog 31 #[.int .u32 (U x), .int .i64 (-22)] w fun e w' => e = .returned (.int .u32 (U (ror x 22))) ∧ w = w' := rotl_22 x w
theorem rot_25 (x : BitVec 32) (w : World) :
    Calls Tryd.prog 31 #[.int .u32 (U x), .int .i64 (-25)] w fun e w' => e = .returned (.int .u32 (U (ror x 25))) ∧ w = w' := rotl_25 x w
theorem mixE (x : BitVec 32) (w : World) :
    Calls Tryd.prog 28 #[.int .u32 (U x), .int .i64 6, .int .i64 11, .int .i64 25] w fun e w' => e = .returned (.int .u32 (U (S1 x))) ∧ ∃ n, w' = w.drewN n := mixed_e x w
theorem mixA (x : BitVec 32) (w : World) :
    Calls Tryd.prog 28 #[.int .u32 (U x), .int .i64 2, .int .i64 13, .int .i64 22] w fun e w' => e = .returned (.int .u32 (U (S0 x))) ∧ ∃ n, w' = w.drewN n := mixed_a x w
theorem draw1 (x : BitVec 32) (w : World) :
    Calls Tryd.prog 27 #[.int .u32 (U x), .int .i64 17, .int .i64 19, .int .i64 10] w fun e w' => e = .returned (.int .u32 (U (s1 x))) ∧ ∃ n, w' = w.drewN n := drawn_1 x w
theorem draw0 (x : BitVec 32) (w : World) :
    Calls Tryd.prog 27 #[.int .u32 (U x), .int .i64 7, .int .i64 18, .int .i64 3] w fun e w' => e = .returned (.int .u32 (U (s0 x))) ∧ ∃ n, w' = w.drewN n := drawn_0 x w
end Go.Proofs.YtbjndfnpfmeioaaDoor
