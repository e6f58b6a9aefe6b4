/- TxLimits: whatever the numbers, the law returns true. Condition: the round words lie as the program's text lays them. The walk. -/
import Derived.Test.YteikbpkjikacmaaDoorCLLimM
import Derived.Test.YteikbpkjikacmaaDoorZX3
namespace Go.Proofs.YteikbpkjikacmaaDoor
open Go.ChangeShapes Go.WideShapes Go.ChangeAt Go.RowKit

def ptK (k : Nat) (pl : Int) : Pt := ⟨nameB k, pl, nameB_length k⟩
theorem built_ptK (k : Nat) (pl : Int) : Tryd.prog.built 44 [(0, .agg (u8s (nameB k)).toArray), (1, .int .i64 pl)] = some (ptK k pl).cs.toArray := by kernel_rfl
theorem built_inK (k : Nat) (pl sq : Int) : Tryd.prog.built 46 [(0, .agg (ptK k pl).cs.toArray), (1, .int .i64 sq), (2, .agg #[.int .i64 1, .int .i64 0, .string ByteArray.empty])] = some (In.cs ⟨ptK k pl, sq, 1, 0, ByteArray.empty⟩).toArray := by kernel_rfl

set_option maxRecDepth 100000 in
set_option maxHeartbeats 4000000 in
theorem limits_awake (n m sq pl lk pr : Int) (w : World) (hK : Kw w) (h : n < 0 ∨ 102 < n ∨ m < 0 ∨ 102 < m ∨ pr < 0 ∨ 70 < pr) :
    Calls Tryd.prog 6 #[.int .i64 n, .int .i64 m, .int .i64 sq, .int .i64 pl, .int .i64 lk, .int .i64 pr] w fun e w' => e = .returned (.bool true) ∧ Below w.heap.size w w' := by
  have HK : Hid (Kw w) := hK
  clear hK
  have hc : n < 0 ∨ (0 ≤ n ∧ 102 < n) ∨ (0 ≤ n ∧ n ≤ 102 ∧ m < 0) ∨ (0 ≤ n ∧ n ≤ 102 ∧ 0 ≤ m ∧ 102 < m) ∨ (0 ≤ n ∧ n ≤ 102 ∧ 0 ≤ m ∧ m ≤ 102 ∧ pr < 0) ∨ (0 ≤ n ∧ n ≤ 102 ∧ 0 ≤ m ∧ m ≤ 102 ∧ 0 ≤ pr ∧ 70 < pr) := by omega
  clear h
  rcases hc with h1 | ⟨h1, h2⟩ | ⟨h1, h2, h3⟩ | ⟨h1, h2, h3, h4⟩ | ⟨h1, h2, h3, h4, h5⟩ | ⟨h1, h2, h3, h4, h5, h6⟩
  all_goals
    go_enter Tryd.func6, Tryd.ntmps6
    go_wp2_with (go_at_call 9; refine (awake_any _ HK.out).mono ?_; rintro e w' ⟨rfl, hb⟩)
    go_ret
    exact ⟨rfl, hb⟩
end Go.Proofs.YteikbpkjikacmaaDoor
