/- The standard's sums of n and of n + 1 like bytes are two, n up to 260: reckoned by the kernel. No program, no conditions. -/
import Derived.Test.YtbjndfnpfmeioaaDoorLanes3
namespace Go.Proofs.YtbjndfnpfmeioaaDoor
theorem chk0 : chkJ 0 64 = true := by kernel_rfl
theorem chk1 : chkJ 1 64 = true := by kernel_rfl
theorem chk2 : chkJ 2 64 = true := by kernel_rfl
theorem chk3 : chkJ 3 64 = true := by kernel_rfl
theorem chk4 : chkJ 4 5 = true := by kernel_rfl
theorem sums_apart (n : Nat) (hn : n ≤ 260) (x : BitVec 8) : sum (List.replicate n x) ≠ sum (List.replicate (n + 1) x) := by
  obtain (h | h | h | h | h) : n < 64 ∨ (64 ≤ n ∧ n < 128) ∨ (128 ≤ n ∧ n < 192) ∨ (192 ≤ n ∧ n < 256) ∨ 256 ≤ n := by omega
  · exact apart_of 0 64 chk0 n (by omega) (by omega) x
  · exact apart_of 1 64 chk1 n (by omega) (by omega) x
  · exact apart_of 2 64 chk2 n (by omega) (by omega) x
  · exact apart_of 3 64 chk3 n (by omega) (by omega) x
  · exact apart_of 4 5 chk4 n (by omega) (by omega) x
end Go.Proofs.YtbjndfnpfmeioaaDoor
