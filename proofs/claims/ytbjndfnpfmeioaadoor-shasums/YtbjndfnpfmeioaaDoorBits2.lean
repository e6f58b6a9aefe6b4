/- Sums of words, as the walk spells them. No program, no conditions. -/
import Derived.Test.YtbjndfnpfmeioaaDoorBits
namespace Go.Proofs.YtbjndfnpfmeioaaDoor
theorem U_add5 (a b c d e : BitVec 32) : (U a + U b + U c + U d + U e) % 4294967296 = U ((((a + b) + c) + d) + e) := by
  unfold U; simp only [BitVec.toNat_add]; omega
theorem U_add6 (a b c d e f : BitVec 32) : (U a + U b + U c + U d + U e + U f) % 4294967296 = U (((((a + b) + c) + d) + e) + f) := by
  unfold U; simp only [BitVec.toNat_add]; omega
end Go.Proofs.YtbjndfnpfmeioaaDoor
