/- Bytes of a count, and of a word, as the walk spells them. No program, no conditions. -/
import Derived.Test.YtbjndfnpfmeioaaDoorEndMath
import Derived.Test.YtbjndfnpfmeioaaDoorKit
namespace Go.Proofs.YtbjndfnpfmeioaaDoor
theorem counted_get (n k : Nat) (hk : k < 8) : Y ((counted n).getD k 0) = ((8 * n / 2 ^ (8 * (7 - k)) % 256 : Nat) : Int) := by
  unfold counted Y
  rw [List.getD_eq_getElem?_getD]
  simp [hk]
theorem bytes_get (s : St) (k : Nat) (hk : k < 32) : s.bytes.getD k 0 = ((s.list.getD (k / 4) 0) >>> (8 * (3 - k % 4))).setWidth 8 := by
  unfold St.bytes
  rw [List.getD_eq_getElem?_getD]
  simp [hk]
theorem Y_shr (x : BitVec 32) (m : Nat) : Y ((x >>> m).setWidth 8) = U x / ((2 ^ m : Nat) : Int) % 256 := by
  unfold Y U
  rw [BitVec.toNat_setWidth, BitVec.toNat_ushiftRight, Nat.shiftRight_eq_div_pow]
  omega
theorem take_next (l : List (BitVec 8)) (k : Nat) (h : k < l.length) : l.take (k + 1) = l.take k ++ [l.getD k 0] := by
  rw [List.take_succ_eq_append_getElem h, List.getD_eq_getElem?_getD, List.getElem?_eq_getElem h]; rfl
end Go.Proofs.YtbjndfnpfmeioaaDoor
