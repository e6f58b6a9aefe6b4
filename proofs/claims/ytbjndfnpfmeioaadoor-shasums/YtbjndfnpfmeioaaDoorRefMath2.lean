/- An index modulo sixteen, and the document's own sums of words, as the walk spells them. No program, no conditions. -/
import Derived.Test.YtbjndfnpfmeioaaDoorRefMath
import Derived.Test.YtbjndfnpfmeioaaDoorBits2
namespace Go.Proofs.YtbjndfnpfmeioaaDoor
theorem and15 (a : Nat) (h : a < 1000) : bits .and .i64 (a : Int) 15 = ((a % 16 : Nat) : Int) := by
  show IntKind.i64.wrap ((BitVec.ofInt 64 (a : Int) &&& BitVec.ofInt 64 15).toNat : Int) = _
  have h15 : (BitVec.ofInt 64 15).toNat = 15 := by decide
  rw [BitVec.toNat_and, ofInt_u64 a (by omega), h15, nat_mask4, IntKind.wrap_i64]
  omega
theorem Ch_U2 (e f g : BitVec 32) : bits .xor .u32 (U g) (bits .and .u32 (U e) (bits .xor .u32 (U f) (U g))) = U (Ch e f g) := by
  rw [U_xor, U_and, U_xor, Ch_other]
theorem Maj_U2 (a b c : BitVec 32) : bits .or .u32 (bits .and .u32 (U a) (U b)) (bits .and .u32 (U c) (bits .or .u32 (U a) (U b))) = U (Maj a b c) := by
  rw [U_and, U_or, U_and, U_or, Maj_other]
/-- A step of the document's own is the standard's. -/
theorem step_list (s : St) (k w : BitVec 32) : [t1 s k w + (S0 s.a + Maj s.a s.b s.c), s.a, s.b, s.c, s.d + t1 s k w, s.e, s.f, s.g] = (step s k w).list := by
  unfold step St.list
  rw [BitVec.add_assoc]
theorem moved_7 (s : St) : moved s 7 = s.list := rfl
theorem moved_0 (s : St) : moved s 0 = [s.a, s.a, s.b, s.c, s.d, s.e, s.f, s.g] := rfl
/-- The first k words of two states added. -/
def sumUp (s z : St) (k : Nat) : List (BitVec 32) := (List.range 8).map fun j => if j < k then s.list.getD j 0 + z.list.getD j 0 else s.list.getD j 0
theorem sumUp_0 (s z : St) : sumUp s z 0 = s.list := rfl
theorem sumUp_8 (s z : St) : sumUp s z 8 = (s.add z).list := rfl
theorem sumUp_length (s z : St) (k : Nat) : (sumUp s z k).length = 8 := by simp [sumUp]
theorem sumUp_next (s z : St) (k : Nat) (h : k < 8) : (sumUp s z k).set k ((sumUp s z k).getD k 0 + z.list.getD k 0) = sumUp s z (k + 1) := by
  obtain (rfl | rfl | rfl | rfl | rfl | rfl | rfl | rfl) : k = 0 ∨ k = 1 ∨ k = 2 ∨ k = 3 ∨ k = 4 ∨ k = 5 ∨ k = 6 ∨ k = 7 := by omega
  all_goals rfl
end Go.Proofs.YtbjndfnpfmeioaaDoor
