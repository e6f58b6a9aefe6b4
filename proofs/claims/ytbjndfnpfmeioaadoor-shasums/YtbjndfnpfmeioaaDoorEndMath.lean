/- The closing of a sum, by what has come so far. No program, no conditions. -/
import Derived.Test.YtbjndfnpfmeioaaDoorFeed
namespace Go.Proofs.YtbjndfnpfmeioaaDoor

def zerosN (n : Nat) : List (BitVec 8) := List.replicate n 0
/-- What closes a sum of n bytes. -/
def padOf (n : Nat) : List (BitVec 8) := [128#8] ++ zerosN (noughts n) ++ counted n
theorem closed_pad (l : List (BitVec 8)) : closed l = l ++ padOf l.length := by
  unfold closed padOf zerosN; simp [List.append_assoc]
theorem counted_length (n : Nat) : (counted n).length = 8 := by simp [counted]
theorem zerosN_length (n : Nat) : (zerosN n).length = n := by simp [zerosN]
theorem zerosN_add (a b : Nat) : zerosN a ++ zerosN b = zerosN (a + b) := by unfold zerosN; rw [List.replicate_append_replicate]

/-- The words behind a piece, out of those ahead of it. -/
theorem two_pieces (s : St) (q a b : List (BitVec 8)) : mixAll (mixAll s (q ++ a)) (restOf (q ++ a) ++ b) = mixAll s (q ++ (a ++ b)) := by
  rw [← List.append_assoc, mixAll_app s (q ++ a) b]
theorem two_rests (q a b : List (BitVec 8)) : restOf (restOf (q ++ a) ++ b) = restOf (q ++ (a ++ b)) := by
  rw [← List.append_assoc, restOf_app (q ++ a) b]
theorem rest_len (q a : List (BitVec 8)) : (restOf (q ++ a)).length = (q.length + a.length) % 64 := by
  rw [restOf_length, List.length_append]
theorem noughts_mod (n : Nat) : noughts (n % 64) = noughts n := by unfold noughts; rw [Nat.mod_mod]
end Go.Proofs.YtbjndfnpfmeioaaDoor
