/- file: remainder; what Crash keeps. -/
import Derived.Test.YtbbooldhfcldbaaFlN
namespace Go.Proofs.Ytbbooldhfcldbaa
open Go.ChangeShapes Go.WideShapes Go.ChangeAt Go.RowKit Go.Lib

/-- Z lies at a, an int a cell. -/
def Ints (w : World) (a : Option Addr) (Z : List Int) : Prop := Z = [] ∨ ∃ b off, a = some ⟨b, off, none⟩ ∧ ∀ i, i < Z.length → w.cell? ⟨b, off + i, none⟩ = some (.int .i64 (Z.getD i 0))
theorem Ints.tail {w : World} {b off : Nat} {p : Int} {Z : List Int} (h : Ints w (some ⟨b, off, none⟩) (p :: Z)) (cap : Nat) (hc : Z.length + 1 ≤ cap) : Ints w (if cap = 1 then some ⟨b, off, none⟩ else some ⟨b, off + 1, none⟩) Z := by
  rcases h with h | ⟨b', off', e, hcs⟩
  · cases h
  · injection e with e
    injection e with e1 e2
    subst e1
    subst e2
    by_cases hk : cap = 1
    · exact .inl (List.eq_nil_of_length_eq_zero (by omega))
    · rw [if_neg hk]
      refine .inr ⟨b, off + 1, rfl, fun i hi => ?_⟩
      rw [Nat.add_assoc, Nat.add_comm 1 i, hcs (i + 1) (by rw [List.length_cons]; omega)]
      rfl
theorem Ints.head {w : World} {a : Option Addr} {p : Int} {Z : List Int} (h : Ints w a (p :: Z)) : ∃ b off, a = some ⟨b, off, none⟩ ∧ w.cell? ⟨b, off, none⟩ = some (.int .i64 p) := by
  rcases h with h | ⟨b, off, rfl, hcs⟩
  · cases h
  · exact ⟨b, off, rfl, hcs 0 (by simp)⟩
theorem Ints.below {w w' : World} {a : Option Addr} {Z : List Int} (h : Ints w a Z) (hb : Below w.heap.size w w') : Ints w' a Z := by
  rcases h with h | ⟨b, off, rfl, hcs⟩
  · exact .inl h
  · exact .inr ⟨b, off, rfl, fun i hi => cell_below hb (hcs i hi)⟩
/-- What is left of p, shared by m and one. -/
def remF (p : Int) (m : Nat) : Nat := (p % ((m : Int) + 1)).toNat
theorem remF_le (p : Int) (m : Nat) : remF p m ≤ m := by
  unfold remF
  have := Int.emod_lt_of_pos p (show 0 < (m : Int) + 1 by omega)
  omega
theorem remF_tmod (p : Int) (m : Nat) : (p.tmod ((m : Int) + 1) < 0 → p.tmod ((m : Int) + 1) + ((m : Int) + 1) = remF p m) ∧ (¬ p.tmod ((m : Int) + 1) < 0 → p.tmod ((m : Int) + 1) = remF p m) := by
  have h0 := Int.emod_nonneg p (show (m : Int) + 1 ≠ 0 by omega)
  have h1 := Int.emod_lt_of_pos p (show 0 < (m : Int) + 1 by omega)
  have h2 : (remF p m : Int) = p % ((m : Int) + 1) := by unfold remF; omega
  have h3 := @Int.tmod_eq_emod p ((m : Int) + 1)
  rw [h2, h3]
  split
  · exact ⟨fun h => by omega, fun _ => by omega⟩
  · exact ⟨fun _ => by omega, fun h => by omega⟩
set_option maxHeartbeats 2000000 in
theorem remainder_any (p : Int) (m : Nat) (w : World) (hm : m ≤ 100000000) :
    Calls Try.prog 33 #[.int .i64 p, .int .i64 ((m : Int) + 1)] w fun e w' => e = .returned (.int .i64 (remF p m)) ∧ w' = w := by
  have HR : Hid ((p.tmod ((m : Int) + 1) < 0 → p.tmod ((m : Int) + 1) + ((m : Int) + 1) = remF p m) ∧ (¬ p.tmod ((m : Int) + 1) < 0 → p.tmod ((m : Int) + 1) = remF p m)) := remF_tmod p m
  have j1 : -((m : Int) + 1) < p.tmod ((m : Int) + 1) := by
    have := Int.lt_tmod_of_pos p (show 0 < (m : Int) + 1 by omega); omega
  have j2 : p.tmod ((m : Int) + 1) < (m : Int) + 1 := Int.tmod_lt_of_pos p (by omega)
  by_cases hn : p.tmod ((m : Int) + 1) < 0
  · have h := HR.out.1 hn
    go_enter Try.func33, Try.ntmps33
    go_wp2_with fail
    go_ret
    exact ⟨ret_int rfl, rfl⟩
  · have h := HR.out.2 hn
    go_enter Try.func33, Try.ntmps33
    go_wp2_with fail
    go_ret
    exact ⟨ret_int rfl, rfl⟩
/-- How many bytes of a file outlive a crash, and which picks are left. -/
def keepOf (fl : Fl) (ps : List Int) : Nat × List Int := if fl.safe < fl.b.length then (match ps with | [] => (fl.safe, []) | p :: ps => (fl.safe + remF p (fl.b.length - fl.safe), ps)) else (fl.safe, ps)
def crashGo (L : List (ByteArray × Fl)) : List ByteArray → List Int → List (ByteArray × Fl) → List (ByteArray × Fl)
  | [], _, acc => acc
  | n :: ns, ps, acc => crashGo L ns (keepOf (flOf (alook n L)) ps).2 (aput n ⟨(flOf (alook n L)).b.take (keepOf (flOf (alook n L)) ps).1, (keepOf (flOf (alook n L)) ps).1⟩ acc)
def Abs.crash (A : Abs) (ps : List Int) : Abs := ⟨crashGo A.L (sortN (A.L.map Prod.fst)) ps [], 0, false, 0, false⟩
end Go.Proofs.Ytbbooldhfcldbaa
