/- 32-bit words as bit vectors: what the model's operations on uint32 do to them, and rotations. No program, no conditions. Contracts of the small functions under both sums: a turn, and the document's mixed and drawn. No conditions. Blocks that are known whole, and what becomes of them; rows of words and of bytes. No program, no conditions. The standard's sum, in plain mathematics: the schedule, the rounds, a block, all blocks, the closing. No program, no conditions. sha.schedule spreads 64 bytes over 64 words, as the standard says. No conditions. Sums of words, as the walk spells them. No program, no conditions. sha.mix takes one block into the words, as the standard says: where the round words lie as the program's text lays them. -/
import Derived.Laws.BitsAllLaws
import Derived.WalkKit
import Derived.Test.YtlapnnkahijikaaDoorRows
import Derived.ProofKit
import Derived.OpenShut
import Derived.Handy
import Derived.WalkSpells
import Derived.WalkLawsBesides
import Derived.Deep.QuietTactic
import Derived.BigQuiet
import Derived.Below
import Derived.Laws.Rows
import Derived.ScopeJumps
import Derived.Deep.Quiet
import Derived.Deep.RegionHeld3
import Derived.Deep.CutBlock
namespace Go.Proofs.YtlapnnkahijikaaDoor

theorem w32_lt (x : BitVec 32) : x.toNat < 4294967296 := x.isLt

theorem w32_xor (x y : BitVec 32) : bits .xor .u32 (x.toNat : Int) (y.toNat : Int) = ((x ^^^ y).toNat : Int) := by
  rw [u32_xor_nat _ _ x.isLt y.isLt, BitVec.toNat_xor]
theorem w32_and (x y : BitVec 32) : bits .and .u32 (x.toNat : Int) (y.toNat : Int) = ((x &&& y).toNat : Int) := by
  rw [u32_and_nat _ _ x.isLt y.isLt, BitVec.toNat_and]
theorem w32_or (x y : BitVec 32) : bits .or .u32 (x.toNat : Int) (y.toNat : Int) = ((x ||| y).toNat : Int) := by
  rw [u32_or_nat _ _ x.isLt y.isLt, BitVec.toNat_or]
theorem w32_add (x y : BitVec 32) : ((x.toNat : Int) + (y.toNat : Int)) % 4294967296 = ((x + y).toNat : Int) := by
  rw [BitVec.toNat_add]; omega
theorem w32_addw (x y : BitVec 32) : IntKind.u32.wrap ((x.toNat : Int) + (y.toNat : Int)) = ((x + y).toNat : Int) := by
  rw [IntKind.wrap_u32', w32_add]
theorem w32_not (x : BitVec 32) : bits .xor .u32 4294967295 (x.toNat : Int) = ((~~~ x).toNat : Int) := by
  have h := w32_xor (BitVec.allOnes 32) x
  rw [BitVec.allOnes_xor] at h
  exact h

theorem w32_shr (x : BitVec 32) (k : Nat) : (x.toNat : Int) / ((2 ^ k : Nat) : Int) = ((x >>> k).toNat : Int) := by
  rw [BitVec.toNat_ushiftRight, Nat.shiftRight_eq_div_pow]; exact (Int.natCast_ediv _ _).symm
theorem w32_shl (x : BitVec 32) (k : Nat) : (x.toNat : Int) * ((2 ^ k : Nat) : Int) % 4294967296 = ((x <<< k).toNat : Int) := by
  rw [BitVec.toNat_shiftLeft, Nat.shiftLeft_eq]
  rw [show (4294967296 : Int) = ((2 ^ 32 : Nat) : Int) by rfl, ← Int.natCast_mul, ← Int.natCast_emod]

/-- A word, and a byte, as a number. -/
def U (x : BitVec 32) : Int := (x.toNat : Int)
def Y (x : BitVec 8) : Int := (x.toNat : Int)
theorem U_lo (x : BitVec 32) : 0 ≤ U x := by unfold U; omega
theorem U_hi (x : BitVec 32) : U x < 4294967296 := by have := x.isLt; unfold U; omega
theorem Y_lo (x : BitVec 8) : 0 ≤ Y x := by unfold Y; omega
theorem Y_hi (x : BitVec 8) : Y x < 256 := by have := x.isLt; unfold Y; omega
theorem U_inj {x y : BitVec 32} (h : U x = U y) : x = y := by unfold U at h; exact BitVec.eq_of_toNat_eq (by omega)
theorem Y_inj {x y : BitVec 8} (h : Y x = Y y) : x = y := by unfold Y at h; exact BitVec.eq_of_toNat_eq (by omega)
theorem U_xor (x y : BitVec 32) : bits .xor .u32 (U x) (U y) = U (x ^^^ y) := w32_xor x y
theorem U_and (x y : BitVec 32) : bits .and .u32 (U x) (U y) = U (x &&& y) := w32_and x y
theorem U_or (x y : BitVec 32) : bits .or .u32 (U x) (U y) = U (x ||| y) := w32_or x y
theorem U_not (x : BitVec 32) : bits .xor .u32 4294967295 (U x) = U (~~~ x) := w32_not x
theorem U_add (x y : BitVec 32) : (U x + U y) % 4294967296 = U (x + y) := w32_add x y
theorem U_addw (x y : BitVec 32) : IntKind.u32.wrap (U x + U y) = U (x + y) := w32_addw x y
theorem U_shr10 (x : BitVec 32) : U x / (1024 : Int) = U (x >>> 10) := w32_shr x 10
theorem U_shr3 (x : BitVec 32) : U x / (8 : Int) = U (x >>> 3) := w32_shr x 3

/-- A word turned to the right. -/
def ror (x : BitVec 32) (k : Nat) : BitVec 32 := x >>> k ||| x <<< (32 - k)

theorem ror_comm (x : BitVec 32) (k : Nat) : x <<< (32 - k) ||| x >>> k = ror x k := BitVec.or_comm _ _

def Ch (e f g : BitVec 32) : BitVec 32 := (e &&& f) ^^^ (~~~ e &&& g)
def Maj (a b c : BitVec 32) : BitVec 32 := ((a &&& b) ^^^ (a &&& c)) ^^^ (b &&& c)
def S1 (e : BitVec 32) : BitVec 32 := (ror e 6 ^^^ ror e 11) ^^^ ror e 25
def S0 (a : BitVec 32) : BitVec 32 := (ror a 2 ^^^ ror a 13) ^^^ ror a 22
def s1 (x : BitVec 32) : BitVec 32 := (ror x 17 ^^^ ror x 19) ^^^ (x >>> 10)
def s0 (x : BitVec 32) : BitVec 32 := (ror x 7 ^^^ ror x 18) ^^^ (x >>> 3)

theorem U_notm (x : BitVec 32) : bits .xor .u32 IntKind.u32.max (U x) = U (~~~ x) := U_not x
theorem Ch_U (e f g : BitVec 32) : bits .xor .u32 (bits .and .u32 (U e) (U f)) (bits .and .u32 (bits .xor .u32 IntKind.u32.max (U e)) (U g)) = U (Ch e f g) := by
  rw [U_notm, U_and, U_and, U_xor]; rfl
theorem Maj_U (a b c : BitVec 32) : bits .xor .u32 (bits .xor .u32 (bits .and .u32 (U a) (U b)) (bits .and .u32 (U a) (U c))) (bits .and .u32 (U b) (U c)) = U (Maj a b c) := by
  rw [U_and, U_and, U_and, U_xor, U_xor]; rfl
theorem S1_U (e : BitVec 32) : bits .xor .u32 (bits .xor .u32 (U (ror e 6)) (U (ror e 11))) (U (ror e 25)) = U (S1 e) := by
  rw [U_xor, U_xor]; rfl
theorem S0_U (a : BitVec 32) : bits .xor .u32 (bits .xor .u32 (U (ror a 2)) (U (ror a 13))) (U (ror a 22)) = U (S0 a) := by
  rw [U_xor, U_xor]; rfl
theorem sched_U (x2 x7 x15 x16 : BitVec 32) : IntKind.u32.wrap (IntKind.u32.wrap (IntKind.u32.wrap (bits .xor .u32 (U (ror x2 17 ^^^ ror x2 19)) (U x2 / 1024) + U x7) + bits .xor .u32 (U (ror x15 7 ^^^ ror x15 18)) (U x15 / 8)) + U x16) = U (((s1 x2 + x7) + s0 x15) + x16) := by
  rw [U_shr10, U_shr3, U_xor, U_xor, U_addw, U_addw, U_addw]; rfl
theorem Ch_other (e f g : BitVec 32) : g ^^^ (e &&& (f ^^^ g)) = Ch e f g := by
  unfold Ch
  ext i hi
  simp only [BitVec.getElem_xor, BitVec.getElem_and, BitVec.getElem_not]
  cases e[i] <;> cases f[i] <;> cases g[i] <;> rfl
theorem Maj_other (a b c : BitVec 32) : (a &&& b) ||| (c &&& (a ||| b)) = Maj a b c := by
  unfold Maj
  ext i hi
  simp only [BitVec.getElem_xor, BitVec.getElem_and, BitVec.getElem_or]
  cases a[i] <;> cases b[i] <;> cases c[i] <;> rfl

/-- Four bytes as a word, the first one greatest. -/
def word (a b c d : BitVec 8) : BitVec 32 := ((a.setWidth 32 <<< 24 ||| b.setWidth 32 <<< 16) ||| c.setWidth 32 <<< 8) ||| d.setWidth 32

theorem w8_w32 (b : BitVec 8) : (b.toNat : Int) = ((b.setWidth 32).toNat : Int) := by
  rw [BitVec.toNat_setWidth, Nat.mod_eq_of_lt (by have := b.isLt; omega)]
theorem w8_shl (b : BitVec 8) (k m : Nat) (hm : m = 2 ^ k) (hk : m ≤ 16777216) : (b.toNat : Int) * (m : Int) = ((b.setWidth 32 <<< k).toNat : Int) := by
  have hb := b.isLt
  rw [← w32_shl, ← w8_w32, ← hm]
  have : (b.toNat : Int) * (m : Int) < 4294967296 := by
    have h : b.toNat * m ≤ 255 * 16777216 := Nat.mul_le_mul (by omega) hk
    have h' : ((b.toNat * m : Nat) : Int) < 4294967296 := by omega
    rwa [Int.natCast_mul] at h'
  rw [Int.emod_eq_of_lt (Int.mul_nonneg (by omega) (by omega)) this]
theorem word_val (a b c d : BitVec 8) : bits .or .u32 (bits .or .u32 (bits .or .u32 ((a.toNat : Int) * 16777216) ((b.toNat : Int) * 65536)) ((c.toNat : Int) * 256)) (d.toNat : Int) = ((word a b c d).toNat : Int) := by
  have h1 := w8_shl a 24 16777216 rfl (by omega)
  have h2 := w8_shl b 16 65536 rfl (by omega)
  have h3 := w8_shl c 8 256 rfl (by omega)
  have h1' : (a.toNat : Int) * 16777216 = _ := h1
  have h2' : (b.toNat : Int) * 65536 = _ := h2
  have h3' : (c.toNat : Int) * 256 = _ := h3
  rw [h1', h2', h3', w8_w32 d, w32_or, w32_or, w32_or]; rfl

theorem word_U (a b c d : BitVec 8) : bits .or .u32 (bits .or .u32 (bits .or .u32 (Y a * 16777216) (Y b * 65536)) (Y c * 256)) (Y d) = U (word a b c d) := word_val a b c d

theorem fill_set {α : Type} (l : List α) (z x : α) (n k : Nat) (hl : l.length = k) (hk : k < n) : (l ++ List.replicate (n - k) z).set k x = (l ++ [x]) ++ List.replicate (n - (k + 1)) z := by
  rw [List.set_append_right _ _ (by omega), hl, Nat.sub_self, show n - k = (n - (k + 1)) + 1 by omega, List.replicate_succ, List.set_cons_zero]
  simp
end Go.Proofs.YtlapnnkahijikaaDoor
namespace Go.Proofs.YtlapnnkahijikaaDoor
open Go.ChangeShapes Go.WideShapes Go.ChangeAt Go.RowKit

theorem ret_u32 {a b : Int} (h : a = b) : Ending.returned (.int .u32 a) = .returned (.int .u32 b) := by rw [h]

set_option maxHeartbeats 400000 in
theorem rotl_2 (x : BitVec 32) (w : World) :
    Calls Tryd.prog 68 #[.int .u32 (x.toNat : Int), .int .i64 (-2)] w fun e w' => e = .returned (.int .u32 ((ror x 2).toNat : Int)) ∧ w = w' := by
  have hb : bits BinOp.and IntKind.u64 (IntKind.u64.wrap (-2)) 31 = 30 := by decide
  go_enter Tryd.func68, Tryd.ntmps68
  go_wp2
  go_ret
  refine ⟨ret_u32 ?_, rfl⟩
  have h1 := w32_shr x 2
  have h2 := w32_shl x 30
  have h3 := w32_or (x <<< 30) (x >>> 2)
  have h4 := ror_comm x 2
  rw [← h2, ← h1] at h3
  exact h3.trans (congrArg (fun y : BitVec 32 => (y.toNat : Int)) h4)

set_option maxHeartbeats 400000 in
theorem rotl_6 (x : BitVec 32) (w : World) :
    Calls Tryd.prog 68 #[.int .u32 (x.toNat : Int), .int .i64 (-6)] w fun e w' => e = .returned (.int .u32 ((ror x 6).toNat : Int)) ∧ w = w' := by
  have hb : bits BinOp.and IntKind.u64 (IntKind.u64.wrap (-6)) 31 = 26 := by decide
  go_enter Tryd.func68, Tryd.ntmps68
  go_wp2
  go_ret
  refine ⟨ret_u32 ?_, rfl⟩
  have h1 := w32_shr x 6
  have h2 := w32_shl x 26
  have h3 := w32_or (x <<< 26) (x >>> 6)
  have h4 := ror_comm x 6
  rw [← h2, ← h1] at h3
  exact h3.trans (congrArg (fun y : BitVec 32 => (y.toNat : Int)) h4)

set_option maxHeartbeats 400000 in
theorem rotl_7 (x : BitVec 32) (w : World) :
    Calls Tryd.prog 68 #[.int .u32 (x.toNat : Int), .int .i64 (-7)] w fun e w' => e = .returned (.int .u32 ((ror x 7).toNat : Int)) ∧ w = w' := by
  have hb : bits BinOp.and IntKind.u64 (IntKind.u64.wrap (-7)) 31 = 25 := by decide
  go_enter Tryd.func68, Tryd.ntmps68
  go_wp2
  go_ret
  refine ⟨ret_u32 ?_, rfl⟩
  have h1 := w32_shr x 7
  have h2 := w32_shl x 25
  have h3 := w32_or (x <<< 25) (x >>> 7)
  have h4 := ror_comm x 7
  rw [← h2, ← h1] at h3
  exact h3.trans (congrArg (fun y : BitVec 32 => (y.toNat : Int)) h4)

set_option maxHeartbeats 400000 in
theorem rotl_11 (x : BitVec 32) (w : World) :
    Calls Tryd.prog 68 #[.int .u32 (x.toNat : Int), .int .i64 (-11)] w fun e w' => e = .returned (.int .u32 ((ror x 11).toNat : Int)) ∧ w = w' := by
  have hb : bits BinOp.and IntKind.u64 (IntKind.u64.wrap (-11)) 31 = 21 := by decide
  go_enter Tryd.func68, Tryd.ntmps68
  go_wp2
  go_ret
  refine ⟨ret_u32 ?_, rfl⟩
  have h1 := w32_shr x 11
  have h2 := w32_shl x 21
  have h3 := w32_or (x <<< 21) (x >>> 11)
  have h4 := ror_comm x 11
  rw [← h2, ← h1] at h3
  exact h3.trans (congrArg (fun y : BitVec 32 => (y.toNat : Int)) h4)

set_option maxHeartbeats 400000 in
theorem rotl_13 (x : BitVec 32) (w : World) :
    Calls Tryd.prog 68 #[.int .u32 (x.toNat : Int), .int .i64 (-13)] w fun e w' => e = .returned (.int .u32 ((ror x 13).toNat : Int)) ∧ w = w' := by
  have hb : bits BinOp.and IntKind.u64 (IntKind.u64.wrap (-13)) 31 = 19 := by decide
  go_enter Tryd.func68, Tryd.ntmps68
  go_wp2
  go_ret
  refine ⟨ret_u32 ?_, rfl⟩
  have h1 := w32_shr x 13
  have h2 := w32_shl x 19
  have h3 := w32_or (x <<< 19) (x >>> 13)
  have h4 := ror_comm x 13
  rw [← h2, ← h1] at h3
  exact h3.trans (congrArg (fun y : BitVec 32 => (y.toNat : Int)) h4)

set_option maxHeartbeats 400000 in
theorem rotl_17 (x : BitVec 32) (w : World) :
    Calls Tryd.prog 68 #[.int .u32 (x.toNat : Int), .int .i64 (-17)] w fun e w' => e = .returned (.int .u32 ((ror x 17).toNat : Int)) ∧ w = w' := by
  have hb : bits BinOp.and IntKind.u64 (IntKind.u64.wrap (-17)) 31 = 15 := by decide
  go_enter Tryd.func68, Tryd.ntmps68
  go_wp2
  go_ret
  refine ⟨ret_u32 ?_, rfl⟩
  have h1 := w32_shr x 17
  have h2 := w32_shl x 15
  have h3 := w32_or (x <<< 15) (x >>> 17)
  have h4 := ror_comm x 17
  rw [← h2, ← h1] at h3
  exact h3.trans (congrArg (fun y : BitVec 32 => (y.toNat : Int)) h4)

set_option maxHeartbeats 400000 in
theorem rotl_18 (x : BitVec 32) (w : World) :
    Calls Tryd.prog 68 #[.int .u32 (x.toNat : Int), .int .i64 (-18)] w fun e w' => e = .returned (.int .u32 ((ror x 18).toNat : Int)) ∧ w = w' := by
  have hb : bits BinOp.and IntKind.u64 (IntKind.u64.wrap (-18)) 31 = 14 := by decide
  go_enter Tryd.func68, Tryd.ntmps68
  go_wp2
  go_ret
  refine ⟨ret_u32 ?_, rfl⟩
  have h1 := w32_shr x 18
  have h2 := w32_shl x 14
  have h3 := w32_or (x <<< 14) (x >>> 18)
  have h4 := ror_comm x 18
  rw [← h2, ← h1] at h3
  exact h3.trans (congrArg (fun y : BitVec 32 => (y.toNat : Int)) h4)

set_option maxHeartbeats 400000 in
theorem rotl_19 (x : BitVec 32) (w : World) :
    Calls Tryd.prog 68 #[.int .u32 (x.toNat : Int), .int .i64 (-19)] w fun e w' => e = .returned (.int .u32 ((ror x 19).toNat : Int)) ∧ w = w' := by
  have hb : bits BinOp.and IntKind.u64 (IntKind.u64.wrap (-19)) 31 = 13 := by decide
  go_enter Tryd.func68, Tryd.ntmps68
  go_wp2
  go_ret
  refine ⟨ret_u32 ?_, rfl⟩
  have h1 := w32_shr x 19
  have h2 := w32_shl x 13
  have h3 := w32_or (x <<< 13) (x >>> 19)
  have h4 := ror_comm x 19
  rw [← h2, ← h1] at h3
  exact h3.trans (congrArg (fun y : BitVec 32 => (y.toNat : Int)) h4)

set_option maxHeartbeats 400000 in
theorem rotl_22 (x : BitVec 32) (w : World) :
    Calls Tryd.prog 68 #[.int .u32 (x.toNat : Int), .int .i64 (-22)] w fun e w' => e = .returned (.int .u32 ((ror x 22).toNat : Int)) ∧ w = w' := by
  have hb : bits BinOp.and IntKind.u64 (IntKind.u64.wrap (-22)) 31 = 10 := by decide
  go_enter Tryd.func68, Tryd.ntmps68
  go_wp2
  go_ret
  refine ⟨ret_u32 ?_, rfl⟩
  have h1 := w32_shr x 22
  have h2 := w32_shl x 10
  have h3 := w32_or (x <<< 10) (x >>> 22)
  have h4 := ror_comm x 22
  rw [← h2, ← h1] at h3
  exact h3.trans (congrArg (fun y : BitVec 32 => (y.toNat : Int)) h4)

set_option maxHeartbeats 400000 in
theorem rotl_25 (x : BitVec 32) (w : World) :
    Calls Tryd.prog 68 #[.int .u32 (x.toNat : Int), .int .i64 (-25)] w fun e w' => e = .returned (.int .u32 ((ror x 25).toNat : Int)) ∧ w = w' := by
  have hb : bits BinOp.and IntKind.u64 (IntKind.u64.wrap (-25)) 31 = 7 := by decide
  go_enter Tryd.func68, Tryd.ntmps68
  go_wp2
  go_ret
  refine ⟨ret_u32 ?_, rfl⟩
  have h1 := w32_shr x 25
  have h2 := w32_shl x 7
  have h3 := w32_or (x <<< 7) (x >>> 25)
  have h4 := ror_comm x 25
  rw [← h2, ← h1] at h3
  exact h3.trans (congrArg (fun y : BitVec 32 => (y.toNat : Int)) h4)

theorem rot_2 (x : BitVec 32) (w : World) :
    Calls Tryd.prog 68 #[.int .u32 (U x), .int .i64 (-2)] w fun e w' => e = .returned (.int .u32 (U (ror x 2))) ∧ w = w' := rotl_2 x w
theorem rot_6 (x : BitVec 32) (w : World) :
    Calls Tryd.prog 68 #[.int .u32 (U x), .int .i64 (-6)] w fun e w' => e = .returned (.int .u32 (U (ror x 6))) ∧ w = w' := rotl_6 x w
theorem rot_7 (x : BitVec 32) (w : World) :
    Calls Tryd.prog 68 #[.int .u32 (U x), .int .i64 (-7)] w fun e w' => e = .returned (.int .u32 (U (ror x 7))) ∧ w = w' := rotl_7 x w
theorem rot_11 (x : BitVec 32) (w : World) :
    Calls Tryd.prog 68 #[.int .u32 (U x), .int .i64 (-11)] w fun e w' => e = .returned (.int .u32 (U (ror x 11))) ∧ w = w' := rotl_11 x w
theorem rot_13 (x : BitVec 32) (w : World) :
    Calls Tryd.prog 68 #[.int .u32 (U x), .int .i64 (-13)] w fun e w' => e = .returned (.int .u32 (U (ror x 13))) ∧ w = w' := rotl_13 x w
theorem rot_17 (x : BitVec 32) (w : World) :
    Calls Tryd.prog 68 #[.int .u32 (U x), .int .i64 (-17)] w fun e w' => e = .returned (.int .u32 (U (ror x 17))) ∧ w = w' := rotl_17 x w
theorem rot_18 (x : BitVec 32) (w : World) :
    Calls Tryd.prog 68 #[.int .u32 (U x), .int .i64 (-18)] w fun e w' => e = .returned (.int .u32 (U (ror x 18))) ∧ w = w' := rotl_18 x w
theorem rot_19 (x : BitVec 32) (w : World) :
    Calls Tryd.prog 68 #[.int .u32 (U x), .int .i64 (-19)] w fun e w' => e = .returned (.int .u32 (U (ror x 19))) ∧ w = w' := rotl_19 x w
theorem rot_22 (x : BitVec 32) (w : World) :
    Calls Tryd.prog 68 #[.int .u32 (U x), .int .i64 (-22)] w fun e w' => e = .returned (.int .u32 (U (ror x 22))) ∧ w = w' := rotl_22 x w
theorem rot_25 (x : BitVec 32) (w : World) :
    Calls Tryd.prog 68 #[.int .u32 (U x), .int .i64 (-25)] w fun e w' => e = .returned (.int .u32 (U (ror x 25))) ∧ w = w' := rotl_25 x w
end Go.Proofs.YtlapnnkahijikaaDoor
namespace Go.Proofs.YtlapnnkahijikaaDoor
open Go.RowKit

def u32s (l : List (BitVec 32)) : List Value := l.map fun x => Value.int .u32 (U x)
def u8s (l : List (BitVec 8)) : List Value := l.map fun x => Value.int .u8 (Y x)
@[simp] theorem u32s_length (l : List (BitVec 32)) : (u32s l).length = l.length := by simp [u32s]
@[simp] theorem u8s_length (l : List (BitVec 8)) : (u8s l).length = l.length := by simp [u8s]
theorem u32s_get (l : List (BitVec 32)) (i : Nat) (h : i < l.length) : (u32s l)[i]? = some (.int .u32 (U (l.getD i 0))) := by
  simp [u32s, h, List.getD_eq_getElem?_getD]
theorem u8s_get (l : List (BitVec 8)) (i : Nat) (h : i < l.length) : (u8s l)[i]? = some (.int .u8 (Y (l.getD i 0))) := by
  simp [u8s, h, List.getD_eq_getElem?_getD]
theorem u32s_set (l : List (BitVec 32)) (i : Nat) (x : BitVec 32) : (u32s l).set i (.int .u32 (U x)) = u32s (l.set i x) := by
  simp [u32s, List.map_set]
theorem u8s_set (l : List (BitVec 8)) (i : Nat) (x : BitVec 8) : (u8s l).set i (.int .u8 (Y x)) = u8s (l.set i x) := by
  simp [u8s, List.map_set]

theorem u32s_one (l : List (BitVec 32)) : (u32s l).toArray.all (·.oneCell') = true :=
  Array.all_eq_true_iff_forall_mem.2 (fun v hv => by
    have hv' : v ∈ u32s l := by simpa using hv
    obtain ⟨x, _, rfl⟩ := List.mem_map.1 hv'
    rfl)
theorem u8s_one (l : List (BitVec 8)) : (u8s l).toArray.all (·.oneCell') = true :=
  Array.all_eq_true_iff_forall_mem.2 (fun v hv => by
    have hv' : v ∈ u8s l := by simpa using hv
    obtain ⟨x, _, rfl⟩ := List.mem_map.1 hv'
    rfl)

/-- A scope in which the run jumps back to one label, as the library's 'wp_scope_jumps'; the first pass may use what is shown of the others. -/
theorem wp_scope_rounds {P : Program} {a : Act} {w : World} {Q : Exit → Act → World → Prop} {c rest : Code} (l : Nat) (J : Act → World → Prop) (μ : Act → World → Nat) (hf : findLabel c l = some (Code.skip.seq rest))
    (pass : ∀ a w, J a w → rest.wp P (Exit.jump l (fun a' w' => J a' w' ∧ μ a' w' < μ a w) Q) a w)
    (first : (∀ a w, J a w → rest.wp P (Exit.jump l J Q) a w) → c.wp P (Exit.jump l J Q) a w) : (Code.scope c).wp P Q a w := by
  refine wp_scope_jumps l J μ hf (first fun a w hJ => Code.wp_mono ?_ (pass a w hJ)) (fun a w hJ => wp_seq (wp_skip (pass a w hJ)))
  intro e a w h
  cases e with
  | goto l' => exact ⟨h.1, h.2.1⟩
  | _ => exact h

theorem jump_ret {l : Nat} {J : Act → World → Prop} {Q : Exit → Act → World → Prop} {a : Act} {w : World} (h : Q .ret a w) : Exit.jump l J Q .ret a w := h
theorem addr_ne (b : Nat) {o o' : Nat} (h : o ≠ o') : (⟨b, o, none⟩ : Addr) ≠ ⟨b, o', none⟩ := fun e => h (by injection e)
theorem cell_kept {w : World} {b o o' : Nat} {v : Value} {r : Option Value} (h : o ≠ o') (hc : w.cell? ⟨b, o', none⟩ = r) : (w.setCell ⟨b, o, none⟩ v).cell? ⟨b, o', none⟩ = r := by
  rw [World.cell?_setCell_other (h := addr_ne b h)]; exact hc
theorem i64_fit {n : Int} (h : -9223372036854775808 ≤ n) (h' : n ≤ 9223372036854775807) : IntKind.i64.wrap n = n := by
  rw [IntKind.wrap_i64]; omega
/-- An index that is less than m by so much. -/
theorem idx_sub (i d m : Nat) (e M : Int) (he : e = d) (hM : M = m) (hd : d ≤ i) (hi : i < m) (hm : m ≤ 1000000) :
    IntKind.i64.wrap ((i : Int) - e) = (i : Int) - e ∧ (0 : Int) ≤ (i : Int) - e ∧ (i : Int) - e < M ∧ ((i : Int) - e).toNat = i - d := by
  subst he; subst hM; exact ⟨i64_fit (by omega) (by omega), by omega, by omega, by omega⟩

/-- Block b holds just these cells, none of them frozen. -/
def Blk (w : World) (b : Nat) (cs : List Value) : Prop := ∃ t, w.heap[b]? = some (.cells cs.toArray t (0, 0))

section
variable {w w' : World} {b B : Nat} {cs : List Value}

theorem Blk.lt (h : Blk w b cs) : b < w.heap.size := by
  obtain ⟨t, h⟩ := h; exact (Array.getElem?_eq_some_iff.1 h).1
theorem Blk.cell (h : Blk w b cs) (i : Nat) : w.cell? ⟨b, i, none⟩ = cs[i]? := by
  obtain ⟨t, h⟩ := h; rw [cell_of_row w b i _ t _ h]; simp
theorem Blk.frozen (h : Blk w b cs) (i : Nat) : w.frozen? ⟨b, i, none⟩ = false := by
  obtain ⟨t, h⟩ := h; simp [World.frozen?, h]
theorem Blk.below (h : Blk w b cs) (hb : Below B w w') (hB : b < B) : Blk w' b cs := by
  obtain ⟨t, h⟩ := h; exact ⟨t, by rw [hb.block b hB]; exact h⟩
theorem Blk.drew (h : Blk w b cs) : Blk w.drew b cs := h
theorem Blk.drewN (h : Blk w b cs) (n : Nat) : Blk (w.drewN n) b cs := h
theorem Blk.alloc (h : Blk w b cs) (o : Obj) : Blk (w.alloc o) b cs := by
  have hl := h.lt; obtain ⟨t, h⟩ := h; exact ⟨t, by rw [Below.heap_alloc w o b hl]; exact h⟩
theorem Blk.new (w : World) (a : Array Value) (t : TypeId) : Blk (w.alloc (.cells a t)) w.heap.size a.toList := ⟨t, by rw [heap_alloc_new]⟩
theorem Blk.mk (w : World) (a : Array Value) (t : TypeId) {b : Nat} {cs : List Value} (hb : b = w.heap.size) (hc : a = cs.toArray) : Blk (w.alloc (.cells a t)) b cs := by
  subst hb; subst hc; exact Blk.new _ _ _
theorem Blk.other (h : Blk w b cs) {p : Addr} (hp : b ≠ p.block) (v : Value) : Blk (w.setCell p v) b cs := by
  obtain ⟨t, h⟩ := h; exact ⟨t, by rw [Below.heap_setCell w p v b hp]; exact h⟩
theorem Blk.row {ds : List Value} (h : Blk w b cs) : Blk (w.setRow b ds.toArray) b ds := by
  obtain ⟨t, h⟩ := h
  refine ⟨t, ?_⟩
  simp [World.setRow, Array.getElem?_modify, h]
theorem heap_setRow (w : World) (g k : Nat) (cs : Array Value) (h : k ≠ g) : (w.setRow g cs).heap[k]? = w.heap[k]? := by
  have h' : ¬ g = k := fun e => h e.symm
  simp [World.setRow, Array.getElem?_modify, h']
theorem Blk.otherRow (h : Blk w b cs) {g : Nat} (hp : b ≠ g) (ds : Array Value) : Blk (w.setRow g ds) b cs := by
  obtain ⟨t, h⟩ := h; exact ⟨t, by rw [heap_setRow w g b ds hp]; exact h⟩
theorem below_setRow {a : World} (h : Below B a w) {g : Nat} (hg : B ≤ g) (ds : Array Value) : Below B a (w.setRow g ds) :=
  ⟨h.os, h.tape, h.output, by have := h.size; simpa [World.setRow] using this, fun k hk => by rw [heap_setRow w g k ds (by omega)]; exact h.block k hk⟩
theorem below_drewN {a : World} (h : Below B a w) (n : Nat) : Below B a (w.drewN n) := ⟨h.os, h.tape, h.output, h.size, h.block⟩
theorem Blk.set (h : Blk w b cs) (i : Nat) (v : Value) : Blk (w.setCell ⟨b, i, none⟩ v) b (cs.set i v) := by
  obtain ⟨t, h⟩ := h
  refine ⟨t, ?_⟩
  have hl := (Array.getElem?_eq_some_iff.1 h).1
  simp [World.setCell, Array.getElem?_modify, h]
end
end Go.Proofs.YtlapnnkahijikaaDoor
namespace Go.Proofs.YtlapnnkahijikaaDoor

/-- Word i of a block of bytes. -/
def wordAt (p : List (BitVec 8)) (i : Nat) : BitVec 32 :=
  word (p.getD (4 * i) 0) (p.getD (4 * i + 1) 0) (p.getD (4 * i + 2) 0) (p.getD (4 * i + 3) 0)
def wordsOf (p : List (BitVec 8)) : Nat → List (BitVec 32)
  | 0 => []
  | k + 1 => wordsOf p k ++ [wordAt p k]
/-- The schedule's first 16 + k words. -/
def sched (p : List (BitVec 8)) : Nat → List (BitVec 32)
  | 0 => wordsOf p 16
  | k + 1 => sched p k ++ [((s1 ((sched p k).getD (k + 14) 0) + (sched p k).getD (k + 9) 0) + s0 ((sched p k).getD (k + 1) 0)) + (sched p k).getD k 0]

theorem wordsOf_length (p : List (BitVec 8)) : ∀ k, (wordsOf p k).length = k
  | 0 => rfl
  | k + 1 => by simp [wordsOf, wordsOf_length p k]
theorem sched_length (p : List (BitVec 8)) : ∀ k, (sched p k).length = 16 + k
  | 0 => wordsOf_length p 16
  | k + 1 => by simp [sched, sched_length p k]; omega
theorem wordsOf_get (p : List (BitVec 8)) : ∀ k i, i < k → (wordsOf p k).getD i 0 = wordAt p i
  | k + 1, i, h => by
    by_cases hi : i < k
    · rw [wordsOf, List.getD_eq_getElem?_getD, List.getElem?_append_left (by rw [wordsOf_length]; exact hi), ← List.getD_eq_getElem?_getD]
      exact wordsOf_get p k i hi
    · obtain rfl : i = k := by omega
      rw [wordsOf, List.getD_eq_getElem?_getD, List.getElem?_append_right (by rw [wordsOf_length]; exact Nat.le_refl _), wordsOf_length]
      simp
theorem sched_step (p : List (BitVec 8)) (k i : Nat) (h : i < 16 + k) : (sched p (k + 1)).getD i 0 = (sched p k).getD i 0 := by
  rw [sched, List.getD_eq_getElem?_getD, List.getElem?_append_left (by rw [sched_length]; exact h), ← List.getD_eq_getElem?_getD]
theorem sched_stays (p : List (BitVec 8)) (k i : Nat) (h : i < 16 + k) : ∀ d, (sched p (k + d)).getD i 0 = (sched p k).getD i 0
  | 0 => rfl
  | d + 1 => by rw [← Nat.add_assoc, sched_step p (k + d) i (by omega)]; exact sched_stays p k i h d
/-- The schedule's word t. -/
def W (p : List (BitVec 8)) (t : Nat) : BitVec 32 := (sched p 48).getD t 0
theorem W_of (p : List (BitVec 8)) (k t : Nat) (hk : k ≤ 48) (h : t < 16 + k) : (sched p k).getD t 0 = W p t := by
  have := sched_stays p k t h (48 - k)
  rw [show k + (48 - k) = 48 by omega] at this
  exact this.symm
theorem W_first (p : List (BitVec 8)) (t : Nat) (h : t < 16) : W p t = wordAt p t := by
  rw [← W_of p 0 t (by omega) (by omega)]; exact wordsOf_get p 16 t h
theorem W_next (p : List (BitVec 8)) (k : Nat) (h : k < 48) : W p (k + 16) = ((s1 (W p (k + 14)) + W p (k + 9)) + s0 (W p (k + 1))) + W p k := by
  rw [← W_of p (k + 1) (k + 16) (by omega) (by omega), sched]
  rw [List.getD_eq_getElem?_getD, List.getElem?_append_right (by rw [sched_length]; omega), sched_length]
  rw [show k + 16 - (16 + k) = 0 by omega]
  rw [W_of p k (k + 14) (by omega) (by omega), W_of p k (k + 9) (by omega) (by omega), W_of p k (k + 1) (by omega) (by omega), W_of p k k (by omega) (by omega)]
  simp

/-- A state of eight words. -/
structure St where
  (a b c d e f g h : BitVec 32)
def St.list (s : St) : List (BitVec 32) := [s.a, s.b, s.c, s.d, s.e, s.f, s.g, s.h]
def t1 (s : St) (k w : BitVec 32) : BitVec 32 := (((s.h + S1 s.e) + Ch s.e s.f s.g) + k) + w
def step (s : St) (k w : BitVec 32) : St :=
  ⟨(t1 s k w + S0 s.a) + Maj s.a s.b s.c, s.a, s.b, s.c, s.d + t1 s k w, s.e, s.f, s.g⟩
def St.add (s t : St) : St := ⟨s.a + t.a, s.b + t.b, s.c + t.c, s.d + t.d, s.e + t.e, s.f + t.f, s.g + t.g, s.h + t.h⟩

/-- The round words (FIPS 180-4, 4.2.2). -/
def Ks : List (BitVec 32) := [
  0x428a2f98#32, 0x71374491#32, 0xb5c0fbcf#32, 0xe9b5dba5#32, 0x3956c25b#32, 0x59f111f1#32, 0x923f82a4#32, 0xab1c5ed5#32,
  0xd807aa98#32, 0x12835b01#32, 0x243185be#32, 0x550c7dc3#32, 0x72be5d74#32, 0x80deb1fe#32, 0x9bdc06a7#32, 0xc19bf174#32,
  0xe49b69c1#32, 0xefbe4786#32, 0x0fc19dc6#32, 0x240ca1cc#32, 0x2de92c6f#32, 0x4a7484aa#32, 0x5cb0a9dc#32, 0x76f988da#32,
  0x983e5152#32, 0xa831c66d#32, 0xb00327c8#32, 0xbf597fc7#32, 0xc6e00bf3#32, 0xd5a79147#32, 0x06ca6351#32, 0x14292967#32,
  0x27b70a85#32, 0x2e1b2138#32, 0x4d2c6dfc#32, 0x53380d13#32, 0x650a7354#32, 0x766a0abb#32, 0x81c2c92e#32, 0x92722c85#32,
  0xa2bfe8a1#32, 0xa81a664b#32, 0xc24b8b70#32, 0xc76c51a3#32, 0xd192e819#32, 0xd6990624#32, 0xf40e3585#32, 0x106aa070#32,
  0x19a4c116#32, 0x1e376c08#32, 0x2748774c#32, 0x34b0bcb5#32, 0x391c0cb3#32, 0x4ed8aa4a#32, 0x5b9cca4f#32, 0x682e6ff3#32,
  0x748f82ee#32, 0x78a5636f#32, 0x84c87814#32, 0x8cc70208#32, 0x90befffa#32, 0xa4506ceb#32, 0xbef9a3f7#32, 0xc67178f2#32]
theorem Ks_length : Ks.length = 64 := rfl

def steps (p : List (BitVec 8)) (s : St) : Nat → St
  | 0 => s
  | t + 1 => step (steps p s t) (Ks.getD t 0) (W p t)
/-- What 64 bytes make of a state. -/
def mix (s : St) (p : List (BitVec 8)) : St := s.add (steps p s 64)

/-- All whole blocks, one behind the other. -/
def mixAll (s : St) (l : List (BitVec 8)) : St :=
  if 64 ≤ l.length then mixAll (mix s (l.take 64)) (l.drop 64) else s
  termination_by l.length
  decreasing_by simp only [List.length_drop]; omega
theorem mixAll_short (s : St) (l : List (BitVec 8)) (h : l.length < 64) : mixAll s l = s := by
  rw [mixAll, if_neg (by omega)]
theorem mixAll_long (s : St) (l : List (BitVec 8)) (h : 64 ≤ l.length) : mixAll s l = mixAll (mix s (l.take 64)) (l.drop 64) := by
  rw [mixAll, if_pos h]
theorem mixAll_block (s : St) (l r : List (BitVec 8)) (h : l.length = 64) : mixAll s (l ++ r) = mixAll (mix s l) r := by
  have h1 : (l ++ r).take 64 = l := by rw [List.take_append_of_le_length (by omega), List.take_of_length_le (by omega)]
  have h2 : (l ++ r).drop 64 = r := by rw [List.drop_append_of_le_length (by omega), List.drop_of_length_le (by omega), List.nil_append]
  rw [mixAll_long s _ (by rw [List.length_append]; omega), h1, h2]

def start : St := ⟨0x6a09e667#32, 0xbb67ae85#32, 0x3c6ef372#32, 0xa54ff53a#32, 0x510e527f#32, 0x9b05688c#32, 0x1f83d9ab#32, 0x5be0cd19#32⟩
/-- The count of bits, in eight bytes. -/
def counted (n : Nat) : List (BitVec 8) := (List.range 8).map fun i => BitVec.ofNat 8 (8 * n / 2 ^ (8 * (7 - i)))
/-- How many noughts close n bytes. -/
def noughts (n : Nat) : Nat := (119 - n % 64) % 64
def closed (l : List (BitVec 8)) : List (BitVec 8) := l ++ [128#8] ++ List.replicate (noughts l.length) 0#8 ++ counted l.length
/-- A state's bytes. -/
def St.bytes (s : St) : List (BitVec 8) := (List.range 32).map fun i => ((s.list.getD (i / 4) 0) >>> (8 * (3 - i % 4))).setWidth 8
def sum (l : List (BitVec 8)) : List (BitVec 8) := (mixAll start (closed l)).bytes
theorem St.bytes_length (s : St) : s.bytes.length = 32 := by simp [St.bytes]
theorem sum_length (l : List (BitVec 8)) : (sum l).length = 32 := St.bytes_length _
end Go.Proofs.YtlapnnkahijikaaDoor
namespace Go.Proofs.YtlapnnkahijikaaDoor
open Go.ChangeShapes Go.WideShapes Go.ChangeAt Go.RowKit

def schedJ (p : List (BitVec 8)) (w : World) (N : Nat) (a : Act) (wr : World) : Prop :=
  ∃ (i : Nat), ∃ u : Nat → Value, a = ({ tmps := #[.agg (u8s p).toArray, .pointer (some ⟨N, 0, none⟩), .pointer (some ⟨N + 1, 0, none⟩), .pointer (some ⟨N + 2, 0, none⟩), u 4, .int .i64 (i : Int), u 6, u 7, u 8, u 9, u 10, u 11, u 12, u 13, u 14, u 15, u 16, u 17, u 18, u 19, u 20, u 21, u 22, u 23, u 24, u 25, u 26, u 27, u 28, u 29, u 30, u 31, u 32, u 33, u 34, u 35, u 36, u 37, u 38, u 39, u 40, u 41, u 42, u 43, u 44, u 45, u 46, u 47, u 48, u 49, u 50, u 51, u 52, u 53, u 54, u 55, u 56, u 57, u 58, u 59, u 60, u 61, u 62, u 63, u 64, u 65, u 66, u 67, u 68, u 69, u 70, u 71, u 72, u 73, u 74, u 75, u 76, u 77, u 78, u 79, u 80, u 81, u 82, u 83, u 84, u 85, u 86, u 87, u 88], defers := [] } : Act) ∧ 16 ≤ i ∧ i ≤ 64 ∧ Blk wr (N + 2) (u32s (sched p (i - 16) ++ List.replicate (64 - i) 0)) ∧ Blk wr (N + 1) (u32s (List.replicate 64 0)) ∧ Below N w wr
theorem schedJ_mk (p : List (BitVec 8)) (w : World) (N : Nat) {wr : World} (i : Nat) {u4 u6 u7 u8 u9 u10 u11 u12 u13 u14 u15 u16 u17 u18 u19 u20 u21 u22 u23 u24 u25 u26 u27 u28 u29 u30 u31 u32 u33 u34 u35 u36 u37 u38 u39 u40 u41 u42 u43 u44 u45 u46 u47 u48 u49 u50 u51 u52 u53 u54 u55 u56 u57 u58 u59 u60 u61 u62 u63 u64 u65 u66 u67 u68 u69 u70 u71 u72 u73 u74 u75 u76 u77 u78 u79 u80 u81 u82 u83 u84 u85 u86 u87 u88 : Value} (h : 16 ≤ i ∧ i ≤ 64 ∧ Blk wr (N + 2) (u32s (sched p (i - 16) ++ List.replicate (64 - i) 0)) ∧ Blk wr (N + 1) (u32s (List.replicate 64 0)) ∧ Below N w wr) : schedJ p w N ({ tmps := #[.agg (u8s p).toArray, .pointer (some ⟨N, 0, none⟩), .pointer (some ⟨N + 1, 0, none⟩), .pointer (some ⟨N + 2, 0, none⟩), u4, .int .i64 (i : Int), u6, u7, u8, u9, u10, u11, u12, u13, u14, u15, u16, u17, u18, u19, u20, u21, u22, u23, u24, u25, u26, u27, u28, u29, u30, u31, u32, u33, u34, u35, u36, u37, u38, u39, u40, u41, u42, u43, u44, u45, u46, u47, u48, u49, u50, u51, u52, u53, u54, u55, u56, u57, u58, u59, u60, u61, u62, u63, u64, u65, u66, u67, u68, u69, u70, u71, u72, u73, u74, u75, u76, u77, u78, u79, u80, u81, u82, u83, u84, u85, u86, u87, u88], defers := [] } : Act) wr :=
  ⟨i, fun n => (#[undef, undef, undef, undef, u4, undef, u6, u7, u8, u9, u10, u11, u12, u13, u14, u15, u16, u17, u18, u19, u20, u21, u22, u23, u24, u25, u26, u27, u28, u29, u30, u31, u32, u33, u34, u35, u36, u37, u38, u39, u40, u41, u42, u43, u44, u45, u46, u47, u48, u49, u50, u51, u52, u53, u54, u55, u56, u57, u58, u59, u60, u61, u62, u63, u64, u65, u66, u67, u68, u69, u70, u71, u72, u73, u74, u75, u76, u77, u78, u79, u80, u81, u82, u83, u84, u85, u86, u87, u88] : Array Value).getD n undef, rfl, h⟩

set_option maxRecDepth 100000 in
set_option maxHeartbeats 4000000 in
theorem sched_any (p : List (BitVec 8)) (hp : p.length = 64) (w : World) :
    Calls Tryd.prog 67 #[.agg (u8s p).toArray] w fun e w' => e = .returned (.agg (u32s (sched p 48)).toArray) ∧ Below w.heap.size w w' := by
  go_enter Tryd.func67, Tryd.ntmps67
  go_wp2
  refine wp_scope_rounds 0 (schedJ p w w.heap.size) (fun a _ => 64 - (intOf (a.tmps.getD 5 undef)).toNat) rfl ?pass ?first
  case first =>
    intro hpass
    have HP : Hid _ := hpass
    clear hpass
    go_hide hQ
    generalize hw1 : World.alloc (World.alloc w _) _ = w1
    have hz1 : w1.heap.size = w.heap.size + 2 := by rw [← hw1]; simp
    have hp0 : Blk w1 w.heap.size (u8s p) := by rw [← hw1]; exact (Blk.new _ _ _).alloc _
    have hp1 : Blk w1 (w.heap.size + 1) (u32s (List.replicate 64 0)) := by rw [← hw1]; exact Blk.mk _ _ _ (by simp) rfl
    have hbel1 : Below w.heap.size w w1 := by rw [← hw1]; exact ((Below.refl _ _).alloc (Nat.le_refl _) _).alloc (by simp) _
    clear hw1
    go_wp2
    generalize hw2 : World.alloc w1 _ = w2
    have hq0 : Blk w2 w.heap.size (u8s p) := by rw [← hw2]; exact hp0.alloc _
    have hq1 : Blk w2 (w.heap.size + 1) (u32s (List.replicate 64 0)) := by rw [← hw2]; exact hp1.alloc _
    have hq2 : Blk w2 (w.heap.size + 2) (u32s (List.replicate 64 0)) := by rw [← hw2]; exact Blk.mk _ _ _ (by rw [hz1]) rfl
    have hbel2 : Below w.heap.size w w2 := by rw [← hw2]; exact hbel1.alloc (by rw [hz1]; omega) _
    clear hw2 hbel1 hp0 hp1 hz1 w1
    generalize hN : w.heap.size = N at *
    go_loopw [10] (fun i wr => ∃ k : Nat, k ≤ 16 ∧ i = .int .i64 k ∧ Blk wr N (u8s p) ∧ Blk wr (N + 1) (u32s (List.replicate 64 0)) ∧ Blk wr (N + 2) (u32s (wordsOf p k ++ List.replicate (64 - k) 0)) ∧ Below N w wr) (fun i _ => 16 - (intOf i).toNat)
    case atStart => exact ⟨0, by omega, rfl, hq0, hq1, hq2, hbel2⟩
    case round =>
      obtain ⟨k, hk, rfl, hr0, hr1, hr2, hbel⟩ := hrel
      by_cases hlt : k < 16
      · have i0 : (0 : Int) ≤ (k : Int) := by omega
        have i1 : (k : Int) < 16 := by omega
        have i2 : (k : Int) < 64 := by omega
        have wr0 : IntKind.i64.wrap (4 * (k : Int)) = 4 * (k : Int) := i64_fit (by omega) (by omega)
        have jl0 : (0 : Int) ≤ 4 * (k : Int) := by omega
        have jh0 : 4 * (k : Int) < 64 := by omega
        have tn0 : (4 * (k : Int)).toNat = 4 * k := by omega
        have c0 := hr0.cell (4 * k); rw [u8s_get p (4 * k) (by omega)] at c0
        obtain ⟨b0, hb0⟩ : ∃ x, x = p.getD (4 * k) 0 := ⟨_, rfl⟩
        rw [← hb0] at c0
        have HB0 : Hid (b0 = _) := hb0
        clear hb0
        have yl0 := Y_lo b0
        have yh0 := Y_hi b0
        have wr1 : IntKind.i64.wrap (4 * (k : Int) + 1) = 4 * (k : Int) + 1 := i64_fit (by omega) (by omega)
        have jl1 : (0 : Int) ≤ 4 * (k : Int) + 1 := by omega
        have jh1 : 4 * (k : Int) + 1 < 64 := by omega
        have tn1 : (4 * (k : Int) + 1).toNat = 4 * k + 1 := by omega
        have c1 := hr0.cell (4 * k + 1); rw [u8s_get p (4 * k + 1) (by omega)] at c1
        obtain ⟨b1, hb1⟩ : ∃ x, x = p.getD (4 * k + 1) 0 := ⟨_, rfl⟩
        rw [← hb1] at c1
        have HB1 : Hid (b1 = _) := hb1
        clear hb1
        have yl1 := Y_lo b1
        have yh1 := Y_hi b1
        have wr2 : IntKind.i64.wrap (4 * (k : Int) + 2) = 4 * (k : Int) + 2 := i64_fit (by omega) (by omega)
        have jl2 : (0 : Int) ≤ 4 * (k : Int) + 2 := by omega
        have jh2 : 4 * (k : Int) + 2 < 64 := by omega
        have tn2 : (4 * (k : Int) + 2).toNat = 4 * k + 2 := by omega
        have c2 := hr0.cell (4 * k + 2); rw [u8s_get p (4 * k + 2) (by omega)] at c2
        obtain ⟨b2, hb2⟩ : ∃ x, x = p.getD (4 * k + 2) 0 := ⟨_, rfl⟩
        rw [← hb2] at c2
        have HB2 : Hid (b2 = _) := hb2
        clear hb2
        have yl2 := Y_lo b2
        have yh2 := Y_hi b2
        have wr3 : IntKind.i64.wrap (4 * (k : Int) + 3) = 4 * (k : Int) + 3 := i64_fit (by omega) (by omega)
        have jl3 : (0 : Int) ≤ 4 * (k : Int) + 3 := by omega
        have jh3 : 4 * (k : Int) + 3 < 64 := by omega
        have tn3 : (4 * (k : Int) + 3).toNat = 4 * k + 3 := by omega
        have c3 := hr0.cell (4 * k + 3); rw [u8s_get p (4 * k + 3) (by omega)] at c3
        obtain ⟨b3, hb3⟩ : ∃ x, x = p.getD (4 * k + 3) 0 := ⟨_, rfl⟩
        rw [← hb3] at c3
        have HB3 : Hid (b3 = _) := hb3
        clear hb3
        have yl3 := Y_lo b3
        have yh3 := Y_hi b3
        have hc := hr2.cell k
        rw [u32s_get _ k (by simp [wordsOf_length]; omega)] at hc
        have hf := hr2.frozen k
        go_wp2
        go_region_held3 (fun w1 => w1.cell? ⟨N, 4 * k, none⟩ = some (.int .u8 (Y b0)) ∧ w1.cell? ⟨N, 4 * k + 1, none⟩ = some (.int .u8 (Y b1)) ∧ w1.cell? ⟨N, 4 * k + 2, none⟩ = some (.int .u8 (Y b2)) ∧ w1.cell? ⟨N, 4 * k + 3, none⟩ = some (.int .u8 (Y b3))) (go_keep) (fail)
        go_wp2
        go_roundw
        case rel =>
          clear hQ
          refine ⟨k + 1, by omega, by go_num, ?_, ?_, ?_, ?_⟩
          · exact (hr0.drew).other (by simp) _
          · exact (hr1.drew).other (by simp) _
          · rw [word_U]
            have hs := hr2.drew.set k (.int .u32 (U (word b0 b1 b2 b3)))
            rw [u32s_set, fill_set _ _ _ 64 k (wordsOf_length p k) (by omega)] at hs
            have e : word b0 b1 b2 b3 = wordAt p k := by rw [HB0.out, HB1.out, HB2.out, HB3.out]; rfl
            rw [e] at hs ⊢
            exact hs
          · exact hbel.drew.setCell (by simp) _
        case measure => simp [intOf]; omega
      · obtain rfl : k = 16 := by omega
        go_wp2
        go_step3
        simp only [Exit.then]
        rename_i K hK
        refine hK _ _ ?_
        subst hQ
        subst hN
        exact HP.out _ _ (schedJ_mk p w _ 16 ⟨by omega, by omega, hr2, hr1, hbel⟩)
  case pass =>
    intro a wr hJ
    obtain ⟨i, u, rfl, hi, hi2, hb2, hb1, hbel⟩ := hJ

    generalize hN : w.heap.size = N at *
    by_cases hlt : i < 64
    · have i0 : (0 : Int) ≤ (i : Int) := by omega
      have i1 : (i : Int) < 64 := by omega
      obtain ⟨j2, j2a, j2b, j2c⟩ := idx_sub i 2 64 2 64 rfl rfl (by omega) hlt (by omega)
      obtain ⟨j15, j15a, j15b, j15c⟩ := idx_sub i 15 64 15 64 rfl rfl (by omega) hlt (by omega)
      obtain ⟨j7, j7a, j7b, j7c⟩ := idx_sub i 7 64 7 64 rfl rfl (by omega) hlt (by omega)
      obtain ⟨j16, j16a, j16b, j16c⟩ := idx_sub i 16 64 16 64 rfl rfl (by omega) hlt (by omega)
      have len : (sched p (i - 16) ++ List.replicate (64 - i) 0).length = 64 := by simp [sched_length]; omega
      have c2 := hb2.cell (i - 2); rw [u32s_get _ (i - 2) (by omega)] at c2
      have c15 := hb2.cell (i - 15); rw [u32s_get _ (i - 15) (by omega)] at c15
      have c7 := hb2.cell (i - 7); rw [u32s_get _ (i - 7) (by omega)] at c7
      have c16 := hb2.cell (i - 16); rw [u32s_get _ (i - 16) (by omega)] at c16
      have c0 := hb2.cell i; rw [u32s_get _ i (by omega)] at c0
      have f0 := hb2.frozen i
      obtain ⟨x2, hx2⟩ : ∃ x, x = (sched p (i - 16) ++ List.replicate (64 - i) 0).getD (i - 2) 0 := ⟨_, rfl⟩
      obtain ⟨x15, hx15⟩ : ∃ x, x = (sched p (i - 16) ++ List.replicate (64 - i) 0).getD (i - 15) 0 := ⟨_, rfl⟩
      obtain ⟨x7, hx7⟩ : ∃ x, x = (sched p (i - 16) ++ List.replicate (64 - i) 0).getD (i - 7) 0 := ⟨_, rfl⟩
      obtain ⟨x16, hx16⟩ : ∃ x, x = (sched p (i - 16) ++ List.replicate (64 - i) 0).getD (i - 16) 0 := ⟨_, rfl⟩
      obtain ⟨x0, hx0⟩ : ∃ x, x = (sched p (i - 16) ++ List.replicate (64 - i) 0).getD i 0 := ⟨_, rfl⟩
      rw [← hx2] at c2; rw [← hx15] at c15; rw [← hx7] at c7; rw [← hx16] at c16; rw [← hx0] at c0
      clear hx0 len
      have HX2 : Hid (x2 = _) := hx2; have HX15 : Hid (x15 = _) := hx15; have HX7 : Hid (x7 = _) := hx7; have HX16 : Hid (x16 = _) := hx16
      clear hx2 hx15 hx7 hx16
      have HC7 : Hid (wr.cell? ⟨N + 2, i - 7, none⟩ = _) := c7
      have HC16 : Hid (wr.cell? ⟨N + 2, i - 16, none⟩ = _) := c16
      have HC0 : Hid (wr.cell? ⟨N + 2, i, none⟩ = _) := c0
      have HF0 : Hid (wr.frozen? ⟨N + 2, i, none⟩ = _) := f0
      clear c7 c16 c0 f0
      go_hide hQ
      go_wp2
      go_quiet (fail)
      clear c2 c15 j2 j2a j2b j2c j15 j15a j15b j15c
      have a1 := U_xor
      have a2 := U_shr10
      have a3 := U_shr3
      have a4 := U_addw
      have a5 : ((ror x2 17 ^^^ ror x2 19) ^^^ (x2 >>> 10)) = s1 x2 := rfl
      have a6 : ((ror x15 7 ^^^ ror x15 18) ^^^ (x15 >>> 3)) = s0 x15 := rfl
      go_wp2_with fail
      refine (rot_17 _ _).mono ?_
      rintro e w' ⟨rfl, rfl⟩
      go_wp2_with fail
      refine (rot_19 _ _).mono ?_
      rintro e w' ⟨rfl, rfl⟩
      go_wp2_with fail
      refine (rot_7 _ _).mono ?_
      rintro e w' ⟨rfl, rfl⟩
      go_wp2_with fail
      refine (rot_18 _ _).mono ?_
      rintro e w' ⟨rfl, rfl⟩
      go_wp2_with fail
      have c7 := HC7.out
      have c16 := HC16.out
      have c0 := HC0.out
      have f0 := HF0.out
      have k7 : (7 : Int) ≤ (i : Int) := by omega
      have k16 : (16 : Int) ≤ (i : Int) := by omega
      have l7 : (i : Int) < 71 := by omega
      have l16 : (i : Int) < 80 := by omega
      go_region_held3 (fun w1 => w1.cell? ⟨N + 2, i - 7, none⟩ = some (.int .u32 (U x7)) ∧ w1.cell? ⟨N + 2, i - 16, none⟩ = some (.int .u32 (U x16))) (first | exact ⟨c7, c16⟩ | (refine ⟨cell_kept ?_ c7, cell_kept ?_ c16⟩ <;> omega)) (fail)
      go_wp2
      go_step3
      simp only [Exit.then]
      subst hQ
      refine ⟨rfl, schedJ_mk p w _ (i + 1) ?_, ?_⟩
      · refine ⟨by omega, by omega, ?_, (hb1.drewN _).other (by simp) _, (below_drewN hbel _).setCell (by simp) _⟩
        have hs := (hb2.drewN (nq + 1)).set i (.int .u32 (U (s1 x2 + x7 + s0 x15 + x16)))
        rw [u32s_set, fill_set _ _ _ 64 i (by rw [sched_length]; omega) hlt] at hs
        rw [show i + 1 - 16 = (i - 16) + 1 by omega, sched]
        have g : ∀ j, j < i → (sched p (i - 16) ++ List.replicate (64 - i) 0).getD j 0 = (sched p (i - 16)).getD j 0 := by
          intro j hj
          rw [List.getD_eq_getElem?_getD, List.getElem?_append_left (by rw [sched_length]; omega), ← List.getD_eq_getElem?_getD]
        have e2 := HX2.out; have e7 := HX7.out; have e15 := HX15.out; have e16 := HX16.out
        rw [g _ (by omega)] at e2 e7 e15 e16
        rw [show i - 16 + 14 = i - 2 by omega, show i - 16 + 9 = i - 7 by omega, show i - 16 + 1 = i - 15 by omega, ← e2, ← e7, ← e15, ← e16]
        exact hs
      · simp [intOf]; omega
    · obtain rfl : i = 64 := by omega
      have info : (Tryd.prog.info? 117).map (·.size) = some 64 := by kernel_rfl
      have hb3 : Blk wr (N + 2) (u32s (sched p 48)) := by simpa using hb2
      clear hb2
      obtain ⟨t2, hg2⟩ := hb3
      obtain ⟨t1, hg1⟩ := hb1
      have hl2 : (u32s (sched p 48)).toArray.size = 64 := by simp [sched_length]
      have hl1 : (u32s (List.replicate 64 0)).toArray.size = 64 := by simp
      have Hg2 : Hid (wr.heap[N + 2]? = _) := hg2
      have Hg1 : Hid (wr.heap[N + 1]? = _) := hg1
      have Hl2 : Hid (_ = 64) := hl2
      have Hl1 : Hid (_ = 64) := hl1
      have Hi : Hid (_ = some 64) := info
      clear hg2 hg1 hl2 hl1 info
      go_hide hQ
      go_wp2_with (first
        | (refine wpList_load_row rfl 117 _ rfl (N + 2) rfl t2 _ _ _ Hg2.out Tryd.underlying117 rfl (Hi.out.trans (congrArg some Hl2.out.symm)) ?_)
        | (refine wpList_store_row rfl 117 _ _ rfl (N + 1) _ rfl rfl t1 _ Hg1.out (Hi.out.trans (congrArg some Hl2.out.symm)) (Hl1.out.trans Hl2.out.symm) (u32s_one _) ?_))
      subst hQ
      refine jump_ret ?_
      refine bodyPost_ret (v := .agg (u32s (sched p 48)).toArray) ?_ rfl ⟨rfl, ?_⟩
      · have hb : Blk (wr.setRow (N + 1) (u32s (sched p 48)).toArray) (N + 1) (u32s (sched p 48)) := Blk.row (ds := u32s (sched p 48)) ⟨t1, Hg1.out⟩
        obtain ⟨t, hb⟩ := hb
        exact results_cell_row Tryd.results67 _ _ (N + 1) t _ _ _ rfl hb Tryd.underlying117 rfl (Hi.out.trans (congrArg some Hl2.out.symm))
      · subst hN
        exact below_setRow hbel (by omega) _
end Go.Proofs.YtlapnnkahijikaaDoor
namespace Go.Proofs.YtlapnnkahijikaaDoor
theorem U_add5 (a b c d e : BitVec 32) : (U a + U b + U c + U d + U e) % 4294967296 = U ((((a + b) + c) + d) + e) := by
  unfold U; simp only [BitVec.toNat_add]; omega
theorem U_add6 (a b c d e f : BitVec 32) : (U a + U b + U c + U d + U e + U f) % 4294967296 = U (((((a + b) + c) + d) + e) + f) := by
  unfold U; simp only [BitVec.toNat_add]; omega
end Go.Proofs.YtlapnnkahijikaaDoor
namespace Go.Proofs.YtlapnnkahijikaaDoor
open Go.ChangeShapes Go.WideShapes Go.ChangeAt Go.RowKit

/-- The round words lie where the program lays them. -/
def Kw (w : World) : Prop := ∀ i, i < 64 → w.cell? ⟨0, i, none⟩ = some (.int .u32 (U (Ks.getD i 0)))
theorem Kw.pos {w : World} (h : Kw w) : 0 < w.heap.size := World.block_lt_of_cell? w _ (h 0 (by omega))
theorem Kw.below {w w' : World} {B : Nat} (h : Kw w) (hb : Below B w w') (hB : 0 < B) : Kw w' := fun i hi => by
  rw [hb.cell (p := ⟨0, i, none⟩) hB]; exact h i hi

def zeros8 : List (BitVec 32) := List.replicate 8 0
def mixJ (s : St) (p : List (BitVec 8)) (w : World) (N : Nat) (a : Act) (wr : World) : Prop :=
  ∃ (i M : Nat) (x0 x1 x2 x3 x4 x5 x6 x7 : BitVec 32), ∃ u : Nat → Value, a = ({ tmps := #[.agg (u32s s.list).toArray, .agg (u8s p).toArray, .pointer (some ⟨N, 0, none⟩), .pointer (some ⟨N + 1, 0, none⟩), .pointer (some ⟨N + 2, 0, none⟩), .pointer (some ⟨M, 0, none⟩), .int .u32 (U x0), .int .u32 (U x1), .int .u32 (U x2), .int .u32 (U x3), .int .u32 (U x4), .int .u32 (U x5), .int .u32 (U x6), .int .u32 (U x7), .int .i64 (i : Int), u 15, u 16, u 17, u 18, u 19, u 20, u 21, u 22, u 23, u 24, u 25, u 26, u 27, u 28, u 29, u 30, u 31, u 32, u 33, u 34, u 35, u 36, u 37, u 38, u 39, u 40, u 41, u 42, u 43, u 44, u 45, u 46, u 47, u 48, u 49, u 50, u 51, u 52, u 53, u 54, u 55, u 56, u 57, u 58, u 59, u 60, u 61, u 62, u 63, u 64, u 65, u 66, u 67, u 68, u 69, u 70, u 71, u 72, u 73, u 74, u 75, u 76, u 77, u 78, u 79, u 80, u 81, u 82, u 83, u 84, u 85, u 86, u 87, u 88, u 89, u 90, u 91, u 92, u 93, u 94, u 95, u 96, u 97, u 98, u 99, u 100, u 101, u 102, u 103, u 104, u 105, u 106, u 107, u 108, u 109, u 110, u 111, u 112, u 113, u 114, u 115, u 116, u 117, u 118, u 119, u 120, u 121, u 122, u 123, u 124, u 125, u 126, u 127, u 128, u 129, u 130, u 131, u 132, u 133, u 134, u 135, u 136], defers := [] } : Act) ∧ i ≤ 64 ∧ N + 2 < M ∧ Blk wr M (u32s (sched p 48)) ∧ Blk wr N (u32s s.list) ∧ Blk wr (N + 2) (u32s zeros8) ∧ Below N w wr ∧ Hid (St.mk x0 x1 x2 x3 x4 x5 x6 x7 = steps p s i)
theorem mixJ_mk (s : St) (p : List (BitVec 8)) (w : World) (N : Nat) {wr : World} (i M : Nat) (x0 x1 x2 x3 x4 x5 x6 x7 : BitVec 32) {u15 u16 u17 u18 u19 u20 u21 u22 u23 u24 u25 u26 u27 u28 u29 u30 u31 u32 u33 u34 u35 u36 u37 u38 u39 u40 u41 u42 u43 u44 u45 u46 u47 u48 u49 u50 u51 u52 u53 u54 u55 u56 u57 u58 u59 u60 u61 u62 u63 u64 u65 u66 u67 u68 u69 u70 u71 u72 u73 u74 u75 u76 u77 u78 u79 u80 u81 u82 u83 u84 u85 u86 u87 u88 u89 u90 u91 u92 u93 u94 u95 u96 u97 u98 u99 u100 u101 u102 u103 u104 u105 u106 u107 u108 u109 u110 u111 u112 u113 u114 u115 u116 u117 u118 u119 u120 u121 u122 u123 u124 u125 u126 u127 u128 u129 u130 u131 u132 u133 u134 u135 u136 : Value} (h : i ≤ 64 ∧ N + 2 < M ∧ Blk wr M (u32s (sched p 48)) ∧ Blk wr N (u32s s.list) ∧ Blk wr (N + 2) (u32s zeros8) ∧ Below N w wr ∧ Hid (St.mk x0 x1 x2 x3 x4 x5 x6 x7 = steps p s i)) : mixJ s p w N ({ tmps := #[.agg (u32s s.list).toArray, .agg (u8s p).toArray, .pointer (some ⟨N, 0, none⟩), .pointer (some ⟨N + 1, 0, none⟩), .pointer (some ⟨N + 2, 0, none⟩), .pointer (some ⟨M, 0, none⟩), .int .u32 (U x0), .int .u32 (U x1), .int .u32 (U x2), .int .u32 (U x3), .int .u32 (U x4), .int .u32 (U x5), .int .u32 (U x6), .int .u32 (U x7), .int .i64 (i : Int), u15, u16, u17, u18, u19, u20, u21, u22, u23, u24, u25, u26, u27, u28, u29, u30, u31, u32, u33, u34, u35, u36, u37, u38, u39, u40, u41, u42, u43, u44, u45, u46, u47, u48, u49, u50, u51, u52, u53, u54, u55, u56, u57, u58, u59, u60, u61, u62, u63, u64, u65, u66, u67, u68, u69, u70, u71, u72, u73, u74, u75, u76, u77, u78, u79, u80, u81, u82, u83, u84, u85, u86, u87, u88, u89, u90, u91, u92, u93, u94, u95, u96, u97, u98, u99, u100, u101, u102, u103, u104, u105, u106, u107, u108, u109, u110, u111, u112, u113, u114, u115, u116, u117, u118, u119, u120, u121, u122, u123, u124, u125, u126, u127, u128, u129, u130, u131, u132, u133, u134, u135, u136], defers := [] } : Act) wr :=
  ⟨i, M, x0, x1, x2, x3, x4, x5, x6, x7, fun n => (#[undef, undef, undef, undef, undef, undef, undef, undef, undef, undef, undef, undef, undef, undef, undef, u15, u16, u17, u18, u19, u20, u21, u22, u23, u24, u25, u26, u27, u28, u29, u30, u31, u32, u33, u34, u35, u36, u37, u38, u39, u40, u41, u42, u43, u44, u45, u46, u47, u48, u49, u50, u51, u52, u53, u54, u55, u56, u57, u58, u59, u60, u61, u62, u63, u64, u65, u66, u67, u68, u69, u70, u71, u72, u73, u74, u75, u76, u77, u78, u79, u80, u81, u82, u83, u84, u85, u86, u87, u88, u89, u90, u91, u92, u93, u94, u95, u96, u97, u98, u99, u100, u101, u102, u103, u104, u105, u106, u107, u108, u109, u110, u111, u112, u113, u114, u115, u116, u117, u118, u119, u120, u121, u122, u123, u124, u125, u126, u127, u128, u129, u130, u131, u132, u133, u134, u135, u136] : Array Value).getD n undef, rfl, h⟩

set_option maxRecDepth 100000 in
set_option maxHeartbeats 4000000 in
theorem mix_any (s : St) (p : List (BitVec 8)) (hp : p.length = 64) (w : World) (hK : Kw w) :
    Calls Tryd.prog 60 #[.agg (u32s s.list).toArray, .agg (u8s p).toArray] w fun e w' => e = .returned (.agg (u32s (mix s p).list).toArray) ∧ Below w.heap.size w w' := by
  have HK : Hid (Kw w) := hK
  clear hK
  go_enter Tryd.func60, Tryd.ntmps60
  go_wp2
  refine wp_scope_rounds 0 (mixJ s p w w.heap.size) (fun a _ => 64 - (intOf (a.tmps.getD 14 undef)).toNat) rfl ?pass ?first
  case first =>
    intro hpass
    have HP : Hid _ := hpass
    clear hpass
    go_hide hQ
    generalize hw1 : World.alloc (World.alloc (World.alloc w _) _) _ = w1
    have hz1 : w1.heap.size = w.heap.size + 3 := by rw [← hw1]; simp
    have hp0 : Blk w1 w.heap.size (u32s s.list) := by rw [← hw1]; exact ((Blk.new _ _ _).alloc _).alloc _
    have hp1 : Blk w1 (w.heap.size + 1) (u8s p) := by rw [← hw1]; exact (Blk.mk _ _ _ (by simp) rfl).alloc _
    have hp2 : Blk w1 (w.heap.size + 2) (u32s zeros8) := by rw [← hw1]; exact Blk.mk _ _ _ (by simp) rfl
    have hbel1 : Below w.heap.size w w1 := by rw [← hw1]; exact (((Below.refl _ _).alloc (Nat.le_refl _) _).alloc (by simp) _).alloc (by simp; omega) _
    clear hw1
    have info44 : (Tryd.prog.info? 94).map (·.size) = some (u8s p).toArray.size := by
      rw [show (u8s p).toArray.size = 64 by simp [hp]]; kernel_rfl
    have info60 : (Tryd.prog.info? 117).map (·.size) = some (u32s (sched p 48)).toArray.size := by
      rw [show (u32s (sched p 48)).toArray.size = 64 by simp [sched_length]]; kernel_rfl
    have I44 : Hid (_ = some _) := info44
    have I60 : Hid (_ = some _) := info60
    clear info44 info60
    obtain ⟨t1, hg1⟩ := hp1
    have Hg1 : Hid (w1.heap[w.heap.size + 1]? = _) := hg1
    clear hg1
    go_wp2_with (refine wpList_load_row rfl 94 _ rfl (w.heap.size + 1) rfl t1 _ _ _ Hg1.out Tryd.underlying94 rfl I44.out ?_)
    refine (sched_any p hp _).mono ?_
    rintro e w2 ⟨rfl, hbel2⟩
    have hs2 := hbel2.size
    have hq0 : Blk w2 w.heap.size (u32s s.list) := hp0.below hbel2 (by omega)
    have hq2 : Blk w2 (w.heap.size + 2) (u32s zeros8) := hp2.below hbel2 (by omega)
    have hbelw : Below w.heap.size w w2 := hbel1.trans (hbel2.mono (by omega))
    clear hp0 hp2 hbel1
    have hw60 : (u32s (List.replicate 64 0)).toArray.size = (u32s (sched p 48)).toArray.size := by simp [sched_length]
    have H60 : Hid (_ = _) := hw60
    clear hw60
    go_wp2_with (refine wpList_store_row rfl 117 _ _ rfl w2.heap.size (u32s (sched p 48)).toArray rfl rfl 117 (u32s (List.replicate 64 0)).toArray (heap_alloc_new _ _) I60.out H60.out (u32s_one _) ?_)
    generalize hw3 : World.setRow _ _ _ = w3
    have hr0 : Blk w3 w.heap.size (u32s s.list) := by rw [← hw3]; exact (hq0.alloc _).otherRow (by omega) _
    have hr2 : Blk w3 (w.heap.size + 2) (u32s zeros8) := by rw [← hw3]; exact (hq2.alloc _).otherRow (by omega) _
    have hrM : Blk w3 w2.heap.size (u32s (sched p 48)) := by rw [← hw3]; exact (Blk.new w2 _ _).row
    have hbel3 : Below w.heap.size w w3 := by rw [← hw3]; exact below_setRow (hbelw.alloc (by omega) _) (by omega) _
    have hM : w.heap.size + 2 < w2.heap.size := by omega
    clear hw3 hq0 hq2 hbelw hbel2 hs2
    have c0 : w3.cell? ⟨w.heap.size, 0, none⟩ = some (.int .u32 (U s.a)) := hr0.cell 0
    have c1 : w3.cell? ⟨w.heap.size, 1, none⟩ = some (.int .u32 (U s.b)) := hr0.cell 1
    have c2 : w3.cell? ⟨w.heap.size, 2, none⟩ = some (.int .u32 (U s.c)) := hr0.cell 2
    have c3 : w3.cell? ⟨w.heap.size, 3, none⟩ = some (.int .u32 (U s.d)) := hr0.cell 3
    have c4 : w3.cell? ⟨w.heap.size, 4, none⟩ = some (.int .u32 (U s.e)) := hr0.cell 4
    have c5 : w3.cell? ⟨w.heap.size, 5, none⟩ = some (.int .u32 (U s.f)) := hr0.cell 5
    have c6 : w3.cell? ⟨w.heap.size, 6, none⟩ = some (.int .u32 (U s.g)) := hr0.cell 6
    have c7 : w3.cell? ⟨w.heap.size, 7, none⟩ = some (.int .u32 (U s.h)) := hr0.cell 7
    go_quiet (fail)
    clear c0 c1 c2 c3 c4 c5 c6 c7
    go_wp2_with fail
    go_step3
    simp only [Exit.then]
    rename_i K hK
    refine hK _ _ ?_
    subst hQ
    exact HP.out _ _ (mixJ_mk s p w _ 0 w2.heap.size s.a s.b s.c s.d s.e s.f s.g s.h ⟨by omega, hM, hrM.drewN _, hr0.drewN _, hr2.drewN _, below_drewN hbel3 _, rfl⟩)
  case pass =>
    intro a wr hJ
    obtain ⟨i, M, a, b, c, d, e, f, g, h, u, rfl, hi, hM, hbM, hb0, hb2, hbel, HST⟩ := hJ
    generalize hN : w.heap.size = N at *
    by_cases hlt : i < 64
    · have i0 : (0 : Int) ≤ (i : Int) := by omega
      have i1 : (i : Int) < 64 := by omega
      have cK : wr.cell? ⟨0, i, none⟩ = some (.int .u32 (U (Ks.getD i 0))) := (HK.out.below hbel (by rw [← hN]; exact HK.out.pos)) i hlt
      have cW := hbM.cell i
      rw [u32s_get _ i (by rw [sched_length]; omega)] at cW
      obtain ⟨kk, hkk⟩ : ∃ x, x = Ks.getD i 0 := ⟨_, rfl⟩
      obtain ⟨ww, hww⟩ : ∃ x, x = (sched p 48).getD i 0 := ⟨_, rfl⟩
      rw [← hkk] at cK
      rw [← hww] at cW
      have HKK : Hid (kk = _) := hkk
      have HWW : Hid (ww = _) := hww
      clear hkk hww
      go_hide hQ
      go_wp2_with fail
      refine (rot_6 _ _).mono ?_
      rintro e w' ⟨rfl, rfl⟩
      go_wp2_with fail
      refine (rot_11 _ _).mono ?_
      rintro e w' ⟨rfl, rfl⟩
      go_wp2_with fail
      refine (rot_25 _ _).mono ?_
      rintro e w' ⟨rfl, rfl⟩
      go_wp2_with fail
      rw [S1_U, Ch_U]
      go_quiet (fail)
      go_wp2_with fail
      refine (rot_2 _ _).mono ?_
      rintro e w' ⟨rfl, rfl⟩
      go_wp2_with fail
      refine (rot_13 _ _).mono ?_
      rintro e w' ⟨rfl, rfl⟩
      go_wp2_with fail
      refine (rot_22 _ _).mono ?_
      rintro e w' ⟨rfl, rfl⟩
      go_wp2_with fail
      go_step3
      rw [S0_U, Maj_U]
      simp only [Exit.then]
      subst hQ
      rw [U_add5, U_add6, U_add, U_add]
      refine ⟨rfl, mixJ_mk s p w N (i + 1) M _ _ _ _ _ _ _ _ ⟨by omega, hM, hbM.drewN _, hb0.drewN _, hb2.drewN _, below_drewN hbel _, ?_⟩, ?_⟩
      · show Hid (_ = step (steps p s i) (Ks.getD i 0) (W p i))
        rw [← HST.out]
        show Hid (_ = step _ (Ks.getD i 0) ((sched p 48).getD i 0))
        rw [← HKK.out, ← HWW.out]
        rfl
      · simp [intOf]; omega
    · obtain rfl : i = 64 := by omega
      have info41 : ∃ a, Tryd.prog.info? 93 = some a ∧ a.size = 8 := by
        have h : (Tryd.prog.info? 93).map (·.size) = some 8 := by kernel_rfl
        simpa using h
      have Hi : Hid (∃ a, Tryd.prog.info? 93 = some a ∧ a.size = 8) := info41
      clear info41
      have c0 : wr.cell? ⟨N, 0, none⟩ = some (.int .u32 (U s.a)) := hb0.cell 0
      have c1 : wr.cell? ⟨N, 1, none⟩ = some (.int .u32 (U s.b)) := hb0.cell 1
      have c2 : wr.cell? ⟨N, 2, none⟩ = some (.int .u32 (U s.c)) := hb0.cell 2
      have c3 : wr.cell? ⟨N, 3, none⟩ = some (.int .u32 (U s.d)) := hb0.cell 3
      have c4 : wr.cell? ⟨N, 4, none⟩ = some (.int .u32 (U s.e)) := hb0.cell 4
      have c5 : wr.cell? ⟨N, 5, none⟩ = some (.int .u32 (U s.f)) := hb0.cell 5
      have c6 : wr.cell? ⟨N, 6, none⟩ = some (.int .u32 (U s.g)) := hb0.cell 6
      have c7 : wr.cell? ⟨N, 7, none⟩ = some (.int .u32 (U s.h)) := hb0.cell 7
      obtain ⟨t2, hg2⟩ := hb2
      have Hg2 : Hid (wr.heap[N + 2]? = _) := hg2
      clear hg2 hb0 hbM
      go_hide hQ
      go_wp2_with (refine wpList_store_row rfl 93 _ _ rfl (N + 2) _ rfl rfl t2 _ Hg2.out ?h1 ?h2 ?h3 ?_)
      case h1 => exact Hi.out
      case h2 => rfl
      case h3 => exact ⟨rfl, rfl, rfl, rfl, rfl, rfl, rfl, rfl⟩
      rw [U_add, U_add, U_add, U_add, U_add, U_add, U_add, U_add]
      subst hQ
      refine jump_ret ?_
      have hm : mix s p = ⟨s.a + a, s.b + b, s.c + c, s.d + d, s.e + e, s.f + f, s.g + g, s.h + h⟩ := by
        unfold mix; rw [← HST.out]; rfl
      refine bodyPost_ret (v := .agg (u32s (mix s p).list).toArray) ?_ rfl ⟨rfl, ?_⟩
      · rw [hm]
        obtain ⟨t, hb⟩ := Blk.row (ds := u32s (St.list ⟨s.a + a, s.b + b, s.c + c, s.d + d, s.e + e, s.f + f, s.g + g, s.h + h⟩)) ⟨t2, Hg2.out⟩
        exact results_cell_row Tryd.results60 _ _ (N + 2) t _ _ _ rfl hb Tryd.underlying93 rfl (by kernel_rfl)
      · subst hN
        exact below_setRow hbel (by omega) _
end Go.Proofs.YtlapnnkahijikaaDoor
