/- 32-bit words as bit vectors: what the model's operations on uint32 do to them, and rotations. No program, no conditions. -/
import Derived.Laws.BitsAllLaws
import Derived.WalkKit
namespace Go.Proofs.Ytbbooldhfcldbaa

theorem w32_lt (x : BitVec 32) : x.toNat < 4294967296 := x.isLt

theorem w32_xor (x y : BitVec 32) : bits .xor .u32 (x.toNat : Int) (y.toNat : Int) = ((x ^^^ y).toNat : Int) := by
  rw [u32_xor_nat _ _ x.isLt y.isLt, BitVec.toNat_xor]
theorem w32_and (x y : BitVec 32) : bits .and .u32 (x.toNat : Int) (y.toNat : Int) = ((x &&& y).toNat : Int) := by
  rw [u32_and_nat _ _ x.isLt y.isLt, BitVec.toNat_and]
theorem w32_or (x y : BitVec 32) : bits .or .u32 (x.toNat : Int) (y.toNat : Int) = ((x ||| y).toNat : Int) := by
  rw [u32_or_nat _ _ x.isLt y.isLt, BitVec.toNat_or]
theorem w32_add (x y : BitVec 32) : ((x.toNat : Int) + (y.toNat : Int)) % 4294967296 = ((x + y).toNat : Int) := by
  rw [BitVec.toNat_add]; omega
theorem w32_addw (x y : BitVec 32) : IntKind.u32.wrap ((x.toNat : Int) + (y.toNat : Int)) = ((x + y).toNat : Int) := by
  rw [IntKind.wrap_u32', w32_add]
theorem w32_not (x : BitVec 32) : bits .xor .u32 4294967295 (x.toNat : Int) = ((~~~ x).toNat : Int) := by
  have h := w32_xor (BitVec.allOnes 32) x
  rw [BitVec.allOnes_xor] at h
  exact h

theorem w32_shr (x : BitVec 32) (k : Nat) : (x.toNat : Int) / ((2 ^ k : Nat) : Int) = ((x >>> k).toNat : Int) := by
  rw [BitVec.toNat_ushiftRight, Nat.shiftRight_eq_div_pow]; exact (Int.natCast_ediv _ _).symm
theorem w32_shl (x : BitVec 32) (k : Nat) : (x.toNat : Int) * ((2 ^ k : Nat) : Int) % 4294967296 = ((x <<< k).toNat : Int) := by
  rw [BitVec.toNat_shiftLeft, Nat.shiftLeft_eq]
  rw [show (4294967296 : Int) = ((2 ^ 32 : Nat) : Int) by rfl, ← Int.natCast_mul, ← Int.natCast_emod]

/-- A word, and a byte, as a number. -/
def U (x : BitVec 32) : Int := (x.toNat : Int)
def Y (x : BitVec 8) : Int := (x.toNat : Int)
theorem U_lo (x : BitVec 32) : 0 ≤ U x := by unfold U; omega
theorem U_hi (x : BitVec 32) : U x < 4294967296 := by have := x.isLt; unfold U; omega
theorem Y_lo (x : BitVec 8) : 0 ≤ Y x := by unfold Y; omega
theorem Y_hi (x : BitVec 8) : Y x < 256 := by have := x.isLt; unfold Y; omega
theorem U_inj {x y : BitVec 32} (h : U x = U y) : x = y := by unfold U at h; exact BitVec.eq_of_toNat_eq (by omega)
theorem Y_inj {x y : BitVec 8} (h : Y x = Y y) : x = y := by unfold Y at h; exact BitVec.eq_of_toNat_eq (by omega)
theorem U_xor (x y : BitVec 32) : bits .xor .u32 (U x) (U y) = U (x ^^^ y) := w32_xor x y
theorem U_and (x y : BitVec 32) : bits .and .u32 (U x) (U y) = U (x &&& y) := w32_and x y
theorem U_or (x y : BitVec 32) : bits .or .u32 (U x) (U y) = U (x ||| y) := w32_or x y
theorem U_not (x : BitVec 32) : bits .xor .u32 4294967295 (U x) = U (~~~ x) := w32_not x
theorem U_add (x y : BitVec 32) : (U x + U y) % 4294967296 = U (x + y) := w32_add x y
theorem U_addw (x y : BitVec 32) : IntKind.u32.wrap (U x + U y) = U (x + y) := w32_addw x y
theorem U_shr10 (x : BitVec 32) : U x / (1024 : Int) = U (x >>> 10) := w32_shr x 10
theorem U_shr3 (x : BitVec 32) : U x / (8 : Int) = U (x >>> 3) := w32_shr x 3

/-- A word turned to the right. -/
def ror (x : BitVec 32) (k : Nat) : BitVec 32 := x >>> k ||| x <<< (32 - k)

theorem ror_comm (x : BitVec 32) (k : Nat) : x <<< (32 - k) ||| x >>> k = ror x k := BitVec.or_comm _ _

def Ch (e f g : BitVec 32) : BitVec 32 := (e &&& f) ^^^ (~~~ e &&& g)
def Maj (a b c : BitVec 32) : BitVec 32 := ((a &&& b) ^^^ (a &&& c)) ^^^ (b &&& c)
def S1 (e : BitVec 32) : BitVec 32 := (ror e 6 ^^^ ror e 11) ^^^ ror e 25
def S0 (a : BitVec 32) : BitVec 32 := (ror a 2 ^^^ ror a 13) ^^^ ror a 22
def s1 (x : BitVec 32) : BitVec 32 := (ror x 17 ^^^ ror x 19) ^^^ (x >>> 10)
def s0 (x : BitVec 32) : BitVec 32 := (ror x 7 ^^^ ror x 18) ^^^ (x >>> 3)

theorem U_notm (x : BitVec 32) : bits .xor .u32 IntKind.u32.max (U x) = U (~~~ x) := U_not x
theorem Ch_U (e f g : BitVec 32) : bits .xor .u32 (bits .and .u32 (U e) (U f)) (bits .and .u32 (bits .xor .u32 IntKind.u32.max (U e)) (U g)) = U (Ch e f g) := by
  rw [U_notm, U_and, U_and, U_xor]; rfl
theorem Maj_U (a b c : BitVec 32) : bits .xor .u32 (bits .xor .u32 (bits .and .u32 (U a) (U b)) (bits .and .u32 (U a) (U c))) (bits .and .u32 (U b) (U c)) = U (Maj a b c) := by
  rw [U_and, U_and, U_and, U_xor, U_xor]; rfl
theorem S1_U (e : BitVec 32) : bits .xor .u32 (bits .xor .u32 (U (ror e 6)) (U (ror e 11))) (U (ror e 25)) = U (S1 e) := by
  rw [U_xor, U_xor]; rfl
theorem S0_U (a : BitVec 32) : bits .xor .u32 (bits .xor .u32 (U (ror a 2)) (U (ror a 13))) (U (ror a 22)) = U (S0 a) := by
  rw [U_xor, U_xor]; rfl
theorem sched_U (x2 x7 x15 x16 : BitVec 32) : IntKind.u32.wrap (IntKind.u32.wrap (IntKind.u32.wrap (bits .xor .u32 (U (ror x2 17 ^^^ ror x2 19)) (U x2 / 1024) + U x7) + bits .xor .u32 (U (ror x15 7 ^^^ ror x15 18)) (U x15 / 8)) + U x16) = U (((s1 x2 + x7) + s0 x15) + x16) := by
  rw [U_shr10, U_shr3, U_xor, U_xor, U_addw, U_addw, U_addw]; rfl
theorem Ch_other (e f g : BitVec 32) : g ^^^ (e &&& (f ^^^ g)) = Ch e f g := by
  unfold Ch
  ext i hi
  simp only [BitVec.getElem_xor, BitVec.getElem_and, BitVec.getElem_not]
  cases e[i] <;> cases f[i] <;> cases g[i] <;> rfl
theorem Maj_other (a b c : BitVec 32) : (a &&& b) ||| (c &&& (a ||| b)) = Maj a b c := by
  unfold Maj
  ext i hi
  simp only [BitVec.getElem_xor, BitVec.getElem_and, BitVec.getElem_or]
  cases a[i] <;> cases b[i] <;> cases c[i] <;> rfl

/-- Four bytes as a word, the first one greatest. -/
def word (a b c d : BitVec 8) : BitVec 32 := ((a.setWidth 32 <<< 24 ||| b.setWidth 32 <<< 16) ||| c.setWidth 32 <<< 8) ||| d.setWidth 32

theorem w8_w32 (b : BitVec 8) : (b.toNat : Int) = ((b.setWidth 32).toNat : Int) := by
  rw [BitVec.toNat_setWidth, Nat.mod_eq_of_lt (by have := b.isLt; omega)]
theorem w8_shl (b : BitVec 8) (k m : Nat) (hm : m = 2 ^ k) (hk : m ≤ 16777216) : (b.toNat : Int) * (m : Int) = ((b.setWidth 32 <<< k).toNat : Int) := by
  have hb := b.isLt
  rw [← w32_shl, ← w8_w32, ← hm]
  have : (b.toNat : Int) * (m : Int) < 4294967296 := by
    have h : b.toNat * m ≤ 255 * 16777216 := Nat.mul_le_mul (by omega) hk
    have h' : ((b.toNat * m : Nat) : Int) < 4294967296 := by omega
    rwa [Int.natCast_mul] at h'
  rw [Int.emod_eq_of_lt (Int.mul_nonneg (by omega) (by omega)) this]
theorem word_val (a b c d : BitVec 8) : bits .or .u32 (bits .or .u32 (bits .or .u32 ((a.toNat : Int) * 16777216) ((b.toNat : Int) * 65536)) ((c.toNat : Int) * 256)) (d.toNat : Int) = ((word a b c d).toNat : Int) := by
  have h1 := w8_shl a 24 16777216 rfl (by omega)
  have h2 := w8_shl b 16 65536 rfl (by omega)
  have h3 := w8_shl c 8 256 rfl (by omega)
  have h1' : (a.toNat : Int) * 16777216 = _ := h1
  have h2' : (b.toNat : Int) * 65536 = _ := h2
  have h3' : (c.toNat : Int) * 256 = _ := h3
  rw [h1', h2', h3', w8_w32 d, w32_or, w32_or, w32_or]; rfl

theorem word_U (a b c d : BitVec 8) : bits .or .u32 (bits .or .u32 (bits .or .u32 (Y a * 16777216) (Y b * 65536)) (Y c * 256)) (Y d) = U (word a b c d) := word_val a b c d

theorem fill_set {α : Type} (l : List α) (z x : α) (n k : Nat) (hl : l.length = k) (hk : k < n) : (l ++ List.replicate (n - k) z).set k x = (l ++ [x]) ++ List.replicate (n - (k + 1)) z := by
  rw [List.set_append_right _ _ (by omega), hl, Nat.sub_self, show n - k = (n - (k + 1)) + 1 by omega, List.replicate_succ, List.set_cons_zero]
  simp
end Go.Proofs.Ytbbooldhfcldbaa
