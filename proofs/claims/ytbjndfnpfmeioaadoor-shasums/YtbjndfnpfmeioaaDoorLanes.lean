/- Many words in one great number, a lane of 64 bits each: what the operations on the number do to each lane. No program, no conditions. -/
import Derived.Test.YtbjndfnpfmeioaaDoorSpec
namespace Go.Proofs.YtbjndfnpfmeioaaDoor

/-- The word in lane i. -/
def lane (x i : Nat) : BitVec 32 := BitVec.ofNat 32 (x >>> (64 * i))
/-- The upper half of each lane is empty. -/
def Good (x : Nat) : Prop := ∀ j, x.testBit j = true → j % 64 < 32
theorem Good.no {x j : Nat} (h : Good x) (hj : 32 ≤ j % 64) : x.testBit j = false := by
  cases e : x.testBit j with
  | false => rfl
  | true => exact absurd (h j e) (by omega)
theorem lane_bit (x i j : Nat) (hj : j < 32) : (lane x i).getLsbD j = x.testBit (64 * i + j) := by
  unfold lane; rw [BitVec.getLsbD_ofNat, Nat.testBit_shiftRight]; simp [hj]
theorem lane_ext {a : BitVec 32} {x i : Nat} (h : ∀ j, j < 32 → a.getLsbD j = x.testBit (64 * i + j)) : lane x i = a :=
  BitVec.eq_of_getLsbD_eq fun j hj => by rw [lane_bit x i j hj, h j hj]

/-- One number a lane. -/
def pk (f : Nat → Nat) : Nat → Nat
  | 0 => 0
  | n + 1 => 2 ^ (64 * n) * f n + pk f n
theorem pk_lt (f : Nat → Nat) (hf : ∀ i, f i < 2 ^ 32) : ∀ n, pk f n < 2 ^ (64 * n)
  | 0 => by simp [pk]
  | n + 1 => by
    have h := pk_lt f hf n
    have h2 := hf n
    rw [pk, show 64 * (n + 1) = 64 * n + 64 by omega, Nat.pow_add]
    have h3 : 2 ^ (64 * n) * f n ≤ 2 ^ (64 * n) * (2 ^ 64 - 1) := Nat.mul_le_mul_left _ (by omega)
    have h4 : 2 ^ (64 * n) * (2 ^ 64 - 1) + 2 ^ (64 * n) = 2 ^ (64 * n) * 2 ^ 64 := by rw [← Nat.mul_succ]
    omega
theorem pk_bit (f : Nat → Nat) (hf : ∀ i, f i < 2 ^ 32) : ∀ n j, (pk f n).testBit j = (decide (j / 64 < n) && (f (j / 64)).testBit (j % 64))
  | 0, j => by simp [pk]
  | n + 1, j => by
    rw [pk, Nat.testBit_two_pow_mul_add _ (pk_lt f hf n)]
    by_cases h : j < 64 * n
    · rw [if_pos h, pk_bit f hf n j]
      have h1 : j / 64 < n := by omega
      have h2 : j / 64 < n + 1 := by omega
      simp [h1, h2]
    · rw [if_neg h]
      by_cases h2 : j / 64 = n
      · have h3 : j - 64 * n = j % 64 := by omega
        rw [h3, h2]; simp
      · have h3 : ¬ j / 64 < n + 1 := by omega
        rw [Nat.testBit_lt_two_pow (Nat.lt_of_lt_of_le (hf n) (Nat.pow_le_pow_right (by omega) (by omega : 32 ≤ j - 64 * n)))]
        simp [h3]
theorem pk_good (f : Nat → Nat) (hf : ∀ i, f i < 2 ^ 32) (n : Nat) : Good (pk f n) := fun j hj => by
  rw [pk_bit f hf] at hj
  simp only [Bool.and_eq_true] at hj
  cases Nat.lt_or_ge (j % 64) 32 with
  | inl h => exact h
  | inr h =>
    have := Nat.testBit_lt_two_pow (Nat.lt_of_lt_of_le (hf (j / 64)) (Nat.pow_le_pow_right (by omega) h))
    rw [this] at hj; exact absurd hj.2 (by simp)
theorem pk_lane (f : Nat → Nat) (hf : ∀ i, f i < 2 ^ 32) (n i : Nat) (hi : i < n) : lane (pk f n) i = BitVec.ofNat 32 (f i) := lane_ext fun j hj => by
  rw [pk_bit f hf, show (64 * i + j) / 64 = i by omega, show (64 * i + j) % 64 = j by omega]
  rw [BitVec.getLsbD_ofNat]; simp [hj, hi]
theorem pk_mul (c : Nat) : ∀ n, c * pk (fun _ => 1) n = pk (fun _ => c) n
  | 0 => by simp [pk]
  | n + 1 => by
    rw [pk, pk, ← pk_mul c n, Nat.mul_add, Nat.mul_one, Nat.mul_comm c]

def ones : Nat := pk (fun _ => 1) 256
def mask : Nat := pk (fun _ => 4294967295) 256
def fills : Nat := pk (fun i => i % 256) 256
/-- One word in all lanes. -/
def rep (c : Nat) : Nat := Nat.mul c ones
theorem rep_pk (c : Nat) : rep c = pk (fun _ => c) 256 := pk_mul c 256
theorem rep_good (c : Nat) (h : c < 2 ^ 32) : Good (rep c) := by rw [rep_pk]; exact pk_good _ (fun _ => h) _
theorem rep_lane (c i : Nat) (h : c < 2 ^ 32) (hi : i < 256) : lane (rep c) i = BitVec.ofNat 32 c := by rw [rep_pk]; exact pk_lane _ (fun _ => h) _ _ hi
theorem mask_bit (j : Nat) : mask.testBit j = (decide (j < 16384) && decide (j % 64 < 32)) := by
  unfold mask
  rw [pk_bit _ (fun _ => by decide), show (4294967295 : Nat) = 2 ^ 32 - 1 from rfl, Nat.testBit_two_pow_sub_one]
  have : (j / 64 < 256) ↔ j < 16384 := by omega
  simp [this]
theorem fills_good : Good fills := pk_good _ (fun i => by show i % 256 < 4294967296; omega) _
theorem fills_lane (i : Nat) (hi : i < 256) : lane fills i = BitVec.ofNat 32 i := by
  unfold fills; rw [pk_lane _ (fun i => by show i % 256 < 4294967296; omega) _ _ hi, Nat.mod_eq_of_lt hi]

def maskL (x : Nat) : Nat := Nat.land x mask
theorem masked_good (x : Nat) : Good (maskL x) := fun j hj => by
  have : (x &&& mask).testBit j = true := hj
  rw [Nat.testBit_and, mask_bit] at this
  simp at this; exact this.2.2
theorem masked_lane (x i : Nat) (hi : i < 256) : lane (maskL x) i = lane x i := lane_ext fun j hj => by
  show _ = (x &&& mask).testBit _
  have h1 : 64 * i + j < 16384 := by omega
  have h2 : (64 * i + j) % 64 < 32 := by omega
  rw [lane_bit x i j hj, Nat.testBit_and, mask_bit, decide_eq_true h1, decide_eq_true h2]; simp

theorem and_good {x y : Nat} (hx : Good x) : Good (Nat.land x y) := fun j hj => by
  have : (x &&& y).testBit j = true := hj
  rw [Nat.testBit_and] at this; simp at this; exact hx j this.1
theorem or_good {x y : Nat} (hx : Good x) (hy : Good y) : Good (Nat.lor x y) := fun j hj => by
  have : (x ||| y).testBit j = true := hj
  rw [Nat.testBit_or] at this; simp at this; exact this.elim (hx j) (hy j)
theorem xor_good {x y : Nat} (hx : Good x) (hy : Good y) : Good (Nat.xor x y) := fun j hj => by
  have : (x ^^^ y).testBit j = true := hj
  rw [Nat.testBit_xor] at this
  cases e : x.testBit j with
  | true => exact hx j e
  | false => rw [e] at this; simp at this; exact hy j this
theorem and_lane (x y i : Nat) : lane (Nat.land x y) i = lane x i &&& lane y i := lane_ext fun j hj => by
  show _ = (x &&& y).testBit _
  rw [BitVec.getLsbD_and, lane_bit _ _ _ hj, lane_bit _ _ _ hj, Nat.testBit_and]
theorem or_lane (x y i : Nat) : lane (Nat.lor x y) i = lane x i ||| lane y i := lane_ext fun j hj => by
  show _ = (x ||| y).testBit _
  rw [BitVec.getLsbD_or, lane_bit _ _ _ hj, lane_bit _ _ _ hj, Nat.testBit_or]
theorem xor_lane (x y i : Nat) : lane (Nat.xor x y) i = lane x i ^^^ lane y i := lane_ext fun j hj => by
  show _ = (x ^^^ y).testBit _
  rw [BitVec.getLsbD_xor, lane_bit _ _ _ hj, lane_bit _ _ _ hj, Nat.testBit_xor]

theorem low_half {x : Nat} (h : Good x) (i : Nat) : 2 * (x % 2 ^ (64 * i)) < 2 ^ (64 * i) := by
  cases i with
  | zero => simp [Nat.mod_one]
  | succ i =>
    have h1 : x % 2 ^ (64 * (i + 1)) < 2 ^ (64 * i + 63) := by
      refine Nat.lt_pow_two_of_testBit _ fun j hj => ?_
      rw [Nat.testBit_mod_two_pow]
      by_cases h2 : j < 64 * (i + 1)
      · rw [h.no (by omega)]; simp
      · simp [h2]
    have h3 : 2 ^ (64 * (i + 1)) = 2 * 2 ^ (64 * i + 63) := by rw [show 64 * (i + 1) = (64 * i + 63) + 1 by omega, Nat.pow_succ, Nat.mul_comm]
    omega
theorem add_lane {x y : Nat} (hx : Good x) (hy : Good y) (i : Nat) : lane (Nat.add x y) i = lane x i + lane y i := by
  unfold lane
  rw [← BitVec.ofNat_add]
  congr 1
  show (x + y) >>> (64 * i) = _
  rw [Nat.shiftRight_eq_div_pow, Nat.shiftRight_eq_div_pow, Nat.shiftRight_eq_div_pow]
  have h1 := low_half hx i
  have h2 := low_half hy i
  have hp : 0 < 2 ^ (64 * i) := Nat.pow_pos (by omega)
  generalize 2 ^ (64 * i) = P at *
  have e1 := Nat.div_add_mod x P
  have e2 := Nat.div_add_mod y P
  have : x + y = P * (x / P + y / P) + (x % P + y % P) := by rw [Nat.mul_add]; omega
  rw [this, Nat.mul_add_div hp, Nat.div_eq_of_lt (a := x % P + y % P) (by omega)]; rfl

def addL (x y : Nat) : Nat := maskL (Nat.add x y)
def rorL (x k l : Nat) : Nat := maskL (Nat.lor (Nat.shiftRight x k) (Nat.shiftLeft x l))
def shrL (x k : Nat) : Nat := maskL (Nat.shiftRight x k)
theorem addL_good (x y : Nat) : Good (addL x y) := masked_good _
theorem rorL_good (x k l : Nat) : Good (rorL x k l) := masked_good _
theorem shrL_good (x k : Nat) : Good (shrL x k) := masked_good _
theorem addL_lane {x y i : Nat} (hx : Good x) (hy : Good y) (hi : i < 256) : lane (addL x y) i = lane x i + lane y i := by
  unfold addL; rw [masked_lane _ _ hi, add_lane hx hy]
theorem shrL_lane {x k i : Nat} (hx : Good x) (hk : k < 32) (hi : i < 256) : lane (shrL x k) i = lane x i >>> k := by
  unfold shrL; rw [masked_lane _ _ hi]
  refine lane_ext fun j hj => ?_
  show _ = (x >>> k).testBit _
  rw [Nat.testBit_shiftRight, BitVec.getLsbD_ushiftRight]
  by_cases h : k + j < 32
  · rw [lane_bit _ _ _ h, show k + (64 * i + j) = 64 * i + (k + j) by omega]
  · rw [hx.no (by omega), BitVec.getLsbD_of_ge _ _ (by omega)]
theorem shl_lane {x k i : Nat} (hx : Good x) (hk : k ≤ 32) : lane (Nat.shiftLeft x k) i = lane x i <<< k := by
  refine lane_ext fun j hj => ?_
  show _ = (x <<< k).testBit _
  rw [Nat.testBit_shiftLeft, BitVec.getLsbD_shiftLeft]
  by_cases h : j < k
  · simp only [h, decide_true, Bool.not_true, Bool.and_false, Bool.false_and]
    by_cases h2 : 64 * i + j ≥ k
    · rw [hx.no (by omega)]; simp
    · simp [h2]
  · rw [lane_bit _ _ _ (by omega), show 64 * i + j - k = 64 * i + (j - k) by omega]
    have h2 : 64 * i + j ≥ k := by omega
    simp [h, h2, hj]
theorem shr_lane {x k i : Nat} (hx : Good x) (hk : k < 32) : lane (Nat.shiftRight x k) i = lane x i >>> k := by
  refine lane_ext fun j hj => ?_
  show _ = (x >>> k).testBit _
  rw [Nat.testBit_shiftRight, BitVec.getLsbD_ushiftRight]
  by_cases h : k + j < 32
  · rw [lane_bit _ _ _ h, show k + (64 * i + j) = 64 * i + (k + j) by omega]
  · rw [hx.no (by omega), BitVec.getLsbD_of_ge _ _ (by omega)]
theorem rorL_lane {x k l i : Nat} (hx : Good x) (hk : k < 32) (hl : l = 32 - k) (hi : i < 256) : lane (rorL x k l) i = ror (lane x i) k := by
  subst hl
  unfold rorL ror; rw [masked_lane _ _ hi, or_lane, shr_lane hx hk, shl_lane hx (by omega)]
end Go.Proofs.YtbjndfnpfmeioaaDoor
