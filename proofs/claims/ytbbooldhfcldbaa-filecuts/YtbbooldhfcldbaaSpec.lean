/- The standard's sum, in plain mathematics: the schedule, the rounds, a block, all blocks, the closing. No program, no conditions. -/
import Derived.Test.YtbbooldhfcldbaaBits
namespace Go.Proofs.Ytbbooldhfcldbaa

/-- Word i of a block of bytes. -/
def wordAt (p : List (BitVec 8)) (i : Nat) : BitVec 32 :=
  word (p.getD (4 * i) 0) (p.getD (4 * i + 1) 0) (p.getD (4 * i + 2) 0) (p.getD (4 * i + 3) 0)
def wordsOf (p : List (BitVec 8)) : Nat → List (BitVec 32)
  | 0 => []
  | k + 1 => wordsOf p k ++ [wordAt p k]
/-- The schedule's first 16 + k words. -/
def sched (p : List (BitVec 8)) : Nat → List (BitVec 32)
  | 0 => wordsOf p 16
  | k + 1 => sched p k ++ [((s1 ((sched p k).getD (k + 14) 0) + (sched p k).getD (k + 9) 0) + s0 ((sched p k).getD (k + 1) 0)) + (sched p k).getD k 0]

theorem wordsOf_length (p : List (BitVec 8)) : ∀ k, (wordsOf p k).length = k
  | 0 => rfl
  | k + 1 => by simp [wordsOf, wordsOf_length p k]
theorem sched_length (p : List (BitVec 8)) : ∀ k, (sched p k).length = 16 + k
  | 0 => wordsOf_length p 16
  | k + 1 => by simp [sched, sched_length p k]; omega
theorem wordsOf_get (p : List (BitVec 8)) : ∀ k i, i < k → (wordsOf p k).getD i 0 = wordAt p i
  | k + 1, i, h => by
    by_cases hi : i < k
    · rw [wordsOf, List.getD_eq_getElem?_getD, List.getElem?_append_left (by rw [wordsOf_length]; exact hi), ← List.getD_eq_getElem?_getD]
      exact wordsOf_get p k i hi
    · obtain rfl : i = k := by omega
      rw [wordsOf, List.getD_eq_getElem?_getD, List.getElem?_append_right (by rw [wordsOf_length]; exact Nat.le_refl _), wordsOf_length]
      simp
theorem sched_step (p : List (BitVec 8)) (k i : Nat) (h : i < 16 + k) : (sched p (k + 1)).getD i 0 = (sched p k).getD i 0 := by
  rw [sched, List.getD_eq_getElem?_getD, List.getElem?_append_left (by rw [sched_length]; exact h), ← List.getD_eq_getElem?_getD]
theorem sched_stays (p : List (BitVec 8)) (k i : Nat) (h : i < 16 + k) : ∀ d, (sched p (k + d)).getD i 0 = (sched p k).getD i 0
  | 0 => rfl
  | d + 1 => by rw [← Nat.add_assoc, sched_step p (k + d) i (by omega)]; exact sched_stays p k i h d
/-- The schedule's word t. -/
def W (p : List (BitVec 8)) (t : Nat) : BitVec 32 := (sched p 48).getD t 0
theorem W_of (p : List (BitVec 8)) (k t : Nat) (hk : k ≤ 48) (h : t < 16 + k) : (sched p k).getD t 0 = W p t := by
  have := sched_stays p k t h (48 - k)
  rw [show k + (48 - k) = 48 by omega] at this
  exact this.symm
theorem W_first (p : List (BitVec 8)) (t : Nat) (h : t < 16) : W p t = wordAt p t := by
  rw [← W_of p 0 t (by omega) (by omega)]; exact wordsOf_get p 16 t h
theorem W_next (p : List (BitVec 8)) (k : Nat) (h : k < 48) : W p (k + 16) = ((s1 (W p (k + 14)) + W p (k + 9)) + s0 (W p (k + 1))) + W p k := by
  rw [← W_of p (k + 1) (k + 16) (by omega) (by omega), sched]
  rw [List.getD_eq_getElem?_getD, List.getElem?_append_right (by rw [sched_length]; omega), sched_length]
  rw [show k + 16 - (16 + k) = 0 by omega]
  rw [W_of p k (k + 14) (by omega) (by omega), W_of p k (k + 9) (by omega) (by omega), W_of p k (k + 1) (by omega) (by omega), W_of p k k (by omega) (by omega)]
  simp

/-- A state of eight words. -/
structure St where
  (a b c d e f g h : BitVec 32)
def St.list (s : St) : List (BitVec 32) := [s.a, s.b, s.c, s.d, s.e, s.f, s.g, s.h]
def t1 (s : St) (k w : BitVec 32) : BitVec 32 := (((s.h + S1 s.e) + Ch s.e s.f s.g) + k) + w
def step (s : St) (k w : BitVec 32) : St :=
  ⟨(t1 s k w + S0 s.a) + Maj s.a s.b s.c, s.a, s.b, s.c, s.d + t1 s k w, s.e, s.f, s.g⟩
def St.add (s t : St) : St := ⟨s.a + t.a, s.b + t.b, s.c + t.c, s.d + t.d, s.e + t.e, s.f + t.f, s.g + t.g, s.h + t.h⟩

/-- The round words (FIPS 180-4, 4.2.2). -/
def Ks : List (BitVec 32) := [
  0x428a2f98#32, 0x71374491#32, 0xb5c0fbcf#32, 0xe9b5dba5#32, 0x3956c25b#32, 0x59f111f1#32, 0x923f82a4#32, 0xab1c5ed5#32,
  0xd807aa98#32, 0x12835b01#32, 0x243185be#32, 0x550c7dc3#32, 0x72be5d74#32, 0x80deb1fe#32, 0x9bdc06a7#32, 0xc19bf174#32,
  0xe49b69c1#32, 0xefbe4786#32, 0x0fc19dc6#32, 0x240ca1cc#32, 0x2de92c6f#32, 0x4a7484aa#32, 0x5cb0a9dc#32, 0x76f988da#32,
  0x983e5152#32, 0xa831c66d#32, 0xb00327c8#32, 0xbf597fc7#32, 0xc6e00bf3#32, 0xd5a79147#32, 0x06ca6351#32, 0x14292967#32,
  0x27b70a85#32, 0x2e1b2138#32, 0x4d2c6dfc#32, 0x53380d13#32, 0x650a7354#32, 0x766a0abb#32, 0x81c2c92e#32, 0x92722c85#32,
  0xa2bfe8a1#32, 0xa81a664b#32, 0xc24b8b70#32, 0xc76c51a3#32, 0xd192e819#32, 0xd6990624#32, 0xf40e3585#32, 0x106aa070#32,
  0x19a4c116#32, 0x1e376c08#32, 0x2748774c#32, 0x34b0bcb5#32, 0x391c0cb3#32, 0x4ed8aa4a#32, 0x5b9cca4f#32, 0x682e6ff3#32,
  0x748f82ee#32, 0x78a5636f#32, 0x84c87814#32, 0x8cc70208#32, 0x90befffa#32, 0xa4506ceb#32, 0xbef9a3f7#32, 0xc67178f2#32]
theorem Ks_length : Ks.length = 64 := rfl

def steps (p : List (BitVec 8)) (s : St) : Nat → St
  | 0 => s
  | t + 1 => step (steps p s t) (Ks.getD t 0) (W p t)
/-- What 64 bytes make of a state. -/
def mix (s : St) (p : List (BitVec 8)) : St := s.add (steps p s 64)

/-- All whole blocks, one behind the other. -/
def mixAll (s : St) (l : List (BitVec 8)) : St :=
  if 64 ≤ l.length then mixAll (mix s (l.take 64)) (l.drop 64) else s
  termination_by l.length
  decreasing_by simp only [List.length_drop]; omega
theorem mixAll_short (s : St) (l : List (BitVec 8)) (h : l.length < 64) : mixAll s l = s := by
  rw [mixAll, if_neg (by omega)]
theorem mixAll_long (s : St) (l : List (BitVec 8)) (h : 64 ≤ l.length) : mixAll s l = mixAll (mix s (l.take 64)) (l.drop 64) := by
  rw [mixAll, if_pos h]
theorem mixAll_block (s : St) (l r : List (BitVec 8)) (h : l.length = 64) : mixAll s (l ++ r) = mixAll (mix s l) r := by
  have h1 : (l ++ r).take 64 = l := by rw [List.take_append_of_le_length (by omega), List.take_of_length_le (by omega)]
  have h2 : (l ++ r).drop 64 = r := by rw [List.drop_append_of_le_length (by omega), List.drop_of_length_le (by omega), List.nil_append]
  rw [mixAll_long s _ (by rw [List.length_append]; omega), h1, h2]

def start : St := ⟨0x6a09e667#32, 0xbb67ae85#32, 0x3c6ef372#32, 0xa54ff53a#32, 0x510e527f#32, 0x9b05688c#32, 0x1f83d9ab#32, 0x5be0cd19#32⟩
/-- The count of bits, in eight bytes. -/
def counted (n : Nat) : List (BitVec 8) := (List.range 8).map fun i => BitVec.ofNat 8 (8 * n / 2 ^ (8 * (7 - i)))
/-- How many noughts close n bytes. -/
def noughts (n : Nat) : Nat := (119 - n % 64) % 64
def closed (l : List (BitVec 8)) : List (BitVec 8) := l ++ [128#8] ++ List.replicate (noughts l.length) 0#8 ++ counted l.length
/-- A state's bytes. -/
def St.bytes (s : St) : List (BitVec 8) := (List.range 32).map fun i => ((s.list.getD (i / 4) 0) >>> (8 * (3 - i % 4))).setWidth 8
def sum (l : List (BitVec 8)) : List (BitVec 8) := (mixAll start (closed l)).bytes
theorem St.bytes_length (s : St) : s.bytes.length = 32 := by simp [St.bytes]
theorem sum_length (l : List (BitVec 8)) : (sum l).length = 32 := St.bytes_length _
end Go.Proofs.Ytbbooldhfcldbaa
