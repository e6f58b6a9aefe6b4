/- The standard's sum of n like bytes, for all 256 bytes at once: a lane each. No program, no conditions. -/
import Derived.Test.YtbjndfnpfmeioaaDoorLanes
import Derived.Test.YtbjndfnpfmeioaaDoorFeed
import Derived.KernelRfl
namespace Go.Proofs.YtbjndfnpfmeioaaDoor

/-- A number that is reckoned first. -/
noncomputable def force {α : Type} (x : Nat) (f : Nat → α) : α := Nat.rec (motive := fun _ => α) (f 0) (fun n _ => f (Nat.succ n)) x
theorem force_eq {α : Type} (x : Nat) (f : Nat → α) : force x f = f x := by cases x <;> rfl

structure V8 where
  (a b c d e f g h : Nat)
def GoodV (v : V8) : Prop := Good v.a ∧ Good v.b ∧ Good v.c ∧ Good v.d ∧ Good v.e ∧ Good v.f ∧ Good v.g ∧ Good v.h
def laneV (v : V8) (i : Nat) : St := ⟨lane v.a i, lane v.b i, lane v.c i, lane v.d i, lane v.e i, lane v.f i, lane v.g i, lane v.h i⟩

def S1L (e : Nat) : Nat := Nat.xor (Nat.xor (rorL e 6 26) (rorL e 11 21)) (rorL e 25 7)
def S0L (a : Nat) : Nat := Nat.xor (Nat.xor (rorL a 2 30) (rorL a 13 19)) (rorL a 22 10)
def s1L (x : Nat) : Nat := Nat.xor (Nat.xor (rorL x 17 15) (rorL x 19 13)) (shrL x 10)
def s0L (x : Nat) : Nat := Nat.xor (Nat.xor (rorL x 7 25) (rorL x 18 14)) (shrL x 3)
def ChL (e f g : Nat) : Nat := Nat.xor g (Nat.land e (Nat.xor f g))
def MajL (a b c : Nat) : Nat := Nat.lor (Nat.land a b) (Nat.land c (Nat.lor a b))
theorem S1L_good (x : Nat) : Good (S1L x) := xor_good (xor_good (rorL_good _ _ _) (rorL_good _ _ _)) (rorL_good _ _ _)
theorem S0L_good (x : Nat) : Good (S0L x) := xor_good (xor_good (rorL_good _ _ _) (rorL_good _ _ _)) (rorL_good _ _ _)
theorem s1L_good (x : Nat) : Good (s1L x) := xor_good (xor_good (rorL_good _ _ _) (rorL_good _ _ _)) (shrL_good _ _)
theorem s0L_good (x : Nat) : Good (s0L x) := xor_good (xor_good (rorL_good _ _ _) (rorL_good _ _ _)) (shrL_good _ _)
section
variable {x i : Nat} (hx : Good x) (hi : i < 256)
include hx hi
theorem S1L_lane : lane (S1L x) i = S1 (lane x i) := by
  unfold S1L S1; rw [xor_lane, xor_lane, rorL_lane hx (by omega) rfl hi, rorL_lane hx (by omega) rfl hi, rorL_lane hx (by omega) rfl hi]
theorem S0L_lane : lane (S0L x) i = S0 (lane x i) := by
  unfold S0L S0; rw [xor_lane, xor_lane, rorL_lane hx (by omega) rfl hi, rorL_lane hx (by omega) rfl hi, rorL_lane hx (by omega) rfl hi]
theorem s1L_lane : lane (s1L x) i = s1 (lane x i) := by
  unfold s1L s1; rw [xor_lane, xor_lane, rorL_lane hx (by omega) rfl hi, rorL_lane hx (by omega) rfl hi, shrL_lane hx (by omega) hi]
theorem s0L_lane : lane (s0L x) i = s0 (lane x i) := by
  unfold s0L s0; rw [xor_lane, xor_lane, rorL_lane hx (by omega) rfl hi, rorL_lane hx (by omega) rfl hi, shrL_lane hx (by omega) hi]
end
section
variable {x y z : Nat} (hx : Good x) (hz : Good z)
include hx hz
theorem ChL_good : Good (ChL x y z) := xor_good hz (and_good hx)
theorem MajL_good : Good (MajL x y z) := or_good (and_good hx) (and_good hz)
end
theorem ChL_lane (x y z i : Nat) : lane (ChL x y z) i = Ch (lane x i) (lane y i) (lane z i) := by
  unfold ChL; rw [xor_lane, and_lane, xor_lane, Ch_other]
theorem MajL_lane (x y z i : Nat) : lane (MajL x y z) i = Maj (lane x i) (lane y i) (lane z i) := by
  unfold MajL; rw [or_lane, and_lane, and_lane, or_lane, Maj_other]

def KsN : List Nat := [
  0x428a2f98, 0x71374491, 0xb5c0fbcf, 0xe9b5dba5, 0x3956c25b, 0x59f111f1, 0x923f82a4, 0xab1c5ed5,
  0xd807aa98, 0x12835b01, 0x243185be, 0x550c7dc3, 0x72be5d74, 0x80deb1fe, 0x9bdc06a7, 0xc19bf174,
  0xe49b69c1, 0xefbe4786, 0x0fc19dc6, 0x240ca1cc, 0x2de92c6f, 0x4a7484aa, 0x5cb0a9dc, 0x76f988da,
  0x983e5152, 0xa831c66d, 0xb00327c8, 0xbf597fc7, 0xc6e00bf3, 0xd5a79147, 0x06ca6351, 0x14292967,
  0x27b70a85, 0x2e1b2138, 0x4d2c6dfc, 0x53380d13, 0x650a7354, 0x766a0abb, 0x81c2c92e, 0x92722c85,
  0xa2bfe8a1, 0xa81a664b, 0xc24b8b70, 0xc76c51a3, 0xd192e819, 0xd6990624, 0xf40e3585, 0x106aa070,
  0x19a4c116, 0x1e376c08, 0x2748774c, 0x34b0bcb5, 0x391c0cb3, 0x4ed8aa4a, 0x5b9cca4f, 0x682e6ff3,
  0x748f82ee, 0x78a5636f, 0x84c87814, 0x8cc70208, 0x90befffa, 0xa4506ceb, 0xbef9a3f7, 0xc67178f2]
theorem KsN_Ks : KsN = Ks.map (·.toNat) := by kernel_rfl
theorem KsN_length : KsN.length = 64 := rfl

/-- The steps, in all lanes. -/
noncomputable def runV : List Nat → (a b c d e f g h : Nat) → (w0 w1 w2 w3 w4 w5 w6 w7 w8 w9 w10 w11 w12 w13 w14 w15 : Nat) → V8
  | [], a, b, c, d, e, f, g, h, _, _, _, _, _, _, _, _, _, _, _, _, _, _, _, _ => ⟨a, b, c, d, e, f, g, h⟩
  | k :: ks, a, b, c, d, e, f, g, h, w0, w1, w2, w3, w4, w5, w6, w7, w8, w9, w10, w11, w12, w13, w14, w15 =>
    force (addL (addL (addL (addL h (S1L e)) (ChL e f g)) (rep k)) w0) fun t =>
    force (addL d t) fun e' =>
    force (addL (addL t (S0L a)) (MajL a b c)) fun a' =>
    force (addL (addL (addL (s1L w14) w9) (s0L w1)) w0) fun w16 =>
    runV ks a' a b c e' e f g w1 w2 w3 w4 w5 w6 w7 w8 w9 w10 w11 w12 w13 w14 w15 w16

/-- The sixteen words ahead of step t. -/
structure WOK (p : List (BitVec 8)) (i t : Nat) (l : List Nat) : Prop where
  good : ∀ j, j < 16 → Good (l.getD j 0)
  has : ∀ j, j < 16 → t + j < 64 → lane (l.getD j 0) i = W p (t + j)

theorem runV_ok (p : List (BitVec 8)) (s : St) (i : Nat) (hi : i < 256) : ∀ (n t : Nat), t + n = 64 → ∀ (a b c d e f g h w0 w1 w2 w3 w4 w5 w6 w7 w8 w9 w10 w11 w12 w13 w14 w15 : Nat), GoodV ⟨a, b, c, d, e, f, g, h⟩ → laneV ⟨a, b, c, d, e, f, g, h⟩ i = steps p s t → WOK p i t [w0, w1, w2, w3, w4, w5, w6, w7, w8, w9, w10, w11, w12, w13, w14, w15] →
    GoodV (runV (KsN.drop t) a b c d e f g h w0 w1 w2 w3 w4 w5 w6 w7 w8 w9 w10 w11 w12 w13 w14 w15) ∧ laneV (runV (KsN.drop t) a b c d e f g h w0 w1 w2 w3 w4 w5 w6 w7 w8 w9 w10 w11 w12 w13 w14 w15) i = steps p s 64 := by
  intro n
  induction n with
  | zero =>
    intro t ht a b c d e f g h w0 w1 w2 w3 w4 w5 w6 w7 w8 w9 w10 w11 w12 w13 w14 w15 hv hl hw
    obtain rfl : t = 64 := by omega
    rw [show KsN.drop 64 = [] from rfl]
    exact ⟨hv, hl⟩
  | succ n ih =>
    intro t ht a b c d e f g h w0 w1 w2 w3 w4 w5 w6 w7 w8 w9 w10 w11 w12 w13 w14 w15 hv hl hw
    have htl : t < KsN.length := by rw [KsN_length]; omega
    rw [List.drop_eq_getElem_cons htl]
    simp only [runV, force_eq]
    have hk : KsN[t] < 2 ^ 32 ∧ BitVec.ofNat 32 KsN[t] = Ks.getD t 0 := by
      have e : KsN[t] = (Ks.map (·.toNat))[t]'(by rw [← KsN_Ks]; exact htl) := by simp only [KsN_Ks]
      have htk : t < Ks.length := by rw [Ks_length]; omega
      rw [e, List.getElem_map, List.getD_eq_getElem?_getD, List.getElem?_eq_getElem htk]
      exact ⟨(Ks[t]).isLt, by simp⟩
    obtain ⟨hk1, hk2⟩ := hk
    generalize KsN[t] = k at hk1 hk2 ⊢
    obtain ⟨ga, gb, gc, gd, ge, gf, gg, gh⟩ := hv
    have g0 := hw.good 0 (by omega)
    have g1 := hw.good 1 (by omega)
    have g9 := hw.good 9 (by omega)
    have g14 := hw.good 14 (by omega)
    have x0 := hw.has 0 (by omega) (by omega)
    simp only [List.getD_cons_zero, List.getD_cons_succ] at g0 g1 g9 g14 x0
    simp only at ga gb gc gd ge gf gg gh
    have et : lane (addL (addL (addL (addL h (S1L e)) (ChL e f g)) (rep k)) w0) i = t1 (steps p s t) (Ks.getD t 0) (W p t) := by
      rw [addL_lane (addL_good _ _) g0 hi, addL_lane (addL_good _ _) (rep_good k hk1) hi, addL_lane (addL_good _ _) (ChL_good ge gg) hi, addL_lane gh (S1L_good e) hi, S1L_lane ge hi, ChL_lane, rep_lane k i hk1 hi, hk2, x0, ← hl]
      rfl
    refine ih (t + 1) (by omega) _ _ _ _ _ _ _ _ _ _ _ _ _ _ _ _ _ _ _ _ _ _ _ _ ⟨addL_good _ _, ga, gb, gc, addL_good _ _, ge, gf, gg⟩ ?_ ?_
    · show laneV _ i = step (steps p s t) (Ks.getD t 0) (W p t)
      unfold laneV step
      simp only
      rw [addL_lane (addL_good _ _) (MajL_good ga gc) hi, addL_lane (addL_good _ _) (S0L_good a) hi, addL_lane gd (addL_good _ _) hi, et, S0L_lane ga hi, MajL_lane, ← hl]
      rfl
    · constructor
      · intro j hj
        by_cases h15 : j = 15
        · subst h15
          exact addL_good _ _
        · have h2 := hw.good (j + 1) (by omega)
          rw [List.getD_cons_succ] at h2
          have e : ∀ (l : List Nat) (x : Nat), l.length = 15 → (l ++ [x]).getD j 0 = l.getD j 0 := fun l x hl => by
            rw [List.getD_eq_getElem?_getD, List.getElem?_append_left (by omega), ← List.getD_eq_getElem?_getD]
          rw [← e _ (addL (addL (addL (s1L w14) w9) (s0L w1)) w0) rfl] at h2
          exact h2
      · intro j hj hj2
        by_cases h15 : j = 15
        · subst h15
          show lane (addL (addL (addL (s1L w14) w9) (s0L w1)) w0) i = _
          have x1 := hw.has 1 (by omega) (by omega)
          have x9 := hw.has 9 (by omega) (by omega)
          have x14 := hw.has 14 (by omega) (by omega)
          simp only [List.getD_cons_zero, List.getD_cons_succ] at x1 x9 x14
          rw [addL_lane (addL_good _ _) g0 hi, addL_lane (addL_good _ _) (s0L_good w1) hi, addL_lane (s1L_good w14) g9 hi, s1L_lane g14 hi, s0L_lane g1 hi, x0, x1, x9, x14, show t + 1 + 15 = t + 16 by omega, W_next p t (by omega)]
          rfl
        · have h2 := hw.has (j + 1) (by omega) (by omega)
          rw [List.getD_cons_succ] at h2
          have e : ∀ (l : List Nat) (x : Nat), l.length = 15 → (l ++ [x]).getD j 0 = l.getD j 0 := fun l x hl => by
            rw [List.getD_eq_getElem?_getD, List.getElem?_append_left (by omega), ← List.getD_eq_getElem?_getD]
          rw [← e _ (addL (addL (addL (s1L w14) w9) (s0L w1)) w0) rfl] at h2
          rw [show t + 1 + j = t + (j + 1) by omega]
          exact h2

noncomputable def addV : V8 → V8 → V8
  | ⟨a, b, c, d, e, f, g, h⟩, ⟨a', b', c', d', e', f', g', h'⟩ =>
    force (addL a a') fun a => force (addL b b') fun b => force (addL c c') fun c => force (addL d d') fun d =>
    force (addL e e') fun e => force (addL f f') fun f => force (addL g g') fun g => force (addL h h') fun h => ⟨a, b, c, d, e, f, g, h⟩
theorem addV_ok (v r : V8) (i : Nat) (hi : i < 256) (hv : GoodV v) (hr : GoodV r) : GoodV (addV v r) ∧ laneV (addV v r) i = (laneV v i).add (laneV r i) := by
  obtain ⟨a, b, c, d, e, f, g, h⟩ := v
  obtain ⟨a', b', c', d', e', f', g', h'⟩ := r
  obtain ⟨ga, gb, gc, gd, ge, gf, gg, gh⟩ := hv
  obtain ⟨ra, rb, rc, rd, re, rf, rg, rh⟩ := hr
  simp only [addV, force_eq]
  refine ⟨⟨addL_good _ _, addL_good _ _, addL_good _ _, addL_good _ _, addL_good _ _, addL_good _ _, addL_good _ _, addL_good _ _⟩, ?_⟩
  unfold laneV St.add
  simp only
  rw [addL_lane ga ra hi, addL_lane gb rb hi, addL_lane gc rc hi, addL_lane gd rd hi, addL_lane ge re hi, addL_lane gf rf hi, addL_lane gg rg hi, addL_lane gh rh hi]

/-- A block, in all lanes. -/
noncomputable def mixV : V8 → (w0 w1 w2 w3 w4 w5 w6 w7 w8 w9 w10 w11 w12 w13 w14 w15 : Nat) → V8
  | ⟨a, b, c, d, e, f, g, h⟩, w0, w1, w2, w3, w4, w5, w6, w7, w8, w9, w10, w11, w12, w13, w14, w15 => addV ⟨a, b, c, d, e, f, g, h⟩ (runV KsN a b c d e f g h w0 w1 w2 w3 w4 w5 w6 w7 w8 w9 w10 w11 w12 w13 w14 w15)
theorem mixV_ok (p : List (BitVec 8)) (v : V8) (i : Nat) (hi : i < 256) (w0 w1 w2 w3 w4 w5 w6 w7 w8 w9 w10 w11 w12 w13 w14 w15 : Nat) (hv : GoodV v) (hw : WOK p i 0 [w0, w1, w2, w3, w4, w5, w6, w7, w8, w9, w10, w11, w12, w13, w14, w15]) : GoodV (mixV v w0 w1 w2 w3 w4 w5 w6 w7 w8 w9 w10 w11 w12 w13 w14 w15) ∧ laneV (mixV v w0 w1 w2 w3 w4 w5 w6 w7 w8 w9 w10 w11 w12 w13 w14 w15) i = mix (laneV v i) p := by
  obtain ⟨a, b, c, d, e, f, g, h⟩ := v
  obtain ⟨h1, h2⟩ := runV_ok p (laneV ⟨a, b, c, d, e, f, g, h⟩ i) i hi 64 0 rfl a b c d e f g h w0 w1 w2 w3 w4 w5 w6 w7 w8 w9 w10 w11 w12 w13 w14 w15 hv rfl hw
  rw [List.drop_zero] at h1 h2
  obtain ⟨h3, h4⟩ := addV_ok _ _ i hi hv h1
  refine ⟨h3, ?_⟩
  show laneV (addV _ _) i = _
  rw [h4, h2]; rfl
end Go.Proofs.YtbjndfnpfmeioaaDoor
