/- The numbers of the transactions that BlockRules builds: no two are one, none is a name. Reckoned by the kernel, 256 at once. No program. -/
import Derived.Test.YtlaifphedhaemaaGreatDoorCRuM
import Derived.Test.YtlaifphedhaemaaGreatDoorZS2
namespace Go.Proofs.YtlaifphedhaemaaGreatDoor

theorem w_self (s : BitVec 32) : word ((s >>> 24).setWidth 8) ((s >>> 16).setWidth 8) ((s >>> 8).setWidth 8) ((s >>> 0).setWidth 8) = s := by
  apply BitVec.eq_of_getLsbD_eq
  intro i hi
  unfold word
  simp only [BitVec.getLsbD_or, BitVec.getLsbD_shiftLeft, BitVec.getLsbD_setWidth, BitVec.getLsbD_ushiftRight]
  rcases (by omega : i < 8 ∨ (8 ≤ i ∧ i < 16) ∨ (16 ≤ i ∧ i < 24) ∨ (24 ≤ i ∧ i < 32)) with h | ⟨h, h'⟩ | ⟨h, h'⟩ | ⟨h, h'⟩
  · simp [hi, h, show i < 16 by omega, show i < 24 by omega]
  · simp [hi, h', show ¬ i < 8 by omega, show i < 24 by omega, show i - 8 < 8 by omega, show i - 8 < 32 by omega, show 8 + (i - 8) = i by omega]
  · simp [hi, h', show ¬ i < 8 by omega, show ¬ i < 16 by omega, show ¬ i - 8 < 8 by omega, show i - 16 < 8 by omega, show i - 16 < 32 by omega, show 16 + (i - 16) = i by omega]
  · simp [hi, show ¬ i < 8 by omega, show ¬ i < 16 by omega, show ¬ i < 24 by omega, show ¬ i - 8 < 8 by omega, show ¬ i - 16 < 8 by omega, show i - 24 < 8 by omega, show i - 24 < 32 by omega, show 24 + (i - 24) = i by omega]
theorem hi_mask (i : Nat) (h : i < 32) : (4278190080#32).getLsbD i = decide (24 ≤ i) := by
  have : ∀ i : Fin 32, (4278190080#32).getLsbD i = decide (24 ≤ i.val) := by decide
  exact this ⟨i, h⟩
theorem w_low (x : BitVec 8) (s : BitVec 32) : word x ((s >>> 24).setWidth 8) ((s >>> 16).setWidth 8) ((s >>> 8).setWidth 8) = (x.setWidth 32 <<< 24) ||| (s >>> 8) := by
  apply BitVec.eq_of_getLsbD_eq
  intro i hi
  unfold word
  simp only [BitVec.getLsbD_or, BitVec.getLsbD_shiftLeft, BitVec.getLsbD_setWidth, BitVec.getLsbD_ushiftRight]
  rcases (by omega : i < 8 ∨ (8 ≤ i ∧ i < 16) ∨ (16 ≤ i ∧ i < 24) ∨ (24 ≤ i ∧ i < 32)) with h | ⟨h, h'⟩ | ⟨h, h'⟩ | ⟨h, h'⟩
  · simp [hi, h, show i < 16 by omega, show i < 24 by omega]
  · simp [hi, h', show ¬ i < 8 by omega, show i < 24 by omega, show i - 8 < 8 by omega, show i - 8 < 32 by omega, show 16 + (i - 8) = 8 + i by omega]
  · simp [hi, h', show ¬ i < 8 by omega, show ¬ i < 16 by omega, show ¬ i - 8 < 8 by omega, show i - 16 < 8 by omega, show i - 16 < 32 by omega, show 24 + (i - 16) = 8 + i by omega]
  · have : s.getLsbD (8 + i) = false := BitVec.getLsbD_of_ge _ _ (by omega)
    simp [hi, this, show ¬ i < 8 by omega, show ¬ i < 16 by omega, show ¬ i < 24 by omega, show ¬ i - 8 < 8 by omega, show ¬ i - 16 < 8 by omega, show i - 24 < 8 by omega, show i - 24 < 32 by omega]
theorem up_byte (s : BitVec 32) : ((s >>> 0).setWidth 8).setWidth 32 <<< 24 = ror s 8 &&& 4278190080#32 := by
  apply BitVec.eq_of_getLsbD_eq
  intro i hi
  unfold ror
  rw [BitVec.getLsbD_and, hi_mask i hi]
  simp only [BitVec.getLsbD_or, BitVec.getLsbD_shiftLeft, BitVec.getLsbD_setWidth, BitVec.getLsbD_ushiftRight]
  by_cases h : i < 24
  · simp [h, show ¬ 24 ≤ i by omega]
  · have : s.getLsbD (8 + i) = false := BitVec.getLsbD_of_ge _ _ (by omega)
    simp [hi, h, this, show 24 ≤ i by omega, show i - 24 < 8 by omega, show i - 24 < 32 by omega]
theorem w_end (y x : BitVec 8) : word y 0 0 x = (y.setWidth 32 <<< 24) ||| x.setWidth 32 := by
  unfold word; simp

/-- All eight numbers told before they are handed on. -/
noncomputable def fV {α : Type} (v : V8) (k : V8 → α) : α := match v with
  | ⟨a, b, c, d, e, f, g, h⟩ => force a fun a => force b fun b => force c fun c => force d fun d => force e fun e => force f fun f => force g fun g => force h fun h => k ⟨a, b, c, d, e, f, g, h⟩
theorem fV_eq {α : Type} (v : V8) (k : V8 → α) : fV v k = k v := by
  obtain ⟨a, b, c, d, e, f, g, h⟩ := v
  unfold fV
  simp only [force_eq]
theorem zero_good : Good 0 := fun j hj => by simp at hj
theorem zero_lane' (i : Nat) : lane 0 i = word 0#8 0#8 0#8 0#8 := by
  have : lane 0 i = 0#32 := by unfold lane; simp
  rw [this]; decide
def Q32 (g : Nat → BitVec 8) : List (BitVec 8) := (List.range 32).map g ++ (128#8 :: List.replicate 23 0#8) ++ [0#8, 0#8, 0#8, 0#8, 0#8, 0#8, 1#8, 0#8]
theorem closed_32 (g : Nat → BitVec 8) : closed ((List.range 32).map g) = Q32 g := by kernel_rfl
def byteS (s : St) (k : Nat) : BitVec 8 := ((s.list.getD (k / 4) 0) >>> (8 * (3 - k % 4))).setWidth 8
theorem bytes_S (s : St) : s.bytes = (List.range 32).map (byteS s) := rfl
theorem wok_sec (a b c d e f g h i : Nat) (hv : GoodV ⟨a, b, c, d, e, f, g, h⟩) (r0 : Nat) (gr0 : Good r0) (lr0 : lane r0 i = word 128#8 0#8 0#8 0#8) (r1 : Nat) (gr1 : Good r1) (lr1 : lane r1 i = word 0#8 0#8 1#8 0#8) : WOK (Q32 (byteS (laneV ⟨a, b, c, d, e, f, g, h⟩ i))) i 0 [a, b, c, d, e, f, g, h, r0, 0, 0, 0, 0, 0, 0, r1] := by
  constructor
  · intro j hj
    obtain (rfl | rfl | rfl | rfl | rfl | rfl | rfl | rfl | rfl | rfl | rfl | rfl | rfl | rfl | rfl | rfl) : j = 0 ∨ j = 1 ∨ j = 2 ∨ j = 3 ∨ j = 4 ∨ j = 5 ∨ j = 6 ∨ j = 7 ∨ j = 8 ∨ j = 9 ∨ j = 10 ∨ j = 11 ∨ j = 12 ∨ j = 13 ∨ j = 14 ∨ j = 15 := by omega
    · exact hv.1
    · exact hv.2.1
    · exact hv.2.2.1
    · exact hv.2.2.2.1
    · exact hv.2.2.2.2.1
    · exact hv.2.2.2.2.2.1
    · exact hv.2.2.2.2.2.2.1
    · exact hv.2.2.2.2.2.2.2
    · exact gr0
    · exact zero_good
    · exact zero_good
    · exact zero_good
    · exact zero_good
    · exact zero_good
    · exact zero_good
    · exact gr1
  · intro j hj _
    rw [Nat.zero_add, W_first _ j hj]
    obtain (rfl | rfl | rfl | rfl | rfl | rfl | rfl | rfl | rfl | rfl | rfl | rfl | rfl | rfl | rfl | rfl) : j = 0 ∨ j = 1 ∨ j = 2 ∨ j = 3 ∨ j = 4 ∨ j = 5 ∨ j = 6 ∨ j = 7 ∨ j = 8 ∨ j = 9 ∨ j = 10 ∨ j = 11 ∨ j = 12 ∨ j = 13 ∨ j = 14 ∨ j = 15 := by omega
    · exact (w_self (lane a i)).symm
    · exact (w_self (lane b i)).symm
    · exact (w_self (lane c i)).symm
    · exact (w_self (lane d i)).symm
    · exact (w_self (lane e i)).symm
    · exact (w_self (lane f i)).symm
    · exact (w_self (lane g i)).symm
    · exact (w_self (lane h i)).symm
    · exact lr0
    · exact zero_lane' i
    · exact zero_lane' i
    · exact zero_lane' i
    · exact zero_lane' i
    · exact zero_lane' i
    · exact zero_lane' i
    · exact lr1
/-- The sum of a sum. -/
noncomputable def secV : V8 → V8
  | ⟨a, b, c, d, e, f, g, h⟩ => mixV startV a b c d e f g h (rep 2147483648) 0 0 0 0 0 0 (rep 256)
theorem secV_ok (v : V8) (i : Nat) (hi : i < 256) (hv : GoodV v) (m : List (BitVec 8)) (h : laneV v i = mixAll start (closed m)) : GoodV (secV v) ∧ laneV (secV v) i = mixAll start (closed (sum m)) := by
  obtain ⟨a, b, c, d, e, f, g, h'⟩ := v
  obtain ⟨h1, h2⟩ := startV_ok i hi
  obtain ⟨g1, g2⟩ := mixV_ok _ startV i hi a b c d e f g h' (rep 2147483648) 0 0 0 0 0 0 (rep 256) h1 (wok_sec a b c d e f g h' i hv (rep 2147483648) (rep_good 2147483648 (by decide)) ((rep_lane 2147483648 i (by decide) hi).trans (by decide)) (rep 256) (rep_good 256 (by decide)) ((rep_lane 256 i (by decide) hi).trans (by decide)))
  refine ⟨g1, ?_⟩
  have e0 : closed (sum m) = Q32 (byteS (laneV ⟨a, b, c, d, e, f, g, h'⟩ i)) := by
    unfold sum
    rw [← h, bytes_S, closed_32]
  have e1 := mixAll_block start (Q32 (byteS (laneV ⟨a, b, c, d, e, f, g, h'⟩ i))) [] (by simp [Q32])
  rw [List.append_nil, mixAll_short _ [] (by decide)] at e1
  rw [e0, e1, ← h2]
  exact g2
/-- What the i-th transaction is ahead of its witnesses. -/
def m1 (x : BitVec 8) : List (BitVec 8) := 1#8 :: x :: (List.replicate 30 0#8 ++ [1#8, 0#8, 0#8, 1#8, 5#8, 1#8] ++ List.replicate 38 0#8)
def p1 (x : BitVec 8) : List (BitVec 8) := 1#8 :: x :: (List.replicate 30 0#8 ++ [1#8, 0#8, 0#8, 1#8, 5#8, 1#8] ++ List.replicate 26 0#8)
def p2 : List (BitVec 8) := List.replicate 12 0#8 ++ (128#8 :: List.replicate 43 0#8) ++ [0#8, 0#8, 0#8, 0#8, 0#8, 0#8, 2#8, 96#8]
theorem closed_m1 (x : BitVec 8) : closed (m1 x) = p1 x ++ p2 := by kernel_rfl
theorem body_m1 (i : Nat) : bodyB (baseT i) = m1 (BitVec.ofNat 8 i) := by
  have : ∀ x : BitVec 8, bodyB ⟨[⟨⟨(x :: List.replicate 30 0) ++ [1], 0, by simp⟩, 0, 1, 0, ByteArray.empty⟩], [outK], 0⟩ = m1 x := fun x => by kernel_rfl
  exact this _
noncomputable def w0I : Nat := Nat.lor (rep 16777216) (rorL fills 16 16)
theorem w0I_lane (i : Nat) (hi : i < 256) : lane w0I i = word 1#8 (BitVec.ofNat 8 i) 0#8 0#8 := by
  have : ∀ i : Fin 256, (BitVec.ofNat 32 16777216 ||| ror (BitVec.ofNat 32 i.val) 16) = word 1#8 (BitVec.ofNat 8 i.val) 0#8 0#8 := by decide +kernel
  unfold w0I
  rw [or_lane, rep_lane 16777216 i (by decide) hi, rorL_lane fills_good (by omega) rfl hi, fills_lane i hi]
  exact this ⟨i, hi⟩
theorem w0I_good : Good w0I := by
  unfold w0I
  exact or_good (rep_good 16777216 (by decide)) (rorL_good fills 16 16)
theorem wok_p1 (x : BitVec 8) (i W0 : Nat) (g0 : Good W0) (l0 : lane W0 i = word 1#8 x 0#8 0#8) (r0 : Nat) (gr0 : Good r0) (lr0 : lane r0 i = word 1#8 0#8 0#8 1#8) (r1 : Nat) (gr1 : Good r1) (lr1 : lane r1 i = word 5#8 1#8 0#8 0#8) : WOK (p1 x) i 0 [W0, 0, 0, 0, 0, 0, 0, 0, r0, r1, 0, 0, 0, 0, 0, 0] := by
  constructor
  · intro j hj
    obtain (rfl | rfl | rfl | rfl | rfl | rfl | rfl | rfl | rfl | rfl | rfl | rfl | rfl | rfl | rfl | rfl) : j = 0 ∨ j = 1 ∨ j = 2 ∨ j = 3 ∨ j = 4 ∨ j = 5 ∨ j = 6 ∨ j = 7 ∨ j = 8 ∨ j = 9 ∨ j = 10 ∨ j = 11 ∨ j = 12 ∨ j = 13 ∨ j = 14 ∨ j = 15 := by omega
    · exact g0
    · exact zero_good
    · exact zero_good
    · exact zero_good
    · exact zero_good
    · exact zero_good
    · exact zero_good
    · exact zero_good
    · exact gr0
    · exact gr1
    · exact zero_good
    · exact zero_good
    · exact zero_good
    · exact zero_good
    · exact zero_good
    · exact zero_good
  · intro j hj _
    rw [Nat.zero_add, W_first _ j hj]
    obtain (rfl | rfl | rfl | rfl | rfl | rfl | rfl | rfl | rfl | rfl | rfl | rfl | rfl | rfl | rfl | rfl) : j = 0 ∨ j = 1 ∨ j = 2 ∨ j = 3 ∨ j = 4 ∨ j = 5 ∨ j = 6 ∨ j = 7 ∨ j = 8 ∨ j = 9 ∨ j = 10 ∨ j = 11 ∨ j = 12 ∨ j = 13 ∨ j = 14 ∨ j = 15 := by omega
    · exact l0
    · exact zero_lane' i
    · exact zero_lane' i
    · exact zero_lane' i
    · exact zero_lane' i
    · exact zero_lane' i
    · exact zero_lane' i
    · exact zero_lane' i
    · exact lr0
    · exact lr1
    · exact zero_lane' i
    · exact zero_lane' i
    · exact zero_lane' i
    · exact zero_lane' i
    · exact zero_lane' i
    · exact zero_lane' i
theorem wok_p2 (i : Nat) (r0 : Nat) (gr0 : Good r0) (lr0 : lane r0 i = word 128#8 0#8 0#8 0#8) (r1 : Nat) (gr1 : Good r1) (lr1 : lane r1 i = word 0#8 0#8 2#8 96#8) : WOK (p2) i 0 [0, 0, 0, r0, 0, 0, 0, 0, 0, 0, 0, 0, 0, 0, 0, r1] := by
  constructor
  · intro j hj
    obtain (rfl | rfl | rfl | rfl | rfl | rfl | rfl | rfl | rfl | rfl | rfl | rfl | rfl | rfl | rfl | rfl) : j = 0 ∨ j = 1 ∨ j = 2 ∨ j = 3 ∨ j = 4 ∨ j = 5 ∨ j = 6 ∨ j = 7 ∨ j = 8 ∨ j = 9 ∨ j = 10 ∨ j = 11 ∨ j = 12 ∨ j = 13 ∨ j = 14 ∨ j = 15 := by omega
    · exact zero_good
    · exact zero_good
    · exact zero_good
    · exact gr0
    · exact zero_good
    · exact zero_good
    · exact zero_good
    · exact zero_good
    · exact zero_good
    · exact zero_good
    · exact zero_good
    · exact zero_good
    · exact zero_good
    · exact zero_good
    · exact zero_good
    · exact gr1
  · intro j hj _
    rw [Nat.zero_add, W_first _ j hj]
    obtain (rfl | rfl | rfl | rfl | rfl | rfl | rfl | rfl | rfl | rfl | rfl | rfl | rfl | rfl | rfl | rfl) : j = 0 ∨ j = 1 ∨ j = 2 ∨ j = 3 ∨ j = 4 ∨ j = 5 ∨ j = 6 ∨ j = 7 ∨ j = 8 ∨ j = 9 ∨ j = 10 ∨ j = 11 ∨ j = 12 ∨ j = 13 ∨ j = 14 ∨ j = 15 := by omega
    · exact zero_lane' i
    · exact zero_lane' i
    · exact zero_lane' i
    · exact lr0
    · exact zero_lane' i
    · exact zero_lane' i
    · exact zero_lane' i
    · exact zero_lane' i
    · exact zero_lane' i
    · exact zero_lane' i
    · exact zero_lane' i
    · exact zero_lane' i
    · exact zero_lane' i
    · exact zero_lane' i
    · exact zero_lane' i
    · exact lr1
noncomputable def v1I : V8 := mixV (mixV startV w0I 0 0 0 0 0 0 0 (rep 16777217) (rep 83951616) 0 0 0 0 0 0) 0 0 0 (rep 2147483648) 0 0 0 0 0 0 0 0 0 0 0 (rep 608)
theorem v1I_ok (i : Nat) (hi : i < 256) : GoodV v1I ∧ laneV v1I i = mixAll start (closed (m1 (BitVec.ofNat 8 i))) := by
  obtain ⟨h1, h2⟩ := startV_ok i hi
  obtain ⟨g1, g2⟩ := mixV_ok _ startV i hi w0I 0 0 0 0 0 0 0 (rep 16777217) (rep 83951616) 0 0 0 0 0 0 h1 (wok_p1 (BitVec.ofNat 8 i) i w0I w0I_good (w0I_lane i hi) (rep 16777217) (rep_good 16777217 (by decide)) ((rep_lane 16777217 i (by decide) hi).trans (by decide)) (rep 83951616) (rep_good 83951616 (by decide)) ((rep_lane 83951616 i (by decide) hi).trans (by decide)))
  obtain ⟨k1, k2⟩ := mixV_ok p2 _ i hi 0 0 0 (rep 2147483648) 0 0 0 0 0 0 0 0 0 0 0 (rep 608) g1 (wok_p2 i (rep 2147483648) (rep_good 2147483648 (by decide)) ((rep_lane 2147483648 i (by decide) hi).trans (by decide)) (rep 608) (rep_good 608 (by decide)) ((rep_lane 608 i (by decide) hi).trans (by decide)))
  refine ⟨k1, ?_⟩
  rw [closed_m1, mixAll_block start (p1 (BitVec.ofNat 8 i)) p2 (by simp [p1])]
  have e2 := mixAll_block (mix start (p1 (BitVec.ofNat 8 i))) p2 [] (by simp [p2])
  rw [List.append_nil, mixAll_short _ [] (by decide)] at e2
  rw [e2, ← h2, ← g2]
  exact k2
theorem chk_base (i : Nat) : chkE (baseT i) = 0 := chk_one _ 0 (by decide)
theorem I_b (i : Nat) : (I i).b = sum (sum (m1 (BitVec.ofNat 8 i))) := by
  show idB (baseT i) = _
  unfold idB
  rw [if_pos (chk_base i), body_m1]
noncomputable def vI : V8 := secV v1I
theorem vI_ok (i : Nat) (hi : i < 256) : GoodV vI ∧ (I i).b = (laneV vI i).bytes := by
  obtain ⟨h1, h2⟩ := v1I_ok i hi
  obtain ⟨k1, k2⟩ := secV_ok v1I i hi h1 _ h2
  refine ⟨k1, ?_⟩
  rw [I_b]
  unfold vI
  rw [k2]; rfl

/-- What the transaction that spends another one is ahead of its witnesses. -/
def mJ (g : Nat → BitVec 8) (x : BitVec 8) : List (BitVec 8) := 2#8 :: ((List.range 32).map g ++ [0#8, 0#8, x] ++ List.replicate 30 0#8 ++ [1#8, 0#8, 0#8, 1#8, 5#8, 1#8] ++ List.replicate 38 0#8)
def pJ (g : Nat → BitVec 8) (x : BitVec 8) : List (BitVec 8) := 2#8 :: ((List.range 32).map g ++ [0#8, 0#8, x] ++ List.replicate 28 0#8)
def qJ : List (BitVec 8) := [0#8, 0#8, 1#8, 0#8, 0#8, 1#8, 5#8, 1#8] ++ List.replicate 38 0#8 ++ (128#8 :: List.replicate 9 0#8) ++ [0#8, 0#8, 0#8, 0#8, 0#8, 0#8, 3#8, 112#8]
theorem closed_mJ (g : Nat → BitVec 8) (x : BitVec 8) : closed (mJ g x) = pJ g x ++ qJ := by kernel_rfl
theorem body_mJ (h : H32) (T : Nat) (s : St) (hs : h.b = s.bytes) : bodyB ⟨[inH h, inH (nmH T)], [outK], 0⟩ = mJ (byteS s) (BitVec.ofNat 8 T) := by
  have : ∀ (g : Nat → BitVec 8) (x : BitVec 8) (hl : ((List.range 32).map g).length = 32), bodyB ⟨[⟨⟨(List.range 32).map g, 0, hl⟩, 0, 1, 0, ByteArray.empty⟩, ⟨⟨(x :: List.replicate 30 0) ++ [1], 0, by simp⟩, 0, 1, 0, ByteArray.empty⟩], [outK], 0⟩ = mJ g x := fun g x hl => by kernel_rfl
  obtain ⟨hb, hl⟩ := h
  rw [bytes_S] at hs
  subst hs
  exact this (byteS s) (BitVec.ofNat 8 T) hl
noncomputable def hiL (x y : Nat) : Nat := Nat.lor (Nat.land (rorL x 8 24) (rep 4278190080)) y
theorem hiL_good {x y : Nat} (hy : Good y) : Good (hiL x y) := by
  unfold hiL
  exact or_good (and_good (rorL_good x 8 24)) hy
theorem hiL_lane {x y i : Nat} (hx : Good x) (hi : i < 256) : lane (hiL x y) i = ((lane x i >>> 0).setWidth 8).setWidth 32 <<< 24 ||| lane y i := by
  unfold hiL
  rw [or_lane, and_lane, rorL_lane hx (by omega) rfl hi, rep_lane 4278190080 i (by decide) hi, up_byte]
noncomputable def loL (x : Nat) : Nat := Nat.lor (rep 33554432) (shrL x 8)
theorem loL_good (x : Nat) : Good (loL x) := by
  unfold loL
  exact or_good (rep_good 33554432 (by decide)) (shrL_good x 8)
theorem loL_lane {x i : Nat} (hx : Good x) (hi : i < 256) : lane (loL x) i = word 2#8 ((lane x i >>> 24).setWidth 8) ((lane x i >>> 16).setWidth 8) ((lane x i >>> 8).setWidth 8) := by
  unfold loL
  rw [w_low, or_lane, shrL_lane hx (by omega) hi, rep_lane 33554432 i (by decide) hi]
  rfl
theorem mid_lane {x y i : Nat} (hx : Good x) (hy : Good y) (hi : i < 256) : lane (hiL x (shrL y 8)) i = word ((lane x i >>> 0).setWidth 8) ((lane y i >>> 24).setWidth 8) ((lane y i >>> 16).setWidth 8) ((lane y i >>> 8).setWidth 8) := by
  rw [hiL_lane hx hi, w_low, shrL_lane hy (by omega) hi]
theorem end_lane {x i T : Nat} (hx : Good x) (hi : i < 256) (hT : T < 256) : lane (hiL x (rep T)) i = word ((lane x i >>> 0).setWidth 8) 0#8 0#8 (BitVec.ofNat 8 T) := by
  have e : BitVec.ofNat 32 T = (BitVec.ofNat 8 T).setWidth 32 := by
    have : ∀ T : Fin 256, BitVec.ofNat 32 T.val = (BitVec.ofNat 8 T.val).setWidth 32 := by decide +kernel
    exact this ⟨T, hT⟩
  rw [hiL_lane hx hi, rep_lane T i (by omega) hi, e]
  exact (w_end _ _).symm
theorem wok_pJ (a b c d e f g h i : Nat) (x : BitVec 8) (J0 : Nat) (gJ0 : Good J0) (J1 : Nat) (gJ1 : Good J1) (J2 : Nat) (gJ2 : Good J2) (J3 : Nat) (gJ3 : Good J3) (J4 : Nat) (gJ4 : Good J4) (J5 : Nat) (gJ5 : Good J5) (J6 : Nat) (gJ6 : Good J6) (J7 : Nat) (gJ7 : Good J7) (J8 : Nat) (gJ8 : Good J8) (lJ0 : lane J0 i = word 2#8 ((lane a i >>> 24).setWidth 8) ((lane a i >>> 16).setWidth 8) ((lane a i >>> 8).setWidth 8)) (lJ1 : lane J1 i = word ((lane a i >>> 0).setWidth 8) ((lane b i >>> 24).setWidth 8) ((lane b i >>> 16).setWidth 8) ((lane b i >>> 8).setWidth 8)) (lJ2 : lane J2 i = word ((lane b i >>> 0).setWidth 8) ((lane c i >>> 24).setWidth 8) ((lane c i >>> 16).setWidth 8) ((lane c i >>> 8).setWidth 8)) (lJ3 : lane J3 i = word ((lane c i >>> 0).setWidth 8) ((lane d i >>> 24).setWidth 8) ((lane d i >>> 16).setWidth 8) ((lane d i >>> 8).setWidth 8)) (lJ4 : lane J4 i = word ((lane d i >>> 0).setWidth 8) ((lane e i >>> 24).setWidth 8) ((lane e i >>> 16).setWidth 8) ((lane e i >>> 8).setWidth 8)) (lJ5 : lane J5 i = word ((lane e i >>> 0).setWidth 8) ((lane f i >>> 24).setWidth 8) ((lane f i >>> 16).setWidth 8) ((lane f i >>> 8).setWidth 8)) (lJ6 : lane J6 i = word ((lane f i >>> 0).setWidth 8) ((lane g i >>> 24).setWidth 8) ((lane g i >>> 16).setWidth 8) ((lane g i >>> 8).setWidth 8)) (lJ7 : lane J7 i = word ((lane g i >>> 0).setWidth 8) ((lane h i >>> 24).setWidth 8) ((lane h i >>> 16).setWidth 8) ((lane h i >>> 8).setWidth 8)) (lJ8 : lane J8 i = word ((lane h i >>> 0).setWidth 8) 0#8 0#8 x)  : WOK (pJ (byteS (laneV ⟨a, b, c, d, e, f, g, h⟩ i)) x) i 0 [J0, J1, J2, J3, J4, J5, J6, J7, J8, 0, 0, 0, 0, 0, 0, 0] := by
  constructor
  · intro j hj
    obtain (rfl | rfl | rfl | rfl | rfl | rfl | rfl | rfl | rfl | rfl | rfl | rfl | rfl | rfl | rfl | rfl) : j = 0 ∨ j = 1 ∨ j = 2 ∨ j = 3 ∨ j = 4 ∨ j = 5 ∨ j = 6 ∨ j = 7 ∨ j = 8 ∨ j = 9 ∨ j = 10 ∨ j = 11 ∨ j = 12 ∨ j = 13 ∨ j = 14 ∨ j = 15 := by omega
    · exact gJ0
    · exact gJ1
    · exact gJ2
    · exact gJ3
    · exact gJ4
    · exact gJ5
    · exact gJ6
    · exact gJ7
    · exact gJ8
    · exact zero_good
    · exact zero_good
    · exact zero_good
    · exact zero_good
    · exact zero_good
    · exact zero_good
    · exact zero_good
  · intro j hj _
    rw [Nat.zero_add, W_first _ j hj]
    obtain (rfl | rfl | rfl | rfl | rfl | rfl | rfl | rfl | rfl | rfl | rfl | rfl | rfl | rfl | rfl | rfl) : j = 0 ∨ j = 1 ∨ j = 2 ∨ j = 3 ∨ j = 4 ∨ j = 5 ∨ j = 6 ∨ j = 7 ∨ j = 8 ∨ j = 9 ∨ j = 10 ∨ j = 11 ∨ j = 12 ∨ j = 13 ∨ j = 14 ∨ j = 15 := by omega
    · exact lJ0
    · exact lJ1
    · exact lJ2
    · exact lJ3
    · exact lJ4
    · exact lJ5
    · exact lJ6
    · exact lJ7
    · exact lJ8
    · exact zero_lane' i
    · exact zero_lane' i
    · exact zero_lane' i
    · exact zero_lane' i
    · exact zero_lane' i
    · exact zero_lane' i
    · exact zero_lane' i
theorem wok_qJ (i : Nat) (r0 : Nat) (gr0 : Good r0) (lr0 : lane r0 i = word 0#8 0#8 1#8 0#8) (r1 : Nat) (gr1 : Good r1) (lr1 : lane r1 i = word 0#8 1#8 5#8 1#8) (r2 : Nat) (gr2 : Good r2) (lr2 : lane r2 i = word 0#8 0#8 128#8 0#8) (r3 : Nat) (gr3 : Good r3) (lr3 : lane r3 i = word 0#8 0#8 3#8 112#8) : WOK (qJ) i 0 [r0, r1, 0, 0, 0, 0, 0, 0, 0, 0, 0, r2, 0, 0, 0, r3] := by
  constructor
  · intro j hj
    obtain (rfl | rfl | rfl | rfl | rfl | rfl | rfl | rfl | rfl | rfl | rfl | rfl | rfl | rfl | rfl | rfl) : j = 0 ∨ j = 1 ∨ j = 2 ∨ j = 3 ∨ j = 4 ∨ j = 5 ∨ j = 6 ∨ j = 7 ∨ j = 8 ∨ j = 9 ∨ j = 10 ∨ j = 11 ∨ j = 12 ∨ j = 13 ∨ j = 14 ∨ j = 15 := by omega
    · exact gr0
    · exact gr1
    · exact zero_good
    · exact zero_good
    · exact zero_good
    · exact zero_good
    · exact zero_good
    · exact zero_good
    · exact zero_good
    · exact zero_good
    · exact zero_good
    · exact gr2
    · exact zero_good
    · exact zero_good
    · exact zero_good
    · exact gr3
  · intro j hj _
    rw [Nat.zero_add, W_first _ j hj]
    obtain (rfl | rfl | rfl | rfl | rfl | rfl | rfl | rfl | rfl | rfl | rfl | rfl | rfl | rfl | rfl | rfl) : j = 0 ∨ j = 1 ∨ j = 2 ∨ j = 3 ∨ j = 4 ∨ j = 5 ∨ j = 6 ∨ j = 7 ∨ j = 8 ∨ j = 9 ∨ j = 10 ∨ j = 11 ∨ j = 12 ∨ j = 13 ∨ j = 14 ∨ j = 15 := by omega
    · exact lr0
    · exact lr1
    · exact zero_lane' i
    · exact zero_lane' i
    · exact zero_lane' i
    · exact zero_lane' i
    · exact zero_lane' i
    · exact zero_lane' i
    · exact zero_lane' i
    · exact zero_lane' i
    · exact zero_lane' i
    · exact lr2
    · exact zero_lane' i
    · exact zero_lane' i
    · exact zero_lane' i
    · exact lr3
/-- One number of 256 pairs: the words of the spent ones told ahead. -/
noncomputable def v1J (J0 J1 J2 J3 J4 J5 J6 J7 J8 : Nat) : V8 := mixV (mixV startV J0 J1 J2 J3 J4 J5 J6 J7 J8 0 0 0 0 0 0 0) (rep 256) (rep 66817) 0 0 0 0 0 0 0 0 0 (rep 32768) 0 0 0 (rep 880)
theorem v1J_ok (a b c d e f g h : Nat) (hv : GoodV ⟨a, b, c, d, e, f, g, h⟩) (T i : Nat) (hi : i < 256) (hT : T < 256) :
    GoodV (v1J (loL a) (hiL a (shrL b 8)) (hiL b (shrL c 8)) (hiL c (shrL d 8)) (hiL d (shrL e 8)) (hiL e (shrL f 8)) (hiL f (shrL g 8)) (hiL g (shrL h 8)) (hiL h (rep T))) ∧ laneV (v1J (loL a) (hiL a (shrL b 8)) (hiL b (shrL c 8)) (hiL c (shrL d 8)) (hiL d (shrL e 8)) (hiL e (shrL f 8)) (hiL f (shrL g 8)) (hiL g (shrL h 8)) (hiL h (rep T))) i = mixAll start (closed (mJ (byteS (laneV ⟨a, b, c, d, e, f, g, h⟩ i)) (BitVec.ofNat 8 T))) := by
  obtain ⟨ga, gb, gc, gd, ge, gf, gg, gh⟩ := hv
  obtain ⟨h1, h2⟩ := startV_ok i hi
  have hw := wok_pJ a b c d e f g h i (BitVec.ofNat 8 T) (loL a) (loL_good a) (hiL a (shrL b 8)) (hiL_good (shrL_good b 8)) (hiL b (shrL c 8)) (hiL_good (shrL_good c 8)) (hiL c (shrL d 8)) (hiL_good (shrL_good d 8)) (hiL d (shrL e 8)) (hiL_good (shrL_good e 8)) (hiL e (shrL f 8)) (hiL_good (shrL_good f 8)) (hiL f (shrL g 8)) (hiL_good (shrL_good g 8)) (hiL g (shrL h 8)) (hiL_good (shrL_good h 8)) (hiL h (rep T)) (hiL_good (rep_good T (by omega))) (loL_lane ga hi) (mid_lane ga gb hi) (mid_lane gb gc hi) (mid_lane gc gd hi) (mid_lane gd ge hi) (mid_lane ge gf hi) (mid_lane gf gg hi) (mid_lane gg gh hi) (end_lane gh hi hT)
  generalize loL a = J0 at *
  generalize hiL a (shrL b 8) = J1 at *
  generalize hiL b (shrL c 8) = J2 at *
  generalize hiL c (shrL d 8) = J3 at *
  generalize hiL d (shrL e 8) = J4 at *
  generalize hiL e (shrL f 8) = J5 at *
  generalize hiL f (shrL g 8) = J6 at *
  generalize hiL g (shrL h 8) = J7 at *
  generalize hiL h (rep T) = J8 at *
  obtain ⟨g1, g2⟩ := mixV_ok _ startV i hi J0 J1 J2 J3 J4 J5 J6 J7 J8 0 0 0 0 0 0 0 h1 hw
  obtain ⟨k1, k2⟩ := mixV_ok qJ _ i hi (rep 256) (rep 66817) 0 0 0 0 0 0 0 0 0 (rep 32768) 0 0 0 (rep 880) g1 (wok_qJ i (rep 256) (rep_good 256 (by decide)) ((rep_lane 256 i (by decide) hi).trans (by decide)) (rep 66817) (rep_good 66817 (by decide)) ((rep_lane 66817 i (by decide) hi).trans (by decide)) (rep 32768) (rep_good 32768 (by decide)) ((rep_lane 32768 i (by decide) hi).trans (by decide)) (rep 880) (rep_good 880 (by decide)) ((rep_lane 880 i (by decide) hi).trans (by decide)))
  refine ⟨k1, ?_⟩
  rw [closed_mJ, mixAll_block start (pJ (byteS (laneV ⟨a, b, c, d, e, f, g, h⟩ i)) (BitVec.ofNat 8 T)) qJ (by simp [pJ])]
  have e2 := mixAll_block (mix start (pJ (byteS (laneV ⟨a, b, c, d, e, f, g, h⟩ i)) (BitVec.ofNat 8 T))) qJ [] (by simp [qJ])
  rw [List.append_nil, mixAll_short _ [] (by decide)] at e2
  rw [e2, ← h2, ← g2]
  exact k2
/-- A tree of numbers, each with its place. -/
inductive Tr where
  | n
  | b (l : Tr) (x i : Nat) (r : Tr)
/-- A number's place, and one; 0 where it is not found. -/
def findT (z : Nat) : Tr → Nat
  | .n => 0
  | .b l x i r => cond (Nat.beq z x) (Nat.succ i) (cond (Nat.ble z x) (findT z l) (findT z r))
def lw (y i : Nat) : Nat := Nat.mod (Nat.shiftRight y (Nat.mul 64 i)) 4294967296
theorem lw_lane (y i : Nat) : (lane y i).toNat = lw y i := by
  unfold lane lw
  rw [BitVec.toNat_ofNat]; rfl
noncomputable def lanI (y : Nat) (t : Tr) : Nat → Bool
  | 0 => true
  | n + 1 => force (lw y n) fun z => cond (Nat.beq (findT z t) (Nat.succ n)) (cond (Nat.beq (Nat.mod z 16777216) 0) false (lanI y t n)) false
theorem lanI_ok (y : Nat) (t : Tr) : ∀ n, lanI y t n = true → ∀ i, i < n → findT (lw y i) t = i + 1 ∧ lw y i % 16777216 ≠ 0
  | 0, _, i, hi => by omega
  | n + 1, h, i, hi => by
    rw [lanI, force_eq] at h
    cases hm : Nat.beq (findT (lw y n) t) (Nat.succ n) with
    | false => rw [hm] at h; cases h
    | true =>
      rw [hm] at h
      cases hb : Nat.beq (Nat.mod (lw y n) 16777216) 0 with
      | true => rw [hb] at h; cases h
      | false =>
        rw [hb] at h
        by_cases e : i = n
        · rw [e]; exact ⟨Nat.eq_of_beq_eq_true hm, fun e0 => by rw [show Nat.mod (lw y n) 16777216 = 0 from e0] at hb; cases hb⟩
        · exact lanI_ok y t n h i (by omega)
noncomputable def lanJ (y : Nat) (t : Tr) : Nat → Bool
  | 0 => true
  | n + 1 => force (lw y n) fun z => cond (Nat.beq (findT z t) 0) (cond (Nat.beq (Nat.mod z 16777216) 0) false (lanJ y t n)) false
theorem lanJ_ok (y : Nat) (t : Tr) : ∀ n, lanJ y t n = true → ∀ i, i < n → findT (lw y i) t = 0 ∧ lw y i % 16777216 ≠ 0
  | 0, _, i, hi => by omega
  | n + 1, h, i, hi => by
    rw [lanJ, force_eq] at h
    cases hm : Nat.beq (findT (lw y n) t) 0 with
    | false => rw [hm] at h; cases h
    | true =>
      rw [hm] at h
      cases hb : Nat.beq (Nat.mod (lw y n) 16777216) 0 with
      | true => rw [hb] at h; cases h
      | false =>
        rw [hb] at h
        by_cases e : i = n
        · rw [e]; exact ⟨Nat.eq_of_beq_eq_true hm, fun e0 => by rw [show Nat.mod (lw y n) 16777216 = 0 from e0] at hb; cases hb⟩
        · exact lanJ_ok y t n h i (by omega)
noncomputable def aJ (J0 J1 J2 J3 J4 J5 J6 J7 h T : Nat) (k : Nat → Bool) : Bool := fV (v1J J0 J1 J2 J3 J4 J5 J6 J7 (hiL h (rep T))) fun v => fV (secV v) fun v => k v.a
noncomputable def allJ (t : Tr) (J0 J1 J2 J3 J4 J5 J6 J7 h lo : Nat) : Nat → Bool
  | 0 => true
  | n + 1 => cond (aJ J0 J1 J2 J3 J4 J5 J6 J7 h (Nat.add lo n) fun y => lanJ y t 100) (allJ t J0 J1 J2 J3 J4 J5 J6 J7 h lo n) false
theorem allJ_ok (t : Tr) (J0 J1 J2 J3 J4 J5 J6 J7 h lo : Nat) : ∀ n, allJ t J0 J1 J2 J3 J4 J5 J6 J7 h lo n = true → ∀ T, lo ≤ T → T < lo + n → lanJ (secV (v1J J0 J1 J2 J3 J4 J5 J6 J7 (hiL h (rep T)))).a t 100 = true
  | 0, _, T, h1, hT => by omega
  | n + 1, hh, T, h1, hT => by
    rw [allJ] at hh
    cases hm : (aJ J0 J1 J2 J3 J4 J5 J6 J7 h (Nat.add lo n) fun y => lanJ y t 100) with
    | false => rw [hm] at hh; cases hh
    | true =>
      rw [hm] at hh
      by_cases e : T = lo + n
      · subst e
        unfold aJ at hm
        rw [fV_eq, fV_eq] at hm
        exact hm
      · exact allJ_ok t J0 J1 J2 J3 J4 J5 J6 J7 h lo n hh T h1 (by omega)
noncomputable def chkS (t : Tr) (lo n : Nat) : V8 → Bool
  | ⟨a, b, c, d, e, f, g, h⟩ => cond (lanI a t 100) (force (loL a) fun J0 => force (hiL a (shrL b 8)) fun J1 => force (hiL b (shrL c 8)) fun J2 => force (hiL c (shrL d 8)) fun J3 => force (hiL d (shrL e 8)) fun J4 => force (hiL e (shrL f 8)) fun J5 => force (hiL f (shrL g 8)) fun J6 => force (hiL g (shrL h 8)) fun J7 => allJ t J0 J1 J2 J3 J4 J5 J6 J7 h lo n) false
theorem chkS_ok (t : Tr) (lo n a b c d e f g h : Nat) (hh : chkS t lo n ⟨a, b, c, d, e, f, g, h⟩ = true) : lanI a t 100 = true ∧ ∀ T, lo ≤ T → T < lo + n → lanJ (secV (v1J (loL a) (hiL a (shrL b 8)) (hiL b (shrL c 8)) (hiL c (shrL d 8)) (hiL d (shrL e 8)) (hiL e (shrL f 8)) (hiL f (shrL g 8)) (hiL g (shrL h 8)) (hiL h (rep T)))).a t 100 = true := by
  have hh' : cond (lanI a t 100) (force (loL a) fun J0 => force (hiL a (shrL b 8)) fun J1 => force (hiL b (shrL c 8)) fun J2 => force (hiL c (shrL d 8)) fun J3 => force (hiL d (shrL e 8)) fun J4 => force (hiL e (shrL f 8)) fun J5 => force (hiL f (shrL g 8)) fun J6 => force (hiL g (shrL h 8)) fun J7 => allJ t J0 J1 J2 J3 J4 J5 J6 J7 h lo n) false = true := hh
  cases hm : lanI a t 100 with
  | false => rw [hm] at hh'; cases hh'
  | true =>
    rw [hm] at hh'
    simp only [force_eq, cond_true] at hh'
    exact ⟨rfl, allJ_ok t _ _ _ _ _ _ _ _ _ lo n hh'⟩
noncomputable def chkAll (t : Tr) (lo n : Nat) : Bool := fV v1I fun v => fV (secV v) (chkS t lo n)
/-- The first words, in a tree. -/
def T0 : Tr := (.b (.b (.b (.b (.b (.b (.b .n 1508771 12 .n) 46985897 38 (.b .n 173994428 39 .n)) 175058901 30 (.b (.b .n 180759137 71 .n) 194740072 18 .n)) 250090551 49 (.b (.b (.b .n 260899516 5 .n) 272827411 61 .n) 340538531 50 (.b (.b .n 380534768 91 .n) 409466943 48 .n))) 557446083 9 (.b (.b (.b (.b .n 609954792 66 .n) 658571851 4 (.b .n 662840240 8 .n)) 673563483 44 (.b (.b .n 684396149 62 .n) 690252081 10 .n)) 707066684 0 (.b (.b (.b .n 713715764 23 .n) 733480529 32 .n) 744231191 69 (.b (.b .n 753514980 20 .n) 763520607 15 .n)))) 788338592 3 (.b (.b (.b (.b (.b .n 796590261 1 .n) 879892317 67 (.b .n 889711121 72 .n)) 1012035370 84 (.b (.b .n 1120383200 95 .n) 1126070568 17 .n)) 1132925746 97 (.b (.b (.b .n 1167679494 88 .n) 1176225346 11 .n) 1225264936 86 (.b (.b .n 1391687513 54 .n) 1410590337 25 .n))) 1446153736 27 (.b (.b (.b (.b .n 1480267970 94 .n) 1499245147 22 .n) 1517302207 57 (.b (.b .n 1561206453 37 .n) 1657411839 98 .n)) 1687603878 52 (.b (.b (.b .n 1693042088 77 .n) 1697602156 55 .n) 1787903478 80 (.b (.b .n 1858925583 82 .n) 1889763135 53 .n))))) 1904725606 65 (.b (.b (.b (.b (.b (.b .n 1950059253 16 .n) 1989504957 26 (.b .n 1992986712 51 .n)) 1994552217 99 (.b (.b .n 2106078842 33 .n) 2133551175 76 .n)) 2140432686 46 (.b (.b (.b .n 2146070219 13 .n) 2206578082 85 .n) 2209106722 81 (.b (.b .n 2245398172 24 .n) 2258485341 78 .n))) 2352590183 42 (.b (.b (.b (.b .n 2400114642 79 .n) 2416190674 35 .n) 2514933828 93 (.b (.b .n 2515668543 7 .n) 2574966276 45 .n)) 2589498799 6 (.b (.b (.b .n 2600281144 36 .n) 2712408768 60 .n) 2727419688 28 (.b (.b .n 2745399699 19 .n) 2878480222 58 .n)))) 2886759967 73 (.b (.b (.b (.b (.b .n 2990359684 40 .n) 3014615325 21 (.b .n 3154048369 56 .n)) 3211731888 31 (.b (.b .n 3243223809 14 .n) 3340505286 34 .n)) 3360000014 74 (.b (.b (.b .n 3395676356 68 .n) 3396468864 87 .n) 3407445405 90 (.b (.b .n 3420163721 47 .n) 3447087571 96 .n))) 3454815613 29 (.b (.b (.b (.b .n 3508852255 59 .n) 3594580603 2 .n) 3602184237 64 (.b (.b .n 3725346155 70 .n) 3743142135 89 .n)) 3966722556 83 (.b (.b (.b .n 4003191520 41 .n) 4138067872 63 .n) 4149671630 92 (.b (.b .n 4208481146 75 .n) 4252409644 43 .n))))))
end Go.Proofs.YtlaifphedhaemaaGreatDoor
