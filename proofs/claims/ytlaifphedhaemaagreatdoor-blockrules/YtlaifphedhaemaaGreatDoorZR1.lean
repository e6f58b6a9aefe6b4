/- The document's own words of the steps: a row of 64 words in new memory. No conditions. The document's own schedule, which goes round in sixteen words, is the standard's. No program, no conditions. An index modulo sixteen, and the document's own sums of words, as the walk spells them. No program, no conditions. The document's own chunk is what the standard makes of a state and 64 bytes. -/
import Derived.Test.YtlaifphedhaemaaGreatDoorZS1
import Derived.Laws.Tables
import Derived.Test.YtlaifphedhaemaaGreatDoorZS2
import Derived.Deep.CutRange
import Derived.Deep.DeepCutAuto
namespace Go.Proofs.YtlaifphedhaemaaGreatDoor
open Go.ChangeShapes Go.WideShapes Go.ChangeAt Go.RowKit
set_option maxRecDepth 100000 in
set_option maxHeartbeats 4000000 in
theorem steps_any (w : World) :
    Calls Tryz.prog 123 #[] w fun e w' => e = .returned (.slice (some ⟨w.heap.size, 0, none⟩) 64 64) ∧ Blk w' w.heap.size (u32s Ks) ∧ Below w.heap.size w w' := by
  go_enter Tryz.func123, Tryz.ntmps123
  go_wp2
  go_ret
  exact ⟨rfl, Blk.mk _ _ _ rfl rfl, (Below.refl _ _).alloc (Nat.le_refl _) _⟩
end Go.Proofs.YtlaifphedhaemaaGreatDoor
namespace Go.Proofs.YtlaifphedhaemaaGreatDoor

/-- The ring ahead of step t. -/
structure Ring (p : List (BitVec 8)) (r : List (BitVec 32)) (t : Nat) : Prop where
  len : r.length = 16
  has : ∀ i, i < t → t ≤ i + 16 → r.getD (i % 16) 0 = W p i
  none : ∀ j, t ≤ j → j < 16 → r.getD j 0 = 0

theorem getD_set_self (l : List (BitVec 32)) (i : Nat) (x : BitVec 32) (h : i < l.length) : (l.set i x).getD i 0 = x := by
  rw [List.getD_eq_getElem?_getD, List.getElem?_set_self h]; rfl
theorem getD_set_other (l : List (BitVec 32)) (i j : Nat) (x : BitVec 32) (h : i ≠ j) : (l.set i x).getD j 0 = l.getD j 0 := by
  rw [List.getD_eq_getElem?_getD, List.getElem?_set_ne h, ← List.getD_eq_getElem?_getD]
theorem Ring.start (p : List (BitVec 8)) : Ring p (List.replicate 16 0) 0 :=
  ⟨by simp, fun i hi => by omega, fun j _ hj => by rw [List.getD_eq_getElem?_getD, List.getElem?_replicate, if_pos hj]; rfl⟩
/-- A word more. -/
theorem Ring.next {p : List (BitVec 8)} {r : List (BitVec 32)} {t : Nat} (h : Ring p r t) : Ring p (r.set (t % 16) (W p t)) (t + 1) := by
  refine ⟨by rw [List.length_set]; exact h.len, fun i hi hi2 => ?_, fun j hj hj2 => ?_⟩
  · by_cases e : i = t
    · subst e; exact getD_set_self _ _ _ (by rw [h.len]; omega)
    · rw [getD_set_other _ _ _ _ (by omega)]; exact h.has i (by omega) (by omega)
  · rw [getD_set_other _ _ _ _ (by omega)]; exact h.none j (by omega) hj2
theorem rev4 (a b c d : BitVec 32) : ((a + b) + c) + d = ((d + c) + b) + a := by
  rw [BitVec.add_comm _ d, BitVec.add_comm (a + b) c, BitVec.add_comm a b, BitVec.add_assoc d c b, BitVec.add_assoc d (c + b) a, BitVec.add_assoc c b a]
/-- From the sixteenth step on. -/
theorem Ring.drawn {p : List (BitVec 8)} {r : List (BitVec 32)} {t : Nat} (h : Ring p r t) (h1 : 16 ≤ t) (h2 : t < 64) :
    ((r.getD (t % 16) 0 + s0 (r.getD ((t + 1) % 16) 0)) + r.getD ((t + 9) % 16) 0) + s1 (r.getD ((t + 14) % 16) 0) = W p t := by
  have e0 := h.has (t - 16) (by omega) (by omega)
  have e1 := h.has (t - 15) (by omega) (by omega)
  have e7 := h.has (t - 7) (by omega) (by omega)
  have e2 := h.has (t - 2) (by omega) (by omega)
  rw [show (t - 16) % 16 = t % 16 by omega] at e0
  rw [show (t - 15) % 16 = (t + 1) % 16 by omega] at e1
  rw [show (t - 7) % 16 = (t + 9) % 16 by omega] at e7
  rw [show (t - 2) % 16 = (t + 14) % 16 by omega] at e2
  rw [e0, e1, e7, e2]
  have := W_next p (t - 16) (by omega)
  rw [show t - 16 + 16 = t by omega, show t - 16 + 14 = t - 2 by omega, show t - 16 + 9 = t - 7 by omega, show t - 16 + 1 = t - 15 by omega] at this
  rw [this]; exact rev4 _ _ _ _

/-- So many bytes of word t. -/
def part (p : List (BitVec 8)) (t : Nat) : Nat → BitVec 32
  | 0 => 0
  | k + 1 => part p t k <<< 8 ||| (p.getD (4 * t + k) 0).setWidth 32
theorem part_4 (p : List (BitVec 8)) (t : Nat) : part p t 4 = wordAt p t := by
  unfold wordAt word
  simp only [part, Nat.add_zero]
  generalize p.getD (4 * t) 0 = a; generalize p.getD (4 * t + 1) 0 = b; generalize p.getD (4 * t + 2) 0 = c; generalize p.getD (4 * t + 3) 0 = d
  ext i hi
  simp only [BitVec.getElem_or, BitVec.getElem_shiftLeft, BitVec.getElem_setWidth]
  by_cases h1 : i < 8
  · simp [h1, show i < 16 by omega, show i < 24 by omega]
  · by_cases h2 : i < 16
    · simp [h1, h2, show i < 24 by omega, show i - 8 < 8 by omega]
    · by_cases h3 : i < 24
      · have h4 : ¬ i - 8 < 8 := by omega
        simp [h1, h2, h3, h4]
        have := d.getLsbD_of_ge i (by omega); have h5 := c.getLsbD_of_ge (i - 8) (by omega)
        simp [this, h5, show i - 8 - 8 = i - 16 by omega, show i - 16 < 8 by omega]
      · have h4 : ¬ i - 8 < 8 := by omega
        have h5 : ¬ i - 16 < 8 := by omega
        simp [h1, h2, h3, h4]
        have := d.getLsbD_of_ge i (by omega); have h6 := c.getLsbD_of_ge (i - 8) (by omega); have h7 := b.getLsbD_of_ge (i - 16) (by omega)
        simp [this, h6, h7, h5, show i - 8 - 8 = i - 16 by omega, show i - 16 - 8 = i - 24 by omega, show i - 24 < 8 by omega]
theorem part_U (x : BitVec 32) (b : BitVec 8) : bits .or .u32 (U x * (256 : Int) % (4294967296 : Int)) (Y b) = U (x <<< 8 ||| b.setWidth 32) := by
  have h1 : U x * (256 : Int) % (4294967296 : Int) = U (x <<< 8) := w32_shl x 8
  have h2 : Y b = U (b.setWidth 32) := w8_w32 b
  rw [h1, h2, U_or]

/-- The words moved by one place, from the last one down to place k. -/
def moved (s : St) (k : Nat) : List (BitVec 32) := (List.range 8).map fun j => if k < j then s.list.getD (j - 1) 0 else s.list.getD j 0
end Go.Proofs.YtlaifphedhaemaaGreatDoor
namespace Go.Proofs.YtlaifphedhaemaaGreatDoor
theorem and15 (a : Nat) (h : a < 1000) : bits .and .i64 (a : Int) 15 = ((a % 16 : Nat) : Int) := by
  show IntKind.i64.wrap ((BitVec.ofInt 64 (a : Int) &&& BitVec.ofInt 64 15).toNat : Int) = _
  have h15 : (BitVec.ofInt 64 15).toNat = 15 := by decide
  rw [BitVec.toNat_and, ofInt_u64 a (by omega), h15, nat_mask4, IntKind.wrap_i64]
  omega
theorem Ch_U2 (e f g : BitVec 32) : bits .xor .u32 (U g) (bits .and .u32 (U e) (bits .xor .u32 (U f) (U g))) = U (Ch e f g) := by
  rw [U_xor, U_and, U_xor, Ch_other]
theorem Maj_U2 (a b c : BitVec 32) : bits .or .u32 (bits .and .u32 (U a) (U b)) (bits .and .u32 (U c) (bits .or .u32 (U a) (U b))) = U (Maj a b c) := by
  rw [U_and, U_or, U_and, U_or, Maj_other]
/-- A step of the document's own is the standard's. -/
theorem step_list (s : St) (k w : BitVec 32) : [t1 s k w + (S0 s.a + Maj s.a s.b s.c), s.a, s.b, s.c, s.d + t1 s k w, s.e, s.f, s.g] = (step s k w).list := by
  unfold step St.list
  rw [BitVec.add_assoc]
theorem moved_7 (s : St) : moved s 7 = s.list := rfl
theorem moved_0 (s : St) : moved s 0 = [s.a, s.a, s.b, s.c, s.d, s.e, s.f, s.g] := rfl
/-- The first k words of two states added. -/
def sumUp (s z : St) (k : Nat) : List (BitVec 32) := (List.range 8).map fun j => if j < k then s.list.getD j 0 + z.list.getD j 0 else s.list.getD j 0
theorem sumUp_0 (s z : St) : sumUp s z 0 = s.list := rfl
theorem sumUp_8 (s z : St) : sumUp s z 8 = (s.add z).list := rfl
theorem sumUp_length (s z : St) (k : Nat) : (sumUp s z k).length = 8 := by simp [sumUp]
theorem sumUp_next (s z : St) (k : Nat) (h : k < 8) : (sumUp s z k).set k ((sumUp s z k).getD k 0 + z.list.getD k 0) = sumUp s z (k + 1) := by
  obtain (rfl | rfl | rfl | rfl | rfl | rfl | rfl | rfl) : k = 0 ∨ k = 1 ∨ k = 2 ∨ k = 3 ∨ k = 4 ∨ k = 5 ∨ k = 6 ∨ k = 7 := by omega
  all_goals rfl
end Go.Proofs.YtlaifphedhaemaaGreatDoor
namespace Go.Proofs.YtlaifphedhaemaaGreatDoor
open Go.ChangeShapes Go.WideShapes Go.ChangeAt Go.RowKit

/-- The blocks of a chunk: the state that came, the result, the steps' words, the ring, the state at work. -/
structure Chk (s : St) (w : World) (N K Wb A : Nat) (ring st : List (BitVec 32)) (wr : World) : Prop where
  hS : Blk wr N (u32s s.list)
  hZ : Blk wr (N + 1) (u32s (List.replicate 8 0))
  hK : Blk wr K (u32s Ks)
  hW : Blk wr Wb (u32s ring)
  hA : Blk wr A (u32s st)
  bel : Below N w wr

section
variable {s : St} {w wr : World} {N M : Nat} {ring st : List (BitVec 32)}
theorem Chk.setW (h : Chk s w N (N + 2) M (M + 1) ring st wr) (hM : N + 2 < M) (i : Nat) (x : BitVec 32) : Chk s w N (N + 2) M (M + 1) (ring.set i x) st (wr.setCell ⟨M, i, none⟩ (.int .u32 (U x))) :=
  ⟨h.hS.other (show N ≠ M by omega) _, h.hZ.other (show N + 1 ≠ M by omega) _, h.hK.other (show N + 2 ≠ M by omega) _, by have := h.hW.set i (.int .u32 (U x)); rw [u32s_set] at this; exact this, h.hA.other (show M + 1 ≠ M by omega) _, h.bel.setCell (show N ≤ M by omega) _⟩
theorem Chk.setA (h : Chk s w N (N + 2) M (M + 1) ring st wr) (hM : N + 2 < M) (i : Nat) (x : BitVec 32) : Chk s w N (N + 2) M (M + 1) ring (st.set i x) (wr.setCell ⟨M + 1, i, none⟩ (.int .u32 (U x))) :=
  ⟨h.hS.other (show N ≠ M + 1 by omega) _, h.hZ.other (show N + 1 ≠ M + 1 by omega) _, h.hK.other (show N + 2 ≠ M + 1 by omega) _, h.hW.other (show M ≠ M + 1 by omega) _, by have := h.hA.set i (.int .u32 (U x)); rw [u32s_set] at this; exact this, h.bel.setCell (show N ≤ M + 1 by omega) _⟩
theorem Chk.drew (h : Chk s w N (N + 2) M (M + 1) ring st wr) : Chk s w N (N + 2) M (M + 1) ring st wr.drew := ⟨h.hS, h.hZ, h.hK, h.hW, h.hA, h.bel.drew⟩
theorem Chk.drewN (h : Chk s w N (N + 2) M (M + 1) ring st wr) (n : Nat) : Chk s w N (N + 2) M (M + 1) ring st (wr.drewN n) := ⟨h.hS, h.hZ, h.hK, h.hW, h.hA, below_drewN h.bel n⟩
end

theorem meet {G : Prop} (R : World → Prop) {K : Act → World → Prop} {fr : Act} (h1 : (∀ w', R w' → K fr w') → G) (h2 : ∀ w', R w' → K fr w') : G := h1 h2
set_option maxRecDepth 100000 in
set_option maxHeartbeats 4000000 in
theorem chunk_any (s : St) (p : List (BitVec 8)) (b off cap : Nat) (w : World) (hpc : ∀ j, j < 64 → w.cell? ⟨b, off + j, none⟩ = some (.int .u8 (Y (p.getD j 0)))) :
    Calls Tryz.prog 113 #[.agg (u32s s.list).toArray, .slice (some ⟨b, off, none⟩) 64 cap] w fun e w' => e = .returned (.agg (u32s (mix s p).list).toArray) ∧ Below w.heap.size w w' := by
  have HPC : Hid (∀ j, j < 64 → w.cell? ⟨b, off + j, none⟩ = some (.int .u8 (Y (p.getD j 0)))) := hpc
  have hbl : b < w.heap.size := World.block_lt_of_cell? w _ (hpc 0 (by omega))
  clear hpc
  go_enter Tryz.func113, Tryz.ntmps113
  go_wp2_with fail
  generalize hw1 : World.alloc (World.alloc w _) _ = w1
  have hz1 : w1.heap.size = w.heap.size + 2 := by rw [← hw1]; simp
  have hS1 : Blk w1 w.heap.size (u32s s.list) := by rw [← hw1]; exact (Blk.new _ _ _).alloc _
  have hZ1 : Blk w1 (w.heap.size + 1) (u32s (List.replicate 8 0)) := by rw [← hw1]; exact Blk.mk _ _ _ (by simp) rfl
  have hb1 : Below w.heap.size w w1 := by rw [← hw1]; exact ((Below.refl _ _).alloc (Nat.le_refl _) _).alloc (by simp) _
  clear hw1
  refine (steps_any w1).mono ?_
  rintro e w2 ⟨rfl, hK2, hb2⟩
  have hS2 := hS1.below hb2 hS1.lt
  have hZ2 := hZ1.below hb2 hZ1.lt
  have hb02 : Below w.heap.size w w2 := hb1.trans (hb2.mono hb1.size)
  have hK2l := hK2.lt
  clear hS1 hZ1 hb1 hb2
  have c0 : w2.cell? ⟨w.heap.size, 0, none⟩ = some (.int .u32 (U s.a)) := hS2.cell 0
  have c1 : w2.cell? ⟨w.heap.size, 1, none⟩ = some (.int .u32 (U s.b)) := hS2.cell 1
  have c2 : w2.cell? ⟨w.heap.size, 2, none⟩ = some (.int .u32 (U s.c)) := hS2.cell 2
  have c3 : w2.cell? ⟨w.heap.size, 3, none⟩ = some (.int .u32 (U s.d)) := hS2.cell 3
  have c4 : w2.cell? ⟨w.heap.size, 4, none⟩ = some (.int .u32 (U s.e)) := hS2.cell 4
  have c5 : w2.cell? ⟨w.heap.size, 5, none⟩ = some (.int .u32 (U s.f)) := hS2.cell 5
  have c6 : w2.cell? ⟨w.heap.size, 6, none⟩ = some (.int .u32 (U s.g)) := hS2.cell 6
  have c7 : w2.cell? ⟨w.heap.size, 7, none⟩ = some (.int .u32 (U s.h)) := hS2.cell 7
  have q7 : w.heap.size < w2.heap.size := hS2.lt
  have hne : ¬ w.heap.size = w2.heap.size := by omega
  go_wp2_with fail
  generalize hw3 : World.alloc (World.alloc w2 _) _ = w3
  have hC3 : Chk s w w.heap.size (w.heap.size + 2) w2.heap.size (w2.heap.size + 1) (List.replicate 16 0) s.list w3 := by
    rw [hz1] at hK2
    rw [← hw3]
    exact ⟨(hS2.alloc _).alloc _, (hZ2.alloc _).alloc _, (hK2.alloc _).alloc _, (Blk.mk _ _ _ rfl rfl).alloc _, Blk.mk _ _ _ (by simp) rfl, (hb02.alloc (by omega) _).alloc (by simp; omega) _⟩
  clear hw3 hS2 hZ2 hK2 hb02 c0 c1 c2 c3 c4 c5 c6 c7 q7 hne
  have hWN : w.heap.size + 2 < w2.heap.size := by omega
  generalize hM : w2.heap.size = M at *
  clear hK2l hM
  generalize hN : w.heap.size = N at *
  go_loopw [8] (fun i wr => ∃ (t : Nat) (ring : List (BitVec 32)), t ≤ 64 ∧ i = .int .i64 t ∧ Ring p ring t ∧ Chk s w N (N + 2) M (M + 1) ring (steps p s t).list wr) (fun i _ => 64 - (intOf i).toNat)
  case atStart => exact ⟨0, _, by omega, rfl, Ring.start p, hC3⟩
  case round =>
    obtain ⟨t, ring, ht, rfl, hring, hC⟩ := hrel
    clear hC3
    have hringl := hring.len
    have HRing : Hid (Ring p ring t) := hring
    clear hring
    by_cases hlt : t < 64
    · obtain ⟨st, hst⟩ : ∃ x, x = steps p s t := ⟨_, rfl⟩
      rw [← hst] at hC
      have HST : Hid (st = steps p s t) := hst
      clear hst
      have t0 : (0 : Int) ≤ (t : Int) := by omega
      have t1 : (t : Int) < 64 := by omega
      by_cases h16 : t < 16
      · have t2 : (t : Int) < 16 := by omega
        go_wp2_with fail
        go_loopw [9] (fun i wx => ∃ k : Nat, k ≤ 4 ∧ i = .int .i64 k ∧ Chk s w N (N + 2) M (M + 1) (ring.set t (part p t k)) st.list wx) (fun i _ => 4 - (intOf i).toNat)
        case atStart =>
          refine ⟨0, by omega, rfl, ?_⟩
          have e : ring.set t (part p t 0) = ring := by
            have h0 := HRing.out.none t (Nat.le_refl _) h16
            rw [List.getD_eq_getElem?_getD, List.getElem?_eq_getElem (by omega)] at h0
            show ring.set t 0 = ring
            have h1 : ring[t]'(by omega) = 0 := h0
            rw [← h1]; exact List.set_getElem_self _
          rw [e]; exact hC
        case round =>
          obtain ⟨k, hk, rfl, hC2⟩ := hrel
          clear hC
          by_cases hk4 : k < 4
          · have i0 : (0 : Int) ≤ (k : Int) := by omega
            have i1 : (k : Int) < 4 := by omega
            have i2 : 4 * (t : Int) + (k : Int) < 64 := by omega
            have i3 : (0 : Int) ≤ 4 * (t : Int) + (k : Int) := by omega
            have i4 : (4 * (t : Int) + (k : Int)).toNat = 4 * t + k := by omega
            have i5 : IntKind.i64.wrap (4 * (t : Int)) = 4 * (t : Int) := i64_fit (by omega) (by omega)
            have i6 : IntKind.i64.wrap (4 * (t : Int) + (k : Int)) = 4 * (t : Int) + (k : Int) := i64_fit (by omega) (by omega)
            have cw := hC2.hW.cell t
            rw [u32s_get _ t (by rw [List.length_set]; omega), getD_set_self _ _ _ (by omega)] at cw
            have fw := hC2.hW.frozen t
            have cp : wr.cell? ⟨b, off + (4 * t + k), none⟩ = some (.int .u8 (Y (p.getD (4 * t + k) 0))) := by
              rw [hC2.bel.cell (p := ⟨b, off + (4 * t + k), none⟩) (show b < N by omega)]; exact HPC.out _ (by omega)
            have hmo : Tryz.prog.follows .mixedOrders = true := by kernel_rfl
            have HMO : Hid (_ = true) := hmo
            clear hmo
            obtain ⟨x, hx⟩ : ∃ x, x = part p t k := ⟨_, rfl⟩
            obtain ⟨y, hy⟩ : ∃ y, y = p.getD (4 * t + k) 0 := ⟨_, rfl⟩
            rw [← hx] at cw
            rw [← hy] at cp
            have HX : Hid (x = _) := hx
            have HY : Hid (y = _) := hy
            clear hx hy
            have ux := U_lo x
            have uy := U_hi x
            have yl := Y_lo y
            have yh := Y_hi y
            go_wp2_with fail
            refine wp_region_tail 15 HMO.out (by kernel_rfl) ?_
            simp only [List.take_succ_cons, List.take_zero, List.drop_succ_cons, List.drop_zero]
            iterate 15 still_step
            refine wpStill_nil ?_
            go_wp2_with fail
            go_roundw
            case rel =>
              refine ⟨k + 1, by omega, by go_num, ?_⟩
              rw [part_U]
              have h := (hC2.setW hWN t (x <<< 8 ||| y.setWidth 32)).drew
              rw [List.set_set] at h
              have e : part p t (k + 1) = x <<< 8 ||| y.setWidth 32 := by rw [HX.out, HY.out]; rfl
              rw [e]; exact h
            case measure => simp [intOf]; omega
          · obtain rfl : k = 4 := by omega
            have hR2 : Ring p (ring.set t (part p t 4)) (t + 1) := by
              have := HRing.out.next
              rw [Nat.mod_eq_of_lt h16, W_first p t h16, ← part_4] at this; exact this
            have hrw : (ring.set t (part p t 4)).getD (t % 16) 0 = W p t := hR2.has t (by omega) (by omega)
            obtain ⟨ring2, hr2⟩ : ∃ x, x = ring.set t (part p t 4) := ⟨_, rfl⟩
            rw [← hr2] at hC2 hR2 hrw
            have HR2 : Hid (Ring p ring2 (t + 1)) := hR2
            have hrl := hR2.len
            clear hr2 hR2 hringl HRing
            obtain ⟨wt, hwt⟩ : ∃ x, x = W p t := ⟨_, rfl⟩
            rw [← hwt] at hrw
            have HWT : Hid (wt = W p t) := hwt
            obtain ⟨kt, hkt⟩ : ∃ x, x = Ks.getD t 0 := ⟨_, rfl⟩
            have HKT : Hid (kt = Ks.getD t 0) := hkt
            have cK := hC2.hK.cell t
            rw [u32s_get _ t (by rw [Ks_length]; exact hlt), ← hkt] at cK
            have cW := hC2.hW.cell (t % 16)
            rw [u32s_get _ (t % 16) (by omega), hrw] at cW
            clear hwt hkt hrw
            obtain ⟨a, b', c, d, e, f, g, h⟩ := st
            have c0 : wr.cell? ⟨M + 1, 0, none⟩ = some (.int .u32 (U a)) := hC2.hA.cell 0
            have c1 : wr.cell? ⟨M + 1, 1, none⟩ = some (.int .u32 (U b')) := hC2.hA.cell 1
            have c2 : wr.cell? ⟨M + 1, 2, none⟩ = some (.int .u32 (U c)) := hC2.hA.cell 2
            have c3 : wr.cell? ⟨M + 1, 3, none⟩ = some (.int .u32 (U d)) := hC2.hA.cell 3
            have c4 : wr.cell? ⟨M + 1, 4, none⟩ = some (.int .u32 (U e)) := hC2.hA.cell 4
            have c5 : wr.cell? ⟨M + 1, 5, none⟩ = some (.int .u32 (U f)) := hC2.hA.cell 5
            have c6 : wr.cell? ⟨M + 1, 6, none⟩ = some (.int .u32 (U g)) := hC2.hA.cell 6
            have c7 : wr.cell? ⟨M + 1, 7, none⟩ = some (.int .u32 (U h)) := hC2.hA.cell 7
            have ha15 := and15 t (by omega)
            have m0 : (0 : Int) ≤ ((t % 16 : Nat) : Int) := by omega
            have m1 : ((t % 16 : Nat) : Int) < 16 := by omega
            go_wp2_with fail
            rw [Ch_U2, Maj_U2]
            go_quiet ((go_at_call 125; exact Calls.quiet_of (mixE _ _)))
            go_wp2_with fail
            refine (mixA _ _).mono ?_
            rintro e' w' ⟨rfl, n1, rfl⟩
            go_wp2_with fail
            rw [U_add5, U_add]
            have hM7 : Chk s w N (N + 2) M (M + 1) ring2 (moved ⟨a, b', c, d, e, f, g, h⟩ 7) (wr.drewN (nq + n1)) := hC2.drewN _
            clear c0 c1 c2 c3 c4 c5 c6 c7 cK cW hC2 ha15 m0 m1
            go_loopw [14] (fun i wx => ∃ k : Nat, k ≤ 7 ∧ i = .int .i64 k ∧ Chk s w N (N + 2) M (M + 1) ring2 (moved ⟨a, b', c, d, e, f, g, h⟩ k) wx) (fun i _ => (intOf i).toNat)
            case atStart => exact ⟨7, by omega, rfl, hM7⟩
            case round =>
              obtain ⟨k, hk, rfl, hC4⟩ := hrel
              clear hM7
              have hml : (moved ⟨a, b', c, d, e, f, g, h⟩ k).length = 8 := by simp [moved]
              by_cases hk0 : 0 < k
              · obtain ⟨j1, j2, j3, j4⟩ := idx_sub k 1 8 1 8 rfl rfl (by omega) (by omega) (by omega)
                have k0 : (0 : Int) < (k : Int) := by omega
                have k0' : (0 : Int) ≤ (k : Int) := by omega
                have k1 : (1 : Int) ≤ (k : Int) := by omega
                have k8 : (k : Int) < 8 := by omega
                have k9 : (k : Int) < 9 := by omega
                have cA := hC4.hA.cell (k - 1)
                rw [u32s_get _ (k - 1) (by omega)] at cA
                have cB := hC4.hA.cell k
                rw [u32s_get _ k (by omega)] at cB
                have fB := hC4.hA.frozen k
                obtain ⟨x, hx⟩ : ∃ x, x = (moved ⟨a, b', c, d, e, f, g, h⟩ k).getD (k - 1) 0 := ⟨_, rfl⟩
                rw [← hx] at cA
                have HX : Hid (x = _) := hx
                clear hx
                go_wp2_with fail
                go_roundw
                case rel =>
                  refine ⟨k - 1, by omega, by rw [show ((k - 1 : Nat) : Int) = (k : Int) - 1 by omega], ?_⟩
                  have hh := hC4.setA hWN k x
                  have e0 : (moved ⟨a, b', c, d, e, f, g, h⟩ k).set k x = moved ⟨a, b', c, d, e, f, g, h⟩ (k - 1) := by
                    rw [HX.out]
                    obtain (rfl | rfl | rfl | rfl | rfl | rfl | rfl) : k = 1 ∨ k = 2 ∨ k = 3 ∨ k = 4 ∨ k = 5 ∨ k = 6 ∨ k = 7 := by omega
                    all_goals rfl
                  rw [e0] at hh; exact hh
                case measure => simp [intOf]; omega
              · obtain rfl : k = 0 := by omega
                have d4 : wr.cell? ⟨M + 1, 4, none⟩ = some (.int .u32 (U d)) := hC4.hA.cell 4
                have d0 : wr.cell? ⟨M + 1, 0, none⟩ = some (.int .u32 (U a)) := hC4.hA.cell 0
                have f4 := hC4.hA.frozen 4
                have f0 := hC4.hA.frozen 0
                go_wp2_with fail
                go_roundw
                case rel =>
                  refine ⟨t + 1, ring2, by omega, by go_num, HR2.out, ?_⟩
                  rw [U_add, U_add]
                  have hh := (hC4.setA hWN 4 (d + ((((h + S1 e) + Ch e f g) + kt) + wt))).setA hWN 0 (((((h + S1 e) + Ch e f g) + kt) + wt) + (S0 a + Maj a b' c))
                  have e0 : (steps p s (t + 1)).list = ((moved ⟨a, b', c, d, e, f, g, h⟩ 0).set 4 (d + ((((h + S1 e) + Ch e f g) + kt) + wt))).set 0 (((((h + S1 e) + Ch e f g) + kt) + wt) + (S0 a + Maj a b' c)) := by
                    show (step (steps p s t) (Ks.getD t 0) (W p t)).list = _
                    rw [← HST.out, ← HKT.out, ← HWT.out, ← step_list]
                    rfl
                  rw [e0]; exact hh
                case measure => simp [intOf]; omega
      · have h17 : 16 ≤ t := by omega
        have t2 : ¬ (t : Int) < 16 := by omega
        have t2' : decide ((t : Int) < 16) = false := by rw [decide_eq_false_iff_not]; omega
        have w1 : IntKind.i64.wrap ((t : Int) + 1) = (t : Int) + 1 := i64_fit (by omega) (by omega)
        have b1 : bits .and .i64 ((t : Int) + 1) 15 = (((t + 1) % 16 : Nat) : Int) := by
          have := and15 (t + 1) (by omega)
          rwa [show ((t + 1 : Nat) : Int) = (t : Int) + 1 by omega] at this
        have l1 : (0 : Int) ≤ ((t : Int) + 1) % 16 := by omega
        have m1 : ((t : Int) + 1) % 16 < 16 := by omega
        have n1 : (((t : Int) + 1) % 16).toNat = (t + 1) % 16 := by omega
        have c1 := hC.hW.cell ((t + 1) % 16)
        rw [u32s_get _ ((t + 1) % 16) (by omega)] at c1
        obtain ⟨x1, hx1⟩ : ∃ x, x = ring.getD ((t + 1) % 16) 0 := ⟨_, rfl⟩
        rw [← hx1] at c1
        have HX1 : Hid (x1 = _) := hx1
        clear hx1
        have w9 : IntKind.i64.wrap ((t : Int) + 9) = (t : Int) + 9 := i64_fit (by omega) (by omega)
        have b9 : bits .and .i64 ((t : Int) + 9) 15 = (((t + 9) % 16 : Nat) : Int) := by
          have := and15 (t + 9) (by omega)
          rwa [show ((t + 9 : Nat) : Int) = (t : Int) + 9 by omega] at this
        have l9 : (0 : Int) ≤ ((t : Int) + 9) % 16 := by omega
        have m9 : ((t : Int) + 9) % 16 < 16 := by omega
        have n9 : (((t : Int) + 9) % 16).toNat = (t + 9) % 16 := by omega
        have c9 := hC.hW.cell ((t + 9) % 16)
        rw [u32s_get _ ((t + 9) % 16) (by omega)] at c9
        obtain ⟨x9, hx9⟩ : ∃ x, x = ring.getD ((t + 9) % 16) 0 := ⟨_, rfl⟩
        rw [← hx9] at c9
        have HX9 : Hid (x9 = _) := hx9
        clear hx9
        have w14 : IntKind.i64.wrap ((t : Int) + 14) = (t : Int) + 14 := i64_fit (by omega) (by omega)
        have b14 : bits .and .i64 ((t : Int) + 14) 15 = (((t + 14) % 16 : Nat) : Int) := by
          have := and15 (t + 14) (by omega)
          rwa [show ((t + 14 : Nat) : Int) = (t : Int) + 14 by omega] at this
        have l14 : (0 : Int) ≤ ((t : Int) + 14) % 16 := by omega
        have m14 : ((t : Int) + 14) % 16 < 16 := by omega
        have n14 : (((t : Int) + 14) % 16).toNat = (t + 14) % 16 := by omega
        have c14 := hC.hW.cell ((t + 14) % 16)
        rw [u32s_get _ ((t + 14) % 16) (by omega)] at c14
        obtain ⟨x14, hx14⟩ : ∃ x, x = ring.getD ((t + 14) % 16) 0 := ⟨_, rfl⟩
        rw [← hx14] at c14
        have HX14 : Hid (x14 = _) := hx14
        clear hx14
        have b0 := and15 t (by omega)
        have l0 : (0 : Int) ≤ (t : Int) % 16 := by omega
        have m0 : (t : Int) % 16 < 16 := by omega
        have n0 : ((t : Int) % 16).toNat = t % 16 := by omega
        have c0 := hC.hW.cell (t % 16)
        rw [u32s_get _ (t % 16) (by omega)] at c0
        have f0 := hC.hW.frozen (t % 16)
        obtain ⟨x0, hx0⟩ : ∃ x, x = ring.getD (t % 16) 0 := ⟨_, rfl⟩
        rw [← hx0] at c0
        have HX0 : Hid (x0 = _) := hx0
        clear hx0
        have hSS : wr.cell? ⟨M, (t + 1) % 16, none⟩ = some (.int .u32 (U x1)) ∧ wr.cell? ⟨M, (t + 9) % 16, none⟩ = some (.int .u32 (U x9)) ∧ wr.cell? ⟨M, (t + 14) % 16, none⟩ = some (.int .u32 (U x14)) := ⟨c1, c9, c14⟩
        have hmo : Tryz.prog.follows .mixedOrders = true := by kernel_rfl
        have HMO : Hid (_ = true) := hmo
        clear hmo
        have hV : IntKind.u32.wrap (IntKind.u32.wrap (IntKind.u32.wrap (U x0 + U (s0 x1)) + U x9) + U (s1 x14)) = U (W p t) := by
          rw [U_addw, U_addw, U_addw, HX0.out, HX1.out, HX9.out, HX14.out, HRing.out.drawn h17 hlt]
        have HEND : Hid (∀ n, ∃ ring2, Chk s w N (N + 2) M (M + 1) ring2 st.list ((wr.drewN n).setCell ⟨M, t % 16, none⟩ (.int .u32 (IntKind.u32.wrap (IntKind.u32.wrap (IntKind.u32.wrap (U x0 + U (s0 x1)) + U x9) + U (s1 x14))))) ∧ Ring p ring2 (t + 1) ∧ ring2.getD (t % 16) 0 = W p t) := fun n =>
          ⟨_, by rw [hV]; exact (hC.drewN n).setW hWN (t % 16) (W p t), HRing.out.next, HRing.out.next.has t (by omega) (by omega)⟩
        clear hV
        go_wp2_with fail
        apply meet (fun w' => ∃ ring2, Chk s w N (N + 2) M (M + 1) ring2 st.list w' ∧ Ring p ring2 (t + 1) ∧ ring2.getD (t % 16) 0 = W p t)
        · intro HM
          have HMEET : Hid _ := HM
          clear HM
          refine wp_region_noPanic ?_
          refine wp_region_held_drew (S := fun w' => w'.cell? ⟨M, (t + 1) % 16, none⟩ = some (.int .u32 (U x1)) ∧ w'.cell? ⟨M, (t + 9) % 16, none⟩ = some (.int .u32 (U x9)) ∧ w'.cell? ⟨M, (t + 14) % 16, none⟩ = some (.int .u32 (U x14))) HMO.out hSS (fun hHeld => ?_)
          refine wpAnyH_take (i := 0) (oi := { dst := some 43, op := .move (.tmp 8), type := 3, pos := "forms.go:118", after := #[], guard := none }) (v := ?_) rfl (by kernel_rfl) (by kernel_rfl) (by kernel_rfl) (fun _ _ _ h => h) (Or.inl ⟨by rfl, ?_⟩) (by assumption) ?_
          rotate_left
          · intro _ _; go_simp; first | done | with_reducible rfl
          simp only [Act.put, List.setIfInBounds_toArray, List.set_cons_zero, List.set_cons_succ]
          refine wpAnyH_take (i := 1) (oi := { dst := some 44, op := .binOp Go.BinOp.and 3 (.tmp 43) (.const (.int .i64 15)) 3, type := 3, pos := "forms.go:118", after := #[{ on := 0, ground := .data }], guard := none }) (v := ?_) rfl (by kernel_rfl) (by kernel_rfl) (by kernel_rfl) (fun _ _ _ h => h) (Or.inl ⟨by rfl, ?_⟩) (by assumption) ?_
          rotate_left
          · intro _ _; go_simp; first | done | with_reducible rfl
          simp only [Act.put, List.setIfInBounds_toArray, List.set_cons_zero, List.set_cons_succ]
          refine wpAnyH_take (i := 2) (oi := { dst := some 45, op := .move (.tmp 8), type := 3, pos := "forms.go:118", after := #[], guard := none }) (v := ?_) rfl (by kernel_rfl) (by kernel_rfl) (by kernel_rfl) (fun _ _ _ h => h) (Or.inl ⟨by rfl, ?_⟩) (by assumption) ?_
          rotate_left
          · intro _ _; go_simp; first | done | with_reducible rfl
          simp only [Act.put, List.setIfInBounds_toArray, List.set_cons_zero, List.set_cons_succ]
          refine wpAnyH_take (i := 3) (oi := { dst := some 46, op := .binOp Go.BinOp.and 3 (.tmp 45) (.const (.int .i64 15)) 3, type := 3, pos := "forms.go:118", after := #[{ on := 2, ground := .data }], guard := none }) (v := ?_) rfl (by kernel_rfl) (by kernel_rfl) (by kernel_rfl) (fun _ _ _ h => h) (Or.inl ⟨by rfl, ?_⟩) (by assumption) ?_
          rotate_left
          · intro _ _; go_simp; first | done | with_reducible rfl
          simp only [Act.put, List.setIfInBounds_toArray, List.set_cons_zero, List.set_cons_succ]
          refine wpAnyH_take (i := 4) (oi := { dst := some 47, op := .indexAddr 176 (.tmp 6) (.tmp 46), type := 0, pos := "forms.go:118", after := #[{ on := 3, ground := .data }], guard := none }) (v := ?_) rfl (by kernel_rfl) (by kernel_rfl) (by kernel_rfl) (fun _ _ _ h => h) (Or.inl ⟨by rfl, ?_⟩) (by assumption) ?_
          rotate_left
          · intro _ _; go_simp; first | done | with_reducible rfl
          simp only [Act.put, List.setIfInBounds_toArray, List.set_cons_zero, List.set_cons_succ]
          refine wpAnyH_take (i := 6) (oi := { dst := some 49, op := .move (.tmp 8), type := 3, pos := "forms.go:118", after := #[], guard := none }) (v := ?_) rfl (by kernel_rfl) (by kernel_rfl) (by kernel_rfl) (fun _ _ _ h => h) (Or.inl ⟨by rfl, ?_⟩) (by assumption) ?_
          rotate_left
          · intro _ _; go_simp; first | done | with_reducible rfl
          simp only [Act.put, List.setIfInBounds_toArray, List.set_cons_zero, List.set_cons_succ]
          refine wpAnyH_take (i := 7) (oi := { dst := some 50, op := .binOp Go.BinOp.add 3 (.tmp 49) (.const (.int .i64 1)) 3, type := 3, pos := "forms.go:118", after := #[{ on := 6, ground := .data }], guard := none }) (v := ?_) rfl (by kernel_rfl) (by kernel_rfl) (by kernel_rfl) (fun _ _ _ h => h) (Or.inl ⟨by rfl, ?_⟩) (by assumption) ?_
          rotate_left
          · intro _ _; go_simp; first | done | with_reducible rfl
          simp only [Act.put, List.setIfInBounds_toArray, List.set_cons_zero, List.set_cons_succ]
          refine wpAnyH_take (i := 8) (oi := { dst := some 51, op := .binOp Go.BinOp.and 3 (.tmp 50) (.const (.int .i64 15)) 3, type := 3, pos := "forms.go:118", after := #[{ on := 7, ground := .data }], guard := none }) (v := ?_) rfl (by kernel_rfl) (by kernel_rfl) (by kernel_rfl) (fun _ _ _ h => h) (Or.inl ⟨by rfl, ?_⟩) (by assumption) ?_
          rotate_left
          · intro _ _; go_simp; first | done | with_reducible rfl
          simp only [Act.put, List.setIfInBounds_toArray, List.set_cons_zero, List.set_cons_succ]
          refine wpAnyH_take (i := 9) (oi := { dst := some 52, op := .indexAddr 176 (.tmp 6) (.tmp 51), type := 0, pos := "forms.go:118", after := #[{ on := 8, ground := .data }], guard := none }) (v := ?_) rfl (by kernel_rfl) (by kernel_rfl) (by kernel_rfl) (fun _ _ _ h => h) (Or.inl ⟨by rfl, ?_⟩) (by assumption) ?_
          rotate_left
          · intro _ _; go_simp; first | done | with_reducible rfl
          simp only [Act.put, List.setIfInBounds_toArray, List.set_cons_zero, List.set_cons_succ]
          refine wpAnyH_take (i := 10) (oi := { dst := some 53, op := .load 155 (.tmp 52), type := 155, pos := "forms.go:118", after := #[{ on := 9, ground := .data }], guard := none }) (v := ?_) rfl (by kernel_rfl) (by kernel_rfl) (by kernel_rfl) (fun _ _ _ h => h) (Or.inl ⟨by rfl, ?_⟩) (by assumption) ?_
          rotate_left
          · intro _ hS'; (try dsimp only at hS'); obtain ⟨h1', h9', h14'⟩ := hS'; go_simp; first | done | with_reducible rfl
          simp only [Act.put, List.setIfInBounds_toArray, List.set_cons_zero, List.set_cons_succ]
          refine wpAnyH_take (i := 13) (oi := { dst := some 56, op := .move (.tmp 8), type := 3, pos := "forms.go:118", after := #[], guard := none }) (v := ?_) rfl (by kernel_rfl) (by kernel_rfl) (by kernel_rfl) (fun _ _ _ h => h) (Or.inl ⟨by rfl, ?_⟩) (by assumption) ?_
          rotate_left
          · intro _ _; go_simp; first | done | with_reducible rfl
          simp only [Act.put, List.setIfInBounds_toArray, List.set_cons_zero, List.set_cons_succ]
          refine wpAnyH_take (i := 14) (oi := { dst := some 57, op := .binOp Go.BinOp.add 3 (.tmp 56) (.const (.int .i64 9)) 3, type := 3, pos := "forms.go:118", after := #[{ on := 13, ground := .data }], guard := none }) (v := ?_) rfl (by kernel_rfl) (by kernel_rfl) (by kernel_rfl) (fun _ _ _ h => h) (Or.inl ⟨by rfl, ?_⟩) (by assumption) ?_
          rotate_left
          · intro _ _; go_simp; first | done | with_reducible rfl
          simp only [Act.put, List.setIfInBounds_toArray, List.set_cons_zero, List.set_cons_succ]
          refine wpAnyH_take (i := 15) (oi := { dst := some 58, op := .binOp Go.BinOp.and 3 (.tmp 57) (.const (.int .i64 15)) 3, type := 3, pos := "forms.go:118", after := #[{ on := 14, ground := .data }], guard := none }) (v := ?_) rfl (by kernel_rfl) (by kernel_rfl) (by kernel_rfl) (fun _ _ _ h => h) (Or.inl ⟨by rfl, ?_⟩) (by assumption) ?_
          rotate_left
          · intro _ _; go_simp; first | done | with_reducible rfl
          simp only [Act.put, List.setIfInBounds_toArray, List.set_cons_zero, List.set_cons_succ]
          refine wpAnyH_take (i := 16) (oi := { dst := some 59, op := .indexAddr 176 (.tmp 6) (.tmp 58), type := 0, pos := "forms.go:118", after := #[{ on := 15, ground := .data }], guard := none }) (v := ?_) rfl (by kernel_rfl) (by kernel_rfl) (by kernel_rfl) (fun _ _ _ h => h) (Or.inl ⟨by rfl, ?_⟩) (by assumption) ?_
          rotate_left
          · intro _ _; go_simp; first | done | with_reducible rfl
          simp only [Act.put, List.setIfInBounds_toArray, List.set_cons_zero, List.set_cons_succ]
          refine wpAnyH_take (i := 17) (oi := { dst := some 60, op := .load 155 (.tmp 59), type := 155, pos := "forms.go:118", after := #[{ on := 16, ground := .data }], guard := none }) (v := ?_) rfl (by kernel_rfl) (by kernel_rfl) (by kernel_rfl) (fun _ _ _ h => h) (Or.inl ⟨by rfl, ?_⟩) (by assumption) ?_
          rotate_left
          · intro _ hS'; (try dsimp only at hS'); obtain ⟨h1', h9', h14'⟩ := hS'; go_simp; first | done | with_reducible rfl
          simp only [Act.put, List.setIfInBounds_toArray, List.set_cons_zero, List.set_cons_succ]
          refine wpAnyH_take (i := 19) (oi := { dst := some 62, op := .move (.tmp 8), type := 3, pos := "forms.go:118", after := #[], guard := none }) (v := ?_) rfl (by kernel_rfl) (by kernel_rfl) (by kernel_rfl) (fun _ _ _ h => h) (Or.inl ⟨by rfl, ?_⟩) (by assumption) ?_
          rotate_left
          · intro _ _; go_simp; first | done | with_reducible rfl
          simp only [Act.put, List.setIfInBounds_toArray, List.set_cons_zero, List.set_cons_succ]
          refine wpAnyH_take (i := 20) (oi := { dst := some 63, op := .binOp Go.BinOp.add 3 (.tmp 62) (.const (.int .i64 14)) 3, type := 3, pos := "forms.go:118", after := #[{ on := 19, ground := .data }], guard := none }) (v := ?_) rfl (by kernel_rfl) (by kernel_rfl) (by kernel_rfl) (fun _ _ _ h => h) (Or.inl ⟨by rfl, ?_⟩) (by assumption) ?_
          rotate_left
          · intro _ _; go_simp; first | done | with_reducible rfl
          simp only [Act.put, List.setIfInBounds_toArray, List.set_cons_zero, List.set_cons_succ]
          refine wpAnyH_take (i := 21) (oi := { dst := some 64, op := .binOp Go.BinOp.and 3 (.tmp 63) (.const (.int .i64 15)) 3, type := 3, pos := "forms.go:118", after := #[{ on := 20, ground := .data }], guard := none }) (v := ?_) rfl (by kernel_rfl) (by kernel_rfl) (by kernel_rfl) (fun _ _ _ h => h) (Or.inl ⟨by rfl, ?_⟩) (by assumption) ?_
          rotate_left
          · intro _ _; go_simp; first | done | with_reducible rfl
          simp only [Act.put, List.setIfInBounds_toArray, List.set_cons_zero, List.set_cons_succ]
          refine wpAnyH_take (i := 22) (oi := { dst := some 65, op := .indexAddr 176 (.tmp 6) (.tmp 64), type := 0, pos := "forms.go:118", after := #[{ on := 21, ground := .data }], guard := none }) (v := ?_) rfl (by kernel_rfl) (by kernel_rfl) (by kernel_rfl) (fun _ _ _ h => h) (Or.inl ⟨by rfl, ?_⟩) (by assumption) ?_
          rotate_left
          · intro _ _; go_simp; first | done | with_reducible rfl
          simp only [Act.put, List.setIfInBounds_toArray, List.set_cons_zero, List.set_cons_succ]
          refine wpAnyH_take (i := 23) (oi := { dst := some 66, op := .load 155 (.tmp 65), type := 155, pos := "forms.go:118", after := #[{ on := 22, ground := .data }], guard := none }) (v := ?_) rfl (by kernel_rfl) (by kernel_rfl) (by kernel_rfl) (fun _ _ _ h => h) (Or.inl ⟨by rfl, ?_⟩) (by assumption) ?_
          rotate_left
          · intro _ hS'; (try dsimp only at hS'); obtain ⟨h1', h9', h14'⟩ := hS'; go_simp; first | done | with_reducible rfl
          simp only [Act.put, List.setIfInBounds_toArray, List.set_cons_zero, List.set_cons_succ]
          refine wpAnyH_ready (rs := [5, 11]) (by kernel_rfl) (by simp) ?_
          refine AllReadyH.cons (o := { dst := some 48, op := .load 155 (.tmp 47), type := 155, pos := "forms.go:118", after := #[{ on := 4, ground := .data }], guard := none }) rfl (fun K hK => ?_) (AllReadyH.cons (o := { dst := some 54, op := .call { callee := .value (.func 124), args := #[.tmp 53, .const (.int .i64 7), .const (.int .i64 18), .const (.int .i64 3)], argTypes := #[155, 3, 3, 3] }, type := 155, pos := "forms.go:118", after := #[{ on := 10, ground := .data }], guard := none }) rfl (fun K hK => ?_) AllReadyH.nil)
          · go_simp
            refine hK.out _ _ hSS (fun hHeld => ?_)
            clear hK K
            refine wpAnyH_ready (rs := [11]) (by kernel_rfl) (by simp) ?_
            refine AllReadyH.cons (o := { dst := some 54, op := .call { callee := .value (.func 124), args := #[.tmp 53, .const (.int .i64 7), .const (.int .i64 18), .const (.int .i64 3)], argTypes := #[155, 3, 3, 3] }, type := 155, pos := "forms.go:118", after := #[{ on := 10, ground := .data }], guard := none }) rfl (fun K hK => ?_) AllReadyH.nil
            go_simp
            refine (draw0 x1 _).mono ?_
            rintro e w' ⟨rfl, n2, rfl⟩
            go_simp
            refine hK.out _ _ hSS (fun hHeld => ?_)
            clear hK K
            refine wpAnyH_take (i := 12) (oi := { dst := some 55, op := .binOp Go.BinOp.add 155 (.tmp 48) (.tmp 54) 155, type := 155, pos := "forms.go:118", after := #[{ on := 5, ground := .data }, { on := 11, ground := .data }], guard := none }) (v := ?_) rfl (by kernel_rfl) (by kernel_rfl) (by kernel_rfl) (fun _ _ _ h => h) (Or.inl ⟨by rfl, ?_⟩) (by assumption) ?_
            rotate_left
            · intro _ _; go_simp; first | done | with_reducible rfl
            simp only [Act.put, List.setIfInBounds_toArray, List.set_cons_zero, List.set_cons_succ]
            refine wpAnyH_take (i := 18) (oi := { dst := some 61, op := .binOp Go.BinOp.add 155 (.tmp 55) (.tmp 60) 155, type := 155, pos := "forms.go:118", after := #[{ on := 12, ground := .data }, { on := 17, ground := .data }], guard := none }) (v := ?_) rfl (by kernel_rfl) (by kernel_rfl) (by kernel_rfl) (fun _ _ _ h => h) (Or.inl ⟨by rfl, ?_⟩) (by assumption) ?_
            rotate_left
            · intro _ _; go_simp; first | done | with_reducible rfl
            simp only [Act.put, List.setIfInBounds_toArray, List.set_cons_zero, List.set_cons_succ]
            refine wpAnyH_ready (rs := [24]) (by kernel_rfl) (by simp) ?_
            refine AllReadyH.cons (o := { dst := some 67, op := .call { callee := .value (.func 124), args := #[.tmp 66, .const (.int .i64 17), .const (.int .i64 19), .const (.int .i64 10)], argTypes := #[155, 3, 3, 3] }, type := 155, pos := "forms.go:118", after := #[{ on := 23, ground := .data }, { on := 11, ground := .chain }], guard := none }) rfl (fun K hK => ?_) AllReadyH.nil
            go_simp
            refine (draw1 x14 _).mono ?_
            rintro e w' ⟨rfl, n1, rfl⟩
            go_simp
            refine hK.out _ _ hSS (fun hHeld => ?_)
            clear hK K
            refine wpAnyH_take (i := 25) (oi := { dst := some 68, op := .binOp Go.BinOp.add 155 (.tmp 61) (.tmp 67) 155, type := 155, pos := "forms.go:118", after := #[{ on := 18, ground := .data }, { on := 24, ground := .data }], guard := none }) (v := ?_) rfl (by kernel_rfl) (by kernel_rfl) (by kernel_rfl) (fun _ _ _ h => h) (Or.inl ⟨by rfl, ?_⟩) (by assumption) ?_
            rotate_left
            · intro _ _; go_simp; first | done | with_reducible rfl
            simp only [Act.put, List.setIfInBounds_toArray, List.set_cons_zero, List.set_cons_succ]
            refine wpAnyH_take (i := 26) (oi := { dst := some 69, op := .indexAddr 176 (.tmp 6) (.tmp 44), type := 0, pos := "forms.go:118", after := #[{ on := 1, ground := .data }, { on := 0, ground := .phase }, { on := 1, ground := .phase }, { on := 2, ground := .phase }, { on := 3, ground := .phase }, { on := 4, ground := .phase }, { on := 5, ground := .phase }, { on := 6, ground := .phase }, { on := 7, ground := .phase }, { on := 8, ground := .phase }, { on := 9, ground := .phase }, { on := 10, ground := .phase }, { on := 11, ground := .phase }, { on := 12, ground := .phase }, { on := 13, ground := .phase }, { on := 14, ground := .phase }, { on := 15, ground := .phase }, { on := 16, ground := .phase }, { on := 17, ground := .phase }, { on := 18, ground := .phase }, { on := 19, ground := .phase }, { on := 20, ground := .phase }, { on := 21, ground := .phase }, { on := 22, ground := .phase }, { on := 23, ground := .phase }, { on := 24, ground := .phase }, { on := 25, ground := .phase }], guard := none }) (v := ?_) rfl (by kernel_rfl) (by kernel_rfl) (by kernel_rfl) (fun _ _ _ h => h) (Or.inl ⟨by rfl, ?_⟩) (by assumption) ?_
            rotate_left
            · intro _ _; go_simp; first | done | with_reducible rfl
            simp only [Act.put, List.setIfInBounds_toArray, List.set_cons_zero, List.set_cons_succ]
            refine wpAnyH_ready (rs := [27]) (by kernel_rfl) (by simp) ?_
            refine AllReadyH.cons (o := { dst := none, op := .store 155 (.tmp 69) (.tmp 68), type := 0, pos := "forms.go:118", after := #[{ on := 26, ground := .data }, { on := 25, ground := .data }, { on := 24, ground := .chain }, { on := 0, ground := .phase }, { on := 1, ground := .phase }, { on := 2, ground := .phase }, { on := 3, ground := .phase }, { on := 4, ground := .phase }, { on := 5, ground := .phase }, { on := 6, ground := .phase }, { on := 7, ground := .phase }, { on := 8, ground := .phase }, { on := 9, ground := .phase }, { on := 10, ground := .phase }, { on := 11, ground := .phase }, { on := 12, ground := .phase }, { on := 13, ground := .phase }, { on := 14, ground := .phase }, { on := 15, ground := .phase }, { on := 16, ground := .phase }, { on := 17, ground := .phase }, { on := 18, ground := .phase }, { on := 19, ground := .phase }, { on := 20, ground := .phase }, { on := 21, ground := .phase }, { on := 22, ground := .phase }, { on := 23, ground := .phase }, { on := 24, ground := .phase }, { on := 25, ground := .phase }], guard := none }) rfl (fun K hK => ?_) AllReadyH.nil
            go_simp
            refine hK.out _ _ ⟨cell_kept (by omega) c1, cell_kept (by omega) c9, cell_kept (by omega) c14⟩ (fun hHeld => ?_)
            clear hK K
            refine wpAnyH_done (by kernel_rfl) ?_ _
            refine NoPanic.normal ?_
            exact HMEET.out _ (HEND.out _)
          · go_simp
            refine (draw0 x1 _).mono ?_
            rintro e w' ⟨rfl, n5, rfl⟩
            go_simp
            refine hK.out _ _ hSS (fun hHeld => ?_)
            clear hK K
            refine wpAnyH_ready (rs := [5, 24]) (by kernel_rfl) (by simp) ?_
            refine AllReadyH.cons (o := { dst := some 48, op := .load 155 (.tmp 47), type := 155, pos := "forms.go:118", after := #[{ on := 4, ground := .data }], guard := none }) rfl (fun K hK => ?_) (AllReadyH.cons (o := { dst := some 67, op := .call { callee := .value (.func 124), args := #[.tmp 66, .const (.int .i64 17), .const (.int .i64 19), .const (.int .i64 10)], argTypes := #[155, 3, 3, 3] }, type := 155, pos := "forms.go:118", after := #[{ on := 23, ground := .data }, { on := 11, ground := .chain }], guard := none }) rfl (fun K hK => ?_) AllReadyH.nil)
            · go_simp
              refine hK.out _ _ hSS (fun hHeld => ?_)
              clear hK K
              refine wpAnyH_take (i := 12) (oi := { dst := some 55, op := .binOp Go.BinOp.add 155 (.tmp 48) (.tmp 54) 155, type := 155, pos := "forms.go:118", after := #[{ on := 5, ground := .data }, { on := 11, ground := .data }], guard := none }) (v := ?_) rfl (by kernel_rfl) (by kernel_rfl) (by kernel_rfl) (fun _ _ _ h => h) (Or.inl ⟨by rfl, ?_⟩) (by assumption) ?_
              rotate_left
              · intro _ _; go_simp; first | done | with_reducible rfl
              simp only [Act.put, List.setIfInBounds_toArray, List.set_cons_zero, List.set_cons_succ]
              refine wpAnyH_take (i := 18) (oi := { dst := some 61, op := .binOp Go.BinOp.add 155 (.tmp 55) (.tmp 60) 155, type := 155, pos := "forms.go:118", after := #[{ on := 12, ground := .data }, { on := 17, ground := .data }], guard := none }) (v := ?_) rfl (by kernel_rfl) (by kernel_rfl) (by kernel_rfl) (fun _ _ _ h => h) (Or.inl ⟨by rfl, ?_⟩) (by assumption) ?_
              rotate_left
              · intro _ _; go_simp; first | done | with_reducible rfl
              simp only [Act.put, List.setIfInBounds_toArray, List.set_cons_zero, List.set_cons_succ]
              refine wpAnyH_ready (rs := [24]) (by kernel_rfl) (by simp) ?_
              refine AllReadyH.cons (o := { dst := some 67, op := .call { callee := .value (.func 124), args := #[.tmp 66, .const (.int .i64 17), .const (.int .i64 19), .const (.int .i64 10)], argTypes := #[155, 3, 3, 3] }, type := 155, pos := "forms.go:118", after := #[{ on := 23, ground := .data }, { on := 11, ground := .chain }], guard := none }) rfl (fun K hK => ?_) AllReadyH.nil
              go_simp
              refine (draw1 x14 _).mono ?_
              rintro e w' ⟨rfl, n3, rfl⟩
              go_simp
              refine hK.out _ _ hSS (fun hHeld => ?_)
              clear hK K
              refine wpAnyH_take (i := 25) (oi := { dst := some 68, op := .binOp Go.BinOp.add 155 (.tmp 61) (.tmp 67) 155, type := 155, pos := "forms.go:118", after := #[{ on := 18, ground := .data }, { on := 24, ground := .data }], guard := none }) (v := ?_) rfl (by kernel_rfl) (by kernel_rfl) (by kernel_rfl) (fun _ _ _ h => h) (Or.inl ⟨by rfl, ?_⟩) (by assumption) ?_
              rotate_left
              · intro _ _; go_simp; first | done | with_reducible rfl
              simp only [Act.put, List.setIfInBounds_toArray, List.set_cons_zero, List.set_cons_succ]
              refine wpAnyH_take (i := 26) (oi := { dst := some 69, op := .indexAddr 176 (.tmp 6) (.tmp 44), type := 0, pos := "forms.go:118", after := #[{ on := 1, ground := .data }, { on := 0, ground := .phase }, { on := 1, ground := .phase }, { on := 2, ground := .phase }, { on := 3, ground := .phase }, { on := 4, ground := .phase }, { on := 5, ground := .phase }, { on := 6, ground := .phase }, { on := 7, ground := .phase }, { on := 8, ground := .phase }, { on := 9, ground := .phase }, { on := 10, ground := .phase }, { on := 11, ground := .phase }, { on := 12, ground := .phase }, { on := 13, ground := .phase }, { on := 14, ground := .phase }, { on := 15, ground := .phase }, { on := 16, ground := .phase }, { on := 17, ground := .phase }, { on := 18, ground := .phase }, { on := 19, ground := .phase }, { on := 20, ground := .phase }, { on := 21, ground := .phase }, { on := 22, ground := .phase }, { on := 23, ground := .phase }, { on := 24, ground := .phase }, { on := 25, ground := .phase }], guard := none }) (v := ?_) rfl (by kernel_rfl) (by kernel_rfl) (by kernel_rfl) (fun _ _ _ h => h) (Or.inl ⟨by rfl, ?_⟩) (by assumption) ?_
              rotate_left
              · intro _ _; go_simp; first | done | with_reducible rfl
              simp only [Act.put, List.setIfInBounds_toArray, List.set_cons_zero, List.set_cons_succ]
              refine wpAnyH_ready (rs := [27]) (by kernel_rfl) (by simp) ?_
              refine AllReadyH.cons (o := { dst := none, op := .store 155 (.tmp 69) (.tmp 68), type := 0, pos := "forms.go:118", after := #[{ on := 26, ground := .data }, { on := 25, ground := .data }, { on := 24, ground := .chain }, { on := 0, ground := .phase }, { on := 1, ground := .phase }, { on := 2, ground := .phase }, { on := 3, ground := .phase }, { on := 4, ground := .phase }, { on := 5, ground := .phase }, { on := 6, ground := .phase }, { on := 7, ground := .phase }, { on := 8, ground := .phase }, { on := 9, ground := .phase }, { on := 10, ground := .phase }, { on := 11, ground := .phase }, { on := 12, ground := .phase }, { on := 13, ground := .phase }, { on := 14, ground := .phase }, { on := 15, ground := .phase }, { on := 16, ground := .phase }, { on := 17, ground := .phase }, { on := 18, ground := .phase }, { on := 19, ground := .phase }, { on := 20, ground := .phase }, { on := 21, ground := .phase }, { on := 22, ground := .phase }, { on := 23, ground := .phase }, { on := 24, ground := .phase }, { on := 25, ground := .phase }], guard := none }) rfl (fun K hK => ?_) AllReadyH.nil
              go_simp
              refine hK.out _ _ ⟨cell_kept (by omega) c1, cell_kept (by omega) c9, cell_kept (by omega) c14⟩ (fun hHeld => ?_)
              clear hK K
              refine wpAnyH_done (by kernel_rfl) ?_ _
              refine NoPanic.normal ?_
              exact HMEET.out _ (HEND.out _)
            · go_simp
              refine (draw1 x14 _).mono ?_
              rintro e w' ⟨rfl, n4, rfl⟩
              go_simp
              refine hK.out _ _ hSS (fun hHeld => ?_)
              clear hK K
              refine wpAnyH_ready (rs := [5]) (by kernel_rfl) (by simp) ?_
              refine AllReadyH.cons (o := { dst := some 48, op := .load 155 (.tmp 47), type := 155, pos := "forms.go:118", after := #[{ on := 4, ground := .data }], guard := none }) rfl (fun K hK => ?_) AllReadyH.nil
              go_simp
              refine hK.out _ _ hSS (fun hHeld => ?_)
              clear hK K
              refine wpAnyH_take (i := 12) (oi := { dst := some 55, op := .binOp Go.BinOp.add 155 (.tmp 48) (.tmp 54) 155, type := 155, pos := "forms.go:118", after := #[{ on := 5, ground := .data }, { on := 11, ground := .data }], guard := none }) (v := ?_) rfl (by kernel_rfl) (by kernel_rfl) (by kernel_rfl) (fun _ _ _ h => h) (Or.inl ⟨by rfl, ?_⟩) (by assumption) ?_
              rotate_left
              · intro _ _; go_simp; first | done | with_reducible rfl
              simp only [Act.put, List.setIfInBounds_toArray, List.set_cons_zero, List.set_cons_succ]
              refine wpAnyH_take (i := 18) (oi := { dst := some 61, op := .binOp Go.BinOp.add 155 (.tmp 55) (.tmp 60) 155, type := 155, pos := "forms.go:118", after := #[{ on := 12, ground := .data }, { on := 17, ground := .data }], guard := none }) (v := ?_) rfl (by kernel_rfl) (by kernel_rfl) (by kernel_rfl) (fun _ _ _ h => h) (Or.inl ⟨by rfl, ?_⟩) (by assumption) ?_
              rotate_left
              · intro _ _; go_simp; first | done | with_reducible rfl
              simp only [Act.put, List.setIfInBounds_toArray, List.set_cons_zero, List.set_cons_succ]
              refine wpAnyH_take (i := 25) (oi := { dst := some 68, op := .binOp Go.BinOp.add 155 (.tmp 61) (.tmp 67) 155, type := 155, pos := "forms.go:118", after := #[{ on := 18, ground := .data }, { on := 24, ground := .data }], guard := none }) (v := ?_) rfl (by kernel_rfl) (by kernel_rfl) (by kernel_rfl) (fun _ _ _ h => h) (Or.inl ⟨by rfl, ?_⟩) (by assumption) ?_
              rotate_left
              · intro _ _; go_simp; first | done | with_reducible rfl
              simp only [Act.put, List.setIfInBounds_toArray, List.set_cons_zero, List.set_cons_succ]
              refine wpAnyH_take (i := 26) (oi := { dst := some 69, op := .indexAddr 176 (.tmp 6) (.tmp 44), type := 0, pos := "forms.go:118", after := #[{ on := 1, ground := .data }, { on := 0, ground := .phase }, { on := 1, ground := .phase }, { on := 2, ground := .phase }, { on := 3, ground := .phase }, { on := 4, ground := .phase }, { on := 5, ground := .phase }, { on := 6, ground := .phase }, { on := 7, ground := .phase }, { on := 8, ground := .phase }, { on := 9, ground := .phase }, { on := 10, ground := .phase }, { on := 11, ground := .phase }, { on := 12, ground := .phase }, { on := 13, ground := .phase }, { on := 14, ground := .phase }, { on := 15, ground := .phase }, { on := 16, ground := .phase }, { on := 17, ground := .phase }, { on := 18, ground := .phase }, { on := 19, ground := .phase }, { on := 20, ground := .phase }, { on := 21, ground := .phase }, { on := 22, ground := .phase }, { on := 23, ground := .phase }, { on := 24, ground := .phase }, { on := 25, ground := .phase }], guard := none }) (v := ?_) rfl (by kernel_rfl) (by kernel_rfl) (by kernel_rfl) (fun _ _ _ h => h) (Or.inl ⟨by rfl, ?_⟩) (by assumption) ?_
              rotate_left
              · intro _ _; go_simp; first | done | with_reducible rfl
              simp only [Act.put, List.setIfInBounds_toArray, List.set_cons_zero, List.set_cons_succ]
              refine wpAnyH_ready (rs := [27]) (by kernel_rfl) (by simp) ?_
              refine AllReadyH.cons (o := { dst := none, op := .store 155 (.tmp 69) (.tmp 68), type := 0, pos := "forms.go:118", after := #[{ on := 26, ground := .data }, { on := 25, ground := .data }, { on := 24, ground := .chain }, { on := 0, ground := .phase }, { on := 1, ground := .phase }, { on := 2, ground := .phase }, { on := 3, ground := .phase }, { on := 4, ground := .phase }, { on := 5, ground := .phase }, { on := 6, ground := .phase }, { on := 7, ground := .phase }, { on := 8, ground := .phase }, { on := 9, ground := .phase }, { on := 10, ground := .phase }, { on := 11, ground := .phase }, { on := 12, ground := .phase }, { on := 13, ground := .phase }, { on := 14, ground := .phase }, { on := 15, ground := .phase }, { on := 16, ground := .phase }, { on := 17, ground := .phase }, { on := 18, ground := .phase }, { on := 19, ground := .phase }, { on := 20, ground := .phase }, { on := 21, ground := .phase }, { on := 22, ground := .phase }, { on := 23, ground := .phase }, { on := 24, ground := .phase }, { on := 25, ground := .phase }], guard := none }) rfl (fun K hK => ?_) AllReadyH.nil
              go_simp
              refine hK.out _ _ ⟨cell_kept (by omega) c1, cell_kept (by omega) c9, cell_kept (by omega) c14⟩ (fun hHeld => ?_)
              clear hK K
              refine wpAnyH_done (by kernel_rfl) ?_ _
              refine NoPanic.normal ?_
              exact HMEET.out _ (HEND.out _)
        · rintro wc ⟨ring2, hC2, hR2, hrw⟩
          have HR2 : Hid (Ring p ring2 (t + 1)) := hR2
          have hrl := hR2.len
          clear hC hR2 hringl HRing HEND c0 c1 c9 c14 f0 hSS HX0 HX1 HX9 HX14 w1 b1 l1 m1 n1 w9 b9 l9 m9 n9 w14 b14 l14 m14 n14 b0 l0 m0 n0
          obtain ⟨wt, hwt⟩ : ∃ x, x = W p t := ⟨_, rfl⟩
          rw [← hwt] at hrw
          have HWT : Hid (wt = W p t) := hwt
          obtain ⟨kt, hkt⟩ : ∃ x, x = Ks.getD t 0 := ⟨_, rfl⟩
          have HKT : Hid (kt = Ks.getD t 0) := hkt
          have cK := hC2.hK.cell t
          rw [u32s_get _ t (by rw [Ks_length]; exact hlt), ← hkt] at cK
          have cW := hC2.hW.cell (t % 16)
          rw [u32s_get _ (t % 16) (by omega), hrw] at cW
          clear hwt hkt hrw
          obtain ⟨a, b', c, d, e, f, g, h⟩ := st
          have c0 : wc.cell? ⟨M + 1, 0, none⟩ = some (.int .u32 (U a)) := hC2.hA.cell 0
          have c1 : wc.cell? ⟨M + 1, 1, none⟩ = some (.int .u32 (U b')) := hC2.hA.cell 1
          have c2 : wc.cell? ⟨M + 1, 2, none⟩ = some (.int .u32 (U c)) := hC2.hA.cell 2
          have c3 : wc.cell? ⟨M + 1, 3, none⟩ = some (.int .u32 (U d)) := hC2.hA.cell 3
          have c4 : wc.cell? ⟨M + 1, 4, none⟩ = some (.int .u32 (U e)) := hC2.hA.cell 4
          have c5 : wc.cell? ⟨M + 1, 5, none⟩ = some (.int .u32 (U f)) := hC2.hA.cell 5
          have c6 : wc.cell? ⟨M + 1, 6, none⟩ = some (.int .u32 (U g)) := hC2.hA.cell 6
          have c7 : wc.cell? ⟨M + 1, 7, none⟩ = some (.int .u32 (U h)) := hC2.hA.cell 7
          have ha15 := and15 t (by omega)
          have m0 : (0 : Int) ≤ ((t % 16 : Nat) : Int) := by omega
          have m1 : ((t % 16 : Nat) : Int) < 16 := by omega
          go_wp2_with fail
          rw [Ch_U2, Maj_U2]
          go_quiet ((go_at_call 125; exact Calls.quiet_of (mixE _ _)))
          go_wp2_with fail
          refine (mixA _ _).mono ?_
          rintro e' w' ⟨rfl, n1, rfl⟩
          go_wp2_with fail
          rw [U_add5, U_add]
          have hM7 : Chk s w N (N + 2) M (M + 1) ring2 (moved ⟨a, b', c, d, e, f, g, h⟩ 7) (wc.drewN (nq + n1)) := hC2.drewN _
          clear c0 c1 c2 c3 c4 c5 c6 c7 cK cW hC2 ha15 m0 m1
          go_loopw [14] (fun i wx => ∃ k : Nat, k ≤ 7 ∧ i = .int .i64 k ∧ Chk s w N (N + 2) M (M + 1) ring2 (moved ⟨a, b', c, d, e, f, g, h⟩ k) wx) (fun i _ => (intOf i).toNat)
          case atStart => exact ⟨7, by omega, rfl, hM7⟩
          case round =>
            obtain ⟨k, hk, rfl, hC4⟩ := hrel
            clear hM7
            have hml : (moved ⟨a, b', c, d, e, f, g, h⟩ k).length = 8 := by simp [moved]
            by_cases hk0 : 0 < k
            · obtain ⟨j1, j2, j3, j4⟩ := idx_sub k 1 8 1 8 rfl rfl (by omega) (by omega) (by omega)
              have k0 : (0 : Int) < (k : Int) := by omega
              have k0' : (0 : Int) ≤ (k : Int) := by omega
              have k1 : (1 : Int) ≤ (k : Int) := by omega
              have k8 : (k : Int) < 8 := by omega
              have k9 : (k : Int) < 9 := by omega
              have cA := hC4.hA.cell (k - 1)
              rw [u32s_get _ (k - 1) (by omega)] at cA
              have cB := hC4.hA.cell k
              rw [u32s_get _ k (by omega)] at cB
              have fB := hC4.hA.frozen k
              obtain ⟨x, hx⟩ : ∃ x, x = (moved ⟨a, b', c, d, e, f, g, h⟩ k).getD (k - 1) 0 := ⟨_, rfl⟩
              rw [← hx] at cA
              have HX : Hid (x = _) := hx
              clear hx
              go_wp2_with fail
              go_roundw
              case rel =>
                refine ⟨k - 1, by omega, by rw [show ((k - 1 : Nat) : Int) = (k : Int) - 1 by omega], ?_⟩
                have hh := hC4.setA hWN k x
                have e0 : (moved ⟨a, b', c, d, e, f, g, h⟩ k).set k x = moved ⟨a, b', c, d, e, f, g, h⟩ (k - 1) := by
                  rw [HX.out]
                  obtain (rfl | rfl | rfl | rfl | rfl | rfl | rfl) : k = 1 ∨ k = 2 ∨ k = 3 ∨ k = 4 ∨ k = 5 ∨ k = 6 ∨ k = 7 := by omega
                  all_goals rfl
                rw [e0] at hh; exact hh
              case measure => simp [intOf]; omega
            · obtain rfl : k = 0 := by omega
              have d4 : wr.cell? ⟨M + 1, 4, none⟩ = some (.int .u32 (U d)) := hC4.hA.cell 4
              have d0 : wr.cell? ⟨M + 1, 0, none⟩ = some (.int .u32 (U a)) := hC4.hA.cell 0
              have f4 := hC4.hA.frozen 4
              have f0 := hC4.hA.frozen 0
              go_wp2_with fail
              go_roundw
              case rel =>
                refine ⟨t + 1, ring2, by omega, by go_num, HR2.out, ?_⟩
                rw [U_add, U_add]
                have hh := (hC4.setA hWN 4 (d + ((((h + S1 e) + Ch e f g) + kt) + wt))).setA hWN 0 (((((h + S1 e) + Ch e f g) + kt) + wt) + (S0 a + Maj a b' c))
                have e0 : (steps p s (t + 1)).list = ((moved ⟨a, b', c, d, e, f, g, h⟩ 0).set 4 (d + ((((h + S1 e) + Ch e f g) + kt) + wt))).set 0 (((((h + S1 e) + Ch e f g) + kt) + wt) + (S0 a + Maj a b' c)) := by
                  show (step (steps p s t) (Ks.getD t 0) (W p t)).list = _
                  rw [← HST.out, ← HKT.out, ← HWT.out, ← step_list]
                  rfl
                rw [e0]; exact hh
              case measure => simp [intOf]; omega
    · obtain rfl : t = 64 := by omega
      obtain ⟨z, hz⟩ : ∃ x, x = steps p s 64 := ⟨_, rfl⟩
      rw [← hz] at hC
      have HZ : Hid (z = steps p s 64) := hz
      have hb0 := hC.bel
      have hB0 : Blk wr N (u32s (sumUp s z 0)) := hC.hS
      have hB1 := hC.hZ
      have hBA := hC.hA
      clear hz hC HRing hringl
      go_wp2_with fail
      go_loopw [15] (fun i wx => ∃ k : Nat, k ≤ 8 ∧ i = .int .i64 k ∧ Blk wx N (u32s (sumUp s z k)) ∧ Blk wx (N + 1) (u32s (List.replicate 8 0)) ∧ Blk wx (M + 1) (u32s z.list) ∧ Below N w wx) (fun i _ => 8 - (intOf i).toNat)
      case atStart => exact ⟨0, by omega, rfl, hB0, hB1, hBA, hb0⟩
      case round =>
        obtain ⟨k, hk, rfl, g0, g1, gA, gb⟩ := hrel
        clear hB0 hB1 hBA hb0
        by_cases hk8 : k < 8
        · have k0 : (0 : Int) ≤ (k : Int) := by omega
          have k1 : (k : Int) < 8 := by omega
          have cS := g0.cell k
          rw [u32s_get _ k (by rw [sumUp_length]; exact hk8)] at cS
          have fS := g0.frozen k
          have cA := gA.cell k
          rw [u32s_get z.list k (show k < z.list.length from hk8)] at cA
          obtain ⟨x, hx⟩ : ∃ x, x = (sumUp s z k).getD k 0 := ⟨_, rfl⟩
          obtain ⟨y, hy⟩ : ∃ x, x = z.list.getD k 0 := ⟨_, rfl⟩
          rw [← hx] at cS
          rw [← hy] at cA
          have HX : Hid (x = _) := hx
          have HY : Hid (y = _) := hy
          have hmo : Tryz.prog.follows .mixedOrders = true := by kernel_rfl
          have HMO : Hid (_ = true) := hmo
          clear hmo hx hy
          go_wp2_with fail
          refine wp_region_tail 9 HMO.out (by kernel_rfl) ?_
          simp only [List.take_succ_cons, List.take_zero, List.drop_succ_cons, List.drop_zero]
          iterate 9 still_step
          refine wpStill_nil ?_
          go_wp2_with fail
          go_roundw
          case rel =>
            rw [U_add]
            have hh := g0.drew.set k (.int .u32 (U (x + y)))
            have e0 : (sumUp s z k).set k (x + y) = sumUp s z (k + 1) := by rw [HX.out, HY.out]; exact sumUp_next s z k hk8
            rw [u32s_set, e0] at hh
            (repeat apply Exists.intro)
            exact ⟨⟨k + 1, by omega, rfl, hh, (g1.drew).other (show N + 1 ≠ N by omega) _, (gA.drew).other (show M + 1 ≠ N by omega) _, gb.drew.setCell (show N ≤ N by omega) _⟩, rfl⟩
          case measure => simp [intOf]; omega
        · obtain rfl : k = 8 := by omega
          have hmix : sumUp s z 8 = (mix s p).list := by rw [sumUp_8]; unfold mix; rw [← HZ.out]
          rw [hmix] at g0
          have i41 : (Tryz.prog.info? 156).map (·.size) = some (u32s (mix s p).list).toArray.size := by
            rw [show (u32s (mix s p).list).toArray.size = 8 by simp [St.list_length]]; kernel_rfl
          have I41 : Hid (_ = _) := i41
          have hsz : (u32s (List.replicate 8 0)).toArray.size = (u32s (mix s p).list).toArray.size := by simp [St.list_length]
          have HSZ : Hid (_ = _) := hsz
          obtain ⟨tS, hgS⟩ := g0
          obtain ⟨tZ, hgZ⟩ := g1
          have HgS : Hid (wr.heap[N]? = _) := hgS
          have HgZ : Hid (wr.heap[N + 1]? = _) := hgZ
          clear i41 hsz hgS hgZ hmix
          go_wp2_with (first
            | (refine wpList_load_row rfl 156 _ rfl N rfl tS _ _ _ HgS.out Tryz.underlying156 rfl I41.out ?_)
            | (refine wpList_store_row rfl 156 _ _ rfl (N + 1) (u32s (mix s p).list).toArray rfl rfl tZ _ HgZ.out I41.out HSZ.out (u32s_one _) ?_))
          refine bodyPost_ret (v := .agg (u32s (mix s p).list).toArray) ?_ rfl ⟨rfl, ?_⟩
          · obtain ⟨t, hb⟩ := Blk.row (ds := u32s (mix s p).list) ⟨tZ, HgZ.out⟩
            exact results_cell_row Tryz.results113 _ _ (N + 1) t _ _ _ rfl hb Tryz.underlying156 rfl I41.out
          · subst hN
            exact below_setRow gb (by omega) _
end Go.Proofs.YtlaifphedhaemaaGreatDoor
