/- (*running).end closes the sum. -/
import Derived.Test.YtbjndfnpfmeioaaDoorBegin
import Derived.Test.YtbjndfnpfmeioaaDoorEndMath2
import Derived.OwnWalk
import Derived.Deep.CutRange
import Derived.Deep.DeepCutAuto
namespace Go.Proofs.YtbjndfnpfmeioaaDoor
open Go.ChangeShapes Go.WideShapes Go.ChangeAt Go.RowKit

theorem Src.later {w w' : World} {R : Nat} {a : Option Addr} {cap : Nat} {bs : List (BitVec 8)} (h : Src w R a cap bs) (k : Keep R w w') : Src w' R a cap bs :=
  ⟨h.room, h.most, fun hne => by
    obtain ⟨b, off, ha, hb, hc⟩ := h.lie hne
    exact ⟨b, off, ha, hb, fun j hj => k.cell hb (hc j hj)⟩⟩
theorem Kw.keep {w w' : World} {R : Nat} (h : Kw w) (k : Keep R w w') (hR : 0 < R) : Kw w' := fun i hi => k.cell (by omega) (h i hi)
theorem Run.keep {w w' : World} {R R' : Nat} {s : St} {q : List (BitVec 8)} {n : Nat} (h : Run w R s q n) (k : Keep R' w w') (hR : R ≠ R') : Run w' R s q n := by
  obtain ⟨blk, h1, h2, h3, h4⟩ := h; exact ⟨blk, h1, h2, h3, h4.keep k hR⟩
theorem Run.below {w w' : World} {R B : Nat} {s : St} {q : List (BitVec 8)} {n : Nat} (h : Run w R s q n) (k : Below B w w') (hR : R < B) : Run w' R s q n := by
  obtain ⟨blk, h1, h2, h3, h4⟩ := h; exact ⟨blk, h1, h2, h3, h4.below k hR⟩
theorem Run.fill {w : World} {R : Nat} {s : St} {q : List (BitVec 8)} {n : Nat} (h : Run w R s q n) : w.cell? ⟨R, 72, none⟩ = some (.int .i64 (q.length : Int)) := by
  obtain ⟨blk, h1, h2, h3, h4⟩ := h; rw [h4.cell, runCells_72 s blk _ n h1]
theorem Run.total {w : World} {R : Nat} {s : St} {q : List (BitVec 8)} {n : Nat} (h : Run w R s q n) : w.cell? ⟨R, 73, none⟩ = some (.int .u64 (n : Int)) := by
  obtain ⟨blk, h1, h2, h3, h4⟩ := h; rw [h4.cell, runCells_73 s blk _ n h1]
theorem Run.lt {w : World} {R : Nat} {s : St} {q : List (BitVec 8)} {n : Nat} (h : Run w R s q n) : R < w.heap.size := by
  obtain ⟨blk, h1, h2, h3, h4⟩ := h; exact h4.lt
/-- A slice over a block of bytes that is known whole. -/
theorem Src.blk {w : World} {R b : Nat} {bs : List (BitVec 8)} (h : Blk w b (u8s bs)) (hb : b ≠ R) (hl : bs.length ≤ 1000000) : Src w R (some ⟨b, 0, none⟩) bs.length bs :=
  ⟨Nat.le_refl _, by unfold maxLen; omega, fun _ => ⟨b, 0, rfl, hb, fun j hj => by rw [Nat.zero_add, h.cell, u8s_get bs j hj]⟩⟩

def zeros32 : List (BitVec 8) := List.replicate 32 0
/-- Noughts in a row that 'make' has just laid. -/
theorem Src.made {w : World} {R B g m : Nat} (h : w.ownsRow B 5 1 (.slice (some ⟨g, 0, none⟩) m m) m (List.replicate m (.int .u8 0))) (hg : g ≠ R) (hm : m ≤ 1000000) : Src w R (some ⟨g, 0, none⟩) m (zerosN m) :=
  ⟨by rw [zerosN_length]; exact Nat.le_refl _, by unfold maxLen; omega, fun _ => ⟨g, 0, rfl, hg, fun j hj => by
    rw [zerosN_length] at hj
    have hc := World.ownsRow.cellAt h j (by omega)
    rw [Nat.zero_add, hc]
    simp [zerosN, hj, Y]⟩⟩
theorem Tryd.info8 : (Tryd.prog.info? 5).map (fun i => (i.zero, i.size, i.bytes)) = some (some (.int .u8 0), 1, 1) := by kernel_rfl

theorem add_len (R : Nat) (s : St) (q : List (BitVec 8)) (n : Nat) (a : Option Addr) (m cap : Nat) (bs : List (BitVec 8)) (hm : bs.length = m) (w : World) (hK : Kw w) (hR : 0 < R)
    (hrun : Run w R s q n) (hsrc : Src w R a cap bs) (hn : n + m < 1152921504606846976) :
    Calls Tryd.prog 23 #[.pointer (some ⟨R, 0, none⟩), .slice a m cap] w fun e w' => e = .returned (.tuple #[]) ∧
      Run w' R (mixAll s (q ++ bs)) (restOf (q ++ bs)) (n + m) ∧ Keep R w w' := by
  subst hm; exact add_any R s q n a cap bs w hK hR hrun hsrc hn

theorem Keep.other {w w' w'' : World} {R C : Nat} (h : Keep R w w') (k : Keep C w' w'') (hC : w.heap.size ≤ C) : Keep R w w'' :=
  ⟨k.os.trans h.os, k.tape.trans h.tape, k.output.trans h.output, Nat.le_trans h.size k.size, fun i hi hr => (k.block i (Nat.lt_of_lt_of_le hi h.size) (by omega)).trans (h.block i hi hr)⟩
theorem last_byte (x : BitVec 32) : U x % 256 = U x / (1 : Int) % 256 := by rw [Int.ediv_one]
theorem blk_val {w : World} {C k : Nat} {a b : Int} {cs : List Value} (h : Blk (w.setCell ⟨C, k, none⟩ (.int .u8 a)) C cs) (e : b = a) : Blk (w.setCell ⟨C, k, none⟩ (.int .u8 b)) C cs := by rw [e]; exact h
theorem keep_val {w w0 : World} {C k : Nat} {a b : Int} (h : Keep C w0 (w.setCell ⟨C, k, none⟩ (.int .u8 a))) (e : b = a) : Keep C w0 (w.setCell ⟨C, k, none⟩ (.int .u8 b)) := by rw [e]; exact h

set_option maxRecDepth 100000 in
set_option maxHeartbeats 4000000 in
theorem end_any (R : Nat) (s : St) (q : List (BitVec 8)) (n : Nat) (w : World) (hK : Kw w) (hR : 0 < R) (hrun : Run w R s q n) (hn : n < 144115188075855872) (hq : q.length = n % 64) :
    Calls Tryd.prog 24 #[.pointer (some ⟨R, 0, none⟩)] w fun e w' => e = .returned (.agg (u8s (mixAll s (q ++ padOf n)).bytes).toArray) ∧ Keep R w w' := by
  have c73 := hrun.total
  have hRl := hrun.lt
  have HRUN : Hid (Run w R s q n) := hrun
  have HK : Hid (Kw w) := hK
  have HQ : Hid (q.length = n % 64) := hq
  clear hrun hK hq
  go_enter Tryd.func24, Tryd.ntmps24
  go_wp2_with fail
  generalize hw1 : World.alloc (World.alloc w _) _ = w1
  have hz1 : w1.heap.size = w.heap.size + 2 := by rw [← hw1]; simp
  have hN1 : Blk w1 w.heap.size (u8s zeros32) := by rw [← hw1]; exact (Blk.mk _ _ _ rfl rfl).alloc _
  have hP1 : Blk w1 (w.heap.size + 1) (u8s [128#8]) := by rw [← hw1]; exact Blk.mk _ _ _ (by simp) rfl
  have hk1 : Keep R w w1 := by rw [← hw1]; exact ((Keep.refl R w).alloc _).alloc _
  have hb1 : Below w.heap.size w w1 := by rw [← hw1]; exact ((Below.refl _ _).alloc (Nat.le_refl _) _).alloc (by simp) _
  clear hw1 c73
  refine (add_any R s q n (some ⟨w.heap.size + 1, 0, none⟩) 1 [128#8] w1 (HK.out.keep hk1 hR) hR (HRUN.out.below hb1 hRl) (Src.blk hP1 (by omega) (by decide)) (by show n + 1 < _; omega)).mono ?_
  rintro e w2 ⟨rfl, hrun2, hk2⟩
  have hN2 : Blk w2 w.heap.size (u8s zeros32) := hN1.keep hk2 (by omega)
  have hkk2 : Keep R w w2 := hk1.trans hk2
  have hz2 := hk2.size
  clear hN1 hP1 hk1 hb1 hk2
  have hl2 : (restOf (q ++ [128#8])).length = (n + 1) % 64 := by rw [rest_len, HQ.out]; show (n % 64 + 1) % 64 = _; omega
  obtain ⟨q2, hq2⟩ : ∃ x, x = restOf (q ++ [128#8]) := ⟨_, rfl⟩
  rw [← hq2] at hrun2 hl2
  have HQ2 : Hid (q2 = _) := hq2
  clear hq2
  have c72 := hrun2.fill
  obtain ⟨f2, hf2⟩ : ∃ x, x = q2.length := ⟨_, rfl⟩
  rw [← hf2] at c72 hl2
  have HF2 : Hid (f2 = q2.length) := hf2
  clear hf2
  have e0 : (0 : Int) ≤ (f2 : Int) := by omega
  have e1 : (f2 : Int) < 64 := by omega
  have HL2 : Hid (f2 = (n + 1) % 64) := hl2
  have hf64 : f2 < 64 := by omega
  clear hl2
  go_upto_if 20 with fail
  obtain ⟨i0, hi0, hi1, hi2, hi3⟩ := info_parts Tryd.info8
  go_cut [] from 8 (fun wc => ∃ (z : Nat) (q3 : List (BitVec 8)), Run wc R (mixAll s (q ++ ([128#8] ++ zerosN z))) q3 (n + 1 + z) ∧ Hid (q3 = restOf (q ++ ([128#8] ++ zerosN z))) ∧ q3.length ≤ 56 ∧ Hid (z + (56 - q3.length) = noughts n) ∧ z ≤ 64 ∧ Keep R w wc ∧ Blk wc w.heap.size (u8s zeros32))
  case first =>
    by_cases hfar : 56 < f2
    · have e2 : (56 : Int) < (f2 : Int) := by omega
      go_wp2_with (at_make; refine wpList_make_full _ rfl _ _ 22 rfl w2.heap.size 5 i0 (.int .u8 0) 1 Tryd.underlying22 hi0 hi1 hi2 .i64 .i64 _ _ (64 - f2) rfl rfl (by omega) (by omega) (by rw [hi3]; omega) (by unfold maxLen; omega) (Nat.le_refl _) ?_)
      intro w3 hown hgrow
      have hb3 : Below w2.heap.size w2 w3 := (Below.refl _ w2).grown hgrow (Nat.le_refl _) (by simp)
      have hown' : w3.ownsRow w2.heap.size 5 1 (.slice (some ⟨w2.heap.size, 0, none⟩) (64 - f2) (64 - f2)) (64 - f2) (List.replicate (64 - f2) (.int .u8 0)) := by
        rw [toList_madeCells_one] at hown; exact hown
      go_wp2_with fail
      refine (add_len R _ q2 (n + 1) (some ⟨w2.heap.size, 0, none⟩) (64 - f2) (64 - f2) (zerosN (64 - f2)) (zerosN_length _) w3 ((HK.out.keep hkk2 hR).keep (Keep.of_below hb3) hR) hR (hrun2.below hb3 hrun2.lt) (Src.made hown' (by omega) (by omega)) (by omega)).mono ?_
      rintro e w4 ⟨rfl, hrun4, hk4⟩
      go_wp2_with fail
      go_meet
      case rel =>
        refine ⟨64 - f2, _, ?_, rfl, ?_, ?_, by omega, hkk2.trans ((Keep.of_below hb3).trans hk4), (hN2.below hb3 (by omega)).keep hk4 (by omega)⟩
        · rw [HQ2.out, two_pieces, two_rests] at hrun4; exact hrun4
        · rw [← two_rests, ← HQ2.out, rest_len, zerosN_length, ← HF2.out]; omega
        · show 64 - f2 + (56 - (restOf (q ++ ([128#8] ++ zerosN (64 - f2)))).length) = noughts n
          rw [← two_rests, ← HQ2.out, rest_len, zerosN_length, ← HF2.out]
          have := HL2.out; unfold noughts; omega
    · have e2 : decide ((56 : Int) < (f2 : Int)) = false := by rw [decide_eq_false_iff_not]; omega
      go_wp2_with fail
      go_meet
      case rel =>
        refine ⟨0, q2, ?_, ?_, ?_, ?_, by omega, hkk2, hN2⟩
        · simpa [zerosN] using hrun2
        · show q2 = _; rw [HQ2.out]; simp [zerosN]
        · rw [← HF2.out]; omega
        · show 0 + (56 - q2.length) = noughts n
          rw [← HF2.out]; have := HL2.out; unfold noughts; omega
  case rest =>
    obtain ⟨z, q3, hrun3, HQ3, hq3, HZ, hz, hk3, hN3⟩ := hcut
    clear hrun2 hkk2 hN2 c72
    obtain ⟨f3, hf3⟩ : ∃ x, x = q3.length := ⟨_, rfl⟩
    have c72 := hrun3.fill
    rw [← hf3] at c72 hq3
    have HF3 : Hid (f3 = q3.length) := hf3
    have e3 : (0 : Int) ≤ (f3 : Int) := by omega
    have e4 : (f3 : Int) ≤ 56 := by omega
    have HZ' : Hid (z + (56 - f3) = noughts n) := by show z + (56 - f3) = noughts n; rw [hf3]; exact HZ.out
    clear hf3
    have hzc := hk3.size
    go_wp2_with (at_make; refine wpList_make_full _ rfl _ _ 22 rfl wc.heap.size 5 i0 (.int .u8 0) 1 Tryd.underlying22 hi0 hi1 hi2 .i64 .i64 _ _ (56 - f3) rfl rfl (by omega) (by omega) (by rw [hi3]; omega) (by unfold maxLen; omega) (Nat.le_refl _) ?_)
    intro w4 hown hgrow
    have hb4 : Below wc.heap.size wc w4 := (Below.refl _ wc).grown hgrow (Nat.le_refl _) (by simp)
    rw [toList_madeCells_one] at hown
    go_wp2_with fail
    refine (add_len R _ q3 (n + 1 + z) (some ⟨wc.heap.size, 0, none⟩) (56 - f3) (56 - f3) (zerosN (56 - f3)) (zerosN_length _) w4 ((HK.out.keep hk3 hR).keep (Keep.of_below hb4) hR) hR (hrun3.below hb4 hrun3.lt) (Src.made hown (by omega) (by omega)) (by omega)).mono ?_
    rintro e w5 ⟨rfl, hrun5, hk5⟩
    have hk05 : Keep R w w5 := hk3.trans ((Keep.of_below hb4).trans hk5)
    have hN5 : Blk w5 w.heap.size (u8s zeros32) := (hN3.below hb4 hN3.lt).keep hk5 (by omega)
    have hz5 := hk05.size
    have hr5 : Run w5 R (mixAll s (q ++ ([128#8] ++ zerosN (noughts n)))) (restOf (q ++ ([128#8] ++ zerosN (noughts n)))) (n + 1 + z + (56 - f3)) := by
      rw [HQ3.out, two_pieces, two_rests] at hrun5
      rw [List.append_assoc, zerosN_add, HZ'.out] at hrun5
      exact hrun5
    clear hrun3 hrun5 hown hgrow hb4 hk5 hN3 hk3 c72
    go_wp2_with fail
    generalize hw6 : World.alloc w5 _ = w6
    have hC6 : Blk w6 w5.heap.size (u8s (List.replicate 8 0)) := by rw [← hw6]; exact Blk.mk _ _ _ rfl rfl
    have hb6 : Below w5.heap.size w5 w6 := by rw [← hw6]; exact (Below.refl _ _).alloc (Nat.le_refl _) _
    clear hw6
    have hr6 := hr5.below hb6 hr5.lt
    have hN6 := hN5.below hb6 hN5.lt
    have hk06 : Keep R w w6 := hk05.trans (Keep.of_below hb6)
    have hRC : R ≠ w5.heap.size := by have := hr5.lt; omega
    have hNC : w.heap.size ≠ w5.heap.size := by have := hN5.lt; omega
    have hC6l := hC6.lt
    generalize hC : w5.heap.size = C at *
    clear hb6 hr5 hN5 hk05
    go_loopw [37] (fun i wr => ∃ k : Nat, k ≤ 8 ∧ i = .int .i64 k ∧ Blk wr C (u8s ((counted n).take k ++ List.replicate (8 - k) 0)) ∧ Keep C w6 wr) (fun i _ => 8 - (intOf i).toNat)
    case atStart => exact ⟨0, by omega, rfl, hC6, Keep.refl _ _⟩
    case round =>
      obtain ⟨k, hk, rfl, hrC, hrK⟩ := hrel
      by_cases hlt : k < 8
      · have hset := hrC.set k (.int .u8 (Y ((counted n).getD k 0)))
        rw [u8s_set, fill_set _ _ _ 8 k (by rw [List.length_take, counted_length]; omega) hlt, ← take_next _ k (by rw [counted_length]; exact hlt)] at hset
        have hcell := hrC.cell k
        rw [u8s_get _ k (by simp [counted_length]; omega)] at hcell
        have hfr := hrC.frozen k
        have hval := counted_get n k hlt
        rw [hval] at hset
        have HSET : Hid (Blk _ _ _) := hset
        have hkeep := hrK.setCell k (.int .u8 ((8 * n / 2 ^ (8 * (7 - k)) % 256 : Nat) : Int))
        have HKEEP : Hid (Keep _ _ _) := hkeep
        clear hset hval hrC hrK hkeep
        generalize Y (((counted n).take k ++ List.replicate (8 - k) 0).getD k 0) = y0 at hcell
        obtain (rfl | rfl | rfl | rfl | rfl | rfl | rfl | rfl) : k = 0 ∨ k = 1 ∨ k = 2 ∨ k = 3 ∨ k = 4 ∨ k = 5 ∨ k = 6 ∨ k = 7 := by omega
        all_goals
          go_wp2_with fail
          go_roundw
          case rel =>
            refine ⟨_, ?_, rfl, blk_val HSET.out ?_, keep_val HKEEP.out ?_⟩
            · decide
            all_goals (simp only [Nat.reduceMul, Nat.reduceSub, Nat.reducePow]; omega)
          case measure => simp [intOf]
      · obtain rfl : k = 8 := by omega
        have hrC' : Blk wr C (u8s (counted n)) := by
          rw [List.take_of_length_le (by rw [counted_length]; exact Nat.le_refl _)] at hrC
          simpa using hrC
        have hr7 := hr6.keep hrK hRC
        have hN7 := hN6.keep hrK hNC
        have hz7 := hrK.size
        clear hrC hlt
        go_wp2_with fail
        have hSrc : Src wr R (some ⟨C, 0, none⟩) 8 (counted n) := by
          have := Src.blk (R := R) hrC' (fun e => hRC e.symm) (by rw [counted_length]; decide)
          rw [counted_length] at this; exact this
        have hk07 : Keep R w wr := hk06.other hrK hz5
        refine (add_len R _ _ _ (some ⟨C, 0, none⟩) 8 8 (counted n) (counted_length n) wr (HK.out.keep hk07 hR) hR hr7 hSrc (by omega)).mono ?_
        rintro e w8 ⟨rfl, hrun8, hk8⟩
        have hN8 := hN7.keep hk8 (by omega)
        have hk08 : Keep R w w8 := hk07.trans hk8
        have hz8 := hk08.size
        rw [two_pieces] at hrun8
        have hm : mixAll s (q ++ ([128#8] ++ zerosN (noughts n) ++ counted n)) = mixAll s (q ++ padOf n) := rfl
        rw [hm] at hrun8
        obtain ⟨sf, hsf⟩ : ∃ x, x = mixAll s (q ++ padOf n) := ⟨_, rfl⟩
        rw [← hsf] at hrun8
        have HSF : Hid (sf = mixAll s (q ++ padOf n)) := hsf
        obtain ⟨blk8, _, _, _, hB8⟩ := hrun8
        obtain ⟨c0, c1, c2, c3, c4, c5, c6, c7⟩ := hB8.cell8
        clear hm hsf hr7 hN7 hr6 hN6 hk06 hk07 hSrc hrC' hrK hC6 hC6l hk8
        go_wp2_with fail
        generalize hw9 : World.alloc w8 _ = w9
        have hD9 : Blk w9 w8.heap.size (u8s (List.replicate 32 0)) := by rw [← hw9]; exact Blk.mk _ _ _ rfl rfl
        have hb9 : Below w8.heap.size w8 w9 := by rw [← hw9]; exact (Below.refl _ _).alloc (Nat.le_refl _) _
        clear hw9
        have hN9 := hN8.below hb9 hN8.lt
        have hk09 : Keep R w w9 := hk08.trans (Keep.of_below hb9)
        obtain ⟨b0, b1, b2, b3, b4, b5, b6, b7⟩ := (hB8.below hb9 hB8.lt).cell8
        have hRD : R ≠ w8.heap.size := by have := hB8.lt; omega
        have hND : w.heap.size ≠ w8.heap.size := by have := hN8.lt; omega
        generalize hD : w8.heap.size = D at *
        clear hb9 hB8 hN8 hk08 c0 c1 c2 c3 c4 c5 c6 c7
        go_loopw [52] (fun i wr => ∃ k : Nat, k ≤ 32 ∧ i = .int .i64 k ∧ Blk wr D (u8s (sf.bytes.take k ++ List.replicate (32 - k) 0)) ∧ Keep D w9 wr) (fun i _ => 32 - (intOf i).toNat)
        case atStart => exact ⟨0, by omega, rfl, hD9, Keep.refl _ _⟩
        case round =>
          obtain ⟨k, hk, rfl, hrC, hrK⟩ := hrel
          have d0 := hrK.cell hRD b0
          have d1 := hrK.cell hRD b1
          have d2 := hrK.cell hRD b2
          have d3 := hrK.cell hRD b3
          have d4 := hrK.cell hRD b4
          have d5 := hrK.cell hRD b5
          have d6 := hrK.cell hRD b6
          have d7 := hrK.cell hRD b7
          by_cases hlt : k < 32
          · have hset := hrC.set k (.int .u8 (Y (sf.bytes.getD k 0)))
            rw [u8s_set, fill_set _ _ _ 32 k (by rw [List.length_take, St.bytes_length]; omega) hlt, ← take_next _ k (by rw [St.bytes_length]; exact hlt)] at hset
            have hcell := hrC.cell k
            rw [u8s_get _ k (by simp [St.bytes_length]; omega)] at hcell
            have hfr := hrC.frozen k
            have hval : Y (sf.bytes.getD k 0) = U (sf.list.getD (k / 4) 0) / ((2 ^ (8 * (3 - k % 4)) : Nat) : Int) % 256 := by rw [bytes_get sf k hlt, Y_shr]
            rw [hval] at hset
            have HSET : Hid (Blk _ _ _) := hset
            have HKEEP : Hid (Keep _ _ _) := hrK.setCell k (.int .u8 (U (sf.list.getD (k / 4) 0) / ((2 ^ (8 * (3 - k % 4)) : Nat) : Int) % 256))
            clear hset hval hrC hrK b0 b1 b2 b3 b4 b5 b6 b7
            generalize Y ((sf.bytes.take k ++ List.replicate (32 - k) 0).getD k 0) = y0 at hcell
            obtain (rfl | rfl | rfl | rfl | rfl | rfl | rfl | rfl | rfl | rfl | rfl | rfl | rfl | rfl | rfl | rfl | rfl | rfl | rfl | rfl | rfl | rfl | rfl | rfl | rfl | rfl | rfl | rfl | rfl | rfl | rfl | rfl) : k = 0 ∨ k = 1 ∨ k = 2 ∨ k = 3 ∨ k = 4 ∨ k = 5 ∨ k = 6 ∨ k = 7 ∨ k = 8 ∨ k = 9 ∨ k = 10 ∨ k = 11 ∨ k = 12 ∨ k = 13 ∨ k = 14 ∨ k = 15 ∨ k = 16 ∨ k = 17 ∨ k = 18 ∨ k = 19 ∨ k = 20 ∨ k = 21 ∨ k = 22 ∨ k = 23 ∨ k = 24 ∨ k = 25 ∨ k = 26 ∨ k = 27 ∨ k = 28 ∨ k = 29 ∨ k = 30 ∨ k = 31 := by omega
            all_goals
              go_wp2_with fail
              go_roundw
              case rel =>
                refine ⟨_, ?_, rfl, blk_val HSET.out ?_, keep_val HKEEP.out ?_⟩
                · decide
                all_goals (first | rfl | exact last_byte _)
              case measure => simp [intOf]
          · obtain rfl : k = 32 := by omega
            have hrC' : Blk wr D (u8s sf.bytes) := by
              rw [List.take_of_length_le (by rw [St.bytes_length]; exact Nat.le_refl _)] at hrC
              simpa using hrC
            have hNr := hN9.keep hrK hND
            have hKr : Keep R w wr := hk09.other hrK hz8
            clear hN9 hk09 hrC hrK b0 b1 b2 b3 b4 b5 b6 b7 d0 d1 d2 d3 d4 d5 d6 d7 hlt
            have info28 : (Tryd.prog.info? 28).map (·.size) = some (u8s sf.bytes).toArray.size := by
              rw [show (u8s sf.bytes).toArray.size = 32 by simp [St.bytes_length]]; kernel_rfl
            have Hi : Hid (_ = _) := info28
            have hsz : (u8s zeros32).toArray.size = (u8s sf.bytes).toArray.size := by simp [St.bytes_length, zeros32]
            have HSZ : Hid (_ = _) := hsz
            obtain ⟨tD, hgD⟩ := hrC'
            obtain ⟨tN, hgN⟩ := hNr
            have HgD : Hid (wr.heap[D]? = _) := hgD
            have HgN : Hid (wr.heap[w.heap.size]? = _) := hgN
            clear info28 hsz hgD hgN
            go_wp2_with (first
              | (refine wpList_load_row rfl 28 _ rfl D rfl tD _ _ _ HgD.out Tryd.underlying28 rfl Hi.out ?_)
              | (refine wpList_store_row rfl 28 _ _ rfl w.heap.size (u8s sf.bytes).toArray rfl rfl tN _ HgN.out Hi.out HSZ.out (u8s_one _) ?_))
            refine bodyPost_ret (v := .agg (u8s sf.bytes).toArray) ?_ rfl ⟨?_, ?_⟩
            · obtain ⟨t, hb⟩ := Blk.row (ds := u8s sf.bytes) ⟨tN, HgN.out⟩
              exact results_cell_row Tryd.results24 _ _ w.heap.size t _ _ _ rfl hb Tryd.underlying28 rfl Hi.out
            · rw [HSF.out]
            · refine hKr.other ((Keep.refl w.heap.size wr).setRow _) (Nat.le_refl _)
end Go.Proofs.YtbjndfnpfmeioaaDoor
