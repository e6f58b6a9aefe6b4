/- sha.Text. -/
import Derived.Test.YtlgadelcgboeoaaDoorTRefParse
namespace Go.Proofs.YtlgadelcgboeoaaDoor
open Go.ChangeShapes Go.WideShapes Go.ChangeAt Go.RowKit

/-- So far: the digits stand in front. -/
def tpart (l : List (BitVec 8)) : List (BitVec 8) := l.flatMap pair ++ List.replicate (64 - 2 * l.length) 0
theorem tpart_length (l : List (BitVec 8)) (h : l.length ≤ 32) : (tpart l).length = 64 := by simp only [tpart, List.length_append, pairs_length, List.length_replicate]; omega
theorem tpart_set (l : List (BitVec 8)) (x : BitVec 8) (h : l.length < 32) : ((tpart l).set (2 * l.length) (hx (x >>> 4))).set (2 * l.length + 1) (hx (x &&& 15)) = tpart (l ++ [x]) := by
  unfold tpart
  have e : List.replicate (64 - 2 * l.length) (0 : BitVec 8) = 0 :: 0 :: List.replicate (64 - 2 * (l.length + 1)) 0 := by
    rw [show 64 - 2 * l.length = (64 - 2 * (l.length + 1)) + 1 + 1 by omega, List.replicate_succ, List.replicate_succ]
  rw [e, List.set_append_right _ _ (by rw [pairs_length]; omega), List.set_append_right _ _ (by rw [pairs_length]; omega), pairs_length, List.flatMap_append]
  simp [pair]

theorem and_15 (b : BitVec 8) : bits .and .u8 (Y b) 15 = ((b &&& 15).toNat : Int) := by revert b; exact all_bytes (by decide +kernel)
theorem and_lt (b : BitVec 8) : (b &&& 15).toNat < 16 := by revert b; exact all_bytes (by decide +kernel)

theorem dig_at (q : Nat) (h : q < (⟨#[48, 49, 50, 51, 52, 53, 54, 55, 56, 57, 97, 98, 99, 100, 101, 102]⟩ : ByteArray).size) : (((⟨#[48, 49, 50, 51, 52, 53, 54, 55, 56, 57, 97, 98, 99, 100, 101, 102]⟩ : ByteArray)[q]'h).toNat : Int) = Y (hx (BitVec.ofNat 8 q)) := by
  have : ∀ q : Fin 16, (((⟨#[48, 49, 50, 51, 52, 53, 54, 55, 56, 57, 97, 98, 99, 100, 101, 102]⟩ : ByteArray)[q.val]'q.isLt).toNat : Int) = Y (hx (BitVec.ofNat 8 q)) := by decide +kernel
  exact this ⟨q, h⟩
theorem shr_of {b : BitVec 8} {q : Nat} (h : Y b / 16 = q) : BitVec.ofNat 8 q = b >>> 4 := by
  apply BitVec.eq_of_toNat_eq
  unfold Y at h
  rw [BitVec.toNat_ofNat, BitVec.toNat_ushiftRight, Nat.shiftRight_eq_div_pow]
  have := b.isLt
  omega
theorem and_of {b : BitVec 8} {r : Nat} (h : bits .and .u8 (Y b) 15 = r) : BitVec.ofNat 8 r = b &&& 15 := by
  rw [and_15] at h
  rw [← Int.ofNat_inj.1 h, BitVec.ofNat_toNat, BitVec.setWidth_eq]
theorem take_rev (h : List (BitVec 8)) (k : Nat) (b : BitVec 8) (hl : h.length = 32) (hk : k < 32) (hb : b = h.getD (31 - k) 0) : h.reverse.take k ++ [b] = h.reverse.take (k + 1) := by
  rw [List.take_add_one, List.getElem?_reverse (by omega), hl, hb, List.getD_eq_getElem?_getD, show 32 - 1 - k = 31 - k by omega, List.getElem?_eq_getElem (show 31 - k < h.length by omega)]
  rfl

set_option maxRecDepth 100000 in
set_option maxHeartbeats 4000000 in
theorem shatext_any (h : List (BitVec 8)) (w : World) (hl : h.length = 32) :
    Calls Tryd.prog 34 #[.agg (u8s h).toArray] w fun e w' => e = .returned (.string (str (hexT h))) ∧ Below w.heap.size w w' := by
  go_enter Tryd.func34, Tryd.ntmps34
  go_hide hQ
  go_upto_region 2 with fail
  generalize hw1 : World.alloc (World.alloc w _) _ = w1
  have hR1 : Blk w1 w.heap.size (u8s h) := by rw [← hw1]; exact (Blk.mk _ _ _ rfl rfl).alloc _
  have hH1 : Blk w1 (w.heap.size + 1) (u8s (tpart [])) := by rw [← hw1]; exact Blk.mk _ _ _ (by simp) rfl
  have hb1 : Below w.heap.size w w1 := by rw [← hw1]; exact ((Below.refl _ _).alloc (Nat.le_refl _) _).alloc (by simp) _
  clear hw1
  generalize hN : w.heap.size = N at *
  have H1 : Hid (Blk w1 N (u8s h) ∧ Blk w1 (N + 1) (u8s (tpart [])) ∧ Below N w w1) := ⟨hR1, hH1, hb1⟩
  have HL : Hid (h.length = 32) := hl
  clear hR1 hH1 hb1 hl
  go_wp2_with fail
  go_loopw [6] (fun i wr => ∃ (k : Nat), k ≤ 32 ∧ i = .int .i64 k ∧ Hid (Blk wr N (u8s h)) ∧ Hid (Blk wr (N + 1) (u8s (tpart (h.reverse.take k)))) ∧ Below N w wr) (fun i _ => 32 - (intOf i).toNat)
  case atStart => exact ⟨0, by omega, rfl, H1.out.1, H1.out.2.1, H1.out.2.2⟩
  case round =>
    obtain ⟨k, hk, rfl, HR, HH, hbk⟩ := hrel
    clear H1
    have HB : Hid (Below N w wr) := hbk
    clear hbk
    by_cases hlt : k < 32
    · have e0 : (0 : Int) ≤ (k : Int) := by omega
      have e1 : (k : Int) < 32 := by omega
      have f1 : IntKind.i64.wrap (31 - (k : Int)) = 31 - (k : Int) := i64_fit (by omega) (by omega)
      have f2 : (0 : Int) ≤ 31 - (k : Int) := by omega
      have f3 : (31 : Int) - (k : Int) < 32 := by omega
      have f4 : (31 - (k : Int)).toNat = 31 - k := by omega
      have f5 : (k : Int) ≤ 31 := by omega
      have ck := HR.out.cell (31 - k)
      rw [u8s_get _ (31 - k) (by rw [HL.out]; omega)] at ck
      obtain ⟨b, hb⟩ : ∃ x, x = h.getD (31 - k) 0 := ⟨_, rfl⟩
      rw [← hb] at ck
      have HB1 : Hid (b = h.getD (31 - k) 0) := hb
      clear hb
      have b1 := Y_lo b
      have b2 := Y_hi b
      obtain ⟨q1, hq1⟩ : ∃ q : Nat, Y b / 16 = q := ⟨(Y b / 16).toNat, by omega⟩
      have hq2 : q1 < 16 := by omega
      obtain ⟨r1, hr1⟩ : ∃ q : Nat, bits .and .u8 (Y b) 15 = q := ⟨_, and_15 b⟩
      have hr2 : r1 < 16 := by rw [and_15] at hr1; have := and_lt b; omega
      have c1 := HH.out.cell (2 * k)
      rw [u8s_get _ (2 * k) (by rw [tpart_length _ (by rw [List.length_take]; omega)]; omega)] at c1
      generalize Y ((tpart (h.reverse.take k)).getD (2 * k) 0) = old1 at c1
      have k1 := HH.out.frozen (2 * k)
      go_upto_region 7 with fail
      rw [dig_at, show hx (BitVec.ofNat 8 q1) = hx (b >>> 4) by rw [shr_of hq1]]
      generalize hw2 : World.setCell wr _ _ = w2
      have HR2 : Hid (Blk w2 N (u8s h)) := by rw [← hw2]; exact HR.out.other (show N ≠ N + 1 by omega) _
      have HH2 : Hid (Blk w2 (N + 1) (u8s ((tpart (h.reverse.take k)).set (2 * k) (hx (b >>> 4))))) := by
        rw [← hw2]
        have h := HH.out.set (2 * k) (.int .u8 (Y (hx (b >>> 4))))
        rw [u8s_set] at h
        exact h
      have HB2 : Hid (Below N w w2) := by rw [← hw2]; exact HB.out.setCell (show N ≤ N + 1 by omega) _
      clear hw2 HH HR HB c1 k1 ck hq1 hq2
      have c1 := HH2.out.cell (2 * k + 1)
      rw [u8s_get _ (2 * k + 1) (by rw [List.length_set, tpart_length _ (by rw [List.length_take]; omega)]; omega)] at c1
      generalize Y (((tpart (h.reverse.take k)).set (2 * k) (hx (b >>> 4))).getD (2 * k + 1) 0) = old1 at c1
      have k1 := HH2.out.frozen (2 * k + 1)
      go_wp2_with fail
      rw [dig_at, show hx (BitVec.ofNat 8 r1) = hx (b &&& 15) by rw [and_of hr1]]
      refine ⟨⟨k + 1, by omega, by go_num, HR2.out.other (show N ≠ N + 1 by omega) _, ?_, HB2.out.setCell (show N ≤ N + 1 by omega) _⟩, by simp [intOf]; omega⟩
      have h2 := HH2.out.set (2 * k + 1) (.int .u8 (Y (hx (b &&& 15))))
      have hlk : (h.reverse.take k).length = k := by rw [List.length_take, List.length_reverse, HL.out]; omega
      have hs := tpart_set (h.reverse.take k) b (by omega)
      rw [hlk] at hs
      rw [u8s_set, hs, show h.reverse.take k ++ [b] = h.reverse.take (k + 1) from take_rev h k b HL.out hlt HB1.out] at h2
      exact h2
    · obtain rfl : k = 32 := by omega
      have hp : tpart (h.reverse.take 32) = hexT h := by
        rw [List.take_of_length_le (by rw [List.length_reverse, HL.out]; omega)]
        unfold tpart hexT
        rw [List.length_reverse, HL.out]; simp
      rw [hp] at HH
      have hxl : (hexT h).length = 64 := by rw [hexT_length, HL.out]
      have c1 : (convert 62 9 (.slice (some ⟨N + 1, 0, none⟩) 64 64)).run Tryd.prog wr = .ok (.string (str (hexT h))) wr := conv_str HH.out hxl
      clear hp hxl HH
      go_wp2_with fail
      subst hQ
      go_ret
      subst hN
      exact ⟨rfl, HB.out⟩
end Go.Proofs.YtlgadelcgboeoaaDoor
