/- sha.schedule spreads 64 bytes over 64 words, as the standard says. No conditions. -/
import Derived.Test.YtbjndfnpfmeioaaDoorLeaf
import Derived.Test.YtbjndfnpfmeioaaDoorKit
import Derived.Test.YtbjndfnpfmeioaaDoorSpec
import Derived.Deep.RegionHeld3
namespace Go.Proofs.YtbjndfnpfmeioaaDoor
open Go.ChangeShapes Go.WideShapes Go.ChangeAt Go.RowKit

def schedJ (p : List (BitVec 8)) (w : World) (N : Nat) (a : Act) (wr : World) : Prop :=
  ∃ (i : Nat), ∃ u : Nat → Value, a = ({ tmps := #[.agg (u8s p).toArray, .pointer (some ⟨N, 0, none⟩), .pointer (some ⟨N + 1, 0, none⟩), .pointer (some ⟨N + 2, 0, none⟩), u 4, .int .i64 (i : Int), u 6, u 7, u 8, u 9, u 10, u 11, u 12, u 13, u 14, u 15, u 16, u 17, u 18, u 19, u 20, u 21, u 22, u 23, u 24, u 25, u 26, u 27, u 28, u 29, u 30, u 31, u 32, u 33, u 34, u 35, u 36, u 37, u 38, u 39, u 40, u 41, u 42, u 43, u 44, u 45, u 46, u 47, u 48, u 49, u 50, u 51, u 52, u 53, u 54, u 55, u 56, u 57, u 58, u 59, u 60, u 61, u 62, u 63, u 64, u 65, u 66, u 67, u 68, u 69, u 70, u 71, u 72, u 73, u 74, u 75, u 76, u 77, u 78, u 79, u 80, u 81, u 82, u 83, u 84, u 85, u 86, u 87, u 88], defers := [] } : Act) ∧ 16 ≤ i ∧ i ≤ 64 ∧ Blk wr (N + 2) (u32s (sched p (i - 16) ++ List.replicate (64 - i) 0)) ∧ Blk wr (N + 1) (u32s (List.replicate 64 0)) ∧ Below N w wr
theorem schedJ_mk (p : List (BitVec 8)) (w : World) (N : Nat) {wr : World} (i : Nat) {u4 u6 u7 u8 u9 u10 u11 u12 u13 u14 u15 u16 u17 u18 u19 u20 u21 u22 u23 u24 u25 u26 u27 u28 u29 u30 u31 u32 u33 u34 u35 u36 u37 u38 u39 u40 u41 u42 u43 u44 u45 u46 u47 u48 u49 u50 u51 u52 u53 u54 u55 u56 u57 u58 u59 u60 u61 u62 u63 u64 u65 u66 u67 u68 u69 u70 u71 u72 u73 u74 u75 u76 u77 u78 u79 u80 u81 u82 u83 u84 u85 u86 u87 u88 : Value} (h : 16 ≤ i ∧ i ≤ 64 ∧ Blk wr (N + 2) (u32s (sched p (i - 16) ++ List.replicate (64 - i) 0)) ∧ Blk wr (N + 1) (u32s (List.replicate 64 0)) ∧ Below N w wr) : schedJ p w N ({ tmps := #[.agg (u8s p).toArray, .pointer (some ⟨N, 0, none⟩), .pointer (some ⟨N + 1, 0, none⟩), .pointer (some ⟨N + 2, 0, none⟩), u4, .int .i64 (i : Int), u6, u7, u8, u9, u10, u11, u12, u13, u14, u15, u16, u17, u18, u19, u20, u21, u22, u23, u24, u25, u26, u27, u28, u29, u30, u31, u32, u33, u34, u35, u36, u37, u38, u39, u40, u41, u42, u43, u44, u45, u46, u47, u48, u49, u50, u51, u52, u53, u54, u55, u56, u57, u58, u59, u60, u61, u62, u63, u64, u65, u66, u67, u68, u69, u70, u71, u72, u73, u74, u75, u76, u77, u78, u79, u80, u81, u82, u83, u84, u85, u86, u87, u88], defers := [] } : Act) wr :=
  ⟨i, fun n => (#[undef, undef, undef, undef, u4, undef, u6, u7, u8, u9, u10, u11, u12, u13, u14, u15, u16, u17, u18, u19, u20, u21, u22, u23, u24, u25, u26, u27, u28, u29, u30, u31, u32, u33, u34, u35, u36, u37, u38, u39, u40, u41, u42, u43, u44, u45, u46, u47, u48, u49, u50, u51, u52, u53, u54, u55, u56, u57, u58, u59, u60, u61, u62, u63, u64, u65, u66, u67, u68, u69, u70, u71, u72, u73, u74, u75, u76, u77, u78, u79, u80, u81, u82, u83, u84, u85, u86, u87, u88] : Array Value).getD n undef, rfl, h⟩

set_option maxRecDepth 100000 in
set_option maxHeartbeats 4000000 in
theorem sched_any (p : List (BitVec 8)) (hp : p.length = 64) (w : World) :
    Calls Tryd.prog 30 #[.agg (u8s p).toArray] w fun e w' => e = .returned (.agg (u32s (sched p 48)).toArray) ∧ Below w.heap.size w w' := by
  go_enter Tryd.func30, Tryd.ntmps30
  go_wp2
  refine wp_scope_rounds 0 (schedJ p w w.heap.size) (fun a _ => 64 - (intOf (a.tmps.getD 5 undef)).toNat) rfl ?pass ?first
  case first =>
    intro hpass
    have HP : Hid _ := hpass
    clear hpass
    go_hide hQ
    generalize hw1 : World.alloc (World.alloc w _) _ = w1
    have hz1 : w1.heap.size = w.heap.size + 2 := by rw [← hw1]; simp
    have hp0 : Blk w1 w.heap.size (u8s p) := by rw [← hw1]; exact (Blk.new _ _ _).alloc _
    have hp1 : Blk w1 (w.heap.size + 1) (u32s (List.replicate 64 0)) := by rw [← hw1]; exact Blk.mk _ _ _ (by simp) rfl
    have hbel1 : Below w.heap.size w w1 := by rw [← hw1]; exact ((Below.refl _ _).alloc (Nat.le_refl _) _).alloc (by simp) _
    clear hw1
    go_wp2
    generalize hw2 : World.alloc w1 _ = w2
    have hq0 : Blk w2 w.heap.size (u8s p) := by rw [← hw2]; exact hp0.alloc _
    have hq1 : Blk w2 (w.heap.size + 1) (u32s (List.replicate 64 0)) := by rw [← hw2]; exact hp1.alloc _
    have hq2 : Blk w2 (w.heap.size + 2) (u32s (List.replicate 64 0)) := by rw [← hw2]; exact Blk.mk _ _ _ (by rw [hz1]) rfl
    have hbel2 : Below w.heap.size w w2 := by rw [← hw2]; exact hbel1.alloc (by rw [hz1]; omega) _
    clear hw2 hbel1 hp0 hp1 hz1 w1
    generalize hN : w.heap.size = N at *
    go_loopw [10] (fun i wr => ∃ k : Nat, k ≤ 16 ∧ i = .int .i64 k ∧ Blk wr N (u8s p) ∧ Blk wr (N + 1) (u32s (List.replicate 64 0)) ∧ Blk wr (N + 2) (u32s (wordsOf p k ++ List.replicate (64 - k) 0)) ∧ Below N w wr) (fun i _ => 16 - (intOf i).toNat)
    case atStart => exact ⟨0, by omega, rfl, hq0, hq1, hq2, hbel2⟩
    case round =>
      obtain ⟨k, hk, rfl, hr0, hr1, hr2, hbel⟩ := hrel
      by_cases hlt : k < 16
      · have i0 : (0 : Int) ≤ (k : Int) := by omega
        have i1 : (k : Int) < 16 := by omega
        have i2 : (k : Int) < 64 := by omega
        have wr0 : IntKind.i64.wrap (4 * (k : Int)) = 4 * (k : Int) := i64_fit (by omega) (by omega)
        have jl0 : (0 : Int) ≤ 4 * (k : Int) := by omega
        have jh0 : 4 * (k : Int) < 64 := by omega
        have tn0 : (4 * (k : Int)).toNat = 4 * k := by omega
        have c0 := hr0.cell (4 * k); rw [u8s_get p (4 * k) (by omega)] at c0
        obtain ⟨b0, hb0⟩ : ∃ x, x = p.getD (4 * k) 0 := ⟨_, rfl⟩
        rw [← hb0] at c0
        have HB0 : Hid (b0 = _) := hb0
        clear hb0
        have yl0 := Y_lo b0
        have yh0 := Y_hi b0
        have wr1 : IntKind.i64.wrap (4 * (k : Int) + 1) = 4 * (k : Int) + 1 := i64_fit (by omega) (by omega)
        have jl1 : (0 : Int) ≤ 4 * (k : Int) + 1 := by omega
        have jh1 : 4 * (k : Int) + 1 < 64 := by omega
        have tn1 : (4 * (k : Int) + 1).toNat = 4 * k + 1 := by omega
        have c1 := hr0.cell (4 * k + 1); rw [u8s_get p (4 * k + 1) (by omega)] at c1
        obtain ⟨b1, hb1⟩ : ∃ x, x = p.getD (4 * k + 1) 0 := ⟨_, rfl⟩
        rw [← hb1] at c1
        have HB1 : Hid (b1 = _) := hb1
        clear hb1
        have yl1 := Y_lo b1
        have yh1 := Y_hi b1
        have wr2 : IntKind.i64.wrap (4 * (k : Int) + 2) = 4 * (k : Int) + 2 := i64_fit (by omega) (by omega)
        have jl2 : (0 : Int) ≤ 4 * (k : Int) + 2 := by omega
        have jh2 : 4 * (k : Int) + 2 < 64 := by omega
        have tn2 : (4 * (k : Int) + 2).toNat = 4 * k + 2 := by omega
        have c2 := hr0.cell (4 * k + 2); rw [u8s_get p (4 * k + 2) (by omega)] at c2
        obtain ⟨b2, hb2⟩ : ∃ x, x = p.getD (4 * k + 2) 0 := ⟨_, rfl⟩
        rw [← hb2] at c2
        have HB2 : Hid (b2 = _) := hb2
        clear hb2
        have yl2 := Y_lo b2
        have yh2 := Y_hi b2
        have wr3 : IntKind.i64.wrap (4 * (k : Int) + 3) = 4 * (k : Int) + 3 := i64_fit (by omega) (by omega)
        have jl3 : (0 : Int) ≤ 4 * (k : Int) + 3 := by omega
        have jh3 : 4 * (k : Int) + 3 < 64 := by omega
        have tn3 : (4 * (k : Int) + 3).toNat = 4 * k + 3 := by omega
        have c3 := hr0.cell (4 * k + 3); rw [u8s_get p (4 * k + 3) (by omega)] at c3
        obtain ⟨b3, hb3⟩ : ∃ x, x = p.getD (4 * k + 3) 0 := ⟨_, rfl⟩
        rw [← hb3] at c3
        have HB3 : Hid (b3 = _) := hb3
        clear hb3
        have yl3 := Y_lo b3
        have yh3 := Y_hi b3
        have hc := hr2.cell k
        rw [u32s_get _ k (by simp [wordsOf_length]; omega)] at hc
        have hf := hr2.frozen k
        go_wp2
        go_region_held3 (fun w1 => w1.cell? ⟨N, 4 * k, none⟩ = some (.int .u8 (Y b0)) ∧ w1.cell? ⟨N, 4 * k + 1, none⟩ = some (.int .u8 (Y b1)) ∧ w1.cell? ⟨N, 4 * k + 2, none⟩ = some (.int .u8 (Y b2)) ∧ w1.cell? ⟨N, 4 * k + 3, none⟩ = some (.int .u8 (Y b3))) (go_keep) (fail)
        go_wp2
        go_roundw
        case rel =>
          clear hQ
          refine ⟨k + 1, by omega, by go_num, ?_, ?_, ?_, ?_⟩
          · exact (hr0.drew).other (by simp) _
          · exact (hr1.drew).other (by simp) _
          · rw [word_U]
            have hs := hr2.drew.set k (.int .u32 (U (word b0 b1 b2 b3)))
            rw [u32s_set, fill_set _ _ _ 64 k (wordsOf_length p k) (by omega)] at hs
            have e : word b0 b1 b2 b3 = wordAt p k := by rw [HB0.out, HB1.out, HB2.out, HB3.out]; rfl
            rw [e] at hs ⊢
            exact hs
          · exact hbel.drew.setCell (by simp) _
        case measure => simp [intOf]; omega
      · obtain rfl : k = 16 := by omega
        go_wp2
        go_step3
        simp only [Exit.then]
        rename_i K hK
        refine hK _ _ ?_
        subst hQ
        subst hN
        exact HP.out _ _ (schedJ_mk p w _ 16 ⟨by omega, by omega, hr2, hr1, hbel⟩)
  case pass =>
    intro a wr hJ
    obtain ⟨i, u, rfl, hi, hi2, hb2, hb1, hbel⟩ := hJ

    generalize hN : w.heap.size = N at *
    by_cases hlt : i < 64
    · have i0 : (0 : Int) ≤ (i : Int) := by omega
      have i1 : (i : Int) < 64 := by omega
      obtain ⟨j2, j2a, j2b, j2c⟩ := idx_sub i 2 64 2 64 rfl rfl (by omega) hlt (by omega)
      obtain ⟨j15, j15a, j15b, j15c⟩ := idx_sub i 15 64 15 64 rfl rfl (by omega) hlt (by omega)
      obtain ⟨j7, j7a, j7b, j7c⟩ := idx_sub i 7 64 7 64 rfl rfl (by omega) hlt (by omega)
      obtain ⟨j16, j16a, j16b, j16c⟩ := idx_sub i 16 64 16 64 rfl rfl (by omega) hlt (by omega)
      have len : (sched p (i - 16) ++ List.replicate (64 - i) 0).length = 64 := by simp [sched_length]; omega
      have c2 := hb2.cell (i - 2); rw [u32s_get _ (i - 2) (by omega)] at c2
      have c15 := hb2.cell (i - 15); rw [u32s_get _ (i - 15) (by omega)] at c15
      have c7 := hb2.cell (i - 7); rw [u32s_get _ (i - 7) (by omega)] at c7
      have c16 := hb2.cell (i - 16); rw [u32s_get _ (i - 16) (by omega)] at c16
      have c0 := hb2.cell i; rw [u32s_get _ i (by omega)] at c0
      have f0 := hb2.frozen i
      obtain ⟨x2, hx2⟩ : ∃ x, x = (sched p (i - 16) ++ List.replicate (64 - i) 0).getD (i - 2) 0 := ⟨_, rfl⟩
      obtain ⟨x15, hx15⟩ : ∃ x, x = (sched p (i - 16) ++ List.replicate (64 - i) 0).getD (i - 15) 0 := ⟨_, rfl⟩
      obtain ⟨x7, hx7⟩ : ∃ x, x = (sched p (i - 16) ++ List.replicate (64 - i) 0).getD (i - 7) 0 := ⟨_, rfl⟩
      obtain ⟨x16, hx16⟩ : ∃ x, x = (sched p (i - 16) ++ List.replicate (64 - i) 0).getD (i - 16) 0 := ⟨_, rfl⟩
      obtain ⟨x0, hx0⟩ : ∃ x, x = (sched p (i - 16) ++ List.replicate (64 - i) 0).getD i 0 := ⟨_, rfl⟩
      rw [← hx2] at c2; rw [← hx15] at c15; rw [← hx7] at c7; rw [← hx16] at c16; rw [← hx0] at c0
      clear hx0 len
      have HX2 : Hid (x2 = _) := hx2; have HX15 : Hid (x15 = _) := hx15; have HX7 : Hid (x7 = _) := hx7; have HX16 : Hid (x16 = _) := hx16
      clear hx2 hx15 hx7 hx16
      have HC7 : Hid (wr.cell? ⟨N + 2, i - 7, none⟩ = _) := c7
      have HC16 : Hid (wr.cell? ⟨N + 2, i - 16, none⟩ = _) := c16
      have HC0 : Hid (wr.cell? ⟨N + 2, i, none⟩ = _) := c0
      have HF0 : Hid (wr.frozen? ⟨N + 2, i, none⟩ = _) := f0
      clear c7 c16 c0 f0
      go_hide hQ
      go_wp2
      go_quiet (fail)
      clear c2 c15 j2 j2a j2b j2c j15 j15a j15b j15c
      have a1 := U_xor
      have a2 := U_shr10
      have a3 := U_shr3
      have a4 := U_addw
      have a5 : ((ror x2 17 ^^^ ror x2 19) ^^^ (x2 >>> 10)) = s1 x2 := rfl
      have a6 : ((ror x15 7 ^^^ ror x15 18) ^^^ (x15 >>> 3)) = s0 x15 := rfl
      go_wp2_with fail
      refine (rot_17 _ _).mono ?_
      rintro e w' ⟨rfl, rfl⟩
      go_wp2_with fail
      refine (rot_19 _ _).mono ?_
      rintro e w' ⟨rfl, rfl⟩
      go_wp2_with fail
      refine (rot_7 _ _).mono ?_
      rintro e w' ⟨rfl, rfl⟩
      go_wp2_with fail
      refine (rot_18 _ _).mono ?_
      rintro e w' ⟨rfl, rfl⟩
      go_wp2_with fail
      have c7 := HC7.out
      have c16 := HC16.out
      have c0 := HC0.out
      have f0 := HF0.out
      have k7 : (7 : Int) ≤ (i : Int) := by omega
      have k16 : (16 : Int) ≤ (i : Int) := by omega
      have l7 : (i : Int) < 71 := by omega
      have l16 : (i : Int) < 80 := by omega
      go_region_held3 (fun w1 => w1.cell? ⟨N + 2, i - 7, none⟩ = some (.int .u32 (U x7)) ∧ w1.cell? ⟨N + 2, i - 16, none⟩ = some (.int .u32 (U x16))) (first | exact ⟨c7, c16⟩ | (refine ⟨cell_kept ?_ c7, cell_kept ?_ c16⟩ <;> omega)) (fail)
      go_wp2
      go_step3
      simp only [Exit.then]
      subst hQ
      refine ⟨rfl, schedJ_mk p w _ (i + 1) ?_, ?_⟩
      · refine ⟨by omega, by omega, ?_, (hb1.drewN _).other (by simp) _, (below_drewN hbel _).setCell (by simp) _⟩
        have hs := (hb2.drewN (nq + 1)).set i (.int .u32 (U (s1 x2 + x7 + s0 x15 + x16)))
        rw [u32s_set, fill_set _ _ _ 64 i (by rw [sched_length]; omega) hlt] at hs
        rw [show i + 1 - 16 = (i - 16) + 1 by omega, sched]
        have g : ∀ j, j < i → (sched p (i - 16) ++ List.replicate (64 - i) 0).getD j 0 = (sched p (i - 16)).getD j 0 := by
          intro j hj
          rw [List.getD_eq_getElem?_getD, List.getElem?_append_left (by rw [sched_length]; omega), ← List.getD_eq_getElem?_getD]
        have e2 := HX2.out; have e7 := HX7.out; have e15 := HX15.out; have e16 := HX16.out
        rw [g _ (by omega)] at e2 e7 e15 e16
        rw [show i - 16 + 14 = i - 2 by omega, show i - 16 + 9 = i - 7 by omega, show i - 16 + 1 = i - 15 by omega, ← e2, ← e7, ← e15, ← e16]
        exact hs
      · simp [intOf]; omega
    · obtain rfl : i = 64 := by omega
      have info : (Tryd.prog.info? 60).map (·.size) = some 64 := by kernel_rfl
      have hb3 : Blk wr (N + 2) (u32s (sched p 48)) := by simpa using hb2
      clear hb2
      obtain ⟨t2, hg2⟩ := hb3
      obtain ⟨t1, hg1⟩ := hb1
      have hl2 : (u32s (sched p 48)).toArray.size = 64 := by simp [sched_length]
      have hl1 : (u32s (List.replicate 64 0)).toArray.size = 64 := by simp
      have Hg2 : Hid (wr.heap[N + 2]? = _) := hg2
      have Hg1 : Hid (wr.heap[N + 1]? = _) := hg1
      have Hl2 : Hid (_ = 64) := hl2
      have Hl1 : Hid (_ = 64) := hl1
      have Hi : Hid (_ = some 64) := info
      clear hg2 hg1 hl2 hl1 info
      go_hide hQ
      go_wp2_with (first
        | (refine wpList_load_row rfl 60 _ rfl (N + 2) rfl t2 _ _ _ Hg2.out Tryd.underlying60 rfl (Hi.out.trans (congrArg some Hl2.out.symm)) ?_)
        | (refine wpList_store_row rfl 60 _ _ rfl (N + 1) _ rfl rfl t1 _ Hg1.out (Hi.out.trans (congrArg some Hl2.out.symm)) (Hl1.out.trans Hl2.out.symm) (u32s_one _) ?_))
      subst hQ
      refine jump_ret ?_
      refine bodyPost_ret (v := .agg (u32s (sched p 48)).toArray) ?_ rfl ⟨rfl, ?_⟩
      · have hb : Blk (wr.setRow (N + 1) (u32s (sched p 48)).toArray) (N + 1) (u32s (sched p 48)) := Blk.row (ds := u32s (sched p 48)) ⟨t1, Hg1.out⟩
        obtain ⟨t, hb⟩ := hb
        exact results_cell_row Tryd.results30 _ _ (N + 1) t _ _ _ rfl hb Tryd.underlying60 rfl (Hi.out.trans (congrArg some Hl2.out.symm))
      · subst hN
        exact below_setRow hbel (by omega) _
end Go.Proofs.YtbjndfnpfmeioaaDoor
