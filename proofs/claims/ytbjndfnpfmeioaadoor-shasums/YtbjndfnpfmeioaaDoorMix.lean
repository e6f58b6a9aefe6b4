/- sha.mix takes one block into the words, as the standard says: where the round words lie as the program's text lays them. -/
import Derived.Test.YtbjndfnpfmeioaaDoorSched
import Derived.Test.YtbjndfnpfmeioaaDoorBits2
import Derived.Deep.CutBlock
namespace Go.Proofs.YtbjndfnpfmeioaaDoor
open Go.ChangeShapes Go.WideShapes Go.ChangeAt Go.RowKit

/-- The round words lie where the program lays them. -/
def Kw (w : World) : Prop := ∀ i, i < 64 → w.cell? ⟨0, i, none⟩ = some (.int .u32 (U (Ks.getD i 0)))
theorem Kw.pos {w : World} (h : Kw w) : 0 < w.heap.size := World.block_lt_of_cell? w _ (h 0 (by omega))
theorem Kw.below {w w' : World} {B : Nat} (h : Kw w) (hb : Below B w w') (hB : 0 < B) : Kw w' := fun i hi => by
  rw [hb.cell (p := ⟨0, i, none⟩) hB]; exact h i hi

def zeros8 : List (BitVec 32) := List.replicate 8 0
def mixJ (s : St) (p : List (BitVec 8)) (w : World) (N : Nat) (a : Act) (wr : World) : Prop :=
  ∃ (i M : Nat) (x0 x1 x2 x3 x4 x5 x6 x7 : BitVec 32), ∃ u : Nat → Value, a = ({ tmps := #[.agg (u32s s.list).toArray, .agg (u8s p).toArray, .pointer (some ⟨N, 0, none⟩), .pointer (some ⟨N + 1, 0, none⟩), .pointer (some ⟨N + 2, 0, none⟩), .pointer (some ⟨M, 0, none⟩), .int .u32 (U x0), .int .u32 (U x1), .int .u32 (U x2), .int .u32 (U x3), .int .u32 (U x4), .int .u32 (U x5), .int .u32 (U x6), .int .u32 (U x7), .int .i64 (i : Int), u 15, u 16, u 17, u 18, u 19, u 20, u 21, u 22, u 23, u 24, u 25, u 26, u 27, u 28, u 29, u 30, u 31, u 32, u 33, u 34, u 35, u 36, u 37, u 38, u 39, u 40, u 41, u 42, u 43, u 44, u 45, u 46, u 47, u 48, u 49, u 50, u 51, u 52, u 53, u 54, u 55, u 56, u 57, u 58, u 59, u 60, u 61, u 62, u 63, u 64, u 65, u 66, u 67, u 68, u 69, u 70, u 71, u 72, u 73, u 74, u 75, u 76, u 77, u 78, u 79, u 80, u 81, u 82, u 83, u 84, u 85, u 86, u 87, u 88, u 89, u 90, u 91, u 92, u 93, u 94, u 95, u 96, u 97, u 98, u 99, u 100, u 101, u 102, u 103, u 104, u 105, u 106, u 107, u 108, u 109, u 110, u 111, u 112, u 113, u 114, u 115, u 116, u 117, u 118, u 119, u 120, u 121, u 122, u 123, u 124, u 125, u 126, u 127, u 128, u 129, u 130, u 131, u 132, u 133, u 134, u 135, u 136], defers := [] } : Act) ∧ i ≤ 64 ∧ N + 2 < M ∧ Blk wr M (u32s (sched p 48)) ∧ Blk wr N (u32s s.list) ∧ Blk wr (N + 2) (u32s zeros8) ∧ Below N w wr ∧ Hid (St.mk x0 x1 x2 x3 x4 x5 x6 x7 = steps p s i)
theorem mixJ_mk (s : St) (p : List (BitVec 8)) (w : World) (N : Nat) {wr : World} (i M : Nat) (x0 x1 x2 x3 x4 x5 x6 x7 : BitVec 32) {u15 u16 u17 u18 u19 u20 u21 u22 u23 u24 u25 u26 u27 u28 u29 u30 u31 u32 u33 u34 u35 u36 u37 u38 u39 u40 u41 u42 u43 u44 u45 u46 u47 u48 u49 u50 u51 u52 u53 u54 u55 u56 u57 u58 u59 u60 u61 u62 u63 u64 u65 u66 u67 u68 u69 u70 u71 u72 u73 u74 u75 u76 u77 u78 u79 u80 u81 u82 u83 u84 u85 u86 u87 u88 u89 u90 u91 u92 u93 u94 u95 u96 u97 u98 u99 u100 u101 u102 u103 u104 u105 u106 u107 u108 u109 u110 u111 u112 u113 u114 u115 u116 u117 u118 u119 u120 u121 u122 u123 u124 u125 u126 u127 u128 u129 u130 u131 u132 u133 u134 u135 u136 : Value} (h : i ≤ 64 ∧ N + 2 < M ∧ Blk wr M (u32s (sched p 48)) ∧ Blk wr N (u32s s.list) ∧ Blk wr (N + 2) (u32s zeros8) ∧ Below N w wr ∧ Hid (St.mk x0 x1 x2 x3 x4 x5 x6 x7 = steps p s i)) : mixJ s p w N ({ tmps := #[.agg (u32s s.list).toArray, .agg (u8s p).toArray, .pointer (some ⟨N, 0, none⟩), .pointer (some ⟨N + 1, 0, none⟩), .pointer (some ⟨N + 2, 0, none⟩), .pointer (some ⟨M, 0, none⟩), .int .u32 (U x0), .int .u32 (U x1), .int .u32 (U x2), .int .u32 (U x3), .int .u32 (U x4), .int .u32 (U x5), .int .u32 (U x6), .int .u32 (U x7), .int .i64 (i : Int), u15, u16, u17, u18, u19, u20, u21, u22, u23, u24, u25, u26, u27, u28, u29, u30, u31, u32, u33, u34, u35, u36, u37, u38, u39, u40, u41, u42, u43, u44, u45, u46, u47, u48, u49, u50, u51, u52, u53, u54, u55, u56, u57, u58, u59, u60, u61, u62, u63, u64, u65, u66, u67, u68, u69, u70, u71, u72, u73, u74, u75, u76, u77, u78, u79, u80, u81, u82, u83, u84, u85, u86, u87, u88, u89, u90, u91, u92, u93, u94, u95, u96, u97, u98, u99, u100, u101, u102, u103, u104, u105, u106, u107, u108, u109, u110, u111, u112, u113, u114, u115, u116, u117, u118, u119, u120, u121, u122, u123, u124, u125, u126, u127, u128, u129, u130, u131, u132, u133, u134, u135, u136], defers := [] } : Act) wr :=
  ⟨i, M, x0, x1, x2, x3, x4, x5, x6, x7, fun n => (#[undef, undef, undef, undef, undef, undef, undef, undef, undef, undef, undef, undef, undef, undef, undef, u15, u16, u17, u18, u19, u20, u21, u22, u23, u24, u25, u26, u27, u28, u29, u30, u31, u32, u33, u34, u35, u36, u37, u38, u39, u40, u41, u42, u43, u44, u45, u46, u47, u48, u49, u50, u51, u52, u53, u54, u55, u56, u57, u58, u59, u60, u61, u62, u63, u64, u65, u66, u67, u68, u69, u70, u71, u72, u73, u74, u75, u76, u77, u78, u79, u80, u81, u82, u83, u84, u85, u86, u87, u88, u89, u90, u91, u92, u93, u94, u95, u96, u97, u98, u99, u100, u101, u102, u103, u104, u105, u106, u107, u108, u109, u110, u111, u112, u113, u114, u115, u116, u117, u118, u119, u120, u121, u122, u123, u124, u125, u126, u127, u128, u129, u130, u131, u132, u133, u134, u135, u136] : Array Value).getD n undef, rfl, h⟩

set_option maxRecDepth 100000 in
set_option maxHeartbeats 4000000 in
theorem mix_any (s : St) (p : List (BitVec 8)) (hp : p.length = 64) (w : World) (hK : Kw w) :
    Calls Tryd.prog 29 #[.agg (u32s s.list).toArray, .agg (u8s p).toArray] w fun e w' => e = .returned (.agg (u32s (mix s p).list).toArray) ∧ Below w.heap.size w w' := by
  have HK : Hid (Kw w) := hK
  clear hK
  go_enter Tryd.func29, Tryd.ntmps29
  go_wp2
  refine wp_scope_rounds 0 (mixJ s p w w.heap.size) (fun a _ => 64 - (intOf (a.tmps.getD 14 undef)).toNat) rfl ?pass ?first
  case first =>
    intro hpass
    have HP : Hid _ := hpass
    clear hpass
    go_hide hQ
    generalize hw1 : World.alloc (World.alloc (World.alloc w _) _) _ = w1
    have hz1 : w1.heap.size = w.heap.size + 3 := by rw [← hw1]; simp
    have hp0 : Blk w1 w.heap.size (u32s s.list) := by rw [← hw1]; exact ((Blk.new _ _ _).alloc _).alloc _
    have hp1 : Blk w1 (w.heap.size + 1) (u8s p) := by rw [← hw1]; exact (Blk.mk _ _ _ (by simp) rfl).alloc _
    have hp2 : Blk w1 (w.heap.size + 2) (u32s zeros8) := by rw [← hw1]; exact Blk.mk _ _ _ (by simp) rfl
    have hbel1 : Below w.heap.size w w1 := by rw [← hw1]; exact (((Below.refl _ _).alloc (Nat.le_refl _) _).alloc (by simp) _).alloc (by simp; omega) _
    clear hw1
    have info44 : (Tryd.prog.info? 44).map (·.size) = some (u8s p).toArray.size := by
      rw [show (u8s p).toArray.size = 64 by simp [hp]]; kernel_rfl
    have info60 : (Tryd.prog.info? 60).map (·.size) = some (u32s (sched p 48)).toArray.size := by
      rw [show (u32s (sched p 48)).toArray.size = 64 by simp [sched_length]]; kernel_rfl
    have I44 : Hid (_ = some _) := info44
    have I60 : Hid (_ = some _) := info60
    clear info44 info60
    obtain ⟨t1, hg1⟩ := hp1
    have Hg1 : Hid (w1.heap[w.heap.size + 1]? = _) := hg1
    clear hg1
    go_wp2_with (refine wpList_load_row rfl 44 _ rfl (w.heap.size + 1) rfl t1 _ _ _ Hg1.out Tryd.underlying44 rfl I44.out ?_)
    refine (sched_any p hp _).mono ?_
    rintro e w2 ⟨rfl, hbel2⟩
    have hs2 := hbel2.size
    have hq0 : Blk w2 w.heap.size (u32s s.list) := hp0.below hbel2 (by omega)
    have hq2 : Blk w2 (w.heap.size + 2) (u32s zeros8) := hp2.below hbel2 (by omega)
    have hbelw : Below w.heap.size w w2 := hbel1.trans (hbel2.mono (by omega))
    clear hp0 hp2 hbel1
    have hw60 : (u32s (List.replicate 64 0)).toArray.size = (u32s (sched p 48)).toArray.size := by simp [sched_length]
    have H60 : Hid (_ = _) := hw60
    clear hw60
    go_wp2_with (refine wpList_store_row rfl 60 _ _ rfl w2.heap.size (u32s (sched p 48)).toArray rfl rfl 60 (u32s (List.replicate 64 0)).toArray (heap_alloc_new _ _) I60.out H60.out (u32s_one _) ?_)
    generalize hw3 : World.setRow _ _ _ = w3
    have hr0 : Blk w3 w.heap.size (u32s s.list) := by rw [← hw3]; exact (hq0.alloc _).otherRow (by omega) _
    have hr2 : Blk w3 (w.heap.size + 2) (u32s zeros8) := by rw [← hw3]; exact (hq2.alloc _).otherRow (by omega) _
    have hrM : Blk w3 w2.heap.size (u32s (sched p 48)) := by rw [← hw3]; exact (Blk.new w2 _ _).row
    have hbel3 : Below w.heap.size w w3 := by rw [← hw3]; exact below_setRow (hbelw.alloc (by omega) _) (by omega) _
    have hM : w.heap.size + 2 < w2.heap.size := by omega
    clear hw3 hq0 hq2 hbelw hbel2 hs2
    have c0 : w3.cell? ⟨w.heap.size, 0, none⟩ = some (.int .u32 (U s.a)) := hr0.cell 0
    have c1 : w3.cell? ⟨w.heap.size, 1, none⟩ = some (.int .u32 (U s.b)) := hr0.cell 1
    have c2 : w3.cell? ⟨w.heap.size, 2, none⟩ = some (.int .u32 (U s.c)) := hr0.cell 2
    have c3 : w3.cell? ⟨w.heap.size, 3, none⟩ = some (.int .u32 (U s.d)) := hr0.cell 3
    have c4 : w3.cell? ⟨w.heap.size, 4, none⟩ = some (.int .u32 (U s.e)) := hr0.cell 4
    have c5 : w3.cell? ⟨w.heap.size, 5, none⟩ = some (.int .u32 (U s.f)) := hr0.cell 5
    have c6 : w3.cell? ⟨w.heap.size, 6, none⟩ = some (.int .u32 (U s.g)) := hr0.cell 6
    have c7 : w3.cell? ⟨w.heap.size, 7, none⟩ = some (.int .u32 (U s.h)) := hr0.cell 7
    go_quiet (fail)
    clear c0 c1 c2 c3 c4 c5 c6 c7
    go_wp2_with fail
    go_step3
    simp only [Exit.then]
    rename_i K hK
    refine hK _ _ ?_
    subst hQ
    exact HP.out _ _ (mixJ_mk s p w _ 0 w2.heap.size s.a s.b s.c s.d s.e s.f s.g s.h ⟨by omega, hM, hrM.drewN _, hr0.drewN _, hr2.drewN _, below_drewN hbel3 _, rfl⟩)
  case pass =>
    intro a wr hJ
    obtain ⟨i, M, a, b, c, d, e, f, g, h, u, rfl, hi, hM, hbM, hb0, hb2, hbel, HST⟩ := hJ
    generalize hN : w.heap.size = N at *
    by_cases hlt : i < 64
    · have i0 : (0 : Int) ≤ (i : Int) := by omega
      have i1 : (i : Int) < 64 := by omega
      have cK : wr.cell? ⟨0, i, none⟩ = some (.int .u32 (U (Ks.getD i 0))) := (HK.out.below hbel (by rw [← hN]; exact HK.out.pos)) i hlt
      have cW := hbM.cell i
      rw [u32s_get _ i (by rw [sched_length]; omega)] at cW
      obtain ⟨kk, hkk⟩ : ∃ x, x = Ks.getD i 0 := ⟨_, rfl⟩
      obtain ⟨ww, hww⟩ : ∃ x, x = (sched p 48).getD i 0 := ⟨_, rfl⟩
      rw [← hkk] at cK
      rw [← hww] at cW
      have HKK : Hid (kk = _) := hkk
      have HWW : Hid (ww = _) := hww
      clear hkk hww
      go_hide hQ
      go_wp2_with fail
      refine (rot_6 _ _).mono ?_
      rintro e w' ⟨rfl, rfl⟩
      go_wp2_with fail
      refine (rot_11 _ _).mono ?_
      rintro e w' ⟨rfl, rfl⟩
      go_wp2_with fail
      refine (rot_25 _ _).mono ?_
      rintro e w' ⟨rfl, rfl⟩
      go_wp2_with fail
      rw [S1_U, Ch_U]
      go_quiet (fail)
      go_wp2_with fail
      refine (rot_2 _ _).mono ?_
      rintro e w' ⟨rfl, rfl⟩
      go_wp2_with fail
      refine (rot_13 _ _).mono ?_
      rintro e w' ⟨rfl, rfl⟩
      go_wp2_with fail
      refine (rot_22 _ _).mono ?_
      rintro e w' ⟨rfl, rfl⟩
      go_wp2_with fail
      go_step3
      rw [S0_U, Maj_U]
      simp only [Exit.then]
      subst hQ
      rw [U_add5, U_add6, U_add, U_add]
      refine ⟨rfl, mixJ_mk s p w N (i + 1) M _ _ _ _ _ _ _ _ ⟨by omega, hM, hbM.drewN _, hb0.drewN _, hb2.drewN _, below_drewN hbel _, ?_⟩, ?_⟩
      · show Hid (_ = step (steps p s i) (Ks.getD i 0) (W p i))
        rw [← HST.out]
        show Hid (_ = step _ (Ks.getD i 0) ((sched p 48).getD i 0))
        rw [← HKK.out, ← HWW.out]
        rfl
      · simp [intOf]; omega
    · obtain rfl : i = 64 := by omega
      have info41 : ∃ a, Tryd.prog.info? 41 = some a ∧ a.size = 8 := by
        have h : (Tryd.prog.info? 41).map (·.size) = some 8 := by kernel_rfl
        simpa using h
      have Hi : Hid (∃ a, Tryd.prog.info? 41 = some a ∧ a.size = 8) := info41
      clear info41
      have c0 : wr.cell? ⟨N, 0, none⟩ = some (.int .u32 (U s.a)) := hb0.cell 0
      have c1 : wr.cell? ⟨N, 1, none⟩ = some (.int .u32 (U s.b)) := hb0.cell 1
      have c2 : wr.cell? ⟨N, 2, none⟩ = some (.int .u32 (U s.c)) := hb0.cell 2
      have c3 : wr.cell? ⟨N, 3, none⟩ = some (.int .u32 (U s.d)) := hb0.cell 3
      have c4 : wr.cell? ⟨N, 4, none⟩ = some (.int .u32 (U s.e)) := hb0.cell 4
      have c5 : wr.cell? ⟨N, 5, none⟩ = some (.int .u32 (U s.f)) := hb0.cell 5
      have c6 : wr.cell? ⟨N, 6, none⟩ = some (.int .u32 (U s.g)) := hb0.cell 6
      have c7 : wr.cell? ⟨N, 7, none⟩ = some (.int .u32 (U s.h)) := hb0.cell 7
      obtain ⟨t2, hg2⟩ := hb2
      have Hg2 : Hid (wr.heap[N + 2]? = _) := hg2
      clear hg2 hb0 hbM
      go_hide hQ
      go_wp2_with (refine wpList_store_row rfl 41 _ _ rfl (N + 2) _ rfl rfl t2 _ Hg2.out ?h1 ?h2 ?h3 ?_)
      case h1 => exact Hi.out
      case h2 => rfl
      case h3 => exact ⟨rfl, rfl, rfl, rfl, rfl, rfl, rfl, rfl⟩
      rw [U_add, U_add, U_add, U_add, U_add, U_add, U_add, U_add]
      subst hQ
      refine jump_ret ?_
      have hm : mix s p = ⟨s.a + a, s.b + b, s.c + c, s.d + d, s.e + e, s.f + f, s.g + g, s.h + h⟩ := by
        unfold mix; rw [← HST.out]; rfl
      refine bodyPost_ret (v := .agg (u32s (mix s p).list).toArray) ?_ rfl ⟨rfl, ?_⟩
      · rw [hm]
        obtain ⟨t, hb⟩ := Blk.row (ds := u32s (St.list ⟨s.a + a, s.b + b, s.c + c, s.d + d, s.e + e, s.f + f, s.g + g, s.h + h⟩)) ⟨t2, Hg2.out⟩
        exact results_cell_row Tryd.results29 _ _ (N + 2) t _ _ _ rfl hb Tryd.underlying41 rfl (by kernel_rfl)
      · subst hN
        exact below_setRow hbel (by omega) _
end Go.Proofs.YtbjndfnpfmeioaaDoor
