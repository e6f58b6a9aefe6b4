/- file: what is done with no files at all (nil). -/
import Derived.Test.YtbbooldhfcldbaaFlP
namespace Go.Proofs.Ytbbooldhfcldbaa
open Go.ChangeShapes Go.WideShapes Go.ChangeAt Go.RowKit Go.Lib

set_option maxRecDepth 100000 in
set_option maxHeartbeats 2000000 in
theorem begin_nil (a : Option Addr) (n cap : Nat) (w : World) :
    Calls Try.prog 36 #[.pointer none, .slice a n cap] w fun e w' => e = .returned (.int .i64 7) ∧ w' = w := by
  go_enter Try.func36, Try.ntmps36
  go_wp2_with fail
  refine wp_scope_hops 1 ?_
  go_hide hQ
  go_wp2_with fail
  refine Calls.mono (powered_nil w) ?_
  rintro e w1 ⟨rfl, rfl⟩
  go_wp2_with fail
  go_step3
  simp only [Exit.then]
  subst hQ
  rw [hops_goto]
  refine ⟨_, rfl, ?_⟩
  go_hide hQ
  go_wp2_with fail
  subst hQ
  rw [hops_ret]
  go_ret
  exact ⟨rfl, rfl⟩
set_option maxRecDepth 100000 in
set_option maxHeartbeats 2000000 in
theorem open_nil (name : ByteArray) (w : World) :
    Calls Try.prog 37 #[.pointer none, .string name, .slice none 0 0] w fun e w' => e = .returned (.tuple #[zeroCV, .int .i64 7]) ∧ Below w.heap.size w w' := by
  go_enter Try.func37, Try.ntmps37
  go_wp2_with fail
  refine wp_scope_hops 1 ?_
  go_hide hQ
  go_wp2_with fail
  generalize hw4 : World.alloc (World.alloc (World.alloc (World.alloc w _) _) _) _ = w4
  have HR4 : Hid (Blk w4 w.heap.size [.slice none 0 0, .int .i64 0]) := by rw [← hw4]; exact (((Blk.mk w _ _ rfl rfl).alloc _).alloc _).alloc _
  have HC4 : Hid (Blk w4 (w.heap.size + 1) [.slice none 0 0, .int .i64 0]) := by
    have h : Blk ((w.alloc (.cells #[.slice none 0 0, .int .i64 0] 68)).alloc (.cells #[.slice none 0 0, .int .i64 0] 68)) (w.heap.size + 1) [.slice none 0 0, .int .i64 0] := Blk.mk _ _ _ (by simp) rfl
    rw [← hw4]; exact (h.alloc _).alloc _
  have HB4 : Hid (Below w.heap.size w w4) := by rw [← hw4]; exact (((((Below.refl _ _).alloc (Nat.le_refl _) _).alloc (by simp) _).alloc (by simp; omega) _).alloc (by simp; omega) _)
  have c0 : w4.cell? ⟨w.heap.size + 1 + 1 + 1, 0, none⟩ = some (.slice none 0 0) := by rw [← hw4]; exact (Blk.mk (b := w.heap.size + 1 + 1 + 1) _ _ _ (by simp) rfl).one (i := 0) rfl
  have c1 : w4.cell? ⟨w.heap.size + 1 + 1 + 1, 1, none⟩ = some (.slice (some ⟨w.heap.size + 1 + 1, 0, none⟩) 1 1) := by rw [← hw4]; exact (Blk.mk (b := w.heap.size + 1 + 1 + 1) _ _ _ (by simp) rfl).one (i := 1) rfl
  have c2 : w4.cell? ⟨w.heap.size + 1 + 1, 0, none⟩ = some (.string name) := by rw [← hw4]; exact ((Blk.mk (b := w.heap.size + 1 + 1) _ _ _ (by simp) rfl).alloc _).one (i := 0) rfl
  clear hw4
  refine Calls.mono (concat_any _ _ _ [] name w4 (.inl ⟨rfl, rfl⟩) (Nat.zero_le _) c0 c1 c2) ?_
  rintro e w5 ⟨v5, rfl, h5, hb5⟩
  obtain ⟨a5, k5, hv5⟩ := h5.shape
  subst hv5
  have HR5 : Hid (Blk w5 w.heap.size [.slice none 0 0, .int .i64 0]) := HR4.out.below hb5 HR4.out.lt
  have HC5 : Hid (Blk w5 (w.heap.size + 1) [.slice none 0 0, .int .i64 0]) := HC4.out.below hb5 HC4.out.lt
  have HB5 : Hid (Below w.heap.size w w5) := HB4.out.trans (hb5.mono HB4.out.size)
  clear c0 c1 c2 HR4 HC4 HB4 h5 hb5
  go_wp2_with fail
  refine Calls.mono (begin_nil _ _ _ w5) ?_
  rintro e w6 ⟨rfl, rfl⟩
  have cC0 : w6.cell? ⟨w.heap.size + 1, 0, none⟩ = some (.slice none 0 0) := HC5.out.one rfl
  have cC1 : w6.cell? ⟨w.heap.size + 1, 1, none⟩ = some (.int .i64 0) := HC5.out.one rfl
  have cR0 : w6.cell? ⟨w.heap.size, 0, none⟩ = some (.slice none 0 0) := HR5.out.one rfl
  have cR1 : w6.cell? ⟨w.heap.size, 1, none⟩ = some (.int .i64 0) := HR5.out.one rfl
  have gR0 : w6.frozen? ⟨w.heap.size, 0, none⟩ = false := HR5.out.frozen 0
  have gR1 : w6.frozen? ⟨w.heap.size, 1, none⟩ = false := HR5.out.frozen 1
  go_wp2_with fail
  go_step3
  simp only [Exit.then]
  subst hQ
  rw [hops_goto]
  refine ⟨_, rfl, ?_⟩
  go_hide hQ
  go_wp2_with fail
  subst hQ
  rw [hops_ret]
  refine bodyPost_ret (v := .tuple #[zeroCV, .int .i64 7]) ?_ rfl ⟨rfl, (HB5.out.setCell (Nat.le_refl _) _).setCell (Nat.le_refl _) _⟩
  obtain ⟨t, hb⟩ := (HR5.out.set 0 (.slice none 0 0)).set 1 (.int .i64 0)
  exact results_row_tmp Try.results37 _ _ w.heap.size t _ _ _ rfl hb Try.underlying68 rfl sizeC
set_option maxRecDepth 100000 in
set_option maxHeartbeats 2000000 in
theorem sync_nil (name : ByteArray) (w : World) :
    Calls Try.prog 17 #[.pointer none, .string name] w fun e w' => e = .returned (.int .i64 7) ∧ Below w.heap.size w w' := by
  go_enter Try.func17, Try.ntmps17
  go_wp2_with fail
  refine wp_scope_hops 1 ?_
  go_hide hQ
  go_wp2_with fail
  refine Calls.mono (open_nil name w) ?_
  rintro e w1 ⟨rfl, hb1⟩
  have HZ : Hid (zeroCV = .agg #[.slice none 0 0, .int .i64 0]) := show _ = _ from rfl
  rw [HZ.out]
  go_wp2_with fail
  go_step3
  simp only [Exit.then]
  subst hQ
  rw [hops_goto]
  refine ⟨_, rfl, ?_⟩
  go_hide hQ
  go_wp2_with fail
  subst hQ
  rw [hops_ret]
  go_ret
  exact ⟨rfl, hb1.alloc hb1.size _⟩
set_option maxRecDepth 100000 in
set_option maxHeartbeats 2000000 in
theorem find_nil (name : ByteArray) (w : World) :
    Calls Try.prog 38 #[.pointer none, .string name] w fun e w' => e = .returned (found none) ∧ Below w.heap.size w w' := by
  go_enter Try.func38, Try.ntmps38
  go_wp2_with fail
  refine bodyPost_ret (v := .tuple #[.agg #[.slice none 0 0, .int .i64 0], .bool false]) ?_ rfl ⟨rfl, ?_⟩
  · obtain ⟨t, hb⟩ := Blk.mk (b := w.heap.size) w #[.slice none 0 0, .int .i64 0] 68 rfl rfl
    exact results_row_tmp Try.results38 _ _ w.heap.size t _ _ _ rfl hb Try.underlying68 rfl sizeC
  · exact (Below.refl _ _).alloc (Nat.le_refl _) _
set_option maxRecDepth 100000 in
set_option maxHeartbeats 2000000 in
theorem safe_nil (name : ByteArray) (w : World) :
    Calls Try.prog 21 #[.pointer none, .string name] w fun e w' => e = .returned (.int .i64 (-1)) ∧ Below w.heap.size w w' := by
  have HV : Hid (found none = .tuple #[.agg #[.slice none 0 0, .int .i64 0], .bool false]) := show _ = _ from rfl
  go_enter Try.func21, Try.ntmps21
  go_wp2_with fail
  refine wp_scope_hops 1 ?_
  go_hide hQ
  go_wp2_with fail
  refine Calls.mono (find_nil name w) ?_
  rintro e w1 ⟨rfl, hb1⟩
  rw [HV.out]
  go_wp2_with fail
  go_step3
  simp only [Exit.then]
  subst hQ
  rw [hops_goto]
  refine ⟨_, rfl, ?_⟩
  go_hide hQ
  go_wp2_with fail
  subst hQ
  rw [hops_ret]
  go_ret
  exact ⟨rfl, hb1.alloc hb1.size _⟩
set_option maxHeartbeats 2000000 in
theorem crash_nil (a : Option Addr) (n cap : Nat) (w : World) :
    Calls Try.prog 14 #[.pointer none, .slice a n cap] w fun e w' => e = .returned (.pointer none) ∧ w' = w := by
  go_enter Try.func14, Try.ntmps14
  go_wp2_with fail
  go_ret
  exact ⟨rfl, rfl⟩
end Go.Proofs.Ytbbooldhfcldbaa
