/- file: open. -/
import Derived.Test.YtbbooldhfcldbaaFlD
namespace Go.Proofs.Ytbbooldhfcldbaa
open Go.ChangeShapes Go.WideShapes Go.ChangeAt Go.RowKit Go.Lib

def zeroCV : Value := .agg #[.slice none 0 0, .int .i64 0]
/-- What open tells. -/
def opened (S : FS) (l : List ByteArray) (name : ByteArray) : Value :=
  if begE S l = 0 then .tuple #[((alook name S.es).map cellOf).getD zeroCV, .int .i64 (if (alook name S.es).isSome then 0 else 5)] else .tuple #[zeroCV, .int .i64 (begE S l)]
theorem FS.pow_foot (S : FS) {f k : Nat} : S.pow.foot f k ↔ S.foot f k := by unfold FS.foot; rw [FS.pow_m, FS.pow_es]
theorem FsAt.keep {w w' : World} {f C : Nat} {S : FS} (h : FsAt w f S) (k : Keep C w w') (hC : ∀ k, S.foot f k → k ≠ C) : FsAt w' f S := h.same fun i hi => k.block i (h.lt hi) (hC i hi)
theorem Grown.keep {w w' w'' : World} {f C : Nat} {S S' : FS} (h : Grown f S S' w w') (k : Keep C w' w'') (hC : w.heap.size ≤ C) : Grown f S S' w w'' :=
  ⟨k.os.trans h.os, k.tape.trans h.tape, k.output.trans h.output, Nat.le_trans h.size k.size, fun i hi hf => (k.block i (Nat.lt_of_lt_of_le hi h.size) (by omega)).trans (h.block i hi hf), h.foot⟩
set_option maxRecDepth 100000 in
set_option maxHeartbeats 2000000 in
theorem open_any (f : Nat) (S : FS) (name : ByteArray) (v0 : Value) (l0 : List ByteArray) (w : World) (h : FsAt w f S) (hs : S.Sane) (h0 : SrcS w v0 l0) (hl : l0.length ≤ 1) :
    Calls Try.prog 37 #[.pointer (some ⟨f, 0, none⟩), .string name, v0] w fun e w' => e = .returned (opened S (l0 ++ [name]) name) ∧ FsAt w' f S.pow ∧ Grown f S S.pow w w' := by
  have H : Hid (FsAt w f S ∧ S.Sane) := ⟨h, hs⟩
  have H0 : Hid (SrcS w v0 l0) := h0
  have HF : Hid (∀ k, S.foot f k → k < w.heap.size) := fun k hk => h.lt hk
  obtain ⟨a0, n0, k0, hv0, hn0⟩ : ∃ a0 n0 k0, v0 = .slice a0 n0 k0 ∧ n0 = l0.length := by
    rcases h0 with ⟨rfl, rfl⟩ | ⟨b, cap, rfl, _⟩
    · exact ⟨_, _, _, rfl, rfl⟩
    · exact ⟨_, _, _, rfl, rfl⟩
  subst hv0
  clear h hs h0
  go_enter Try.func37, Try.ntmps37
  go_wp2_with fail
  refine wp_scope_hops 1 ?_
  go_hide hQ
  go_wp2_with fail
  generalize hw4 : World.alloc (World.alloc (World.alloc (World.alloc w _) _) _) _ = w4
  have HR4 : Hid (Blk w4 w.heap.size [.slice none 0 0, .int .i64 0]) := by rw [← hw4]; exact (((Blk.mk w _ _ rfl rfl).alloc _).alloc _).alloc _
  have HC4 : Hid (Blk w4 (w.heap.size + 1) [.slice none 0 0, .int .i64 0]) := by
    have h : Blk ((w.alloc (.cells #[.slice none 0 0, .int .i64 0] 68)).alloc (.cells #[.slice none 0 0, .int .i64 0] 68)) (w.heap.size + 1) [.slice none 0 0, .int .i64 0] := Blk.mk _ _ _ (by simp) rfl
    rw [← hw4]; exact (h.alloc _).alloc _
  have HB4 : Hid (Below w.heap.size w w4) := by rw [← hw4]; exact (((((Below.refl _ _).alloc (Nat.le_refl _) _).alloc (by simp) _).alloc (by simp; omega) _).alloc (by simp; omega) _)
  have c0 : w4.cell? ⟨w.heap.size + 1 + 1 + 1, 0, none⟩ = some (.slice a0 l0.length k0) := by rw [← hw4]; exact (Blk.mk (b := w.heap.size + 1 + 1 + 1) _ _ _ (by simp) rfl).one (i := 0) rfl
  have c1 : w4.cell? ⟨w.heap.size + 1 + 1 + 1, 1, none⟩ = some (.slice (some ⟨w.heap.size + 1 + 1, 0, none⟩) 1 1) := by rw [← hw4]; exact (Blk.mk (b := w.heap.size + 1 + 1 + 1) _ _ _ (by simp) rfl).one (i := 1) rfl
  have c2 : w4.cell? ⟨w.heap.size + 1 + 1, 0, none⟩ = some (.string name) := by rw [← hw4]; exact ((Blk.mk (b := w.heap.size + 1 + 1) _ _ _ (by simp) rfl).alloc _).one (i := 0) rfl
  clear hw4
  rw [hn0] at H0
  obtain ⟨R, hR⟩ : ∃ R, R = w.heap.size := ⟨_, rfl⟩
  obtain ⟨C, hC⟩ : ∃ C, C = w.heap.size + 1 := ⟨_, rfl⟩
  rw [← hR] at HR4 
  rw [← hC] at HC4
  have HRC : Hid (R = w.heap.size ∧ C = w.heap.size + 1) := ⟨hR, hC⟩
  refine Calls.mono (concat_any _ _ _ l0 name w4 (SrcS.below H0.out HB4.out) hl c0 c1 c2) ?_
  rintro e w5 ⟨v5, rfl, h5, hb5⟩
  obtain ⟨a5, k5, hv5⟩ := h5.shape
  rcases h5.src with ⟨_, h0⟩ | ⟨b5, k5', hv5', hc5⟩
  · exact absurd h0 (by simp)
  rw [List.length_append] at hv5'
  subst hv5'
  have HF5 : Hid (FsAt w5 f S ∧ S.Sane) := ⟨(H.out.1.below HB4.out).below hb5, H.out.2⟩
  have HR5 : Hid (Blk w5 R [.slice none 0 0, .int .i64 0]) := HR4.out.below hb5 HR4.out.lt
  have HC5 : Hid (Blk w5 C [.slice none 0 0, .int .i64 0]) := HC4.out.below hb5 HC4.out.lt
  have HG5 : Hid (Grown f S S w w5) := (Grown.of_below HB4.out).thenBelow hb5
  have hnf : ¬ S.foot f b5 := fun e => by
    have h1 := HF.out _ e
    have h2 := (h5.lt b5 rfl).1
    have := HB4.out.size
    omega
  clear c0 c1 c2 HR4 HC4 hv5 h5 H
  go_wp2_with fail
  refine Calls.mono (begin_any f S b5 (l0.length + 1) k5' (l0 ++ [name]) w5 HF5.out.1 HF5.out.2 (by simp) (by omega) hc5 hnf) ?_
  rintro e w6 ⟨rfl, hf6, hg6⟩
  have HF6 : Hid (FsAt w6 f S.pow) := hf6
  have hRf : ∀ k, w.heap.size ≤ k → ¬ S.foot f k := fun k hk e => by have := HF.out _ e; omega
  have HR6 : Hid (Blk w6 R [.slice none 0 0, .int .i64 0]) := by
    obtain ⟨t, ht⟩ := HR5.out
    exact ⟨t, by rw [hg6.block R HR5.out.lt (hRf R (by omega))]; exact ht⟩
  have HC6 : Hid (Blk w6 C [.slice none 0 0, .int .i64 0]) := by
    obtain ⟨t, ht⟩ := HC5.out
    exact ⟨t, by rw [hg6.block C HC5.out.lt (hRf C (by omega))]; exact ht⟩
  have HG6 : Hid (Grown f S S.pow w w6) := HG5.out.trans hg6
  have HFS : Hid (∀ k, S.pow.foot f k → k ≠ R ∧ k ≠ C) := fun k hk => by
    have := HF.out k (S.pow_foot.1 hk)
    omega
  clear HF5 HR5 HC5 HG5 hc5 hnf hb5 hf6 hg6 hRf
  have HD : Hid (opened S (l0 ++ [name]) name = if begE S (l0 ++ [name]) = 0 then .tuple #[((alook name S.pow.es).map cellOf).getD zeroCV, .int .i64 (if (alook name S.pow.es).isSome then 0 else 5)] else .tuple #[zeroCV, .int .i64 (begE S (l0 ++ [name]))]) := by
    show _ = _
    rw [FS.pow_es]; rfl
  obtain ⟨E, hE⟩ : ∃ E, E = begE S (l0 ++ [name]) := ⟨_, rfl⟩
  obtain ⟨V, hV⟩ : ∃ V, V = opened S (l0 ++ [name]) name := ⟨_, rfl⟩
  rw [← hE, ← hV] at HD
  rw [← hE]
  have HV : Hid (V = opened S (l0 ++ [name]) name) := hV
  clear hV hE H0 HF hl hn0
  obtain ⟨T, hT⟩ : ∃ T, T = S.pow := ⟨_, rfl⟩
  rw [← hT] at HF6 HG6 HFS HD
  have HT : Hid (T = S.pow) := hT
  clear hT
  have HEnd : Hid (∀ w', FsAt w' f T → Grown f S T w w' → Ending.returned V = .returned (opened S (l0 ++ [name]) name) ∧ FsAt w' f S.pow ∧ Grown f S S.pow w w') := fun w' h1 h2 => by
    rw [← HT.out]; exact ⟨by rw [HV.out], h1, h2⟩
  clear HV HT
  by_cases hz : E = 0
  · have HD' := HD.out
    rw [if_pos hz] at HD'
    subst hz
    have HF7 : Hid (Calls Try.prog 38 #[.pointer (some ⟨f, 0, none⟩), .string name] w6 fun e w' => e = .returned (found (alook name T.es)) ∧ Below w6.heap.size w6 w') := find_any f T name w6 HF6.out
    obtain ⟨a7, n7, c7, s7, b7, hf7, hd7⟩ : ∃ a7 n7 c7 s7 b7, found (alook name T.es) = .tuple #[.agg #[.slice a7 n7 c7, .int .i64 s7], .bool b7] ∧ V = .tuple #[.agg #[.slice a7 n7 c7, .int .i64 s7], .int .i64 (if b7 then 0 else 5)] := by
      rw [HD']
      cases ha : alook name T.es with
      | none => exact ⟨none, 0, 0, 0, false, rfl, rfl⟩
      | some p =>
        obtain ⟨a, c, hp, _⟩ := HF6.out.found name ha
        rw [hp]
        exact ⟨a, p.2.b.length, c, p.2.safe, true, rfl, rfl⟩
    have HV : Hid (V = .tuple #[.agg #[.slice a7 n7 c7, .int .i64 s7], .int .i64 (if b7 then 0 else 5)]) := hd7
    rw [hf7] at HF7
    clear HD HD' hf7 hd7
    subst hC
    subst hR
    go_wp2_with fail
    refine Calls.mono HF7.out ?_
    rintro e w7 ⟨rfl, hb7⟩
    have HF7' : Hid (FsAt w7 f T) := HF6.out.below hb7
    have HG7 : Hid (Grown f S T w w7) := HG6.out.thenBelow hb7
    have HR7 : Hid (Blk w7 w.heap.size [.slice none 0 0, .int .i64 0]) := HR6.out.below hb7 HR6.out.lt
    have HC7 : Hid (Blk w7 (w.heap.size + 1) [.slice none 0 0, .int .i64 0]) := HC6.out.below hb7 HC6.out.lt
    clear HF7 hb7 HF6 HG6 HR6 HC6
    have cC0 : w7.cell? ⟨w.heap.size + 1, 0, none⟩ = some (.slice none 0 0) := HC7.out.one rfl
    have cC1 : w7.cell? ⟨w.heap.size + 1, 1, none⟩ = some (.int .i64 0) := HC7.out.one rfl
    have gC0 : w7.frozen? ⟨w.heap.size + 1, 0, none⟩ = false := HC7.out.frozen 0
    have gC1 : w7.frozen? ⟨w.heap.size + 1, 1, none⟩ = false := HC7.out.frozen 1
    go_upto_region 6 with fail
    generalize hw8 : World.setCell (World.setCell w7 _ _) _ _ = w8
    have HK8 : Hid (Keep (w.heap.size + 1) w7 w8) := by rw [← hw8]; exact ((Keep.refl _ _).setCell _ _).setCell _ _
    have HC8 : Hid (Blk w8 (w.heap.size + 1) [.slice a7 n7 c7, .int .i64 s7]) := by rw [← hw8]; exact (HC7.out.set 0 _).set 1 _
    have HF8 : Hid (FsAt w8 f T) := HF7'.out.keep HK8.out fun k hk => (HFS.out k hk).2
    have HG8 : Hid (Grown f S T w w8) := HG7.out.keep HK8.out (by omega)
    have HR8 : Hid (Blk w8 w.heap.size [.slice none 0 0, .int .i64 0]) := HR7.out.keep HK8.out (by omega)
    clear hw8 cC0 cC1 gC0 gC1 HF7' HG7 HR7 HC7 HK8
    have cC0 : w8.cell? ⟨w.heap.size + 1, 0, none⟩ = some (.slice a7 n7 c7) := HC8.out.one rfl
    have cC1 : w8.cell? ⟨w.heap.size + 1, 1, none⟩ = some (.int .i64 s7) := HC8.out.one rfl
    have cR0 : w8.cell? ⟨w.heap.size, 0, none⟩ = some (.slice none 0 0) := HR8.out.one rfl
    have cR1 : w8.cell? ⟨w.heap.size, 1, none⟩ = some (.int .i64 0) := HR8.out.one rfl
    have gR0 : w8.frozen? ⟨w.heap.size, 0, none⟩ = false := HR8.out.frozen 0
    have gR1 : w8.frozen? ⟨w.heap.size, 1, none⟩ = false := HR8.out.frozen 1
    cases b7 with
    | true =>
      go_wp2_with fail
      go_step3
      go_wp2_with fail
      subst hQ
      rw [hops_ret]
      refine bodyPost_ret (v := V) ?_ rfl (HEnd.out _ (HF8.out.keep (((Keep.refl w.heap.size _).setCell _ _).setCell _ _) fun k hk => (HFS.out k hk).1) (HG8.out.keep (((Keep.refl w.heap.size _).setCell _ _).setCell _ _) (by omega)))
      obtain ⟨t, hb⟩ := (HR8.out.set 0 (.slice a7 n7 c7)).set 1 (.int .i64 s7)
      rw [HV.out]
      exact results_row_tmp Try.results37 _ _ w.heap.size t _ _ _ rfl hb Try.underlying68 rfl sizeC
    | false =>
      go_wp2_with fail
      go_step3
      go_wp2_with fail
      subst hQ
      rw [hops_ret]
      refine bodyPost_ret (v := V) ?_ rfl (HEnd.out _ (HF8.out.keep (((Keep.refl w.heap.size _).setCell _ _).setCell _ _) fun k hk => (HFS.out k hk).1) (HG8.out.keep (((Keep.refl w.heap.size _).setCell _ _).setCell _ _) (by omega)))
      obtain ⟨t, hb⟩ := (HR8.out.set 0 (.slice a7 n7 c7)).set 1 (.int .i64 s7)
      rw [HV.out]
      exact results_row_tmp Try.results37 _ _ w.heap.size t _ _ _ rfl hb Try.underlying68 rfl sizeC
  · have HV : Hid (V = .tuple #[zeroCV, .int .i64 E]) := by have := HD.out; rw [if_neg hz] at this; exact this
    have hz' : (E == 0) = false := beq_eq_false_iff_ne.2 hz
    clear HD
    subst hC
    subst hR
    have cC0 : w6.cell? ⟨w.heap.size + 1, 0, none⟩ = some (.slice none 0 0) := HC6.out.one rfl
    have cC1 : w6.cell? ⟨w.heap.size + 1, 1, none⟩ = some (.int .i64 0) := HC6.out.one rfl
    have cR0 : w6.cell? ⟨w.heap.size, 0, none⟩ = some (.slice none 0 0) := HR6.out.one rfl
    have cR1 : w6.cell? ⟨w.heap.size, 1, none⟩ = some (.int .i64 0) := HR6.out.one rfl
    have gR0 : w6.frozen? ⟨w.heap.size, 0, none⟩ = false := HR6.out.frozen 0
    have gR1 : w6.frozen? ⟨w.heap.size, 1, none⟩ = false := HR6.out.frozen 1
    go_wp2_with fail
    go_step3
    simp only [Exit.then]
    subst hQ
    rw [hops_goto]
    refine ⟨_, rfl, ?_⟩
    go_hide hQ
    go_wp2_with fail
    subst hQ
    rw [hops_ret]
    refine bodyPost_ret (v := V) ?_ rfl (HEnd.out _ (HF6.out.keep (((Keep.refl w.heap.size _).setCell _ _).setCell _ _) fun k hk => (HFS.out k hk).1) (HG6.out.keep (((Keep.refl w.heap.size _).setCell _ _).setCell _ _) (by omega)))
    obtain ⟨t, hb⟩ := (HR6.out.set 0 (.slice none 0 0)).set 1 (.int .i64 0)
    rw [HV.out]
    exact results_row_tmp Try.results37 _ _ w.heap.size t _ _ _ rfl hb Try.underlying68 rfl sizeC
end Go.Proofs.Ytbbooldhfcldbaa
