/- file: Append. -/
import Derived.Test.YtbbooldhfcldbaaFlF
namespace Go.Proofs.Ytbbooldhfcldbaa
open Go.ChangeShapes Go.WideShapes Go.ChangeAt Go.RowKit Go.Lib

/-- What an act leaves: other files, seen from outside as told. -/
def After (f : Nat) (S : FS) (A : Abs) (w w' : World) : Prop := ∃ S', S'.abs = A ∧ FsAt w' f S' ∧ Grown f S S' w w'
/-- What a look-up finds. -/
theorem shapeOf {w : World} {f : Nat} {T : FS} (h : FsAt w f T) (name : ByteArray) : ∃ a c, ((alook name T.es).map cellOf).getD zeroCV = .agg #[.slice a (flOf (alook name T.L)).b.length c, .int .i64 ((flOf (alook name T.L)).safe : Int)] ∧ OwnB w 0 (.slice a (flOf (alook name T.L)).b.length c) (flOf (alook name T.L)).b ∧ ((alook name T.es = none ∧ a = none) ∨ alook name T.es = some (.slice a (flOf (alook name T.L)).b.length c, flOf (alook name T.L))) ∧ (flOf (alook name T.L)).safe ≤ (flOf (alook name T.L)).b.length ∧ (flOf (alook name T.L)).b.length ≤ 16777216 := by
  rw [alook_L]
  cases ha : alook name T.es with
  | none => exact ⟨none, 0, rfl, OwnB.nil _ _, .inl ⟨rfl, rfl⟩, Nat.le_refl _, by simp [flOf]⟩
  | some p =>
    obtain ⟨a, c, hp, ho⟩ := h.found name ha
    have hf := h.fits _ (mem_of_alook ha)
    rw [hp]
    exact ⟨a, c, rfl, ho, .inr rfl, hf⟩
theorem beg_zero {A : Abs} {l : List ByteArray} (h : A.beg l = 0) : A.pow.off = false ∧ l.all nameOK = true := by
  unfold Abs.beg at h
  split at h
  · omega
  · rename_i h1
    split at h
    · rename_i h2; exact ⟨by simpa using h1, h2⟩
    · omega
theorem nameOK_size {s : ByteArray} (h : nameOK s = true) : 1 ≤ s.size ∧ s.size ≤ 50 := by
  unfold nameOK at h
  simpa using h
/-- Where the row that append made lies. -/
theorem moved_apart {w : World} {f : Nat} {T : FS} {name : ByteArray} {v v' : Value} {fl : Fl} (h : FsAt w f T) (hc : (alook name T.es = none ∧ v.ownBlock = none) ∨ alook name T.es = some (v, fl)) (hm : Moved w v v') :
    ∀ k, v'.ownBlock = some k → (k ≠ f ∧ T.m ≠ some k ∧ ∀ p ∈ T.es, p.1 ≠ name → p.2.1.ownBlock ≠ some k) ∧ (T.foot f k ∨ w.heap.size ≤ k) := by
  intro k hk
  rcases hm with e | ⟨g, hg, e⟩
  · rw [e] at hk
    rcases hc with ⟨_, h0⟩ | h1
    · rw [h0] at hk; cases hk
    · have hmem := mem_of_alook h1
      have hr := h.row _ hmem
      exact ⟨⟨(hr.2 k hk).1, (hr.2 k hk).2, fun p hp hne => apart_ne h.apart hmem hp (fun e => hne e.symm) k hk⟩, .inl (.inr (.inr ⟨_, hmem, hk⟩))⟩
  · rw [e] at hk
    injection hk with hk
    subst hk
    have hf : ∀ i, T.foot f i → i ≠ g := fun i hi => by have := h.lt hi; omega
    exact ⟨⟨fun e => hf f (.inl rfl) e.symm, fun e => hf g (.inr (.inl e)) rfl, fun p hp _ e => hf g (.inr (.inr ⟨p, hp, e⟩)) rfl⟩, .inr hg⟩
theorem FsAt.appended2 {w w' : World} {f : Nat} {T : FS} {name : ByteArray} {v : Value} {fl : Fl} (h : FsAt w f T) (hc : (alook name T.es = none ∧ v.ownBlock = none) ∨ alook name T.es = some (v, fl)) (hg : w.grownBy w' v.ownBlock) (hold : OwnB w' 0 v fl.b) : FsAt w' f T ∧ Grown f T T w w' := by
  rcases hc with ⟨_, h0⟩ | h1
  · rw [h0] at hg
    exact ⟨h.same fun k hk => hg.block k (h.lt hk) (by simp), Grown.of_grownBy hg fun k hk => by cases hk⟩
  · exact ⟨h.appended h1 hg hold, Grown.of_grownBy hg fun k hk => .inr (.inr ⟨_, mem_of_alook h1, hk⟩)⟩
theorem Grown.put {w w1 w' : World} {f : Nat} {S T : FS} {r : Nat} {name : ByteArray} {v : Value} {fl : Fl} (h : Grown f S T w w1) (hp : Put f T r w1 w') (hk : ∀ k, v.ownBlock = some k → S.foot f k ∨ w.heap.size ≤ k) : Grown f S { T with m := some r, es := aput name (v, fl) T.es } w w' := by
  refine ⟨hp.os.trans h.os, hp.tape.trans h.tape, hp.output.trans h.output, Nat.le_trans h.size hp.size, fun k hk hf => ?_, fun k hk' => ?_⟩
  · have hT : ¬ T.foot f k := fun e => (h.foot k e).elim hf fun e => by omega
    exact (hp.block k (Nat.lt_of_lt_of_le hk h.size) (fun e => hT (.inl e)) fun e => hT (.inr (.inl e))).trans (h.block k hk hf)
  · rcases hk' with rfl | hk' | ⟨p, hp', hk'⟩
    · exact h.foot _ (.inl rfl)
    · rcases hp.place with e | e
      · exact h.foot _ (.inr (.inl (by rw [e]; exact hk')))
      · injection hk' with hk'
        have := h.size
        exact .inr (by omega)
    · rcases mem_put hp' with rfl | ⟨hp', _⟩
      · exact hk k hk'
      · exact h.foot _ (.inr (.inr ⟨p, hp', hk'⟩))
theorem Blk.grownBy {w w' : World} {b : Nat} {cs : List Value} {row : Option Nat} (h : Blk w b cs) (hg : w.grownBy w' row) (hr : row ≠ some b) : Blk w' b cs := by
  have hl := h.lt
  obtain ⟨t, ht⟩ := h
  exact ⟨t, by rw [hg.block b hl fun e => hr e.symm]; exact ht⟩
theorem SrcB.later {w w3 w4 : World} {v : Value} {bs : List (BitVec 8)} {C : Nat} (h0 : SrcB w v bs) (h3 : SrcB w3 v bs) (hk : Keep C w3 w4) (hC : w.heap.size ≤ C) : SrcB w4 v bs := by
  rcases h3 with h | ⟨b, o, cap, hv, hc⟩
  · exact .inl h
  · refine .inr ⟨b, o, cap, hv, fun j u hu => hk.cell ?_ (hc j u hu)⟩
    rcases h0 with ⟨h, _⟩ | ⟨b', o', cap', hv', hc'⟩
    · rw [h] at hv; injection hv with e _ _; cases e
    · rw [hv] at hv'
      injection hv' with e _ _
      injection e with e
      injection e with e1 e2
      have := World.block_lt_of_cell? w _ (hc' j u hu)
      simp only at this
      omega
set_option maxRecDepth 100000 in
set_option maxHeartbeats 2000000 in
theorem append_any (f : Nat) (S : FS) (name : ByteArray) (v : Value) (bs : List (BitVec 8)) (w : World) (h : FsAt w f S) (hs : S.Sane) (hv : SrcB w v bs) (hb : bs.length ≤ 50000000) (hvf : ∀ k, v.ownBlock = some k → ¬ S.foot f k) :
    Calls Try.prog 16 #[.pointer (some ⟨f, 0, none⟩), .string name, v] w fun e w' => e = .returned (.int .i64 (S.abs.appE name bs)) ∧ After f S (S.abs.app name bs) w w' := by
  have H : Hid (FsAt w f S ∧ S.Sane) := ⟨h, hs⟩
  have HSV : Hid (SrcB w v bs ∧ ∀ k, v.ownBlock = some k → ¬ S.foot f k) := ⟨hv, hvf⟩
  have HF : Hid (∀ k, S.foot f k → k < w.heap.size) := fun k hk => h.lt hk
  obtain ⟨av, cv, hvs⟩ : ∃ a c, v = .slice a bs.length c := by
    rcases hv with ⟨rfl, rfl⟩ | ⟨b, o, cap, rfl, _⟩
    · exact ⟨_, _, rfl⟩
    · exact ⟨_, _, rfl⟩
  subst hvs
  clear h hs hv hvf
  obtain ⟨m, hm⟩ : ∃ m, m = bs.length := ⟨_, rfl⟩
  rw [← hm] at HSV hb ⊢
  have HM : Hid (m = bs.length) := hm
  clear hm
  go_enter Try.func16, Try.ntmps16
  go_wp2_with fail
  refine wp_scope_hops 1 ?_
  go_hide hQ
  go_wp2_with fail
  generalize hw2 : World.alloc (World.alloc w _) _ = w2
  have HC2 : Hid (Blk w2 w.heap.size [.slice none 0 0, .int .i64 0]) := by rw [← hw2]; exact (Blk.mk w _ _ rfl rfl).alloc _
  have HB2 : Hid (Below w.heap.size w w2) := by rw [← hw2]; exact ((Below.refl _ _).alloc (Nat.le_refl _) _).alloc (by simp) _
  have c2 : w2.cell? ⟨w.heap.size + 1, 0, none⟩ = some (.string name) := by rw [← hw2]; exact (Blk.mk (b := w.heap.size + 1) _ _ _ (by simp) rfl).one (i := 0) rfl
  clear hw2
  refine Calls.mono (begin_any f S (w.heap.size + 1) 1 1 [name] w2 (H.out.1.below HB2.out) H.out.2 rfl (by omega) (fun j x hx => by
    cases j with
    | zero => injection hx with hx; subst hx; exact c2
    | succ j => cases hx) (fun e => by have := HF.out _ e; omega)) ?_
  rintro e w3 ⟨rfl, hf3, hg3⟩
  have HF3 : Hid (FsAt w3 f S.pow) := hf3
  have HC3 : Hid (Blk w3 w.heap.size [.slice none 0 0, .int .i64 0]) := by
    obtain ⟨t, ht⟩ := HC2.out
    exact ⟨t, by rw [hg3.block _ HC2.out.lt fun e => by have := HF.out _ e; omega]; exact ht⟩
  have HG3 : Hid (Grown f S S.pow w w3) := (Grown.of_below HB2.out).trans hg3
  have HV3 : Hid (SrcB w3 (.slice av m cv) bs) := (HSV.out.1.below HB2.out).grown hg3 HSV.out.2
  have HVF : Hid (∀ k, (Value.slice av m cv).ownBlock = some k → ¬ S.foot f k) := HSV.out.2
  have HFS : Hid (∀ k, S.pow.foot f k → k < w.heap.size) := fun k hk => HF.out k (S.pow_foot.1 hk)
  have HV0 : Hid (SrcB w (.slice av m cv) bs) := HSV.out.1
  clear hf3 hg3 HC2 HB2 c2 HSV HF H
  rw [begE_abs]
  have HE : Hid (S.abs.appE name bs = if S.abs.beg [name] = 0 then (if bs.length + (flOf (alook name S.abs.L)).b.length ≤ 16777216 then 0 else 3) else S.abs.beg [name]) := show _ = _ from rfl
  have HA : Hid (S.abs.app name bs = if S.abs.appE name bs = 0 then { S.abs.pow with L := aput name ⟨(flOf (alook name S.abs.L)).b ++ bs, (flOf (alook name S.abs.L)).safe⟩ S.abs.L } else S.abs.pow) := show _ = _ from rfl
  by_cases hz : S.abs.beg [name] = 0
  · rw [hz]
    obtain ⟨T, hT⟩ : ∃ T, T = S.pow := ⟨_, rfl⟩
    rw [← hT] at HF3 HG3 HFS
    have hTL : S.abs.L = T.L := by rw [hT]; show S.L = S.pow.L; unfold FS.L; rw [FS.pow_es]
    obtain ⟨a, c, hlk, ho, hcase, hfit⟩ := shapeOf HF3.out name
    rw [hTL] at HE HA
    generalize hfl : flOf (alook name T.L) = fl at *
    have HO : Hid (OwnB w3 0 (.slice a fl.b.length c) fl.b ∧ ((alook name T.es = none ∧ a = none) ∨ alook name T.es = some (.slice a fl.b.length c, fl)) ∧ fl.safe ≤ fl.b.length ∧ fl.b.length ≤ 16777216) := ⟨ho, hcase, hfit⟩
    have HLK : Hid (((alook name T.es).map cellOf).getD zeroCV = .agg #[.slice a fl.b.length c, .int .i64 (fl.safe : Int)]) := hlk
    have HE' : Hid (S.abs.appE name bs = if bs.length + fl.b.length ≤ 16777216 then 0 else 3) := by have := HE.out; rw [if_pos hz] at this; exact this
    have HT : Hid (T = S.pow) := hT
    have hns : name.size ≤ 1000 := by
      have := (beg_zero hz).2
      simp only [List.all_cons, List.all_nil, Bool.and_true] at this
      have := nameOK_size this
      omega
    have cm : w3.cell? ⟨f, 0, none⟩ = some (.map T.m) := HF3.out.blk.one rfl
    have hl16 : fl.b.length ≤ 16777216 := hfit.2
    obtain ⟨n, hn⟩ : ∃ n, n = fl.b.length := ⟨_, rfl⟩
    rw [← hn] at HO HE' HLK hl16
    rw [← HM.out] at HE'
    have HN : Hid (n = fl.b.length) := hn
    clear hT hTL hlk ho hcase hfit hfl HE hz hn
    have cC0 : w3.cell? ⟨w.heap.size, 0, none⟩ = some (.slice none 0 0) := HC3.out.one rfl
    have cC1 : w3.cell? ⟨w.heap.size, 1, none⟩ = some (.int .i64 0) := HC3.out.one rfl
    have gC0 : w3.frozen? ⟨w.heap.size, 0, none⟩ = false := HC3.out.frozen 0
    have gC1 : w3.frozen? ⟨w.heap.size, 1, none⟩ = false := HC3.out.frozen 1
    go_upto_region 5 with (refine wpList_lookF rfl _ _ _ rfl HF3.out name rfl rfl ?_; simp only [Bool.false_eq_true, if_false]; rw [HLK.out])
    generalize hw4 : World.setCell (World.setCell w3 _ _) _ _ = w4
    have HK4 : Hid (Keep w.heap.size w3 w4) := by rw [← hw4]; exact ((Keep.refl _ _).setCell _ _).setCell _ _
    have HC4 : Hid (Blk w4 w.heap.size [.slice a n c, .int .i64 (fl.safe : Int)]) := by rw [← hw4]; exact (HC3.out.set 0 _).set 1 _
    have HF4 : Hid (FsAt w4 f T) := HF3.out.keep HK4.out fun k hk => by have := HFS.out k hk; omega
    have HG4 : Hid (Grown f S T w w4) := HG3.out.keep HK4.out (Nat.le_refl _)
    have HV4 : Hid (SrcB w4 (.slice av m cv) bs) := SrcB.later HV0.out HV3.out HK4.out (Nat.le_refl _)
    have HO4 : Hid (OwnB w4 0 (.slice a n c) fl.b) := HO.out.1.same fun k hk => HK4.out.block k (HO.out.1.lt k hk).2 fun e => by
      rcases HO.out.2.1 with ⟨_, h0⟩ | h1
      · rw [h0] at hk; cases hk
      · have := HFS.out k (.inr (.inr ⟨_, mem_of_alook h1, hk⟩)); omega
    have HCs : Hid ((alook name T.es = none ∧ (Value.slice a n c).ownBlock = none) ∨ alook name T.es = some (.slice a n c, fl)) := HO.out.2.1.imp (fun h => ⟨h.1, by rw [h.2]; rfl⟩) id
    have HFit : Hid (fl.safe ≤ n) := HO.out.2.2.1
    clear hw4 cm cC0 cC1 gC0 gC1 HC3 HF3 HG3 HV3 HO HLK HK4
    have cC0 : w4.cell? ⟨w.heap.size, 0, none⟩ = some (.slice a n c) := HC4.out.one rfl
    have cC1 : w4.cell? ⟨w.heap.size, 1, none⟩ = some (.int .i64 (fl.safe : Int)) := HC4.out.one rfl
    by_cases hbig : m + n ≤ 16777216
    · have HE2 : Hid (S.abs.appE name bs = 0) := by have := HE'.out; rw [if_pos hbig] at this; exact this
      have HA2 : Hid (S.abs.app name bs = { S.abs.pow with L := aput name ⟨fl.b ++ bs, fl.safe⟩ T.L }) := by have := HA.out; rw [if_pos HE2.out] at this; exact this
      clear HE' HA
      have HNe : Hid ((Value.slice a n c).ownBlock ≠ some w.heap.size) := fun e => by
        rcases HCs.out with ⟨_, h0⟩ | h1
        · rw [h0] at e; cases e
        · have := HFS.out _ (.inr (.inr ⟨_, mem_of_alook h1, e⟩)); omega
      go_upto_region 8 with fail
      go_upto_region 9 with (at_builtin; refine wpList_append_c rfl _ _ rfl 0 _ fl.b rfl HO4.out _ bs rfl HV4.out (by rw [← HM.out, ← HN.out]; omega) (Nat.zero_le _) ?_; intro v5 w5 HO5 HG5 HM5 HOld5; obtain ⟨a5, c5, rfl⟩ := HO5.out.shape; have HC5 : Hid (Blk w5 w.heap.size [.slice a n c, .int .i64 (fl.safe : Int)]) := HC4.out.grownBy HG5.out HNe.out; have cD0 := HC5.out.one (i := 0) rfl; have gD0 := HC5.out.frozen 0)
      obtain ⟨hx5, hy5⟩ := FsAt.appended2 HF4.out HCs.out HG5.out HOld5.out
      have hmv := moved_apart HF4.out HCs.out HM5.out
      have hge := HG5.out.size
      generalize hw6 : World.setCell w5 _ _ = w6
      have HK6 : Hid (Keep w.heap.size w5 w6) := by rw [← hw6]; exact (Keep.refl _ _).setCell _ _
      obtain ⟨k5, hk5⟩ : ∃ k5, k5 = (fl.b ++ bs).length := ⟨_, rfl⟩
      have hk5' : k5 = n + m := by rw [hk5, List.length_append, HN.out, HM.out]
      rw [← hk5] at hmv HO5
      have HC6 : Hid (Blk w6 w.heap.size [.slice a5 k5 c5, .int .i64 (fl.safe : Int)]) := by rw [← hw6, show fl.b.length + bs.length = k5 by rw [hk5, List.length_append]]; exact HC5.out.set 0 _
      have HF6 : Hid (FsAt w6 f T) := hx5.keep HK6.out fun k hk => by have := HFS.out k hk; omega
      have HG6 : Hid (Grown f S T w w6) := (HG4.out.trans hy5).keep HK6.out (Nat.le_refl _)
      have HP : Hid (Calls Try.prog 34 #[.pointer (some ⟨f, 0, none⟩), .string name, .agg #[.slice a5 k5 c5, .int .i64 (fl.safe : Int)]] w6 fun e w' => e = .returned (.tuple #[]) ∧ ∃ r, FsAt w' f { T with m := some r, es := aput name (.slice a5 k5 c5, ⟨fl.b ++ bs, fl.safe⟩) T.es } ∧ Put f T r w6 w') := by
        refine put_any f T name a5 _ c5 ⟨fl.b ++ bs, fl.safe⟩ fl.safe w6 HF6.out hns ?_ rfl (fun k hk => (hmv k hk).1) ?_
        · exact HO5.out.same fun k hk => HK6.out.block k (HO5.out.lt k hk).2 fun e => by
            rcases (hmv k hk).2 with h1 | h1
            · have := HFS.out k h1; omega
            · have := HC4.out.lt; omega
        · refine ⟨?_, by rw [← hk5, hk5']; omega⟩
          show fl.safe ≤ (fl.b ++ bs).length
          have := HFit.out
          rw [← hk5, hk5']; omega
      have HMv : Hid (∀ k, (Value.slice a5 k5 c5).ownBlock = some k → S.foot f k ∨ w.heap.size ≤ k) := fun k hk => by
        rcases (hmv k hk).2 with h1 | h1
        · exact HG4.out.foot k h1
        · have := HG4.out.size
          exact .inr (by omega)
      clear hw6 hx5 hy5 hmv cD0 gD0 hk5 hk5' HG5 HM5 HOld5 HC5 hge HK6 HO5
      have cD0 : w6.cell? ⟨w.heap.size, 0, none⟩ = some (.slice a5 k5 c5) := HC6.out.one rfl
      have cD1 : w6.cell? ⟨w.heap.size, 1, none⟩ = some (.int .i64 (fl.safe : Int)) := HC6.out.one rfl
      go_wp2_with fail
      refine Calls.mono HP.out ?_
      rintro e w7 ⟨rfl, r, hf7, hp7⟩
      have HF7 : Hid (FsAt w7 f { T with m := some r, es := aput name (.slice a5 k5 c5, ⟨fl.b ++ bs, fl.safe⟩) T.es }) := hf7
      have HG7 : Hid (Grown f S { T with m := some r, es := aput name (.slice a5 k5 c5, ⟨fl.b ++ bs, fl.safe⟩) T.es } w w7) := HG6.out.put hp7 HMv.out
      clear hf7 hp7 HP HMv
      go_wp2_with fail
      go_step3
      go_wp2_with fail
      subst hQ
      rw [hops_ret]
      go_ret
      refine ⟨ret_int HE2.out.symm, _, ?_, HF7.out, HG7.out⟩
      rw [HA2.out, abs_put, HT.out, FS.pow_abs]
    · have HE2 : Hid (S.abs.appE name bs = 3) := by have := HE'.out; rw [if_neg hbig] at this; exact this
      have HA2 : Hid (S.abs.app name bs = S.abs.pow) := by have := HA.out; rw [HE2.out, if_neg (by omega)] at this; exact this
      clear HE' HA
      go_wp2_with fail
      go_step3
      simp only [Exit.then]
      subst hQ
      rw [hops_goto]
      refine ⟨_, rfl, ?_⟩
      go_hide hQ
      go_wp2_with fail
      subst hQ
      rw [hops_ret]
      go_ret
      exact ⟨ret_int HE2.out.symm, T, by rw [HA2.out, HT.out, FS.pow_abs], HF4.out, HG4.out⟩
  · have HE' : Hid (S.abs.appE name bs = S.abs.beg [name]) := by have := HE.out; rw [if_neg hz] at this; exact this
    have HA' : Hid (S.abs.app name bs = S.abs.pow) := by have := HA.out; rw [HE'.out, if_neg hz] at this; exact this
    clear HE HA
    generalize S.abs.beg [name] = E at *
    have hz' : (E != 0) = true := bne_iff_ne.2 hz
    go_wp2_with fail
    go_step3
    simp only [Exit.then]
    subst hQ
    rw [hops_goto]
    refine ⟨_, rfl, ?_⟩
    go_hide hQ
    go_wp2_with fail
    subst hQ
    rw [hops_ret]
    go_ret
    exact ⟨ret_int HE'.out.symm, S.pow, by rw [HA'.out, FS.pow_abs], HF3.out, HG3.out⟩
end Go.Proofs.Ytbbooldhfcldbaa
