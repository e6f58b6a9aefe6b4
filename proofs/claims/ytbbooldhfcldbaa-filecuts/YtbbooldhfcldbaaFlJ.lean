/- file: Rename. -/
import Derived.Test.YtbbooldhfcldbaaFlI
namespace Go.Proofs.Ytbbooldhfcldbaa
open Go.ChangeShapes Go.WideShapes Go.ChangeAt Go.RowKit Go.Lib

set_option maxRecDepth 100000 in
set_option maxHeartbeats 2000000 in
theorem rename_any (f : Nat) (S : FS) (name dest : ByteArray) (w : World) (h : FsAt w f S) (hs : S.Sane) :
    Calls Try.prog 18 #[.pointer (some ⟨f, 0, none⟩), .string name, .string dest] w fun e w' => e = .returned (.int .i64 (S.abs.opn [dest, name] name)) ∧ After f S (S.abs.ren name dest) w w' := by
  have H : Hid (FsAt w f S ∧ S.Sane) := ⟨h, hs⟩
  have HF : Hid (∀ k, S.pow.foot f k → k < w.heap.size) := fun k hk => h.lt (S.pow_foot.1 hk)
  clear h hs
  go_enter Try.func18, Try.ntmps18
  go_wp2_with fail
  refine wp_scope_hops 1 ?_
  go_hide hQ
  go_wp2_with fail
  generalize hw0 : World.alloc w _ = w0
  have hb0 : Below w.heap.size w w0 := by rw [← hw0]; exact (Below.refl _ _).alloc (Nat.le_refl _) _
  have c0 : w0.cell? ⟨w.heap.size, 0, none⟩ = some (.string dest) := by rw [← hw0]; exact (Blk.mk (b := w.heap.size) _ _ _ rfl rfl).one (i := 0) rfl
  refine Calls.mono (open_any f S name (.slice (some ⟨w.heap.size, 0, none⟩) 1 1) [dest] w0 (H.out.1.below hb0) H.out.2 (.inr ⟨_, 1, rfl, fun j x hx => by
    cases j with
    | zero => injection hx with hx; subst hx; exact c0
    | succ j => cases hx⟩) (Nat.le_refl _)) ?_
  rintro e w1 ⟨rfl, hf1, hg1⟩
  simp only [List.cons_append, List.nil_append]
  obtain ⟨a, n, c, sf, hop, hfd⟩ := opened_shape hf1 [dest, name] name
  rw [hop]
  have HF1 : Hid (FsAt w1 f S.pow) := hf1
  have HG1 : Hid (Grown f S S.pow w w1) := (Grown.of_below hb0).trans hg1
  clear hb0 c0 hw0 H
  have HFD : Hid (S.abs.opn [dest, name] name = 0 → n = (flOf (alook name S.abs.L)).b.length ∧ sf = ((flOf (alook name S.abs.L)).safe : Int) ∧ alook name S.pow.es = some (.slice a n c, flOf (alook name S.abs.L)) ∧ S.abs.beg [dest, name] = 0) := hfd
  have HA : Hid (S.abs.ren name dest = if S.abs.opn [dest, name] name = 0 then { S.abs.pow with L := aput dest (flOf (alook name S.abs.L)) (adel name S.abs.L) } else S.abs.pow) := show _ = _ from rfl
  clear hop hfd hf1 hg1
  obtain ⟨E, hE⟩ : ∃ E, E = S.abs.opn [dest, name] name := ⟨_, rfl⟩
  rw [← hE] at HFD HA ⊢
  have HE : Hid (E = S.abs.opn [dest, name] name) := hE
  clear hE
  go_upto_region 2 with fail
  generalize hw2 : World.alloc _ _ = w2
  have HC2 : Hid (Blk w2 w1.heap.size [.slice a n c, .int .i64 sf]) := by rw [← hw2]; exact Blk.mk w1 _ _ rfl rfl
  have HB2 : Hid (Below w1.heap.size w1 w2) := by rw [← hw2]; exact (Below.refl _ _).alloc (Nat.le_refl _) _
  have HF2 : Hid (FsAt w2 f S.pow) := HF1.out.below HB2.out
  have HG2 : Hid (Grown f S S.pow w w2) := HG1.out.thenBelow HB2.out
  clear hw2
  have cC0 : w2.cell? ⟨w1.heap.size, 0, none⟩ = some (.slice a n c) := HC2.out.one rfl
  have cC1 : w2.cell? ⟨w1.heap.size, 1, none⟩ = some (.int .i64 sf) := HC2.out.one rfl
  have gC1 : w2.frozen? ⟨w1.heap.size, 1, none⟩ = false := HC2.out.frozen 1
  by_cases hz : E = 0
  · subst hz
    obtain ⟨hn, hsf, hal, hbg⟩ := HFD.out rfl
    generalize hfl : flOf (alook name S.abs.L) = fl at *
    have HA2 : Hid (S.abs.ren name dest = { S.abs.pow with L := aput dest fl (adel name S.abs.L) }) := by have := HA.out; rw [if_pos rfl] at this; exact this
    have hns : dest.size ≤ 1000 := by
      have := (beg_zero hbg).2
      simp only [List.all_cons, List.all_nil, Bool.and_true, Bool.and_eq_true] at this
      have := nameOK_size this.1
      omega
    have hAl : Hid (alook name S.pow.es = some (.slice a n c, fl)) := hal
    have HN : Hid (n = fl.b.length) := hn
    have hnb : n ≤ 16777216 := by have h16 : fl.b.length ≤ 16777216 := (HF2.out.fits _ (mem_of_alook hal)).2; omega
    have hfit : fl.safe ≤ fl.b.length ∧ fl.b.length ≤ 16777216 := HF2.out.fits _ (mem_of_alook hal)
    obtain ⟨r, hr⟩ := HF2.out.some hal
    have HR : Hid (S.pow.m = some r) := hr
    have HM : Hid (MapS w2 r (S.pow.es.map (onB cellOf))) := (HF2.out.map r hr).2
    have cm : w2.cell? ⟨f, 0, none⟩ = some (.map (some r)) := by rw [← hr]; exact HF2.out.blk.one rfl
    have hC : r ≠ w1.heap.size := fun e => by
      have := HF.out r (.inr (.inl hr))
      have := HG1.out.size
      omega
    clear HFD hal hfl HA hn hbg hr gC1
    go_upto_region 4 with (show wpList _ _ _ [Oper.mk none _ _ _ _ _] _ _; refine wpList_deleteS rfl _ _ _ rfl rfl Try.underlying9 Try.underlying56 _ HM.out name rfl rfl ?_; intro w3 HM3 HK3)
    obtain ⟨T, hT⟩ : ∃ T : FS, T = { S.pow with es := adel name S.pow.es } := ⟨_, rfl⟩
    have HX := HF2.out.del HR.out HM3.out HK3.out
    rw [← hT] at HX
    have HF3 : Hid (FsAt w3 f T) := HX.1
    have HG3 : Hid (Grown f S T w w3) := HG2.out.trans HX.2
    have HC3 : Hid (Blk w3 w1.heap.size [.slice a n c, .int .i64 sf]) := HC2.out.keep HK3.out (Ne.symm hC)
    have HMv := moved_apart HF2.out (name := name) (v := .slice a n c) (v' := .slice a n c) (.inr hAl.out) (.inl rfl)
    have HO3 : OwnB w3 0 (.slice a n c) fl.b := by
      have hmem := mem_of_alook hAl.out
      exact (HF2.out.row _ hmem).1.same fun k hk => HK3.out.block k ((HF2.out.row _ hmem).1.lt k hk).2 fun e => ((HF2.out.row _ hmem).2 k hk).2 (by rw [e]; exact HR.out)
    have HP : Hid (Calls Try.prog 34 #[.pointer (some ⟨f, 0, none⟩), .string dest, .agg #[.slice a n c, .int .i64 sf]] w3 fun e w' => e = .returned (.tuple #[]) ∧ ∃ r, FsAt w' f { T with m := some r, es := aput dest (.slice a n c, fl) T.es } ∧ Put f T r w3 w') := by
      refine put_any f T dest a n c fl sf w3 HF3.out hns HO3 hsf (fun k hk => ?_) hfit
      have h1 := (HMv k hk).1
      subst hT
      exact ⟨h1.1, h1.2.1, fun p hp _ => h1.2.2 p ((adel_sub _ _).subset hp) (adel_ne HF2.out.nodup p hp)⟩
    have HMv2 : Hid (∀ k, (Value.slice a n c).ownBlock = some k → S.foot f k ∨ w.heap.size ≤ k) := fun k hk => .inl (S.pow_foot.1 (.inr (.inr ⟨_, mem_of_alook hAl.out, hk⟩)))
    have HTL : Hid (T.abs = { S.pow.abs with L := adel name S.pow.L }) := by rw [hT]; exact abs_del _ _
    clear cC0 cC1 cm HF2 HG2 HC2 HMv HO3 hT HX HM3 HK3 HM HR hsf hC hfit
    have cC0 : w3.cell? ⟨w1.heap.size, 0, none⟩ = some (.slice a n c) := HC3.out.one rfl
    have cC1 : w3.cell? ⟨w1.heap.size, 1, none⟩ = some (.int .i64 sf) := HC3.out.one rfl
    go_wp2_with fail
    refine Calls.mono HP.out ?_
    rintro e w7 ⟨rfl, r7, hf7, hp7⟩
    have HF7 : Hid (FsAt w7 f { T with m := some r7, es := aput dest (.slice a n c, fl) T.es }) := hf7
    have HG7 : Hid (Grown f S { T with m := some r7, es := aput dest (.slice a n c, fl) T.es } w w7) := HG3.out.put hp7 HMv2.out
    clear hf7 hp7 HP HMv2
    go_wp2_with fail
    go_step3
    go_wp2_with fail
    subst hQ
    rw [hops_ret]
    go_ret
    refine ⟨ret_int HE.out, _, ?_, HF7.out, HG7.out⟩
    rw [HA2.out, abs_put, show T.L = T.abs.L from rfl, HTL.out, FS.pow_L, FS.pow_abs]
  · have hz' : (E != 0) = true := bne_iff_ne.2 hz
    have HA2 : Hid (S.abs.ren name dest = S.abs.pow) := by have := HA.out; rw [if_neg hz] at this; exact this
    clear HFD HA
    go_wp2_with fail
    go_step3
    simp only [Exit.then]
    subst hQ
    rw [hops_goto]
    refine ⟨_, rfl, ?_⟩
    go_hide hQ
    go_wp2_with fail
    subst hQ
    rw [hops_ret]
    go_ret
    exact ⟨ret_int HE.out, S.pow, by rw [HA2.out, FS.pow_abs], HF2.out, HG2.out⟩
end Go.Proofs.Ytbbooldhfcldbaa
