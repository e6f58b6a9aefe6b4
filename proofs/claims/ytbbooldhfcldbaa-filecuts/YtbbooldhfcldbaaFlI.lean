/- file: Remove, Rename, Truncate. -/
import Derived.Test.YtbbooldhfcldbaaFlH
namespace Go.Proofs.Ytbbooldhfcldbaa
open Go.ChangeShapes Go.WideShapes Go.ChangeAt Go.RowKit Go.Lib

theorem adel_ne {β : Type} {s : ByteArray} : ∀ {l : List (ByteArray × β)}, (l.map Prod.fst).Nodup → ∀ p ∈ adel s l, p.1 ≠ s := by
  intro l
  induction l with
  | nil => intro _ p hp; cases hp
  | cons q l ih =>
    intro hn p hp
    rw [List.map_cons, List.nodup_cons] at hn
    unfold adel at hp
    split at hp
    · rename_i e
      intro e'
      exact hn.1 (by rw [← e, ← e']; exact List.mem_map.2 ⟨p, hp, rfl⟩)
    · rename_i e
      rcases List.mem_cons.1 hp with rfl | hp
      · exact fun e' => e e'.symm
      · exact ih hn.2 p hp
theorem FsAt.del {w w' : World} {f r : Nat} {S : FS} {name : ByteArray} (h : FsAt w f S) (hm : S.m = some r) (hM : MapS w' r (adel name (S.es.map (onB cellOf)))) (k : Keep r w w') :
    FsAt w' f { S with es := adel name S.es } ∧ Grown f S { S with es := adel name S.es } w w' := by
  have hs := adel_sub name S.es
  refine ⟨⟨?_, (fun e => by rw [h.bare e]; rfl), fun r' hr' => ?_, fun p hp => ?_, h.apart.sublist hs, fun p hp => h.fits p (hs.subset hp)⟩, ⟨k.os, k.tape, k.output, k.size, fun i hi hf => k.block i hi fun e => hf (.inr (.inl (by rw [e]; exact hm))), fun i hi => .inl ?_⟩⟩
  · exact h.blk.keep k fun e => (h.map r hm).1 e.symm
  · have hr2 : S.m = some r' := hr'
    rw [hm] at hr2
    injection hr2 with hr2
    subst hr2
    exact ⟨(h.map r hm).1, by rw [adel_map]; exact hM⟩
  · obtain ⟨ho, hb⟩ := h.row p (hs.subset hp)
    exact ⟨ho.same fun i hi => k.block i (ho.lt i hi).2 fun e => (hb i hi).2 (by rw [e]; exact hm), hb⟩
  · rcases hi with e | e | ⟨p, hp, e⟩
    · exact .inl e
    · exact .inr (.inl e)
    · exact .inr (.inr ⟨p, hs.subset hp, e⟩)
theorem abs_del (S : FS) (name : ByteArray) : FS.abs { S with es := adel name S.es } = { S.abs with L := adel name S.L } := by
  unfold FS.abs FS.L
  rw [adel_map]
theorem FS.pow_L (S : FS) : S.pow.L = S.abs.L := by unfold FS.L; rw [FS.pow_es]; rfl
theorem FsAt.some {w : World} {f : Nat} {S : FS} (h : FsAt w f S) {name : ByteArray} {p : Value × Fl} (ha : alook name S.es = Option.some p) : ∃ r, S.m = Option.some r := by
  cases hm : S.m with
  | none => rw [h.bare hm] at ha; cases ha
  | some r => exact ⟨r, rfl⟩
set_option maxRecDepth 100000 in
set_option maxHeartbeats 2000000 in
theorem remove_any (f : Nat) (S : FS) (name : ByteArray) (w : World) (h : FsAt w f S) (hs : S.Sane) :
    Calls Try.prog 25 #[.pointer (some ⟨f, 0, none⟩), .string name] w fun e w' => e = .returned (.int .i64 (S.abs.opn [name] name)) ∧ After f S (S.abs.rem name) w w' := by
  have HOP : Hid (Calls Try.prog 37 #[.pointer (some ⟨f, 0, none⟩), .string name, .slice none 0 0] w fun e w' => e = .returned (opened S [name] name) ∧ FsAt w' f S.pow ∧ Grown f S S.pow w w') := open_any f S name _ [] w h hs (.inl ⟨rfl, rfl⟩) (Nat.zero_le _)
  have HF : Hid (∀ k, S.pow.foot f k → k < w.heap.size) := fun k hk => h.lt (S.pow_foot.1 hk)
  clear h hs
  go_enter Try.func25, Try.ntmps25
  go_wp2_with fail
  refine wp_scope_hops 1 ?_
  go_hide hQ
  go_wp2_with fail
  refine Calls.mono HOP.out ?_
  rintro e w1 ⟨rfl, hf1, hg1⟩
  obtain ⟨a, n, c, sf, hop, hfd⟩ := opened_shape hf1 [name] name
  rw [hop]
  have HF1 : Hid (FsAt w1 f S.pow) := hf1
  have HG1 : Hid (Grown f S S.pow w w1) := hg1
  have HFD : Hid (S.abs.opn [name] name = 0 → n = (flOf (alook name S.abs.L)).b.length ∧ sf = ((flOf (alook name S.abs.L)).safe : Int) ∧ alook name S.pow.es = some (.slice a n c, flOf (alook name S.abs.L)) ∧ S.abs.beg [name] = 0) := hfd
  have HA : Hid (S.abs.rem name = if S.abs.opn [name] name = 0 then { S.abs.pow with L := adel name S.abs.L } else S.abs.pow) := show _ = _ from rfl
  clear hop hfd hf1 hg1 HOP
  obtain ⟨E, hE⟩ : ∃ E, E = S.abs.opn [name] name := ⟨_, rfl⟩
  rw [← hE] at HFD HA ⊢
  have HE : Hid (E = S.abs.opn [name] name) := hE
  clear hE
  go_upto_region 2 with fail
  generalize hw2 : World.alloc _ _ = w2
  have HC2 : Hid (Blk w2 w1.heap.size [.slice a n c, .int .i64 sf]) := by rw [← hw2]; exact Blk.mk w1 _ _ rfl rfl
  have HB2 : Hid (Below w1.heap.size w1 w2) := by rw [← hw2]; exact (Below.refl _ _).alloc (Nat.le_refl _) _
  have HF2 : Hid (FsAt w2 f S.pow) := HF1.out.below HB2.out
  have HG2 : Hid (Grown f S S.pow w w2) := HG1.out.thenBelow HB2.out
  clear hw2
  have cC0 : w2.cell? ⟨w1.heap.size, 0, none⟩ = some (.slice a n c) := HC2.out.one rfl
  have cC1 : w2.cell? ⟨w1.heap.size, 1, none⟩ = some (.int .i64 sf) := HC2.out.one rfl
  have gC1 : w2.frozen? ⟨w1.heap.size, 1, none⟩ = false := HC2.out.frozen 1
  by_cases hz : E = 0
  · subst hz
    obtain ⟨hn, hsf, hal, hbg⟩ := HFD.out rfl
    generalize hfl : flOf (alook name S.abs.L) = fl at *
    have HA2 : Hid (S.abs.rem name = { S.abs.pow with L := adel name S.abs.L }) := by have := HA.out; rw [if_pos rfl] at this; exact this
    obtain ⟨r, hr⟩ := HF2.out.some hal
    have HR : Hid (S.pow.m = some r) := hr
    have HM : Hid (MapS w2 r (S.pow.es.map (onB cellOf))) := (HF2.out.map r hr).2
    have cm : w2.cell? ⟨f, 0, none⟩ = some (.map (some r)) := by rw [← hr]; exact HF2.out.blk.one rfl
    clear HFD hsf hal hfl HA hn hbg hr cC0 cC1 gC1
    go_wp2_with (show wpList _ _ _ [Oper.mk none _ _ _ _ _] _ _; refine wpList_deleteS rfl _ _ _ rfl rfl Try.underlying9 Try.underlying56 _ HM.out name rfl rfl ?_; intro w3 HM3 HK3)
    have HX := HF2.out.del HR.out HM3.out HK3.out
    go_step3
    go_wp2_with fail
    subst hQ
    rw [hops_ret]
    go_ret
    refine ⟨ret_int HE.out, _, ?_, HX.1, HG2.out.trans HX.2⟩
    rw [HA2.out, abs_del, FS.pow_abs, FS.pow_L]
  · have hz' : (E != 0) = true := bne_iff_ne.2 hz
    have HA2 : Hid (S.abs.rem name = S.abs.pow) := by have := HA.out; rw [if_neg hz] at this; exact this
    clear HFD HA
    go_wp2_with fail
    go_step3
    simp only [Exit.then]
    subst hQ
    rw [hops_goto]
    refine ⟨_, rfl, ?_⟩
    go_hide hQ
    go_wp2_with fail
    subst hQ
    rw [hops_ret]
    go_ret
    exact ⟨ret_int HE.out, S.pow, by rw [HA2.out, FS.pow_abs], HF2.out, HG2.out⟩
end Go.Proofs.Ytbbooldhfcldbaa
