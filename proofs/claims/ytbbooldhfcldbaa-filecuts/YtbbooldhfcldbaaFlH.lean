/- file: Sync, Remove. -/
import Derived.Test.YtbbooldhfcldbaaFlG
namespace Go.Proofs.Ytbbooldhfcldbaa
open Go.ChangeShapes Go.WideShapes Go.ChangeAt Go.RowKit Go.Lib

theorem opened_shape {w : World} {f : Nat} {S : FS} (h : FsAt w f S.pow) (l : List ByteArray) (name : ByteArray) : ∃ a n c sf, opened S l name = .tuple #[.agg #[.slice a n c, .int .i64 sf], .int .i64 (S.abs.opn l name)] ∧
    (S.abs.opn l name = 0 → n = (flOf (alook name S.abs.L)).b.length ∧ sf = ((flOf (alook name S.abs.L)).safe : Int) ∧ alook name S.pow.es = some (.slice a n c, flOf (alook name S.abs.L)) ∧ S.abs.beg l = 0) := by
  rw [opened_abs]
  unfold Abs.opn
  rw [show S.abs.L = S.L from rfl, alook_L, FS.pow_es]
  by_cases hb : S.abs.beg l = 0
  · rw [if_pos hb, if_pos hb]
    cases ha : alook name S.es with
    | none => exact ⟨none, 0, 0, 0, rfl, fun e => by simp at e⟩
    | some p =>
      obtain ⟨a, c, hp, _⟩ := h.found name (by rw [FS.pow_es]; exact ha)
      rw [hp]
      exact ⟨a, p.2.b.length, c, p.2.safe, rfl, fun _ => ⟨rfl, rfl, rfl, hb⟩⟩
  · rw [if_neg hb, if_neg hb]
    exact ⟨none, 0, 0, 0, rfl, fun e => absurd e hb⟩
set_option maxRecDepth 100000 in
set_option maxHeartbeats 2000000 in
theorem sync_any (f : Nat) (S : FS) (name : ByteArray) (w : World) (h : FsAt w f S) (hs : S.Sane) :
    Calls Try.prog 17 #[.pointer (some ⟨f, 0, none⟩), .string name] w fun e w' => e = .returned (.int .i64 (S.abs.opn [name] name)) ∧ After f S (S.abs.syn name) w w' := by
  have HOP : Hid (Calls Try.prog 37 #[.pointer (some ⟨f, 0, none⟩), .string name, .slice none 0 0] w fun e w' => e = .returned (opened S [name] name) ∧ FsAt w' f S.pow ∧ Grown f S S.pow w w') := open_any f S name _ [] w h hs (.inl ⟨rfl, rfl⟩) (Nat.zero_le _)
  have HF : Hid (∀ k, S.pow.foot f k → k < w.heap.size) := fun k hk => h.lt (S.pow_foot.1 hk)
  clear h hs
  go_enter Try.func17, Try.ntmps17
  go_wp2_with fail
  refine wp_scope_hops 1 ?_
  go_hide hQ
  go_wp2_with fail
  refine Calls.mono HOP.out ?_
  rintro e w1 ⟨rfl, hf1, hg1⟩
  obtain ⟨a, n, c, sf, hop, hfd⟩ := opened_shape hf1 [name] name
  rw [hop]
  have HF1 : Hid (FsAt w1 f S.pow) := hf1
  have HG1 : Hid (Grown f S S.pow w w1) := hg1
  have HFD : Hid (S.abs.opn [name] name = 0 → n = (flOf (alook name S.abs.L)).b.length ∧ sf = ((flOf (alook name S.abs.L)).safe : Int) ∧ alook name S.pow.es = some (.slice a n c, flOf (alook name S.abs.L)) ∧ S.abs.beg [name] = 0) := hfd
  have HA : Hid (S.abs.syn name = if S.abs.opn [name] name = 0 then { S.abs.pow with L := aput name ⟨(flOf (alook name S.abs.L)).b, (flOf (alook name S.abs.L)).b.length⟩ S.abs.L } else S.abs.pow) := show _ = _ from rfl
  clear hop hfd hf1 hg1 HOP
  obtain ⟨E, hE⟩ : ∃ E, E = S.abs.opn [name] name := ⟨_, rfl⟩
  rw [← hE] at HFD HA ⊢
  have HE : Hid (E = S.abs.opn [name] name) := hE
  clear hE
  go_upto_region 2 with fail
  generalize hw2 : World.alloc _ _ = w2
  have HC2 : Hid (Blk w2 w1.heap.size [.slice a n c, .int .i64 sf]) := by rw [← hw2]; exact Blk.mk w1 _ _ rfl rfl
  have HB2 : Hid (Below w1.heap.size w1 w2) := by rw [← hw2]; exact (Below.refl _ _).alloc (Nat.le_refl _) _
  have HF2 : Hid (FsAt w2 f S.pow) := HF1.out.below HB2.out
  have HG2 : Hid (Grown f S S.pow w w2) := HG1.out.thenBelow HB2.out
  clear hw2
  have cC0 : w2.cell? ⟨w1.heap.size, 0, none⟩ = some (.slice a n c) := HC2.out.one rfl
  have cC1 : w2.cell? ⟨w1.heap.size, 1, none⟩ = some (.int .i64 sf) := HC2.out.one rfl
  have gC1 : w2.frozen? ⟨w1.heap.size, 1, none⟩ = false := HC2.out.frozen 1
  by_cases hz : E = 0
  · subst hz
    obtain ⟨hn, hsf, hal, hbg⟩ := HFD.out rfl
    generalize hfl : flOf (alook name S.abs.L) = fl at *
    have HA2 : Hid (S.abs.syn name = { S.abs.pow with L := aput name ⟨fl.b, fl.b.length⟩ S.abs.L }) := by have := HA.out; rw [if_pos rfl] at this; exact this
    have hns : name.size ≤ 1000 := by
      have := (beg_zero hbg).2
      simp only [List.all_cons, List.all_nil, Bool.and_true] at this
      have := nameOK_size this
      omega
    have hAl : Hid (alook name S.pow.es = some (.slice a n c, fl)) := hal
    have HN : Hid (n = fl.b.length) := hn
    have hnb : n ≤ 16777216 := by have h16 : fl.b.length ≤ 16777216 := (HF2.out.fits _ (mem_of_alook hal)).2; omega
    clear HFD hsf hal hfl HA hn hbg
    go_upto_region 4 with fail
    generalize hw3 : World.setCell w2 _ _ = w3
    have HK3 : Hid (Keep w1.heap.size w2 w3) := by rw [← hw3]; exact (Keep.refl _ _).setCell _ _
    have HC3 : Hid (Blk w3 w1.heap.size [.slice a n c, .int .i64 n]) := by rw [← hw3]; exact HC2.out.set 1 _
    have HF3 : Hid (FsAt w3 f S.pow) := HF2.out.keep HK3.out fun k hk => by have := HF.out k hk; have := HG1.out.size; omega
    have HG3 : Hid (Grown f S S.pow w w3) := HG2.out.keep HK3.out HG1.out.size
    have HMv := moved_apart HF3.out (name := name) (v := .slice a n c) (v' := .slice a n c) (.inr hAl.out) (.inl rfl)
    have HO3 := (HF3.out.row _ (mem_of_alook hAl.out)).1
    have HP : Hid (Calls Try.prog 34 #[.pointer (some ⟨f, 0, none⟩), .string name, .agg #[.slice a n c, .int .i64 (n : Int)]] w3 fun e w' => e = .returned (.tuple #[]) ∧ ∃ r, FsAt w' f { S.pow with m := some r, es := aput name (.slice a n c, ⟨fl.b, fl.b.length⟩) S.pow.es } ∧ Put f S.pow r w3 w') :=
      put_any f S.pow name a n c ⟨fl.b, fl.b.length⟩ n w3 HF3.out hns HO3 (by rw [HN.out]) (fun k hk => (HMv k hk).1) ⟨Nat.le_refl _, by rw [← HN.out]; exact hnb⟩
    have HMv2 : Hid (∀ k, (Value.slice a n c).ownBlock = some k → S.foot f k ∨ w.heap.size ≤ k) := fun k hk => by
      rcases (HMv k hk).2 with h1 | h1
      · exact .inl (S.pow_foot.1 h1)
      · have := HG3.out.size
        exact .inr (by omega)
    clear hw3 cC0 cC1 gC1 HF2 HG2 HC2 HMv HO3
    have cC0 : w3.cell? ⟨w1.heap.size, 0, none⟩ = some (.slice a n c) := HC3.out.one rfl
    have cC1 : w3.cell? ⟨w1.heap.size, 1, none⟩ = some (.int .i64 (n : Int)) := HC3.out.one rfl
    go_wp2_with fail
    refine Calls.mono HP.out ?_
    rintro e w7 ⟨rfl, r, hf7, hp7⟩
    have HF7 : Hid (FsAt w7 f { S.pow with m := some r, es := aput name (.slice a n c, ⟨fl.b, fl.b.length⟩) S.pow.es }) := hf7
    have HG7 : Hid (Grown f S { S.pow with m := some r, es := aput name (.slice a n c, ⟨fl.b, fl.b.length⟩) S.pow.es } w w7) := HG3.out.put hp7 HMv2.out
    clear hf7 hp7 HP HMv2
    go_wp2_with fail
    go_step3
    go_wp2_with fail
    subst hQ
    rw [hops_ret]
    go_ret
    refine ⟨ret_int HE.out, _, ?_, HF7.out, HG7.out⟩
    rw [HA2.out, abs_put, FS.pow_abs, show S.pow.L = S.abs.L by unfold FS.L; rw [FS.pow_es]; rfl]
  · have hz' : (E != 0) = true := bne_iff_ne.2 hz
    have HA2 : Hid (S.abs.syn name = S.abs.pow) := by have := HA.out; rw [if_neg hz] at this; exact this
    clear HFD HA
    go_wp2_with fail
    go_step3
    simp only [Exit.then]
    subst hQ
    rw [hops_goto]
    refine ⟨_, rfl, ?_⟩
    go_hide hQ
    go_wp2_with fail
    subst hQ
    rw [hops_ret]
    go_ret
    exact ⟨ret_int HE.out, S.pow, by rw [HA2.out, FS.pow_abs], HF2.out, HG2.out⟩
end Go.Proofs.Ytbbooldhfcldbaa
