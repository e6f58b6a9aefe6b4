/- file: Truncate. -/
import Derived.Test.YtbbooldhfcldbaaFlJ
namespace Go.Proofs.Ytbbooldhfcldbaa
open Go.ChangeShapes Go.WideShapes Go.ChangeAt Go.RowKit Go.Lib

theorem Grown.drew {w w' : World} {f : Nat} {S S' : FS} (h : Grown f S S' w w') : Grown f S S' w w'.drew := ⟨h.os, h.tape, h.output, h.size, h.block, h.foot⟩
set_option maxRecDepth 100000 in
set_option maxHeartbeats 2000000 in
theorem truncate_any (f : Nat) (S : FS) (name : ByteArray) (t : Int) (w : World) (h : FsAt w f S) (hs : S.Sane) :
    Calls Try.prog 27 #[.pointer (some ⟨f, 0, none⟩), .string name, .int .i64 t] w fun e w' => e = .returned (.int .i64 (S.abs.truE name t)) ∧ After f S (S.abs.tru name t) w w' := by
  have HOP : Hid (Calls Try.prog 37 #[.pointer (some ⟨f, 0, none⟩), .string name, .slice none 0 0] w fun e w' => e = .returned (opened S [name] name) ∧ FsAt w' f S.pow ∧ Grown f S S.pow w w') := open_any f S name _ [] w h hs (.inl ⟨rfl, rfl⟩) (Nat.zero_le _)
  have HF : Hid (∀ k, S.pow.foot f k → k < w.heap.size) := fun k hk => h.lt (S.pow_foot.1 hk)
  clear h hs
  go_enter Try.func27, Try.ntmps27
  go_wp2_with fail
  refine wp_scope_hops 1 ?_
  go_hide hQ
  go_wp2_with fail
  refine Calls.mono HOP.out ?_
  rintro e w1 ⟨rfl, hf1, hg1⟩
  obtain ⟨a, n, c, sf, hop, hfd⟩ := opened_shape hf1 [name] name
  rw [hop]
  have HF1 : Hid (FsAt w1 f S.pow) := hf1
  have HG1 : Hid (Grown f S S.pow w w1) := hg1
  have HFD : Hid (S.abs.opn [name] name = 0 → n = (flOf (alook name S.abs.L)).b.length ∧ sf = ((flOf (alook name S.abs.L)).safe : Int) ∧ alook name S.pow.es = some (.slice a n c, flOf (alook name S.abs.L)) ∧ S.abs.beg [name] = 0) := hfd
  have HT : Hid (S.abs.truE name t = if S.abs.opn [name] name = 0 then (if 0 ≤ t ∧ t ≤ (flOf (alook name S.abs.L)).b.length then 0 else 1) else S.abs.opn [name] name) := show _ = _ from rfl
  have HA : Hid (S.abs.tru name t = if S.abs.truE name t = 0 then { S.abs.pow with L := aput name ⟨(flOf (alook name S.abs.L)).b.take t.toNat, min (flOf (alook name S.abs.L)).safe t.toNat⟩ S.abs.L } else S.abs.pow) := show _ = _ from rfl
  clear hop hfd hf1 hg1 HOP
  obtain ⟨E, hE⟩ : ∃ E, E = S.abs.opn [name] name := ⟨_, rfl⟩
  rw [← hE] at HFD HT ⊢
  clear hE
  go_upto_region 2 with fail
  generalize hw2 : World.alloc _ _ = w2
  have HC2 : Hid (Blk w2 w1.heap.size [.slice a n c, .int .i64 sf]) := by rw [← hw2]; exact Blk.mk w1 _ _ rfl rfl
  have HB2 : Hid (Below w1.heap.size w1 w2) := by rw [← hw2]; exact (Below.refl _ _).alloc (Nat.le_refl _) _
  have HF2 : Hid (FsAt w2 f S.pow) := HF1.out.below HB2.out
  have HG2 : Hid (Grown f S S.pow w w2) := HG1.out.thenBelow HB2.out
  clear hw2
  have cC0 : w2.cell? ⟨w1.heap.size, 0, none⟩ = some (.slice a n c) := HC2.out.one rfl
  have cC1 : w2.cell? ⟨w1.heap.size, 1, none⟩ = some (.int .i64 sf) := HC2.out.one rfl
  by_cases hz : E = 0
  · subst hz
    obtain ⟨hn, hsf, hal, hbg⟩ := HFD.out rfl
    generalize hfl : flOf (alook name S.abs.L) = fl at *
    have HT2 : Hid (S.abs.truE name t = if 0 ≤ t ∧ t ≤ fl.b.length then 0 else 1) := by have := HT.out; rw [if_pos rfl] at this; exact this
    have hns : name.size ≤ 1000 := by
      have := (beg_zero hbg).2
      simp only [List.all_cons, List.all_nil, Bool.and_true] at this
      have := nameOK_size this
      omega
    have hAl : Hid (alook name S.pow.es = some (.slice a n c, fl)) := hal
    have hnb : n ≤ 16777216 := by have h16 : fl.b.length ≤ 16777216 := (HF2.out.fits _ (mem_of_alook hal)).2; omega
    have hfit : fl.safe ≤ fl.b.length := (HF2.out.fits _ (mem_of_alook hal)).1
    by_cases hbad : 0 ≤ t ∧ t ≤ (n : Int)
    · have HE2 : Hid (S.abs.truE name t = 0) := by have := HT2.out; rw [if_pos (by omega)] at this; exact this
      have HA2 : Hid (S.abs.tru name t = { S.abs.pow with L := aput name ⟨fl.b.take t.toNat, min fl.safe t.toNat⟩ S.abs.L }) := by have := HA.out; rw [if_pos HE2.out] at this; exact this
      obtain ⟨h0, h1⟩ := hbad
      obtain ⟨q, hq⟩ : ∃ q : Nat, t = q := ⟨t.toNat, by omega⟩
      subst hq
      have HO2 := (HF2.out.row _ (mem_of_alook hal)).1
      obtain ⟨a', c', hac, hlc, hcm, hno, htk⟩ := HO2.take (n := q) (by show q ≤ fl.b.length; omega)
      injection hac with e1 e2 e3
      subst e1
      subst e3
      have hqc : (q : Int) ≤ (c : Int) := by
        have h2 : fl.b.length ≤ c := hlc
        omega
      have hqc63 : (c : Int) ≤ 9223372036854775807 := by
        have h2 : c ≤ maxLen := hcm
        unfold maxLen at h2
        omega
      have hmin : min sf (q : Int) = ((min fl.safe q : Nat) : Int) := by omega
      have hf2 : FsAt w2.drew f S.pow := HF2.out.same fun _ _ => rfl
      have hob : (Value.slice a q c).ownBlock = (Value.slice a n c).ownBlock := by cases a <;> rfl
      have hmv := moved_apart HF2.out (name := name) (v := .slice a n c) (v' := .slice a n c) (.inr hal) (.inl rfl)
      have HP : Hid (Calls Try.prog 34 #[.pointer (some ⟨f, 0, none⟩), .string name, .agg #[.slice a q c, .int .i64 (min sf (q : Int))]] w2.drew fun e w' => e = .returned (.tuple #[]) ∧ ∃ r, FsAt w' f { S.pow with m := some r, es := aput name (.slice a q c, ⟨fl.b.take q, min fl.safe q⟩) S.pow.es } ∧ Put f S.pow r w2.drew w') := by
        refine put_any f S.pow name a q c ⟨fl.b.take q, min fl.safe q⟩ _ w2.drew hf2 hns htk hmin (fun k hk => (hmv k (hob ▸ hk)).1) ⟨?_, ?_⟩
        · show min fl.safe q ≤ (fl.b.take q).length
          rw [List.length_take]; omega
        · show (fl.b.take q).length ≤ 16777216
          rw [List.length_take]; omega
      have HMv2 : Hid (∀ k, (Value.slice a q c).ownBlock = some k → S.foot f k ∨ w.heap.size ≤ k) := fun k hk => .inl (S.pow_foot.1 (.inr (.inr ⟨_, mem_of_alook hal, hob ▸ hk⟩)))
      have HCF : Hid (∀ w7 r, Put f S.pow r w2.drew w7 → Blk w7 w1.heap.size [.slice a n c, .int .i64 sf]) := fun w7 r hp => by
        obtain ⟨t', ht'⟩ := HC2.out
        have hg := HG1.out.size
        exact ⟨t', by rw [hp.block _ HC2.out.lt (fun e => by have := HF.out f (.inl rfl); omega) fun e => by have := HF.out _ (.inr (.inl e)); omega]; exact ht'⟩
      have HMO : Hid (Try.prog.follows .mixedOrders = true) := show _ = _ by kernel_rfl
      clear HFD hsf hal hfl HA HT HT2 hbg HO2 hlc hcm hno htk hmin e2 hmv hf2
      go_upto_region 6 with fail
      refine wp_region_noPanic ?_
      refine wp_region_held_drew (S := fun w' => w'.cell? ⟨w1.heap.size, 0, none⟩ = some (.slice a n c) ∧ w'.cell? ⟨w1.heap.size, 1, none⟩ = some (.int .i64 sf)) HMO.out (⟨HC2.out.drew.one rfl, HC2.out.drew.one rfl⟩) (fun hHeld => ?_)
      refine wpAnyH_take (i := 0) (oi := { dst := some 26, op := .move (.tmp 0), type := 25, pos := "file.go:105", after := #[], guard := none }) (v := ?_) rfl (by kernel_rfl) (by kernel_rfl) (by kernel_rfl) (fun _ _ _ h => h) (Or.inl ⟨by rfl, ?_⟩) (by assumption) ?_
      rotate_left
      · intro _ _; go_simp; first | done | with_reducible rfl
      simp only [Act.put, List.setIfInBounds_toArray, List.set_cons_zero, List.set_cons_succ]
      refine wpAnyH_take (i := 1) (oi := { dst := some 27, op := .move (.tmp 1), type := 9, pos := "file.go:105", after := #[], guard := none }) (v := ?_) rfl (by kernel_rfl) (by kernel_rfl) (by kernel_rfl) (fun _ _ _ h => h) (Or.inl ⟨by rfl, ?_⟩) (by assumption) ?_
      rotate_left
      · intro _ _; go_simp; first | done | with_reducible rfl
      simp only [Act.put, List.setIfInBounds_toArray, List.set_cons_zero, List.set_cons_succ]
      refine wpAnyH_take (i := 2) (oi := { dst := some 28, op := .fieldAddr 68 (.tmp 7) 0, type := 0, pos := "file.go:105", after := #[], guard := none }) (v := ?_) rfl (by kernel_rfl) (by kernel_rfl) (by kernel_rfl) (fun _ _ _ h => h) (Or.inl ⟨by rfl, ?_⟩) (by assumption) ?_
      rotate_left
      · intro _ _; go_simp; first | done | with_reducible rfl
      simp only [Act.put, List.setIfInBounds_toArray, List.set_cons_zero, List.set_cons_succ]
      refine wpAnyH_take (i := 3) (oi := { dst := some 29, op := .load 40 (.tmp 28), type := 40, pos := "file.go:105", after := #[{ on := 2, ground := .data }], guard := none }) (v := .slice a n c) rfl (by kernel_rfl) (by kernel_rfl) (by kernel_rfl) (fun _ _ _ h => h) (Or.inl ⟨by rfl, ?_⟩) (by assumption) ?_
      · intro _ _; rename_i wz hz; have cz := hz.1; go_simp
      simp only [Act.put, List.setIfInBounds_toArray, List.set_cons_zero, List.set_cons_succ]
      refine wpAnyH_take (i := 4) (oi := { dst := some 30, op := .move (.tmp 2), type := 3, pos := "file.go:105", after := #[], guard := none }) (v := ?_) rfl (by kernel_rfl) (by kernel_rfl) (by kernel_rfl) (fun _ _ _ h => h) (Or.inl ⟨by rfl, ?_⟩) (by assumption) ?_
      rotate_left
      · intro _ _; go_simp; first | done | with_reducible rfl
      simp only [Act.put, List.setIfInBounds_toArray, List.set_cons_zero, List.set_cons_succ]
      refine wpAnyH_take (i := 5) (oi := { dst := some 31, op := .slice 40 (.tmp 29) none (some (.tmp 30)) none, type := 40, pos := "file.go:105", after := #[{ on := 3, ground := .data }, { on := 4, ground := .data }], guard := none }) (v := .slice a q c) rfl (by kernel_rfl) (by kernel_rfl) (by kernel_rfl) (fun _ _ _ h => h) (Or.inl ⟨by rfl, ?_⟩) (by assumption) ?_
      · intro _ _; go_simp
      simp only [Act.put, List.setIfInBounds_toArray, List.set_cons_zero, List.set_cons_succ]
      refine wpAnyH_take (i := 6) (oi := { dst := some 32, op := .fieldAddr 68 (.tmp 7) 1, type := 0, pos := "file.go:105", after := #[], guard := none }) (v := ?_) rfl (by kernel_rfl) (by kernel_rfl) (by kernel_rfl) (fun _ _ _ h => h) (Or.inl ⟨by rfl, ?_⟩) (by assumption) ?_
      rotate_left
      · intro _ _; go_simp; first | done | with_reducible rfl
      simp only [Act.put, List.setIfInBounds_toArray, List.set_cons_zero, List.set_cons_succ]
      refine wpAnyH_take (i := 7) (oi := { dst := some 33, op := .load 3 (.tmp 32), type := 3, pos := "file.go:105", after := #[{ on := 6, ground := .data }], guard := none }) (v := .int .i64 sf) rfl (by kernel_rfl) (by kernel_rfl) (by kernel_rfl) (fun _ _ _ h => h) (Or.inl ⟨by rfl, ?_⟩) (by assumption) ?_
      · intro _ _; rename_i wz hz; have cz := hz.2; go_simp
      simp only [Act.put, List.setIfInBounds_toArray, List.set_cons_zero, List.set_cons_succ]
      refine wpAnyH_take (i := 8) (oi := { dst := some 34, op := .move (.tmp 2), type := 3, pos := "file.go:105", after := #[], guard := none }) (v := ?_) rfl (by kernel_rfl) (by kernel_rfl) (by kernel_rfl) (fun _ _ _ h => h) (Or.inl ⟨by rfl, ?_⟩) (by assumption) ?_
      rotate_left
      · intro _ _; go_simp; first | done | with_reducible rfl
      simp only [Act.put, List.setIfInBounds_toArray, List.set_cons_zero, List.set_cons_succ]
      refine wpAnyH_take (i := 9) (oi := { dst := some 35, op := .call { callee := .builtin Go.Builtin.min, args := #[.tmp 33, .tmp 34], argTypes := #[3, 3] }, type := 3, pos := "file.go:105", after := #[{ on := 7, ground := .data }, { on := 8, ground := .data }], guard := none }) (v := .int .i64 (min sf (q : Int))) rfl (by kernel_rfl) (by kernel_rfl) (by kernel_rfl) (fun _ _ _ h => h) (Or.inl ⟨by rfl, ?_⟩) (by assumption) ?_
      · intro _ _; go_simp
      simp only [Act.put, List.setIfInBounds_toArray, List.set_cons_zero, List.set_cons_succ]
      refine wpAnyH_take (i := 10) (oi := { dst := some 36, op := .build 68 #[(0, .tmp 31), (1, .tmp 35)], type := 68, pos := "file.go:105", after := #[{ on := 5, ground := .data }, { on := 9, ground := .data }], guard := none }) (v := ?_) rfl (by kernel_rfl) (by kernel_rfl) (by kernel_rfl) (fun _ _ _ h => h) (Or.inl ⟨by rfl, ?_⟩) (by assumption) ?_
      rotate_left
      · intro _ _; go_simp; first | done | with_reducible rfl
      simp only [Act.put, List.setIfInBounds_toArray, List.set_cons_zero, List.set_cons_succ]
      refine wpAnyH_ready (rs := [11]) (by kernel_rfl) (by simp) ?_
      refine AllReadyH.cons (o := { dst := some 37, op := .call { callee := .value (.func 34), args := #[.tmp 26, .tmp 27, .tmp 36], argTypes := #[25, 9, 68] }, type := 0, pos := "file.go:105", after := #[{ on := 0, ground := .data }, { on := 1, ground := .data }, { on := 10, ground := .data }], guard := none }) rfl (fun K hK => ?_) AllReadyH.nil
      go_simp
      refine Calls.mono HP.out ?_; rintro e w7 ⟨rfl, r, hf7, hp7⟩; have HF7 : Hid (FsAt w7 f { S.pow with m := some r, es := aput name (.slice a q c, ⟨fl.b.take q, min fl.safe q⟩) S.pow.es }) := hf7; have HP7 : Hid (Put f S.pow r w2.drew w7) := hp7; have hc7 := HCF.out w7 r hp7; clear hf7 hp7
      go_simp
      refine hK.out _ _ (⟨hc7.one rfl, hc7.one rfl⟩) (fun hHeld => ?_)
      clear hK K
      refine wpAnyH_done (by kernel_rfl) ?_ _
      refine NoPanic.normal ?_
      clear hHeld
      have HG7 : Hid (Grown f S { S.pow with m := some r, es := aput name (.slice a q c, ⟨fl.b.take q, min fl.safe q⟩) S.pow.es } w w7) := (HG2.out.drew).put HP7.out HMv2.out
      clear HP7 HMv2
      go_wp2_with fail
      go_step3
      go_wp2_with fail
      subst hQ
      rw [hops_ret]
      go_ret
      refine ⟨ret_int HE2.out.symm, _, ?_, HF7.out, HG7.out⟩
      rw [HA2.out, abs_put, FS.pow_abs, FS.pow_L]
      rfl
    · have HE2 : Hid (S.abs.truE name t = 1) := by have := HT2.out; rw [if_neg (by omega)] at this; exact this
      have HA2 : Hid (S.abs.tru name t = S.abs.pow) := by have := HA.out; rw [if_neg (by rw [HE2.out]; omega)] at this; exact this
      clear HFD hsf hal hfl HA HT HT2 hbg
      by_cases ht : t < 0
      · go_wp2_with fail
        go_step3
        simp only [Exit.then]
        subst hQ
        rw [hops_goto]
        refine ⟨_, rfl, ?_⟩
        go_hide hQ
        go_wp2_with fail
        subst hQ
        rw [hops_ret]
        go_ret
        exact ⟨ret_int HE2.out.symm, S.pow, by rw [HA2.out, FS.pow_abs], HF2.out, HG2.out⟩
      · have ht2 : t > (n : Int) := by omega
        go_wp2_with fail
        go_step3
        simp only [Exit.then]
        subst hQ
        rw [hops_goto]
        refine ⟨_, rfl, ?_⟩
        go_hide hQ
        go_wp2_with fail
        subst hQ
        rw [hops_ret]
        go_ret
        exact ⟨ret_int HE2.out.symm, S.pow, by rw [HA2.out, FS.pow_abs], HF2.out, HG2.out⟩
  · have hz' : (E != 0) = true := bne_iff_ne.2 hz
    have HE : Hid (E = S.abs.truE name t) := by have := HT.out; rw [if_neg hz] at this; exact this.symm
    have HA2 : Hid (S.abs.tru name t = S.abs.pow) := by have := HA.out; rw [if_neg (by rw [← HE.out]; exact hz)] at this; exact this
    clear HFD HA HT
    go_wp2_with fail
    go_step3
    simp only [Exit.then]
    subst hQ
    rw [hops_goto]
    refine ⟨_, rfl, ?_⟩
    go_hide hQ
    go_wp2_with fail
    subst hQ
    rw [hops_ret]
    go_ret
    exact ⟨ret_int HE.out, S.pow, by rw [HA2.out, FS.pow_abs], HF2.out, HG2.out⟩
end Go.Proofs.Ytbbooldhfcldbaa
