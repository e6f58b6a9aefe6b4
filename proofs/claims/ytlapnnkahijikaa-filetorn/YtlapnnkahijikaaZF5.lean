/- file: Truncate. file: Read; what it does when there are no files (nil). file: Names, by the contracts of the library's maps.Keys and slices.Sorted. file: remainder; what Crash keeps. -/
import Derived.Test.YtlapnnkahijikaaZF4
namespace Go.Proofs.Ytlapnnkahijikaa
open Go.ChangeShapes Go.WideShapes Go.ChangeAt Go.RowKit Go.Lib

theorem Grown.drew {w w' : World} {f : Nat} {S S' : FS} (h : Grown f S S' w w') : Grown f S S' w w'.drew := ⟨h.os, h.tape, h.output, h.size, h.block, h.foot⟩
set_option maxRecDepth 100000 in
set_option maxHeartbeats 2000000 in
theorem truncate_any (f : Nat) (S : FS) (name : ByteArray) (t : Int) (w : World) (h : FsAt w f S) (hs : S.Sane) :
    Calls Try.prog 23 #[.pointer (some ⟨f, 0, none⟩), .string name, .int .i64 t] w fun e w' => e = .returned (.int .i64 (S.abs.truE name t)) ∧ After f S (S.abs.tru name t) w w' := by
  have HOP : Hid (Calls Try.prog 34 #[.pointer (some ⟨f, 0, none⟩), .string name, .slice none 0 0] w fun e w' => e = .returned (opened S [name] name) ∧ FsAt w' f S.pow ∧ Grown f S S.pow w w') := open_any f S name _ [] w h hs (.inl ⟨rfl, rfl⟩) (Nat.zero_le _)
  have HF : Hid (∀ k, S.pow.foot f k → k < w.heap.size) := fun k hk => h.lt (S.pow_foot.1 hk)
  clear h hs
  go_enter Try.func23, Try.ntmps23
  go_wp2_with fail
  refine wp_scope_hops 1 ?_
  go_hide hQ
  go_wp2_with fail
  refine Calls.mono HOP.out ?_
  rintro e w1 ⟨rfl, hf1, hg1⟩
  obtain ⟨a, n, c, sf, hop, hfd⟩ := opened_shape hf1 [name] name
  rw [hop]
  have HF1 : Hid (FsAt w1 f S.pow) := hf1
  have HG1 : Hid (Grown f S S.pow w w1) := hg1
  have HFD : Hid (S.abs.opn [name] name = 0 → n = (flOf (alook name S.abs.L)).b.length ∧ sf = ((flOf (alook name S.abs.L)).safe : Int) ∧ alook name S.pow.es = some (.slice a n c, flOf (alook name S.abs.L)) ∧ S.abs.beg [name] = 0) := hfd
  have HT : Hid (S.abs.truE name t = if S.abs.opn [name] name = 0 then (if 0 ≤ t ∧ t ≤ (flOf (alook name S.abs.L)).b.length then 0 else 1) else S.abs.opn [name] name) := show _ = _ from rfl
  have HA : Hid (S.abs.tru name t = if S.abs.truE name t = 0 then { S.abs.pow with L := aput name ⟨(flOf (alook name S.abs.L)).b.take t.toNat, min (flOf (alook name S.abs.L)).safe t.toNat⟩ S.abs.L } else S.abs.pow) := show _ = _ from rfl
  clear hop hfd hf1 hg1 HOP
  obtain ⟨E, hE⟩ : ∃ E, E = S.abs.opn [name] name := ⟨_, rfl⟩
  rw [← hE] at HFD HT ⊢
  clear hE
  go_upto_region 2 with fail
  generalize hw2 : World.alloc _ _ = w2
  have HC2 : Hid (Blk w2 w1.heap.size [.slice a n c, .int .i64 sf]) := by rw [← hw2]; exact Blk.mk w1 _ _ rfl rfl
  have HB2 : Hid (Below w1.heap.size w1 w2) := by rw [← hw2]; exact (Below.refl _ _).alloc (Nat.le_refl _) _
  have HF2 : Hid (FsAt w2 f S.pow) := HF1.out.below HB2.out
  have HG2 : Hid (Grown f S S.pow w w2) := HG1.out.thenBelow HB2.out
  clear hw2
  have cC0 : w2.cell? ⟨w1.heap.size, 0, none⟩ = some (.slice a n c) := HC2.out.one rfl
  have cC1 : w2.cell? ⟨w1.heap.size, 1, none⟩ = some (.int .i64 sf) := HC2.out.one rfl
  by_cases hz : E = 0
  · subst hz
    obtain ⟨hn, hsf, hal, hbg⟩ := HFD.out rfl
    generalize hfl : flOf (alook name S.abs.L) = fl at *
    have HT2 : Hid (S.abs.truE name t = if 0 ≤ t ∧ t ≤ fl.b.length then 0 else 1) := by have := HT.out; rw [if_pos rfl] at this; exact this
    have hns : name.size ≤ 1000 := by
      have := (beg_zero hbg).2
      simp only [List.all_cons, List.all_nil, Bool.and_true] at this
      have := nameOK_size this
      omega
    have hAl : Hid (alook name S.pow.es = some (.slice a n c, fl)) := hal
    have hnb : n ≤ 16777216 := by have h16 : fl.b.length ≤ 16777216 := (HF2.out.fits _ (mem_of_alook hal)).2; omega
    have hfit : fl.safe ≤ fl.b.length := (HF2.out.fits _ (mem_of_alook hal)).1
    by_cases hbad : 0 ≤ t ∧ t ≤ (n : Int)
    · have HE2 : Hid (S.abs.truE name t = 0) := by have := HT2.out; rw [if_pos (by omega)] at this; exact this
      have HA2 : Hid (S.abs.tru name t = { S.abs.pow with L := aput name ⟨fl.b.take t.toNat, min fl.safe t.toNat⟩ S.abs.L }) := by have := HA.out; rw [if_pos HE2.out] at this; exact this
      obtain ⟨h0, h1⟩ := hbad
      obtain ⟨q, hq⟩ : ∃ q : Nat, t = q := ⟨t.toNat, by omega⟩
      subst hq
      have HO2 := (HF2.out.row _ (mem_of_alook hal)).1
      obtain ⟨a', c', hac, hlc, hcm, hno, htk⟩ := HO2.take (n := q) (by show q ≤ fl.b.length; omega)
      injection hac with e1 e2 e3
      subst e1
      subst e3
      have hqc : (q : Int) ≤ (c : Int) := by
        have h2 : fl.b.length ≤ c := hlc
        omega
      have hqc63 : (c : Int) ≤ 9223372036854775807 := by
        have h2 : c ≤ maxLen := hcm
        unfold maxLen at h2
        omega
      have hmin : min sf (q : Int) = ((min fl.safe q : Nat) : Int) := by omega
      have hf2 : FsAt w2.drew f S.pow := HF2.out.same fun _ _ => rfl
      have hob : (Value.slice a q c).ownBlock = (Value.slice a n c).ownBlock := by cases a <;> rfl
      have hmv := moved_apart HF2.out (name := name) (v := .slice a n c) (v' := .slice a n c) (.inr hal) (.inl rfl)
      have HP : Hid (Calls Try.prog 30 #[.pointer (some ⟨f, 0, none⟩), .string name, .agg #[.slice a q c, .int .i64 (min sf (q : Int))]] w2.drew fun e w' => e = .returned (.tuple #[]) ∧ ∃ r, FsAt w' f { S.pow with m := some r, es := aput name (.slice a q c, ⟨fl.b.take q, min fl.safe q⟩) S.pow.es } ∧ Put f S.pow r w2.drew w') := by
        refine fput_any f S.pow name a q c ⟨fl.b.take q, min fl.safe q⟩ _ w2.drew hf2 hns htk hmin (fun k hk => (hmv k (hob ▸ hk)).1) ⟨?_, ?_⟩
        · show min fl.safe q ≤ (fl.b.take q).length
          rw [List.length_take]; omega
        · show (fl.b.take q).length ≤ 16777216
          rw [List.length_take]; omega
      have HMv2 : Hid (∀ k, (Value.slice a q c).ownBlock = some k → S.foot f k ∨ w.heap.size ≤ k) := fun k hk => .inl (S.pow_foot.1 (.inr (.inr ⟨_, mem_of_alook hal, hob ▸ hk⟩)))
      have HCF : Hid (∀ w7 r, Put f S.pow r w2.drew w7 → Blk w7 w1.heap.size [.slice a n c, .int .i64 sf]) := fun w7 r hp => by
        obtain ⟨t', ht'⟩ := HC2.out
        have hg := HG1.out.size
        exact ⟨t', by rw [hp.block _ HC2.out.lt (fun e => by have := HF.out f (.inl rfl); omega) fun e => by have := HF.out _ (.inr (.inl e)); omega]; exact ht'⟩
      have HMO : Hid (Try.prog.follows .mixedOrders = true) := show _ = _ by kernel_rfl
      clear HFD hsf hal hfl HA HT HT2 hbg HO2 hlc hcm hno htk hmin e2 hmv hf2
      go_upto_region 6 with fail
      refine wp_region_noPanic ?_
      refine wp_region_held_drew (S := fun w' => w'.cell? ⟨w1.heap.size, 0, none⟩ = some (.slice a n c) ∧ w'.cell? ⟨w1.heap.size, 1, none⟩ = some (.int .i64 sf)) HMO.out (⟨HC2.out.drew.one rfl, HC2.out.drew.one rfl⟩) (fun hHeld => ?_)
      refine wpAnyH_take (i := 0) (oi := { dst := some 26, op := .move (.tmp 0), type := 25, pos := "file.go:105", after := #[], guard := none }) (v := ?_) rfl (by kernel_rfl) (by kernel_rfl) (by kernel_rfl) (fun _ _ _ h => h) (Or.inl ⟨by rfl, ?_⟩) (by assumption) ?_
      rotate_left
      · intro _ _; go_simp; first | done | with_reducible rfl
      simp only [Act.put, List.setIfInBounds_toArray, List.set_cons_zero, List.set_cons_succ]
      refine wpAnyH_take (i := 1) (oi := { dst := some 27, op := .move (.tmp 1), type := 9, pos := "file.go:105", after := #[], guard := none }) (v := ?_) rfl (by kernel_rfl) (by kernel_rfl) (by kernel_rfl) (fun _ _ _ h => h) (Or.inl ⟨by rfl, ?_⟩) (by assumption) ?_
      rotate_left
      · intro _ _; go_simp; first | done | with_reducible rfl
      simp only [Act.put, List.setIfInBounds_toArray, List.set_cons_zero, List.set_cons_succ]
      refine wpAnyH_take (i := 2) (oi := { dst := some 28, op := .fieldAddr 64 (.tmp 7) 0, type := 0, pos := "file.go:105", after := #[], guard := none }) (v := ?_) rfl (by kernel_rfl) (by kernel_rfl) (by kernel_rfl) (fun _ _ _ h => h) (Or.inl ⟨by rfl, ?_⟩) (by assumption) ?_
      rotate_left
      · intro _ _; go_simp; first | done | with_reducible rfl
      simp only [Act.put, List.setIfInBounds_toArray, List.set_cons_zero, List.set_cons_succ]
      refine wpAnyH_take (i := 3) (oi := { dst := some 29, op := .load 40 (.tmp 28), type := 40, pos := "file.go:105", after := #[{ on := 2, ground := .data }], guard := none }) (v := .slice a n c) rfl (by kernel_rfl) (by kernel_rfl) (by kernel_rfl) (fun _ _ _ h => h) (Or.inl ⟨by rfl, ?_⟩) (by assumption) ?_
      · intro _ _; rename_i wz hz; have cz := hz.1; go_simp
      simp only [Act.put, List.setIfInBounds_toArray, List.set_cons_zero, List.set_cons_succ]
      refine wpAnyH_take (i := 4) (oi := { dst := some 30, op := .move (.tmp 2), type := 3, pos := "file.go:105", after := #[], guard := none }) (v := ?_) rfl (by kernel_rfl) (by kernel_rfl) (by kernel_rfl) (fun _ _ _ h => h) (Or.inl ⟨by rfl, ?_⟩) (by assumption) ?_
      rotate_left
      · intro _ _; go_simp; first | done | with_reducible rfl
      simp only [Act.put, List.setIfInBounds_toArray, List.set_cons_zero, List.set_cons_succ]
      refine wpAnyH_take (i := 5) (oi := { dst := some 31, op := .slice 40 (.tmp 29) none (some (.tmp 30)) none, type := 40, pos := "file.go:105", after := #[{ on := 3, ground := .data }, { on := 4, ground := .data }], guard := none }) (v := .slice a q c) rfl (by kernel_rfl) (by kernel_rfl) (by kernel_rfl) (fun _ _ _ h => h) (Or.inl ⟨by rfl, ?_⟩) (by assumption) ?_
      · intro _ _; go_simp
      simp only [Act.put, List.setIfInBounds_toArray, List.set_cons_zero, List.set_cons_succ]
      refine wpAnyH_take (i := 6) (oi := { dst := some 32, op := .fieldAddr 64 (.tmp 7) 1, type := 0, pos := "file.go:105", after := #[], guard := none }) (v := ?_) rfl (by kernel_rfl) (by kernel_rfl) (by kernel_rfl) (fun _ _ _ h => h) (Or.inl ⟨by rfl, ?_⟩) (by assumption) ?_
      rotate_left
      · intro _ _; go_simp; first | done | with_reducible rfl
      simp only [Act.put, List.setIfInBounds_toArray, List.set_cons_zero, List.set_cons_succ]
      refine wpAnyH_take (i := 7) (oi := { dst := some 33, op := .load 3 (.tmp 32), type := 3, pos := "file.go:105", after := #[{ on := 6, ground := .data }], guard := none }) (v := .int .i64 sf) rfl (by kernel_rfl) (by kernel_rfl) (by kernel_rfl) (fun _ _ _ h => h) (Or.inl ⟨by rfl, ?_⟩) (by assumption) ?_
      · intro _ _; rename_i wz hz; have cz := hz.2; go_simp
      simp only [Act.put, List.setIfInBounds_toArray, List.set_cons_zero, List.set_cons_succ]
      refine wpAnyH_take (i := 8) (oi := { dst := some 34, op := .move (.tmp 2), type := 3, pos := "file.go:105", after := #[], guard := none }) (v := ?_) rfl (by kernel_rfl) (by kernel_rfl) (by kernel_rfl) (fun _ _ _ h => h) (Or.inl ⟨by rfl, ?_⟩) (by assumption) ?_
      rotate_left
      · intro _ _; go_simp; first | done | with_reducible rfl
      simp only [Act.put, List.setIfInBounds_toArray, List.set_cons_zero, List.set_cons_succ]
      refine wpAnyH_take (i := 9) (oi := { dst := some 35, op := .call { callee := .builtin Go.Builtin.min, args := #[.tmp 33, .tmp 34], argTypes := #[3, 3] }, type := 3, pos := "file.go:105", after := #[{ on := 7, ground := .data }, { on := 8, ground := .data }], guard := none }) (v := .int .i64 (min sf (q : Int))) rfl (by kernel_rfl) (by kernel_rfl) (by kernel_rfl) (fun _ _ _ h => h) (Or.inl ⟨by rfl, ?_⟩) (by assumption) ?_
      · intro _ _; go_simp
      simp only [Act.put, List.setIfInBounds_toArray, List.set_cons_zero, List.set_cons_succ]
      refine wpAnyH_take (i := 10) (oi := { dst := some 36, op := .build 64 #[(0, .tmp 31), (1, .tmp 35)], type := 64, pos := "file.go:105", after := #[{ on := 5, ground := .data }, { on := 9, ground := .data }], guard := none }) (v := ?_) rfl (by kernel_rfl) (by kernel_rfl) (by kernel_rfl) (fun _ _ _ h => h) (Or.inl ⟨by rfl, ?_⟩) (by assumption) ?_
      rotate_left
      · intro _ _; go_simp; first | done | with_reducible rfl
      simp only [Act.put, List.setIfInBounds_toArray, List.set_cons_zero, List.set_cons_succ]
      refine wpAnyH_ready (rs := [11]) (by kernel_rfl) (by simp) ?_
      refine AllReadyH.cons (o := { dst := some 37, op := .call { callee := .value (.func 30), args := #[.tmp 26, .tmp 27, .tmp 36], argTypes := #[25, 9, 64] }, type := 0, pos := "file.go:105", after := #[{ on := 0, ground := .data }, { on := 1, ground := .data }, { on := 10, ground := .data }], guard := none }) rfl (fun K hK => ?_) AllReadyH.nil
      go_simp
      refine Calls.mono HP.out ?_; rintro e w7 ⟨rfl, r, hf7, hp7⟩; have HF7 : Hid (FsAt w7 f { S.pow with m := some r, es := aput name (.slice a q c, ⟨fl.b.take q, min fl.safe q⟩) S.pow.es }) := hf7; have HP7 : Hid (Put f S.pow r w2.drew w7) := hp7; have hc7 := HCF.out w7 r hp7; clear hf7 hp7
      go_simp
      refine hK.out _ _ (⟨hc7.one rfl, hc7.one rfl⟩) (fun hHeld => ?_)
      clear hK K
      refine wpAnyH_done (by kernel_rfl) ?_ _
      refine NoPanic.normal ?_
      clear hHeld
      have HG7 : Hid (Grown f S { S.pow with m := some r, es := aput name (.slice a q c, ⟨fl.b.take q, min fl.safe q⟩) S.pow.es } w w7) := (HG2.out.drew).put HP7.out HMv2.out
      clear HP7 HMv2
      go_wp2_with fail
      go_step3
      go_wp2_with fail
      subst hQ
      rw [hops_ret]
      go_ret
      refine ⟨ret_int HE2.out.symm, _, ?_, HF7.out, HG7.out⟩
      rw [HA2.out, abs_put, FS.pow_abs, FS.pow_L]
      rfl
    · have HE2 : Hid (S.abs.truE name t = 1) := by have := HT2.out; rw [if_neg (by omega)] at this; exact this
      have HA2 : Hid (S.abs.tru name t = S.abs.pow) := by have := HA.out; rw [if_neg (by rw [HE2.out]; omega)] at this; exact this
      clear HFD hsf hal hfl HA HT HT2 hbg
      by_cases ht : t < 0
      · go_wp2_with fail
        go_step3
        simp only [Exit.then]
        subst hQ
        rw [hops_goto]
        refine ⟨_, rfl, ?_⟩
        go_hide hQ
        go_wp2_with fail
        subst hQ
        rw [hops_ret]
        go_ret
        exact ⟨ret_int HE2.out.symm, S.pow, by rw [HA2.out, FS.pow_abs], HF2.out, HG2.out⟩
      · have ht2 : t > (n : Int) := by omega
        go_wp2_with fail
        go_step3
        simp only [Exit.then]
        subst hQ
        rw [hops_goto]
        refine ⟨_, rfl, ?_⟩
        go_hide hQ
        go_wp2_with fail
        subst hQ
        rw [hops_ret]
        go_ret
        exact ⟨ret_int HE2.out.symm, S.pow, by rw [HA2.out, FS.pow_abs], HF2.out, HG2.out⟩
  · have hz' : (E != 0) = true := bne_iff_ne.2 hz
    have HE : Hid (E = S.abs.truE name t) := by have := HT.out; rw [if_neg hz] at this; exact this.symm
    have HA2 : Hid (S.abs.tru name t = S.abs.pow) := by have := HA.out; rw [if_neg (by rw [← HE.out]; exact hz)] at this; exact this
    clear HFD HA HT
    go_wp2_with fail
    go_step3
    simp only [Exit.then]
    subst hQ
    rw [hops_goto]
    refine ⟨_, rfl, ?_⟩
    go_hide hQ
    go_wp2_with fail
    subst hQ
    rw [hops_ret]
    go_ret
    exact ⟨ret_int HE.out, S.pow, by rw [HA2.out, FS.pow_abs], HF2.out, HG2.out⟩
end Go.Proofs.Ytlapnnkahijikaa
namespace Go.Proofs.Ytlapnnkahijikaa
open Go.ChangeShapes Go.WideShapes Go.ChangeAt Go.RowKit Go.Lib

set_option maxRecDepth 100000 in
set_option maxHeartbeats 2000000 in
theorem read_any (f : Nat) (S : FS) (name : ByteArray) (w : World) (h : FsAt w f S) :
    Calls Try.prog 14 #[.pointer (some ⟨f, 0, none⟩), .string name] w fun e w' => ∃ v, e = .returned (.tuple #[v, .int .i64 (if (alook name S.L).isSome then 0 else 5)]) ∧ OwnB w' w.heap.size v (flOf (alook name S.L)).b ∧ Below w.heap.size w w' := by
  rw [alook_L]
  have HF : Hid (Calls Try.prog 33 #[.pointer (some ⟨f, 0, none⟩), .string name] w fun e w' => e = .returned (found (alook name S.es)) ∧ Below w.heap.size w w') := find_any f S name w h
  cases ha : alook name S.es with
  | none =>
    rw [ha] at HF
    have HV : Hid (found none = .tuple #[.agg #[.slice none 0 0, .int .i64 0], .bool false]) := show _ = _ from rfl
    clear h ha
    go_enter Try.func14, Try.ntmps14
    go_wp2_with fail
    refine wp_scope_hops 1 ?_
    go_hide hQ
    go_wp2_with fail
    refine Calls.mono HF.out ?_
    rintro e w1 ⟨rfl, hb1⟩
    rw [HV.out]
    go_wp2_with fail
    go_step3
    simp only [Exit.then]
    subst hQ
    rw [hops_goto]
    refine ⟨_, rfl, ?_⟩
    go_hide hQ
    go_wp2_with fail
    subst hQ
    rw [hops_ret]
    go_ret2
    exact ⟨.slice none 0 0, rfl, OwnB.nil _ _, hb1.alloc hb1.size _⟩
  | some p =>
    obtain ⟨a, c, hp, ho⟩ := h.found name ha
    have hbn := (h.fits _ (mem_of_alook ha)).2
    rw [ha, hp] at HF
    obtain ⟨fl, hfl⟩ : ∃ fl, fl = p.2 := ⟨_, rfl⟩
    rw [← hfl] at HF ho hp
    have hbn' : fl.b.length ≤ 16777216 := by rw [hfl]; exact hbn
    have HO : Hid (OwnB w 0 (.slice a fl.b.length c) fl.b) := ho
    have HV : Hid (found (some (.slice a fl.b.length c, fl)) = .tuple #[.agg #[.slice a fl.b.length c, .int .i64 (fl.safe : Int)], .bool true]) := show _ = _ from rfl
    have HR : Hid (flOf (Option.map Prod.snd (some p)) = fl) := show _ = _ by rw [hp]; rfl
    rw [HR.out]
    clear h ha hp HR hbn hfl ho
    obtain ⟨n, hn⟩ : ∃ n, n = fl.b.length := ⟨_, rfl⟩
    rw [← hn] at HF HO HV hbn'
    have HN : Hid (n = fl.b.length) := hn
    clear hn
    go_enter Try.func14, Try.ntmps14
    go_wp2_with fail
    refine wp_scope_hops 1 ?_
    go_hide hQ
    go_wp2_with fail
    refine Calls.mono HF.out ?_
    rintro e w1 ⟨rfl, hb1⟩
    rw [HV.out]
    have HB1 : Hid (Below w.heap.size w w1) := hb1
    clear hb1 HF
    go_wp2_with fail
    have hb2 : Below w.heap.size w (w1.alloc (.cells #[.slice a n c, .int .i64 (fl.safe : Int)] 64)) := HB1.out.alloc HB1.out.size _
    refine Calls.mono (bclone_any _ fl.b _ ((HO.out.below hb2).src) (by rw [← HN.out]; omega)) ?_
    rintro e w3 ⟨v3, rfl, ho3, hb3⟩
    have HO3 : Hid (OwnB w3 w.heap.size v3 fl.b) := ho3.less hb2.size
    have HB3 : Hid (Below w.heap.size w w3) := hb2.trans (hb3.mono hb2.size)
    clear ho3 hb3 hb2
    go_wp2_with fail
    subst hQ
    rw [hops_ret]
    go_ret2
    exact ⟨v3, rfl, HO3.out, HB3.out⟩
end Go.Proofs.Ytlapnnkahijikaa
namespace Go.Proofs.Ytlapnnkahijikaa
open Go.ChangeShapes Go.WideShapes Go.ChangeAt Go.RowKit Go.Lib
open Go.Maps Go.Sort Go.Shelf

theorem sortsF (m : Nat) : AnyZ.SortsIn Try.prog Try.sortedF_ren Fence.wide m :=
  ⟨fun blk off cap ss W hH hblk hsz => callsIn_wide.2 (AnyM.slices_Sort_string Try.sortF blk off cap ss W hH hblk hsz),
   fun p cap W => callsIn_wide.2 (AnyM.slices_Sort_string_none Try.sortF p cap W)⟩
/-- Every element reads as one thing: the map's keys alone are looked at. -/
def anyR (_ : Value) : Option (DataW Unit × List MemPlace) := some (.lit (.bool true), [])
def namD (l : List (ByteArray × Value)) : DataW Unit := .map ((l.map fun p => (Lit.string p.1.data.toList, DataW.lit (.bool true))).foldr DataW.insert [])
def bytesOf (s : ByteArray) : List UInt8 := s.data.toList
theorem bytesOf_mk (l : List UInt8) : bytesOf ⟨l.toArray⟩ = l := by simp [bytesOf]
theorem mk_bytesOf (s : ByteArray) : (⟨(bytesOf s).toArray⟩ : ByteArray) = s := by cases s; simp [bytesOf]
theorem rg_of {P : Program} {k : TypeId} {x : MapEntry} {l : Lit} (h : keyOf P k x.key = some l) : WideElems.rg P k anyR x = (l, .lit (.bool true)) := by
  unfold WideElems.rg WideElems.rd
  rw [h]; rfl
theorem MapS.owns {w : World} {r : Nat} {l : List (ByteArray × Value)} (h : MapS w r l) (hs : ∀ p ∈ l, p.1.size ≤ maxLen) (hl : l.length ≤ maxLen) : w.ownsMap Try.prog 9 anyR r l.length (namD l) := by
  have hn := h.nodup
  obtain ⟨es, clk, h, rfl, hb, hd, _⟩ := h
  have hk : ∀ x ∈ es, keyOf Try.prog 9 (entS x).key = some (.string x.1.1.data.toList) := fun x hx =>
    Go.WideMaps.keyOf_string_mk Try.underlying9 (hs x.1 (List.mem_map.2 ⟨x, hx, rfl⟩))
  refine ⟨_, clk, h, ⟨by simpa using hl, ⟨?_, ?_, ?_⟩, ?_⟩, by simp, ?_⟩
  · intro x hx
    simp only [List.mem_map] at hx
    obtain ⟨y, hy, rfl⟩ := hx
    exact hb y hy
  · simp only [List.map_map]
    exact hd
  · simp only [List.map_map]
    rw [List.map_map] at hn
    have : (es.map fun x => x.1.1).map Value.string = es.map ((fun x => x.key) ∘ entS) := by rw [List.map_map]; rfl
    rw [← this]
    refine List.pairwise_map.2 ((show (es.map fun x => x.1.1).Nodup from hn).imp fun {a b} hne e => hne ?_)
    injection e
  · intro x hx
    simp only [List.mem_map] at hx
    obtain ⟨y, hy, rfl⟩ := hx
    exact ⟨_, by unfold WideElems.rd; rw [hk y hy]; rfl⟩
  · unfold namD
    rw [List.map_map]
    refine congrArg (fun z : List (Lit × DataW Unit) => DataW.map (List.foldr DataW.insert [] z)) ?_
    show _ = ((es.map entS).map _)
    rw [List.map_map]
    refine List.map_congr_left fun y hy => ?_
    simp only [Function.comp]
    rw [rg_of (hk y hy)]
theorem namD_keys (l : List (ByteArray × Value)) : (strKeys (namD l)).Perm (l.map fun p => bytesOf p.1) := by
  unfold namD strKeys
  have := (sorted_perm (l.map fun p => (Lit.string p.1.data.toList, (DataW.lit (.bool true) : DataW Unit)))).map fun p => strOf p.1
  rw [List.map_map] at this
  exact this
/-- Texts by their bytes. -/
def sortN (l : List ByteArray) : List ByteArray := ((l.map bytesOf).mergeSort leB).map fun b => ⟨b.toArray⟩
theorem sortN_nil : sortN [] = [] := by simp [sortN]
theorem sortN_enc (l : List ByteArray) : (sortN l).map Value.string = ((l.map bytesOf).mergeSort leB).map encStr := by
  unfold sortN
  rw [List.map_map]; rfl
theorem sortN_length (l : List ByteArray) : (sortN l).length = l.length := by
  unfold sortN
  rw [List.length_map, List.length_mergeSort, List.length_map]
set_option maxRecDepth 100000 in
set_option maxHeartbeats 2000000 in
theorem sortedKeys_some (r : Nat) (l : List (ByteArray × Value)) (w : World) (B : Nat) (h : MapS w r l) (hs : ∀ p ∈ l, p.1.size ≤ 1000) (hl : l.length ≤ 1000000) (hB : w.cell? ⟨B, 0, none⟩ = some (.map (some r))) :
    Calls Try.prog 39 #[.func (.func 46) #[] #[.pointer (some ⟨B, 0, none⟩)]] w fun e w' => ∃ v, e = .returned v ∧ OwnS w' w.heap.size v (sortN (l.map Prod.fst)) ∧ Below w.heap.size w w' := by
  refine (callsIn_wide (n := 5)).1 ?_
  have hsz : size (namD l) = l.length := by unfold namD; rw [Go.Maps.size_eq, length_sorted, List.length_map]
  have hseq : SeqGives Fence.wide 2 Try.prog 46 #[.pointer (some ⟨B, 0, none⟩)] encStr (fun ss => ss.Perm (strKeys (namD l))) (size (namD l)) w :=
    AnyZ.keys_gives (ρ := Try.keysF_ren) { Try.keysF with } Fence.wide _ trivial rfl (by omega) B r l.length (namD l) _ (World.block_lt_of_cell? w _ hB) hB (h.owns (fun p hp => by have := hs p hp; unfold maxLen; omega) (by unfold maxLen; omega))
  have cS := AnyZ.sorted_in Try.sortedF Fence.wide 5 trivial trivial trivial trivial rfl (by omega) (sortsF _) (enters_of Try.func45 (by kernel_rfl) rfl) 46 #[.pointer (some ⟨B, 0, none⟩)] trivial (enters_of Try.func46 (by kernel_rfl) rfl) _ _ (by rw [hsz]; unfold maxLen; omega) (by rw [hsz]; omega) _ hseq
  refine CallsIn.mono cS ?_
  rintro e w' ⟨v, ss, rfl, hS, hrow, _, hb⟩
  refine ⟨v, rfl, ?_, hb⟩
  have hp : ss.Perm ((l.map Prod.fst).map bytesOf) := by
    have := hS.trans (namD_keys l)
    rw [List.map_map]; exact this
  unfold OwnS
  rw [sortN_enc, sortN_length, List.length_map, ← mergeSort_of_perm hp]
  have hlen : ss.length = l.length := by rw [hp.length_eq]; simp
  rw [← hlen]
  exact hrow
set_option maxRecDepth 100000 in
set_option maxHeartbeats 2000000 in
theorem sortedKeys_none (w : World) (B : Nat) (hB : w.cell? ⟨B, 0, none⟩ = some (.map none)) :
    Calls Try.prog 39 #[.func (.func 46) #[] #[.pointer (some ⟨B, 0, none⟩)]] w fun e w' => ∃ v, e = .returned v ∧ OwnS w' w.heap.size v [] ∧ Below w.heap.size w w' := by
  refine (callsIn_wide (n := 5)).1 ?_
  have hseq : SeqGives Fence.wide 2 Try.prog 46 #[.pointer (some ⟨B, 0, none⟩)] encStr (fun ss : List (List UInt8) => ss = []) 0 w :=
    AnyZ.keys_gives_nil (ρ := Try.keysF_ren) { Try.keysF with } Fence.wide _ trivial rfl B _ (World.block_lt_of_cell? w _ hB) hB
  have cS := AnyZ.sorted_in Try.sortedF Fence.wide 5 trivial trivial trivial trivial rfl (by omega) (sortsF _) (enters_of Try.func45 (by kernel_rfl) rfl) 46 #[.pointer (some ⟨B, 0, none⟩)] trivial (enters_of Try.func46 (by kernel_rfl) rfl) _ 0 (Nat.zero_le _) (by omega) _ hseq
  refine CallsIn.mono cS ?_
  rintro e w' ⟨v, ss, rfl, rfl, hrow, _, hb⟩
  rw [List.mergeSort_nil] at hrow
  exact ⟨v, rfl, hrow, hb⟩
set_option maxRecDepth 100000 in
set_option maxHeartbeats 2000000 in
theorem keysF_any (m : Option Nat) (w : World) :
    Calls Try.prog 40 #[.map m] w fun e w' => e = .returned (.func (.func 46) #[] #[.pointer (some ⟨w.heap.size, 0, none⟩)]) ∧ w' = w.alloc (.cells #[.map m] 45) :=
  (callsIn_wide (n := 5)).1 (AnyZ.keys_in Try.keysF Fence.wide 5 trivial rfl m w)
set_option maxRecDepth 100000 in
set_option maxHeartbeats 2000000 in
theorem names_any (f : Nat) (S : FS) (w : World) (h : FsAt w f S) (hs : ∀ p ∈ S.L, p.1.size ≤ 1000) (hl : S.L.length ≤ 1000000) :
    Calls Try.prog 28 #[.pointer (some ⟨f, 0, none⟩)] w fun e w' => ∃ v, e = .returned v ∧ OwnS w' w.heap.size v (sortN (S.L.map Prod.fst)) ∧ Below w.heap.size w w' := by
  have cm : w.cell? ⟨f, 0, none⟩ = some (.map S.m) := h.blk.one rfl
  have HS : Hid (Calls Try.prog 39 #[.func (.func 46) #[] #[.pointer (some ⟨w.heap.size, 0, none⟩)]] (w.alloc (.cells #[.map S.m] 45)) fun e w' => ∃ v, e = .returned v ∧ OwnS w' (w.alloc (.cells #[.map S.m] 45)).heap.size v (sortN (S.L.map Prod.fst)) ∧ Below (w.alloc (.cells #[.map S.m] 45)).heap.size (w.alloc (.cells #[.map S.m] 45)) w') := by
    show Calls _ _ _ _ _
    cases hm : S.m with
    | none =>
      have : S.L = [] := by unfold FS.L; rw [h.bare hm]; rfl
      rw [this, List.map_nil, sortN_nil]
      exact sortedKeys_none _ _ (by simp)
    | some r =>
      have hM := (h.map r hm).2
      have hfst : (S.es.map (onB cellOf)).map Prod.fst = S.L.map Prod.fst := by unfold FS.L; rw [List.map_map, List.map_map]; rfl
      rw [← hfst]
      refine sortedKeys_some r _ _ _ (hM.same (heap_alloc_old _ _ hM.lt)) (fun p hp => ?_) (by unfold FS.L at hl; simpa using hl) (by simp)
      obtain ⟨q, hq, rfl⟩ := List.mem_map.1 hp
      exact hs (onB Prod.snd q) (List.mem_map.2 ⟨q, hq, rfl⟩)
  have HK : Hid (Calls Try.prog 40 #[.map S.m] w fun e w' => e = .returned (.func (.func 46) #[] #[.pointer (some ⟨w.heap.size, 0, none⟩)]) ∧ w' = w.alloc (.cells #[.map S.m] 45)) := keysF_any _ _
  clear h hs hl
  go_enter Try.func28, Try.ntmps28
  go_wp2_with fail
  refine Calls.mono HK.out ?_
  rintro e w1 ⟨rfl, rfl⟩
  go_wp2_with fail
  refine Calls.mono HS.out ?_
  rintro e w2 ⟨v, rfl, h1, h2⟩
  have H : Hid (OwnS w2 w.heap.size v (sortN (S.L.map Prod.fst)) ∧ Below w.heap.size w w2) := ⟨h1.less (by simp), ((Below.refl _ w).alloc (Nat.le_refl _) _).trans (h2.mono (by simp))⟩
  clear h1 h2 HS HK
  go_wp2_with fail
  go_ret
  exact ⟨v, rfl, H.out⟩
end Go.Proofs.Ytlapnnkahijikaa
namespace Go.Proofs.Ytlapnnkahijikaa
open Go.ChangeShapes Go.WideShapes Go.ChangeAt Go.RowKit Go.Lib

/-- Z lies at a, an int a cell. -/
def Ints (w : World) (a : Option Addr) (Z : List Int) : Prop := Z = [] ∨ ∃ b off, a = some ⟨b, off, none⟩ ∧ ∀ i, i < Z.length → w.cell? ⟨b, off + i, none⟩ = some (.int .i64 (Z.getD i 0))
theorem Ints.tail {w : World} {b off : Nat} {p : Int} {Z : List Int} (h : Ints w (some ⟨b, off, none⟩) (p :: Z)) (cap : Nat) (hc : Z.length + 1 ≤ cap) : Ints w (if cap = 1 then some ⟨b, off, none⟩ else some ⟨b, off + 1, none⟩) Z := by
  rcases h with h | ⟨b', off', e, hcs⟩
  · cases h
  · injection e with e
    injection e with e1 e2
    subst e1
    subst e2
    by_cases hk : cap = 1
    · exact .inl (List.eq_nil_of_length_eq_zero (by omega))
    · rw [if_neg hk]
      refine .inr ⟨b, off + 1, rfl, fun i hi => ?_⟩
      rw [Nat.add_assoc, Nat.add_comm 1 i, hcs (i + 1) (by rw [List.length_cons]; omega)]
      rfl
theorem Ints.head {w : World} {a : Option Addr} {p : Int} {Z : List Int} (h : Ints w a (p :: Z)) : ∃ b off, a = some ⟨b, off, none⟩ ∧ w.cell? ⟨b, off, none⟩ = some (.int .i64 p) := by
  rcases h with h | ⟨b, off, rfl, hcs⟩
  · cases h
  · exact ⟨b, off, rfl, hcs 0 (by simp)⟩
theorem Ints.below {w w' : World} {a : Option Addr} {Z : List Int} (h : Ints w a Z) (hb : Below w.heap.size w w') : Ints w' a Z := by
  rcases h with h | ⟨b, off, rfl, hcs⟩
  · exact .inl h
  · exact .inr ⟨b, off, rfl, fun i hi => cell_below hb (hcs i hi)⟩
/-- What is left of p, shared by m and one. -/
def remF (p : Int) (m : Nat) : Nat := (p % ((m : Int) + 1)).toNat
theorem remF_le (p : Int) (m : Nat) : remF p m ≤ m := by
  unfold remF
  have := Int.emod_lt_of_pos p (show 0 < (m : Int) + 1 by omega)
  omega
theorem remF_tmod (p : Int) (m : Nat) : (p.tmod ((m : Int) + 1) < 0 → p.tmod ((m : Int) + 1) + ((m : Int) + 1) = remF p m) ∧ (¬ p.tmod ((m : Int) + 1) < 0 → p.tmod ((m : Int) + 1) = remF p m) := by
  have h0 := Int.emod_nonneg p (show (m : Int) + 1 ≠ 0 by omega)
  have h1 := Int.emod_lt_of_pos p (show 0 < (m : Int) + 1 by omega)
  have h2 : (remF p m : Int) = p % ((m : Int) + 1) := by unfold remF; omega
  have h3 := @Int.tmod_eq_emod p ((m : Int) + 1)
  rw [h2, h3]
  split
  · exact ⟨fun h => by omega, fun _ => by omega⟩
  · exact ⟨fun _ => by omega, fun h => by omega⟩
set_option maxHeartbeats 2000000 in
theorem remainder_any (p : Int) (m : Nat) (w : World) (hm : m ≤ 100000000) :
    Calls Try.prog 29 #[.int .i64 p, .int .i64 ((m : Int) + 1)] w fun e w' => e = .returned (.int .i64 (remF p m)) ∧ w' = w := by
  have HR : Hid ((p.tmod ((m : Int) + 1) < 0 → p.tmod ((m : Int) + 1) + ((m : Int) + 1) = remF p m) ∧ (¬ p.tmod ((m : Int) + 1) < 0 → p.tmod ((m : Int) + 1) = remF p m)) := remF_tmod p m
  have j1 : -((m : Int) + 1) < p.tmod ((m : Int) + 1) := by
    have := Int.lt_tmod_of_pos p (show 0 < (m : Int) + 1 by omega); omega
  have j2 : p.tmod ((m : Int) + 1) < (m : Int) + 1 := Int.tmod_lt_of_pos p (by omega)
  by_cases hn : p.tmod ((m : Int) + 1) < 0
  · have h := HR.out.1 hn
    go_enter Try.func29, Try.ntmps29
    go_wp2_with fail
    go_ret
    exact ⟨ret_int rfl, rfl⟩
  · have h := HR.out.2 hn
    go_enter Try.func29, Try.ntmps29
    go_wp2_with fail
    go_ret
    exact ⟨ret_int rfl, rfl⟩
/-- How many bytes of a file outlive a crash, and which picks are left. -/
def keepOf (fl : Fl) (ps : List Int) : Nat × List Int := if fl.safe < fl.b.length then (match ps with | [] => (fl.safe, []) | p :: ps => (fl.safe + remF p (fl.b.length - fl.safe), ps)) else (fl.safe, ps)
def crashGo (L : List (ByteArray × Fl)) : List ByteArray → List Int → List (ByteArray × Fl) → List (ByteArray × Fl)
  | [], _, acc => acc
  | n :: ns, ps, acc => crashGo L ns (keepOf (flOf (alook n L)) ps).2 (aput n ⟨(flOf (alook n L)).b.take (keepOf (flOf (alook n L)) ps).1, (keepOf (flOf (alook n L)) ps).1⟩ acc)
def Abs.crash (A : Abs) (ps : List Int) : Abs := ⟨crashGo A.L (sortN (A.L.map Prod.fst)) ps [], 0, false, 0, false⟩
end Go.Proofs.Ytlapnnkahijikaa
