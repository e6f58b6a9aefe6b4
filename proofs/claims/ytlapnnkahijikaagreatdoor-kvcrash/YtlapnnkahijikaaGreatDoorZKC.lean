/- kv.Open. -/
import Derived.Test.YtlapnnkahijikaaGreatDoorZK5
import Derived.Test.YtlapnnkahijikaaGreatDoorZKB
import Derived.Test.YtlapnnkahijikaaGreatDoorZW4
namespace Go.Proofs.YtlapnnkahijikaaGreatDoor
open Go.ChangeShapes Go.WideShapes Go.ChangeAt Go.RowKit Go.Lib

theorem GrB.fresh {f : Nat} {S S' : FS} {wi wj wk : World} {r : Nat} (h : GrB f [] S S' wi wj) (hk : Keep r wj wk) (hr : wi.heap.size ≤ r) : GrB f [] S S' wi wk :=
  ⟨Nat.le_trans h.size hk.size, fun k hl hf hn => (hk.block k (Nat.lt_of_lt_of_le hl h.size) (by omega)).trans (h.block k hl hf hn), h.foot⟩
theorem Bs.keep {w w' : World} {v : Value} {bs : List (BitVec 8)} {r : Nat} (h : Bs w v bs) (hne : bs ≠ []) (hk : Keep r w w') (hr : ∀ k, v.ownBlock = some k → k ≠ r) : Bs w' v bs := by
  have h0 := h
  obtain ⟨a, cap, rfl, h1, h2, h3⟩ := h0
  have hp : 0 < bs.length := List.length_pos_iff.2 hne
  refine h.same fun k e => ?_
  rcases h3 with ⟨rfl, hc⟩ | ⟨b, o, rfl, hc⟩
  · cases e
  · injection e with e
    simp only at e
    subst e
    exact hk.block b (World.block_lt_of_cell? w _ (hc 0 hp)) (hr b rfl)
/-- Records in memory, from block N on. -/
structure Recs (w : World) (N : Nat) (v : Value) (xs : List Value) (H : List (List Pr)) : Prop where
  own : OwnX w N v xs
  len : xs.length = H.length
  all : ∀ i x, xs[i]? = some x → Bs w x (batB (H.getD i []))
  from_ : ∀ x ∈ xs, ∀ k, x.ownBlock = some k → N ≤ k
theorem Recs.below {w w' : World} {N : Nat} {v : Value} {xs : List Value} {H : List (List Pr)} (h : Recs w N v xs H) (hb : Below w.heap.size w w') : Recs w' N v xs H :=
  ⟨h.own.below hb, h.len, fun i x hx => (h.all i x hx).below hb, h.from_⟩
theorem batB_ne {b : List Pr} (h : b.length ≤ 1000) : batB b ≠ [] := by
  intro e
  have h1 := numB_pos (n := (b.length : Int)) (by omega) (by omega)
  have h2 := congrArg List.length e
  unfold batB at h2
  rw [List.length_append] at h2
  simp only [List.length_nil] at h2
  omega
theorem Recs.keep {w w' : World} {N r : Nat} {v : Value} {xs : List Value} {H : List (List Pr)} (h : Recs w N v xs H) (hk : Keep r w w') (hr : r < N) (hH : ∀ b ∈ H, kask b = 0) : Recs w' N v xs H := by
  refine ⟨h.own.same fun k e => hk.block k (h.own.lt k e).2 (by have := (h.own.lt k e).1; omega), h.len, fun i x hx => ?_, h.from_⟩
  refine (h.all i x hx).keep ?_ hk fun k e => by have := h.from_ x (List.mem_of_getElem? hx) k e; omega
  have hi : i < H.length := by rw [← h.len]; exact (List.getElem?_eq_some_iff.1 hx).1
  refine batB_ne (kask_zero (hH _ ?_)).2.1
  rw [List.getD_eq_getElem?_getD, List.getElem?_eq_getElem hi]
  exact List.getElem_mem _
theorem recs_of {w : World} {N : Nat} {v : Value} {xs : List Value} {H : List (List Pr)} (h : OwnX w N v xs) (hc : Cloned w N xs (H.map batB)) : Recs w N v xs H := by
  refine ⟨h, by have := hc.all.1; rwa [List.length_map] at this, fun i x hx => ?_, hc.own⟩
  have := hc.all.2 i x hx
  have hi : i < H.length := by
    have h1 := (List.getElem?_eq_some_iff.1 hx).1
    have h2 := hc.all.1
    rw [List.length_map] at h2; omega
  rw [List.getD_eq_getElem?_getD, List.getElem?_map, List.getElem?_eq_getElem hi] at this
  rw [List.getD_eq_getElem?_getD, List.getElem?_eq_getElem hi]
  exact this
theorem thist_next (H : List (List Pr)) (k : Nat) (h : k < H.length) : thist (H.take (k + 1)) = tbat (thist (H.take k)) (H.getD k []) := by
  have e : H.take (k + 1) = H.take k ++ [H.getD k []] := by
    rw [List.take_add_one, List.getD_eq_getElem?_getD, List.getElem?_eq_getElem h]; rfl
  rw [e, thist_snoc]
theorem shows_nil : Shows [] (thist []) := ⟨Up.nil, (fun q hq => by cases hq), List.Perm.refl _⟩
set_option maxRecDepth 100000 in
set_option maxHeartbeats 8000000 in
theorem kopen_any {w wi : World} {f : Nat} {S : FS} {q : Nat} (hK : Kw w) (nm : ByteArray) (h : Sys w wi f S []) (hOK : S.abs.OK q) (hq : q ≤ 4611686018427387000) (h0 : 1 ≤ nm.size) (hnm : nm.size ≤ 40) (H : List (List Pr)) (hH : ∀ b ∈ H, kask b = 0) (hHs : ∀ b ∈ H, (batB b).length ≤ 50000000) (hHl : H.length ≤ 1000000)
    (hR : (mend S.abs nm).1 = 0 → recR (mend S.abs nm).2.1 nm (mend S.abs nm).2.2 = H.map batB) :
    Calls Tryz.prog 10 #[.pointer (some ⟨f, 0, none⟩), .string nm] wi fun e w' =>
      ((mend S.abs nm).1 = 0 ∧ ∃ s l r A S', e = .returned (.tuple #[.pointer (some ⟨s, 0, none⟩), .int .i64 0]) ∧ S'.abs = (mend S.abs nm).2.1 ∧ Sys w w' f S' [(l, lgC f nm (mend S.abs nm).2.2 false)] ∧ Sto w w' f S' l s r 0 A ∧ Shows A (thist H) ∧ (wi.heap.size ≤ s ∧ wi.heap.size ≤ l ∧ wi.heap.size ≤ r) ∧ GrB f [] S S' wi w') ∨
      ((mend S.abs nm).1 ≠ 0 ∧ e = .returned (.tuple #[.pointer none, .int .i64 (mend S.abs nm).1]) ∧ Step w wi f S [] (mend S.abs nm).2.1 [] w') := by
  have HSY : Hid (Sys w wi f S []) := h
  have HK : Hid (Kw w) := hK
  have HH : Hid (∀ b ∈ H, kask b = 0) := hH
  have HHS : Hid (∀ b ∈ H, (batB b).length ≤ 50000000) := hHs
  have HHL : Hid (H.length ≤ 1000000) := hHl
  have HWO : Hid (∀ wj, Below wi.heap.size wi wj → Calls Tryz.prog 27 #[.pointer (some ⟨f, 0, none⟩), .string nm] wj fun e w' =>
      ((mend S.abs nm).1 = 0 ∧ ∃ l, e = .returned (.tuple #[.pointer (some ⟨l, 0, none⟩), .int .i64 0]) ∧ wj.heap.size ≤ l ∧ Step w wj f S [] (mend S.abs nm).2.1 [(l, lgC f nm (mend S.abs nm).2.2 false)] w') ∨
      ((mend S.abs nm).1 ≠ 0 ∧ e = .returned (.tuple #[.pointer none, .int .i64 (mend S.abs nm).1]) ∧ Step w wj f S [] (mend S.abs nm).2.1 [] w')) := fun wj hbj => wopen_any hK nm (h.below hbj) hOK hq h0 hnm
  have hwl := h.base.size
  clear h hK hH hHs hHl hOK
  generalize mend S.abs nm = M at *
  obtain ⟨E, A', z⟩ := M
  simp only at HWO hR ⊢
  have HRR : Hid (E = 0 → recR A' nm z = H.map batB) := hR
  clear hR
  have hmm := @run_makeMap Tryz.prog
  go_enter Tryz.func10, Tryz.ntmps10
  go_wp2_with fail
  refine wp_scope_hops 1 ?_
  go_hide hQ
  go_upto_region 3 with fail
  generalize hw2 : World.alloc _ _ = w2
  have HM2 : Hid (MapP w2 wi.heap.size []) := by
    rw [← hw2]
    exact MapS.same (MapS.new wi) (Below.heap_alloc _ _ _ (by simp))
  have HS2 : Hid (Blk w2 (wi.heap.size + 1) (stC none wi.heap.size 0)) := by rw [← hw2]; exact Blk.mk _ _ _ (by simp) rfl
  have HB2 : Hid (Below wi.heap.size wi w2) := by rw [← hw2]; exact ((Below.refl _ _).alloc (Nat.le_refl _) _).alloc (by simp) _
  have hs2 : w2.heap.size = wi.heap.size + 2 := by rw [← hw2]; simp
  clear hw2 hmm
  obtain ⟨r, hr⟩ : ∃ r, wi.heap.size = r := ⟨_, rfl⟩
  obtain ⟨s, hs⟩ : ∃ s, r + 1 = s := ⟨_, rfl⟩
  rw [hr] at HM2 HS2 hs2 ⊢
  rw [hs] at HS2 ⊢
  have HRI : Hid (wi.heap.size = r ∧ r + 1 = s ∧ w2.heap.size = r + 2) := ⟨hr, hs, hs2⟩
  clear hr hs hs2
  go_wp2_with fail
  refine Calls.mono (HWO.out w2 HB2.out) ?_
  rintro e w3 (⟨hE, l, rfl, hl, S3, hA3, hS3, hG3⟩ | ⟨hE, rfl, S3, hA3, hS3, hG3⟩)
  · have HL : Hid (w2.heap.size ≤ l) := hl
    have HA3 : Hid (S3.abs = A') := hA3
    have HS3 : Hid (Sys w w3 f S3 [(l, lgC f nm z false)]) := hS3
    have HG3 : Hid (GrB f [] S S3 w2 w3) := hG3
    have HE0 : Hid (E = 0) := hE
    have HREC : Hid (recR S3.abs nm z = H.map batB) := by rw [hA3]; exact HRR.out hE
    have hfs : ¬ S.foot f s := fun e => by have := HSY.out.fs.lt e; have := HRI.out; omega
    have hfr : ¬ S.foot f r := fun e => by have := HSY.out.fs.lt e; have := HRI.out; omega
    have HFS : Hid (Free f S [] w2 s) := ⟨by have := HRI.out; omega, hfs, by simp⟩
    have HFR : Hid (Free f S [] w2 r) := ⟨by have := HRI.out; omega, hfr, by simp⟩
    have HS3b : Hid (Blk w3 s (stC none r 0)) := by
      obtain ⟨t, ht⟩ := HS2.out
      exact ⟨t, by rw [HFS.out.same hG3]; exact ht⟩
    have HM3 : Hid (MapP w3 r []) := HM2.out.same (HFR.out.same hG3)
    have HFS3 : Hid (Free f S3 [l] w3 s) := ⟨(HFS.out.step hG3).1, (HFS.out.step hG3).2.1, by have := HRI.out; simp; omega⟩
    have HFR3 : Hid (Free f S3 [l] w3 r) := ⟨(HFR.out.step hG3).1, (HFR.out.step hG3).2.1, by have := HRI.out; simp; omega⟩
    have HGW : Hid (GrB f [] S S3 wi w3) := (GrB.of_below HB2.out).trans hG3
    have f0 : w3.frozen? ⟨s, 0, none⟩ = false := HS3b.out.frozen 0
    have c0 : w3.cell? ⟨s, 0, none⟩ = some (.pointer none) := HS3b.out.one rfl
    subst hE
    clear hl hA3 hS3 hG3 hfs hfr HS2 HM2 HFS HFR HG3 HB2 HWO HSY HRR
    go_upto_region 6 with fail
    generalize hw4 : World.setCell w3 _ _ = w4
    have HK4 : Hid (Keep s w3 w4) := by rw [← hw4]; exact Keep.of_setCell _ _ _
    have HB4 : Hid (Blk w4 s (stC (some ⟨l, 0, none⟩) r 0)) := by rw [← hw4]; exact HS3b.out.set 0 _
    clear hw4 f0 c0
    have hsr : s ≠ r := by have := HRI.out; omega
    have HST4 : Hid (Sto w w4 f S3 l s r 0 []) := ⟨HB4.out, HM3.out.same (HK4.out.block r HM3.out.lt hsr.symm), ⟨⟨Nat.lt_of_lt_of_le HFS3.out.1 HK4.out.size, HFS3.out.2⟩, by have := HRI.out; omega⟩, ⟨⟨Nat.lt_of_lt_of_le HFR3.out.1 HK4.out.size, HFR3.out.2⟩, by have := HRI.out; omega⟩⟩
    have HS4 : Hid (Sys w w4 f S3 [(l, lgC f nm z false)]) := HS3.out.keepFree HK4.out HFS3.out (by have := HRI.out; omega)
    have HG4 : Hid (GrB f [] S S3 wi w4) := HGW.out.fresh HK4.out (by have := HRI.out; omega)
    clear HK4 HB4 HS3b HM3 HFS3 HFR3 HGW HS3
    go_wp2_with fail
    refine Calls.mono (records_any HK.out l nm z false HS4.out) ?_
    rintro e w5 ⟨v5, xs, rfl, hx5, hc5, hb5⟩
    rw [HREC.out] at hc5
    have HR5 : Hid (Recs w5 w4.heap.size v5 xs H) := recs_of hx5 hc5
    have HST5 : Hid (Sto w w5 f S3 l s r 0 []) := HST4.out.below hb5
    have HS5 : Hid (Sys w w5 f S3 [(l, lgC f nm z false)]) := HS4.out.below hb5
    have HG5 : Hid (GrB f [] S S3 wi w5) := HG4.out.trans (GrB.of_below hb5)
    obtain ⟨a5, c5, hv5⟩ := hx5.shape
    subst hv5
    obtain ⟨n, hn⟩ : ∃ n, xs.length = n := ⟨_, rfl⟩
    rw [hn] at HR5 ⊢
    have HN : Hid (H.length = n ∧ xs.length = n) := ⟨by rw [← hn]; exact HR5.out.len.symm, hn⟩
    have hn6 : n ≤ 1000000 := by rw [← HN.out.1]; exact HHL.out
    have HRN : Hid (r < w4.heap.size) := HST4.out.map.lt
    generalize w4.heap.size = N4 at *
    clear hx5 hc5 hb5 hn HS4 HST4 HG4 HREC
    go_wp2_with fail
    go_loopw [30] (fun i wr => ∃ (k : Nat) (A : List (ByteArray × Pr)), k ≤ n ∧ i = .int .i64 k ∧ Hid (Sto w wr f S3 l s r 0 A) ∧ Hid (Shows A (thist (H.take k))) ∧ Hid (Sys w wr f S3 [(l, lgC f nm z false)]) ∧ Hid (GrB f [] S S3 wi wr) ∧ Hid (Recs wr N4 (.slice a5 n c5) xs H)) (fun i _ => n - (intOf i).toNat)
    case atStart => exact ⟨0, [], Nat.zero_le _, rfl, HST5.out, by show Shows _ _; rw [List.take_zero]; exact shows_nil, HS5.out, HG5.out, HR5.out⟩
    case round =>
      obtain ⟨k, A, hk, rfl, HST, HSH, HSY, HGR, HRC⟩ := hrel
      clear HST5 HS5 HG5 HR5
      by_cases hlt : k < n
      · have e1 : (0 : Int) ≤ (k : Int) := by omega
        have e2 : (k : Int) < (n : Int) := by omega
        have hkx : k < xs.length := by rw [HN.out.2]; exact hlt
        have hkH : k < H.length := by rw [HN.out.1]; exact hlt
        obtain ⟨x, hx⟩ : ∃ x, xs[k]? = some x := ⟨_, List.getElem?_eq_getElem hkx⟩
        obtain ⟨g, c', hv, _, _, _, hcell⟩ := HRC.out.own.block (by omega)
        injection hv with ea en ec
        subst ea
        clear en ec
        have hck := hcell k x hx
        have hbx := HRC.out.all k x hx
        have hbm : H.getD k [] ∈ H := by
          rw [List.getD_eq_getElem?_getD, List.getElem?_eq_getElem hkH]
          exact List.getElem_mem _
        have hth := thist_next H k hkH
        have hka := HH.out _ hbm
        have hbs := HHS.out _ hbm
        obtain ⟨b, hb⟩ : ∃ b, b = H.getD k [] := ⟨_, rfl⟩
        rw [← hb] at hbx hth hka hbs
        obtain ⟨ax, cx, hxv, _⟩ := hbx.shape
        have HRD : Hid (Calls Tryz.prog 29 #[x] wr fun e w' => Below wr.heap.size wr w' ∧ ∃ v', e = .returned (.tuple #[v', .int .i64 0]) ∧ OwnP w' wr.heap.size v' b) := by
          refine (read_any' x (batB b) wr hbx.src hbs).mono ?_
          rintro e w' ⟨hb', (⟨_, v', rfl, ho⟩ | ⟨hne, _⟩)⟩
          · rw [rBat_enc hka] at ho
            exact ⟨hb', v', rfl, ho⟩
          · exact absurd (readE_enc hka) hne
        have HTH : Hid (thist (H.take (k + 1)) = tbat (thist (H.take k)) b) := hth
        have hsz := kask_zero hka
        have HSZ : Hid (∀ p ∈ b, p.k.size ≤ 1000000 ∧ p.v.size ≤ 1000000) := fun p hp => by
          have h1 := (pArg_of (hsz.2.2 p hp).1).2.1
          have h2 := pBig_of (hsz.2.2 p hp).2
          omega
        subst hxv
        clear hx hcell hbx hbm hth hka hbs hb hsz hkx hkH
        generalize (batB b).length = bl at *
        go_wp2_with fail
        refine Calls.mono HRD.out ?_
        rintro e w6 ⟨hb6, v6, rfl, ho6⟩
        have HST6 : Hid (Sto w w6 f S3 l s r 0 A) := HST.out.below hb6
        have HSY6 : Hid (Sys w w6 f S3 [(l, lgC f nm z false)]) := HSY.out.below hb6
        have HGR6 : Hid (GrB f [] S S3 wi w6) := HGR.out.trans (GrB.of_below hb6)
        have HRC6 : Hid (Recs w6 N4 (.slice (some ⟨g, 0, none⟩) n c5) xs H) := HRC.out.below hb6
        obtain ⟨a6, c6, hv6, hel6⟩ := ho6.els
        subst hv6
        have HEL6 : Hid (Els w6 a6 b.length c6 b) := hel6
        clear hb6 ho6 hel6 HRD HST HSY HGR HRC hck
        have HSET : Hid (Calls Tryz.prog 30 #[.pointer (some ⟨s, 0, none⟩), .slice a6 b.length c6] w6 fun e w' => e = .returned (.tuple #[]) ∧ MapP w' r (abat A b) ∧ Keep r w6 w') := set_any s r _ 0 A a6 b.length c6 b w6 HST6.out.blk HST6.out.map HEL6.out HSZ.out
        generalize b.length = bn at *
        go_wp2_with fail
        refine Calls.mono HSET.out ?_
        rintro e w7 ⟨rfl, hM7, hk7⟩
        have HST7 : Hid (Sto w w7 f S3 l s r 0 (abat A b)) := HST6.out.keepR hk7 hM7
        have HSY7 : Hid (Sys w w7 f S3 [(l, lgC f nm z false)]) := HSY6.out.keepFree hk7 HST6.out.rr.1 HST6.out.rr.2
        have HGR7 : Hid (GrB f [] S S3 wi w7) := HGR6.out.fresh hk7 (by have := HRI.out; omega)
        have HRC7 : Hid (Recs w7 N4 (.slice (some ⟨g, 0, none⟩) n c5) xs H) := HRC6.out.keep hk7 HRN.out HH.out
        have HSH7 : Hid (Shows (abat A b) (thist (H.take (k + 1)))) := by
          show Shows _ _
          rw [HTH.out]
          exact (shows_bat HSH.out HST6.out.map.nodup).1
        clear hM7 hk7 HST6 HSY6 HGR6 HRC6 HEL6 HSET HSH HTH
        go_wp2_with fail
        go_roundw
        case rel => exact ⟨k + 1, abat A b, by omega, by go_num, HST7.out, HSH7.out, HSY7.out, HGR7.out, HRC7.out⟩
        case measure => simp [intOf]; omega
      · obtain rfl : k = n := by omega
        have e2 : ¬ (k : Int) < (k : Int) := by omega
        rw [List.take_of_length_le (by rw [HN.out.1]; exact Nat.le_refl _)] at HSH
        go_wp2_with fail
        subst hQ
        rw [hops_ret]
        go_ret2
        exact .inl ⟨rfl, s, l, r, A, S3, rfl, HA3.out, HSY.out, HST.out, HSH.out, by have h1 := HRI.out; have h2 := HL.out; omega, HGR.out⟩
  · have HA3 : Hid (S3.abs = A') := hA3
    have HS3 : Hid (Sys w w3 f S3 []) := hS3
    have HG3 : Hid (GrB f [] S S3 wi w3) := (GrB.of_below HB2.out).trans hG3
    have hz2 : (E != 0) = true := bne_iff_ne.2 hE
    have HNE : Hid (E ≠ 0) := hE
    clear hA3 hS3 hG3 hE HRR HWO HM2 HS2 HB2
    go_wp2_with fail
    go_step3
    simp only [Exit.then]
    subst hQ
    rw [hops_goto]
    refine ⟨_, rfl, ?_⟩
    go_hide hQ
    go_wp2_with fail
    subst hQ
    rw [hops_ret]
    go_ret2
    exact .inr ⟨HNE.out, rfl, S3, HA3.out, HS3.out, HG3.out⟩
end Go.Proofs.YtlapnnkahijikaaGreatDoor
