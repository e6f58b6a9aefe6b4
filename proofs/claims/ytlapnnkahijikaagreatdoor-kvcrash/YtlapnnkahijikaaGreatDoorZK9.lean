/- kv: (*Store).Compact. -/
import Derived.Test.YtlapnnkahijikaaGreatDoorZK5
import Derived.Test.YtlapnnkahijikaaGreatDoorZK6
import Derived.Test.YtlapnnkahijikaaGreatDoorZK8
import Derived.Test.YtlapnnkahijikaaGreatDoorZW3
namespace Go.Proofs.YtlapnnkahijikaaGreatDoor
open Go.ChangeShapes Go.WideShapes Go.ChangeAt Go.RowKit Go.Lib

theorem packR_small {T : List Pr} (hb : (prsB T).length ≤ 1048000) : (packR T).length ≤ 1 ∧ (frs (packR T)).length ≤ 1100000 ∧ ∀ r ∈ packR T, r.length ≤ 1048576 := by
  unfold packR
  have h1 := batB_le T
  split
  · exact ⟨by simp, by simp [frs], fun r hr => by cases hr⟩
  · refine ⟨by simp, ?_, fun r hr => ?_⟩
    · rw [frs_one]; have := frB_le (batB T); omega
    · simp only [List.mem_singleton] at hr; rw [hr]; omega
theorem els_of_own {w : World} {N : Nat} {v : Value} {l : List Pr} (h : OwnP w N v l) : ∃ a c, v = .slice a l.length c ∧ Els w a l.length c l := h.els
set_option maxRecDepth 100000 in
set_option maxHeartbeats 4000000 in
theorem compact_any {w wi : World} {f : Nat} {S : FS} {q : Nat} (hK : Kw w) (l : Nat) (nm : ByteArray) (size : Nat) (dead : Bool) (h : Sys w wi f S [(l, lgC f nm size dead)]) (s r : Nat) (m : Int) (A : List (ByteArray × Pr)) (T : List Pr) (hs : Sto w wi f S l s r m A) (hT : Shows A T) (hOK : S.abs.OK q) (hq : q ≤ 4611686018427387000) (hnm : nm.size ≤ 40) (hm0 : 0 ≤ m) (hm : m ≤ 1000000000000)
    (hA : A.length ≤ 1000) (hz : ∀ p ∈ A, p.1.size ≤ 1000000) (hz2 : ∀ p ∈ T, p.k.size ≤ 1000000 ∧ p.v.size ≤ 1000000) (hb : (prsB T).length ≤ 1048000) :
    Calls Tryz.prog 15 #[.pointer (some ⟨s, 0, none⟩)] wi fun e w' => ∃ S', S'.abs = rsA S.abs dead nm (packR T) ∧ Sys w w' f S' [(l, lgC f nm (rsZ S.abs size dead nm (packR T)) (rsD S.abs dead nm (packR T)))] ∧ e = .returned (.int .i64 (rsE S.abs dead nm (packR T))) ∧ GrB f [l, s] S S' wi w' ∧
      Sto w w' f S' l s r (if rsE S.abs dead nm (packR T) = 0 then m + 1 else m) A := by
  have HTL : Hid (T.length ≤ 1000) := show _ ≤ _ by rw [hT.perm.length_eq, List.length_map]; exact hA
  have HALL : Hid (Calls Tryz.prog 25 #[.pointer (some ⟨s, 0, none⟩)] wi fun e w' => ∃ v, e = .returned v ∧ OwnP w' wi.heap.size v T ∧ Below wi.heap.size wi w') := all_any s r _ m A T wi hs.blk hs.map hT hz (by omega)
  have HPK : Hid (∀ (a : Option Addr) (c : Nat) (wj : World), Els wj a T.length c T → Calls Tryz.prog 37 #[.slice a T.length c] wj fun e w' => ∃ v, e = .returned v ∧ RowsB w' v (packR T) ∧ (∀ k, v.ownBlock = some k → wj.heap.size ≤ k) ∧ Below wj.heap.size wj w') := fun a c wj he => packed_any a T.length c T wj he (fun p hp => ⟨(hz2 p hp).1, (hz2 p hp).2, hT.up.2 p hp⟩) HTL.out hb
  have hps := packR_small hb
  have HRS : Hid (∀ (v : Value) (wj : World), Below wi.heap.size wi wj → RowsB wj v (packR T) → Calls Tryz.prog 36 #[.pointer (some ⟨l, 0, none⟩), v] wj fun e w' => e = .returned (.int .i64 (rsE S.abs dead nm (packR T))) ∧ Step w wj f S [l] (rsA S.abs dead nm (packR T)) [(l, lgC f nm (rsZ S.abs size dead nm (packR T)) (rsD S.abs dead nm (packR T)))] w') :=
    fun v wj hbj hv => lreset_any hK l nm size dead (h.below hbj) hOK hq hnm v (packR T) hv (by omega) (by omega)
  have HS : Hid (Sto w wi f S l s r m A) := hs
  clear hb hz hz2 hOK h hs hT hps
  generalize rsE S.abs dead nm (packR T) = E at *
  generalize rsA S.abs dead nm (packR T) = A' at *
  generalize rsZ S.abs size dead nm (packR T) = Z at *
  generalize rsD S.abs dead nm (packR T) = D at *
  go_enter Tryz.func15, Tryz.ntmps15
  go_wp2_with fail
  refine wp_scope_hops 1 ?_
  go_hide hQ
  go_wp2_with fail
  refine Calls.mono (kept_any s r _ m _ HS.out.blk) ?_
  rintro e w1 ⟨rfl, rfl⟩
  go_wp2_with fail
  refine Calls.mono HALL.out ?_
  rintro e w2 ⟨v2, rfl, ho2, hb2⟩
  have HB2 : Hid (Below w1.heap.size w1 w2) := hb2
  obtain ⟨a2, c2, hv2, hel2⟩ := els_of_own ho2
  subst hv2
  have HPK2 : Hid _ := HPK.out a2 c2 w2 hel2
  clear ho2 hb2 hel2 HPK HALL
  generalize T.length = tn at *
  go_wp2_with fail
  refine Calls.mono HPK2.out ?_
  rintro e w3 ⟨v3, rfl, hr3, _, hb3⟩
  have HB3 : Hid (Below w1.heap.size w1 w3) := HB2.out.trans (hb3.mono HB2.out.size)
  obtain ⟨a3, c3, hv3⟩ := hr3.shape
  subst hv3
  have HN : Hid _ := HRS.out _ w3 HB3.out hr3
  clear hr3 hb3 HB2 HPK2 HRS
  generalize (packR T).length = pn at *
  go_wp2_with fail
  refine Calls.mono HN.out ?_
  rintro e w4 ⟨rfl, S4, hA4, hs4, hg4⟩
  have HA4 : Hid (S4.abs = A') := hA4
  have HS4 : Hid (Sys w w4 f S4 [(l, lgC f nm Z D)]) := hs4
  have HG4 : Hid (GrB f [l] S S4 w1 w4) := (GrB.of_below HB3.out).trans hg4
  clear hA4 hs4 hg4 HN HB3
  have HST4 : Hid (Sto w w4 f S4 l s r m A) := HS.out.step HG4.out
  by_cases hE : E = 0
  · subst hE
    have s2 : w4.cell? ⟨s, 2, none⟩ = some (.int .i64 m) := HST4.out.blk.one rfl
    have f2 : w4.frozen? ⟨s, 2, none⟩ = false := HST4.out.blk.frozen 2
    go_wp2_with fail
    generalize hw6 : World.setCell w4 _ _ = w6
    have HK6 : Hid (Keep s w4 w6) := by rw [← hw6]; exact Keep.of_setCell _ _ _
    have HB6 : Hid (Blk w6 s (stC (some ⟨l, 0, none⟩) r (m + 1))) := by rw [← hw6]; exact HST4.out.blk.set 2 _
    clear hw6 s2 f2
    have HST6 : Hid (Sto w w6 f S4 l s r (m + 1) A) := HST4.out.keepS HK6.out HB6.out
    have HS6 : Hid (Sys w w6 f S4 [(l, lgC f nm Z D)]) := HS4.out.keepFree HK6.out HST4.out.ss.1 HST4.out.ss.2
    have HG6 : Hid (GrB f [l, s] S S4 w1 w6) := (HG4.out.wider (fun k hk => by simp at hk; simp [hk])).trans (GrB.of_keep HK6.out (by simp))
    clear HK6 HB6 HS4 HST4 HG4
    go_step3
    go_wp2_with fail
    subst hQ
    rw [hops_ret]
    go_ret
    exact ⟨S4, HA4.out, HS6.out, rfl, HG6.out, by rw [if_pos rfl]; exact HST6.out⟩
  · have hz2 : (E != 0) = true := bne_iff_ne.2 hE
    have HNE : Hid (E ≠ 0) := hE
    clear hE
    go_wp2_with fail
    go_step3
    simp only [Exit.then]
    subst hQ
    rw [hops_goto]
    refine ⟨_, rfl, ?_⟩
    go_hide hQ
    go_wp2_with fail
    subst hQ
    rw [hops_ret]
    go_ret
    exact ⟨S4, HA4.out, HS4.out, rfl, HG4.out.wider (fun k hk => by simp at hk; simp [hk]), by rw [if_neg HNE.out]; exact HST4.out⟩
set_option maxRecDepth 100000 in
set_option maxHeartbeats 4000000 in
theorem kreset_nil (v : Value) (w : World) (h : RowsB w v []) :
    Calls Tryz.prog 36 #[.pointer none, v] w fun e w' => e = .returned (.int .i64 7) ∧ w' = w := by
  have HA : Hid (Calls Tryz.prog 56 #[.pointer none, v] w fun e w' => e = .returned (.int .i64 7) ∧ w' = w) := ask_any none true _ [] w h (by simp) (dead_nil w)
  obtain ⟨a, c, hv⟩ := h.shape
  subst hv
  clear h
  go_enter Tryz.func36, Tryz.ntmps36
  go_wp2_with fail
  refine wp_scope_hops 1 ?_
  go_hide hQ
  go_wp2_with fail
  refine Calls.mono HA.out ?_
  rintro e w2 ⟨rfl, rfl⟩
  go_wp2_with fail
  go_step3
  simp only [Exit.then]
  subst hQ
  rw [hops_goto]
  refine ⟨_, rfl, ?_⟩
  go_hide hQ
  go_wp2_with fail
  subst hQ
  rw [hops_ret]
  go_ret
  exact ⟨rfl, rfl⟩
set_option maxRecDepth 100000 in
set_option maxHeartbeats 2000000 in
theorem compact_nil (w : World) :
    Calls Tryz.prog 15 #[.pointer none] w fun e w' => e = .returned (.int .i64 7) ∧ Below w.heap.size w w' := by
  have HP : Hid (Calls Tryz.prog 37 #[.slice none 0 0] w fun e w' => ∃ v, e = .returned v ∧ RowsB w' v (packR []) ∧ (∀ k, v.ownBlock = some k → w.heap.size ≤ k) ∧ Below w.heap.size w w') := packed_any none 0 0 [] w (Els.nil w) (fun p hp => by cases hp) (by omega) (by simp [prsB])
  go_enter Tryz.func15, Tryz.ntmps15
  go_wp2_with fail
  refine wp_scope_hops 1 ?_
  go_hide hQ
  go_wp2_with fail
  refine Calls.mono (kept_nil _) ?_
  rintro e w1 ⟨rfl, rfl⟩
  go_wp2_with fail
  refine Calls.mono (all_nil _) ?_
  rintro e w2 ⟨rfl, rfl⟩
  go_wp2_with fail
  refine Calls.mono HP.out ?_
  rintro e w3 ⟨v3, rfl, hr3, _, hb3⟩
  obtain ⟨a3, c3, hv3⟩ := hr3.shape
  have HR : Hid (RowsB w3 (.slice a3 0 c3) []) := by rw [hv3] at hr3; exact hr3
  have hv3' : v3 = .slice a3 0 c3 := hv3
  subst hv3'
  have HB3 : Hid (Below w2.heap.size w2 w3) := hb3
  clear hr3 hb3 hv3
  have HN : Hid (Calls Tryz.prog 36 #[.pointer none, .slice a3 0 c3] w3 fun e w' => e = .returned (.int .i64 7) ∧ w' = w3) := kreset_nil _ w3 HR.out
  go_wp2_with fail
  refine Calls.mono HN.out ?_
  rintro e w4 ⟨rfl, rfl⟩
  go_wp2_with fail
  go_step3
  simp only [Exit.then]
  subst hQ
  rw [hops_goto]
  refine ⟨_, rfl, ?_⟩
  go_hide hQ
  go_wp2_with fail
  subst hQ
  rw [hops_ret]
  go_ret
  exact ⟨rfl, HB3.out⟩
end Go.Proofs.YtlapnnkahijikaaGreatDoor
