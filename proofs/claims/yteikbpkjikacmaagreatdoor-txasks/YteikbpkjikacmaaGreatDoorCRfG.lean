/- The document's own body, Encode. -/
import Derived.Test.YteikbpkjikacmaaGreatDoorCRfE
import Derived.Test.YteikbpkjikacmaaGreatDoorCRfF
namespace Go.Proofs.YteikbpkjikacmaaGreatDoor
open Go.ChangeShapes Go.WideShapes Go.ChangeAt Go.RowKit

theorem ptB_len (p : Pt) : (ptB p).length ≤ 41 := by
  unfold ptB; rw [List.length_append, p.len]; have := numB_length p.n; omega
theorem scrB_len (s : Scr) : (scrB s).length ≤ 86 := by
  unfold scrB; rw [List.length_append, s.len]
  have := nums_length [s.kind, s.key, s.other, s.rev, s.delay, s.expiry]
  simp only [List.length_cons, List.length_nil] at this
  omega
theorem inB_eq (bk : List (BitVec 8)) (x : In) : bk ++ ptB x.prev ++ numB x.seq = bk ++ inB x := by unfold inB; rw [List.append_assoc]
theorem outB_eq (bk : List (BitVec 8)) (x : Out) : bk ++ numB x.value ++ scrB x.scr = bk ++ outB x := by unfold outB; rw [List.append_assoc]
theorem witB_eq (bk : List (BitVec 8)) (x : In) : bk ++ numB x.kind ++ numB x.key ++ (numB x.pre.size ++ strB x.pre) = bk ++ witB x := by
  unfold witB; simp [nums, List.append_assoc]
set_option maxRecDepth 100000 in
set_option maxHeartbeats 8000000 in
theorem rbody_any (tv : TxV) (t : TxD) (w : World) (hT : TxAt w tv t) (hn : tv.n ≤ 100) (hm : tv.m ≤ 100) :
    Calls Tryz.prog 28 #[tv.val t.lock] w fun e w' => ∃ v, e = .returned v ∧ OwnB w' w.heap.size v (bodyB t) ∧ Below w.heap.size w w' := by
  have HMO := follows_mixed
  have HUS : Hid (_ = _) := Tryz.underlying54
  have HLI : Hid (t.ins.length = tv.n) := hT.ins.len
  have HLO : Hid (t.outs.length = tv.m) := hT.outs.len
  have HIN : Hid (Els w tv.a tv.n tv.c t.ins ∧ Els w tv.b tv.m tv.d t.outs) := ⟨hT.ins, hT.outs⟩
  have HBB : Hid (bodyB t = numB tv.n ++ t.ins.flatMap inB ++ numB tv.m ++ t.outs.flatMap outB ++ numB t.lock) := show _ = _ by unfold bodyB; rw [hT.ins.len, hT.outs.len]
  clear hT
  generalize bodyB t = BB at *
  obtain ⟨ins, outs, lock⟩ := t
  obtain ⟨a, n, c, b, m, d⟩ := tv
  unfold TxV.val
  simp only at *
  go_enter Tryz.func28, Tryz.ntmps28
  go_upto_region 1 with fail
  generalize hwv : World.alloc w _ = w1
  have HB0 : Hid (Blk w1 w.heap.size [.slice a n c, .slice b m d, .int .i64 lock]) := by rw [← hwv]; exact Blk.mk _ _ _ rfl rfl
  have HBL : Hid (Below w.heap.size w w1) := by rw [← hwv]; exact (Below.refl _ _).alloc (Nat.le_refl _) _
  clear hwv
  have HE1 : Hid (Els w1 a n c ins ∧ Els w1 b m d outs) := ⟨HIN.out.1.below HBL.out, HIN.out.2.below HBL.out⟩
  clear HIN
  generalize hN : w.heap.size = N at *
  have hs1 := HB0.out.lt
  have HS : Hid (∀ w', Below w1.heap.size w1 w' → w'.cell? ⟨N, 0, none⟩ = some (.slice a n c) ∧ w'.cell? ⟨N, 1, none⟩ = some (.slice b m d) ∧ w'.cell? ⟨N, 2, none⟩ = some (.int .i64 lock)) := fun w' h => ⟨(HB0.out.below h hs1).one rfl, (HB0.out.below h hs1).one rfl, (HB0.out.below h hs1).one rfl⟩
  clear HB0
  obtain ⟨c0, c1, c2⟩ := HS.out w1 (Below.refl _ _)
  go_wp2_with fail
  refine (rputb_any _ _).mono ?_
  rintro e w2 ⟨v2, rfl, ho2, hb2⟩
  have HO2 : Hid (OwnB w2 w1.heap.size v2 (numB n)) := ho2
  have HB2 : Hid (Below w1.heap.size w1 w2) := hb2
  obtain ⟨a2, n2, cap2, rfl⟩ := ho2.any
  clear ho2 hb2 c0 c1 c2
  go_wp2_with fail
  go_loopw [3, 4] (fun v i wr => ∃ k : Nat, k ≤ n ∧ i = .int .i64 k ∧ Hid (OwnB wr w1.heap.size v (numB n ++ (ins.take k).flatMap inB)) ∧ Hid (Below w1.heap.size w1 wr)) (fun _ i _ => n - (intOf i).toNat)
  case atStart => exact ⟨0, by omega, rfl, by rw [List.take_zero, List.flatMap_nil, List.append_nil]; exact HO2.out, HB2.out⟩
  case round =>
    obtain ⟨k, hk, rfl, HOW, HBR⟩ := hrel
    have hszr := HBR.out.size
    obtain ⟨va, vn, vc, rfl⟩ := HOW.out.any
    have c0 : wr.cell? ⟨N, 0, none⟩ = some (.slice a n c) := (HS.out _ HBR.out).1
    have hlen : (numB n ++ (ins.take k).flatMap inB).length ≤ 10000 := by
      have h1 := flatMap_length inB 50 inB_length (ins.take k)
      have h2 := numB_length (n : Int)
      rw [List.length_append]; rw [List.length_take] at h1; omega
    by_cases hlt : k < n
    · have e0 : (0 : Int) ≤ (k : Int) := by omega
      have e1 : (k : Int) < (n : Int) := by omega
      have HNX : Hid (numB n ++ (ins.take (k + 1)).flatMap inB = numB n ++ (ins.take k).flatMap inB ++ inB (ins.getD k default)) := by
        show _ = _
        rw [flatMap_next inB default ins k (by rw [HLI.out]; exact hlt), List.append_assoc]
      obtain ⟨bb, o, rfl, hc⟩ := HE1.out.1.at k hlt
      obtain ⟨x, hx⟩ : ∃ x, x = ins.getD k default := ⟨_, rfl⟩
      change w1.rangeAt bb (o + k * 37) (In.cs (ins.getD k default)) at hc
      rw [← hx] at hc HNX
      have HS2 : Hid (∀ w', Below w1.heap.size w1 w' → w'.cell? ⟨N, 0, none⟩ = some (.slice (some ⟨bb, o, none⟩) n c) ∧ w'.rangeAt bb (o + k * 37) x.prev.cs ∧ w'.cell? ⟨bb, o + k * 37 + 33, none⟩ = some (.int .i64 x.seq)) := fun w' h => ⟨(HS.out _ h).1, In.prev_at (rangeAt_below hc h (Nat.le_refl _)), rangeAt_below hc h (Nat.le_refl _) 33 _ x.seq_at⟩
      clear hc hx
      generalize numB n ++ (ins.take k).flatMap inB = bk at *
      have u26 := und_pt.out
      have ix := size_pt x.prev
      have hp9 := numB_length x.seq
      have hp8 := ptB_len x.prev
      go_wp2_with fail
      clear c0
      refine wp_region_noPanic ?_
      refine wp_region_held_drew (S := fun w' => w'.cell? ⟨N, 0, none⟩ = some (.slice (some ⟨bb, o, none⟩) n c) ∧ w'.rangeAt bb (o + k * 37) x.prev.cs ∧ w'.cell? ⟨bb, o + k * 37 + 33, none⟩ = some (.int .i64 x.seq)) HMO.out (HS2.out _ HBR.out.drew) (fun hHeld => ?_)
      refine wpAnyH_take (i := 0) (oi := { dst := some 17, op := .move (.tmp 3), type := 26, pos := "forms.go:495", after := #[], guard := none }) (v := ?_) rfl (by kernel_rfl) (by kernel_rfl) (by kernel_rfl) (fun _ _ _ h => h) (Or.inl ⟨by rfl, ?_⟩) (by assumption) ?_
      rotate_left
      · intro _ _; go_simp; first | done | with_reducible rfl
      simp only [Act.put, List.setIfInBounds_toArray, List.set_cons_zero, List.set_cons_succ]
      refine wpAnyH_take (i := 1) (oi := { dst := some 18, op := .fieldAddr 25 (.tmp 1) 0, type := 0, pos := "forms.go:495", after := #[], guard := none }) (v := ?_) rfl (by kernel_rfl) (by kernel_rfl) (by kernel_rfl) (fun _ _ _ h => h) (Or.inl ⟨by rfl, ?_⟩) (by assumption) ?_
      rotate_left
      · intro _ _; go_simp; first | done | with_reducible rfl
      simp only [Act.put, List.setIfInBounds_toArray, List.set_cons_zero, List.set_cons_succ]
      refine wpAnyH_take (i := 2) (oi := { dst := some 19, op := .load 22 (.tmp 18), type := 22, pos := "forms.go:495", after := #[{ on := 1, ground := .data }], guard := none }) (v := ?_) rfl (by kernel_rfl) (by kernel_rfl) (by kernel_rfl) (fun _ _ _ h => h) (Or.inl ⟨by rfl, ?_⟩) (by assumption) ?_
      rotate_left
      · intro _ _; go_simp; first | done | with_reducible rfl
      simp only [Act.put, List.setIfInBounds_toArray, List.set_cons_zero, List.set_cons_succ]
      refine wpAnyH_take (i := 3) (oi := { dst := some 20, op := .move (.tmp 4), type := 3, pos := "forms.go:495", after := #[], guard := none }) (v := ?_) rfl (by kernel_rfl) (by kernel_rfl) (by kernel_rfl) (fun _ _ _ h => h) (Or.inl ⟨by rfl, ?_⟩) (by assumption) ?_
      rotate_left
      · intro _ _; go_simp; first | done | with_reducible rfl
      simp only [Act.put, List.setIfInBounds_toArray, List.set_cons_zero, List.set_cons_succ]
      refine wpAnyH_take (i := 4) (oi := { dst := some 21, op := .indexAddr 22 (.tmp 19) (.tmp 20), type := 0, pos := "forms.go:495", after := #[{ on := 2, ground := .data }, { on := 3, ground := .data }], guard := none }) (v := ?_) rfl (by kernel_rfl) (by kernel_rfl) (by kernel_rfl) (fun _ _ _ h => h) (Or.inl ⟨by rfl, ?_⟩) (by assumption) ?_
      rotate_left
      · intro _ _; go_simp; first | done | with_reducible rfl
      simp only [Act.put, List.setIfInBounds_toArray, List.set_cons_zero, List.set_cons_succ]
      refine wpAnyH_take (i := 5) (oi := { dst := some 22, op := .fieldAddr 52 (.tmp 21) 0, type := 0, pos := "forms.go:495", after := #[{ on := 4, ground := .data }], guard := none }) (v := ?_) rfl (by kernel_rfl) (by kernel_rfl) (by kernel_rfl) (fun _ _ _ h => h) (Or.inl ⟨by rfl, ?_⟩) (by assumption) ?_
      rotate_left
      · intro _ _; go_simp; first | done | with_reducible rfl
      simp only [Act.put, List.setIfInBounds_toArray, List.set_cons_zero, List.set_cons_succ]
      refine wpAnyH_take (i := 6) (oi := { dst := some 23, op := .load 30 (.tmp 22), type := 30, pos := "forms.go:495", after := #[{ on := 5, ground := .data }], guard := none }) (v := _) rfl (by kernel_rfl) (by kernel_rfl) (by kernel_rfl) (fun _ _ _ h => h) (yieldsIf_load_mid (by rfl) _ _ rfl (bb) (o + k * 37) rfl (x.prev.cs) _ (fun _ h => h.2.1) (u26) rfl (ix)) (by assumption) ?_
      simp only [Act.put, List.setIfInBounds_toArray, List.set_cons_zero, List.set_cons_succ]
      refine wpAnyH_take (i := 9) (oi := { dst := some 26, op := .fieldAddr 25 (.tmp 1) 0, type := 0, pos := "forms.go:495", after := #[], guard := none }) (v := ?_) rfl (by kernel_rfl) (by kernel_rfl) (by kernel_rfl) (fun _ _ _ h => h) (Or.inl ⟨by rfl, ?_⟩) (by assumption) ?_
      rotate_left
      · intro _ _; go_simp; first | done | with_reducible rfl
      simp only [Act.put, List.setIfInBounds_toArray, List.set_cons_zero, List.set_cons_succ]
      refine wpAnyH_take (i := 10) (oi := { dst := some 27, op := .load 22 (.tmp 26), type := 22, pos := "forms.go:495", after := #[{ on := 9, ground := .data }], guard := none }) (v := ?_) rfl (by kernel_rfl) (by kernel_rfl) (by kernel_rfl) (fun _ _ _ h => h) (Or.inl ⟨by rfl, ?_⟩) (by assumption) ?_
      rotate_left
      · intro _ _; go_simp; first | done | with_reducible rfl
      simp only [Act.put, List.setIfInBounds_toArray, List.set_cons_zero, List.set_cons_succ]
      refine wpAnyH_take (i := 11) (oi := { dst := some 28, op := .move (.tmp 4), type := 3, pos := "forms.go:495", after := #[], guard := none }) (v := ?_) rfl (by kernel_rfl) (by kernel_rfl) (by kernel_rfl) (fun _ _ _ h => h) (Or.inl ⟨by rfl, ?_⟩) (by assumption) ?_
      rotate_left
      · intro _ _; go_simp; first | done | with_reducible rfl
      simp only [Act.put, List.setIfInBounds_toArray, List.set_cons_zero, List.set_cons_succ]
      refine wpAnyH_take (i := 12) (oi := { dst := some 29, op := .indexAddr 22 (.tmp 27) (.tmp 28), type := 0, pos := "forms.go:495", after := #[{ on := 10, ground := .data }, { on := 11, ground := .data }], guard := none }) (v := ?_) rfl (by kernel_rfl) (by kernel_rfl) (by kernel_rfl) (fun _ _ _ h => h) (Or.inl ⟨by rfl, ?_⟩) (by assumption) ?_
      rotate_left
      · intro _ _; go_simp; first | done | with_reducible rfl
      simp only [Act.put, List.setIfInBounds_toArray, List.set_cons_zero, List.set_cons_succ]
      refine wpAnyH_take (i := 13) (oi := { dst := some 30, op := .fieldAddr 52 (.tmp 29) 1, type := 0, pos := "forms.go:495", after := #[{ on := 12, ground := .data }], guard := none }) (v := ?_) rfl (by kernel_rfl) (by kernel_rfl) (by kernel_rfl) (fun _ _ _ h => h) (Or.inl ⟨by rfl, ?_⟩) (by assumption) ?_
      rotate_left
      · intro _ _; go_simp; first | done | with_reducible rfl
      simp only [Act.put, List.setIfInBounds_toArray, List.set_cons_zero, List.set_cons_succ]
      refine wpAnyH_take (i := 14) (oi := { dst := some 31, op := .load 3 (.tmp 30), type := 3, pos := "forms.go:495", after := #[{ on := 13, ground := .data }], guard := none }) (v := ?_) rfl (by kernel_rfl) (by kernel_rfl) (by kernel_rfl) (fun _ _ _ h => h) (Or.inl ⟨by rfl, ?_⟩) (by assumption) ?_
      rotate_left
      · intro _ _; go_simp; first | done | with_reducible rfl
      simp only [Act.put, List.setIfInBounds_toArray, List.set_cons_zero, List.set_cons_succ]
      refine wpAnyH_ready (rs := [7]) (by kernel_rfl) (by simp) ?_
      refine AllReadyH.cons (o := { dst := some 24, op := .call { callee := .value (.func 57), args := #[.tmp 23], argTypes := #[30] }, type := 26, pos := "forms.go:495", after := #[{ on := 6, ground := .data }], guard := none }) rfl (fun K hK => ?_) AllReadyH.nil
      go_simp
      refine (rpointb_any x.prev _).mono ?_; rintro e w3 ⟨pv, rfl, ho3, hb3⟩; have HO3 : Hid (OwnB w3 wr.heap.size pv (ptB x.prev)) := ho3; have HOW3 : Hid (OwnB w3 w1.heap.size (.slice va vn vc) bk) := HOW.out.below (undrewR hb3); have g3 : Below wr.heap.size wr w3 := undrewR hb3; have h3 : Below w1.heap.size w1 w3 := HBR.out.trans (g3.mono hszr); clear ho3 hb3
      go_simp
      refine hK.out _ _ (HS2.out _ h3) (fun hHeld => ?_)
      clear hK K
      refine wpAnyH_ready (rs := [8]) (by kernel_rfl) (by simp) ?_
      refine AllReadyH.cons (o := { dst := some 25, op := .call { callee := .builtin Go.Builtin.append, args := #[.tmp 17, .tmp 24], argTypes := #[26, 26] }, type := 26, pos := "forms.go:495", after := #[{ on := 0, ground := .data }, { on := 7, ground := .data }, { on := 7, ground := .chain }], guard := none }) rfl (fun K hK => ?_) AllReadyH.nil
      refine step_append_b rfl _ _ rfl w1.heap.size _ bk rfl HOW3.out pv (ptB x.prev) rfl HO3.out.src (by omega) h3.size ?_; intro v4 w4 HO4 HG4 HM4; obtain ⟨a4, n4, cap4, rfl⟩ := HO4.out.any; have h4 : Below w1.heap.size w1 w4 := h3.grown HG4.out h3.size fun k hk => (HOW3.out.lt k hk).1
      simp only [Act.put, List.setIfInBounds_toArray, List.set_cons_zero, List.set_cons_succ]
      refine hK.out _ _ (HS2.out _ h4) (fun hHeld => ?_)
      clear hK K
      refine wpAnyH_ready (rs := [15]) (by kernel_rfl) (by simp) ?_
      refine AllReadyH.cons (o := { dst := some 32, op := .call { callee := .value (.func 29), args := #[.tmp 31], argTypes := #[3] }, type := 26, pos := "forms.go:495", after := #[{ on := 14, ground := .data }, { on := 8, ground := .chain }], guard := none }) rfl (fun K hK => ?_) AllReadyH.nil
      go_simp
      refine (rputb_any x.seq _).mono ?_; rintro e w5 ⟨qv, rfl, ho5, hb5⟩; have HO5 : Hid (OwnB w5 w4.heap.size qv (numB x.seq)) := ho5; have HOW5 : Hid (OwnB w5 w1.heap.size (.slice a4 n4 cap4) (bk ++ ptB x.prev)) := HO4.out.below hb5; have h5 : Below w1.heap.size w1 w5 := h4.trans (hb5.mono h4.size); clear ho5 hb5
      go_simp
      refine hK.out _ _ (HS2.out _ h5) (fun hHeld => ?_)
      clear hK K
      refine wpAnyH_ready (rs := [16]) (by kernel_rfl) (by simp) ?_
      refine AllReadyH.cons (o := { dst := some 33, op := .call { callee := .builtin Go.Builtin.append, args := #[.tmp 25, .tmp 32], argTypes := #[26, 26] }, type := 26, pos := "forms.go:495", after := #[{ on := 8, ground := .data }, { on := 15, ground := .data }, { on := 15, ground := .chain }], guard := none }) rfl (fun K hK => ?_) AllReadyH.nil
      refine step_append_b rfl _ _ rfl w1.heap.size _ (bk ++ ptB x.prev) rfl HOW5.out qv (numB x.seq) rfl HO5.out.src (by rw [List.length_append]; omega) h5.size ?_; intro v6 w6 HO6 HG6 HM6; obtain ⟨a6, n6, cap6, rfl⟩ := HO6.out.any; have h6 : Below w1.heap.size w1 w6 := h5.grown HG6.out h5.size fun k hk => (HOW5.out.lt k hk).1
      simp only [Act.put, List.setIfInBounds_toArray, List.set_cons_zero, List.set_cons_succ]
      refine hK.out _ _ (HS2.out _ h6) (fun hHeld => ?_)
      clear hK K
      refine wpAnyH_take (i := 17) (oi := { dst := some 3, op := .assign (.tmp 33), type := 26, pos := "forms.go:495", after := #[{ on := 16, ground := .data }, { on := 16, ground := .chain }, { on := 0, ground := .phase }, { on := 1, ground := .phase }, { on := 2, ground := .phase }, { on := 3, ground := .phase }, { on := 4, ground := .phase }, { on := 5, ground := .phase }, { on := 6, ground := .phase }, { on := 7, ground := .phase }, { on := 8, ground := .phase }, { on := 9, ground := .phase }, { on := 10, ground := .phase }, { on := 11, ground := .phase }, { on := 12, ground := .phase }, { on := 13, ground := .phase }, { on := 14, ground := .phase }, { on := 15, ground := .phase }, { on := 16, ground := .phase }], guard := none }) (v := ?_) rfl (by kernel_rfl) (by kernel_rfl) (by kernel_rfl) (fun _ _ _ h => h) (Or.inl ⟨by rfl, ?_⟩) (by assumption) ?_
      rotate_left
      · intro _ _; go_simp; first | done | with_reducible rfl
      simp only [Act.put, List.setIfInBounds_toArray, List.set_cons_zero, List.set_cons_succ]
      refine wpAnyH_done (by kernel_rfl) ?_ _
      refine NoPanic.normal ?_
      clear hHeld u26 ix HS2
      have HO7 : Hid (OwnB w6 w1.heap.size (.slice a6 n6 cap6) (numB n ++ (ins.take (k + 1)).flatMap inB)) := by
        have := HO6.out
        rwa [inB_eq, ← HNX.out] at this
      have HB7 : Hid (Below w1.heap.size w1 w6) := h6
      clear HO6 HG6 HM6 h6 h5 h4 h3 g3 HO5 HOW5 HO4 HG4 HM4 HO3 HOW3 HOW HBR
      go_wp2_with fail
      go_roundw
      case rel => exact ⟨k + 1, by omega, by go_num, HO7.out, HB7.out⟩
      case measure => simp [intOf]; omega
    · obtain rfl : k = n := by omega
      have c1 : wr.cell? ⟨N, 1, none⟩ = some (.slice b m d) := (HS.out _ HBR.out).2.1
      have HBE : Hid (numB k ++ (ins.take k).flatMap inB = numB k ++ ins.flatMap inB) := by
        show _ = _
        rw [List.take_of_length_le (by rw [HLI.out]; exact Nat.le_refl _)]
      rw [HBE.out] at HOW hlen
      have HBB2 : Hid (BB = numB k ++ ins.flatMap inB ++ numB m ++ outs.flatMap outB ++ numB lock) := HBB.out
      clear HBE HBB
      generalize numB k ++ ins.flatMap inB = b1 at *
      go_wp2_with fail
      refine (rputb_any _ _).mono ?_
      rintro e w3 ⟨pv, rfl, ho3, hb3⟩
      have HO3 : Hid (OwnB w3 wr.heap.size pv (numB m)) := ho3
      have HOW3 : Hid (OwnB w3 w1.heap.size (.slice va vn vc) b1) := HOW.out.below hb3
      have HB3 : Hid (Below w1.heap.size w1 w3) := HBR.out.trans (hb3.mono hszr)
      have hs3 := HB3.out.size
      have hlm := numB_length (m : Int)
      obtain ⟨pa, pn, pc, rfl⟩ := ho3.any
      clear ho3 hb3 c0 c1 HOW HBR
      go_wp2_with (at_builtin; refine wpList_append_b rfl _ _ rfl w1.heap.size _ b1 rfl HOW3.out _ (numB m) rfl HO3.out.src (by omega) hs3 ?_; intro v4 w4 HO4 HG4 HM4; obtain ⟨a4, n4, cap4, rfl⟩ := HO4.out.any)
      have HB4 : Hid (Below w1.heap.size w1 w4) := HB3.out.grown HG4.out hs3 fun k hk => (HOW3.out.lt k hk).1
      have hlen2 : (b1 ++ numB m).length ≤ 10009 := by rw [List.length_append]; omega
      clear HG4 HM4 HOW3 HO3 HB3 hszr hlen hlm
      generalize b1 ++ numB m = b2 at *
      go_loopw [3, 5] (fun v i wr => ∃ k : Nat, k ≤ m ∧ i = .int .i64 k ∧ Hid (OwnB wr w1.heap.size v (b2 ++ (outs.take k).flatMap outB)) ∧ Hid (Below w1.heap.size w1 wr)) (fun _ i _ => m - (intOf i).toNat)
      case atStart => exact ⟨0, by omega, rfl, by rw [List.take_zero, List.flatMap_nil, List.append_nil]; exact HO4.out, HB4.out⟩
      case round =>
        obtain ⟨j, hj, rfl, HOW, HBR⟩ := hrel
        have hszr := HBR.out.size
        obtain ⟨va, vn, vc, rfl⟩ := HOW.out.any
        have c0 : wr.cell? ⟨N, 1, none⟩ = some (.slice b m d) := (HS.out _ HBR.out).2.1
        have hlen : (b2 ++ (outs.take j).flatMap outB).length ≤ 20009 := by
          have h1 := flatMap_length outB 95 outB_length (outs.take j)
          rw [List.length_append]; rw [List.length_take] at h1; omega
        by_cases hlt : j < m
        · have e0 : (0 : Int) ≤ (j : Int) := by omega
          have e1 : (j : Int) < (m : Int) := by omega
          have HNX : Hid (b2 ++ (outs.take (j + 1)).flatMap outB = b2 ++ (outs.take j).flatMap outB ++ outB (outs.getD j default)) := by
            show _ = _
            rw [flatMap_next outB default outs j (by rw [HLO.out]; exact hlt), List.append_assoc]
          obtain ⟨bb, o, rfl, hc⟩ := HE1.out.2.at j hlt
          obtain ⟨x, hx⟩ : ∃ x, x = outs.getD j default := ⟨_, rfl⟩
          change w1.rangeAt bb (o + j * 39) (Out.cs (outs.getD j default)) at hc
          rw [← hx] at hc HNX
          have HS2 : Hid (∀ w', Below w1.heap.size w1 w' → w'.cell? ⟨N, 1, none⟩ = some (.slice (some ⟨bb, o, none⟩) m d) ∧ w'.rangeAt bb (o + j * 39 + 1) x.scr.cs ∧ w'.cell? ⟨bb, o + j * 39, none⟩ = some (.int .i64 x.value)) := fun w' h => ⟨(HS.out _ h).2.1, Out.scr_at (rangeAt_below hc h (Nat.le_refl _)), by
            have := rangeAt_below hc h (Nat.le_refl _) 0 _ rfl
            simpa using this⟩
          clear hc hx
          generalize b2 ++ (outs.take j).flatMap outB = bk at *
          have ix := size_scr x.scr
          have hp9 := numB_length x.value
          have hp8 := scrB_len x.scr
          go_wp2_with fail
          clear c0
          refine wp_region_noPanic ?_
          refine wp_region_held_drew (S := fun w' => w'.cell? ⟨N, 1, none⟩ = some (.slice (some ⟨bb, o, none⟩) m d) ∧ w'.rangeAt bb (o + j * 39 + 1) x.scr.cs ∧ w'.cell? ⟨bb, o + j * 39, none⟩ = some (.int .i64 x.value)) HMO.out (HS2.out _ HBR.out.drew) (fun hHeld => ?_)
          refine wpAnyH_take (i := 0) (oi := { dst := some 47, op := .move (.tmp 3), type := 26, pos := "forms.go:499", after := #[], guard := none }) (v := ?_) rfl (by kernel_rfl) (by kernel_rfl) (by kernel_rfl) (fun _ _ _ h => h) (Or.inl ⟨by rfl, ?_⟩) (by assumption) ?_
          rotate_left
          · intro _ _; go_simp; first | done | with_reducible rfl
          simp only [Act.put, List.setIfInBounds_toArray, List.set_cons_zero, List.set_cons_succ]
          refine wpAnyH_take (i := 1) (oi := { dst := some 48, op := .fieldAddr 25 (.tmp 1) 1, type := 0, pos := "forms.go:499", after := #[], guard := none }) (v := ?_) rfl (by kernel_rfl) (by kernel_rfl) (by kernel_rfl) (fun _ _ _ h => h) (Or.inl ⟨by rfl, ?_⟩) (by assumption) ?_
          rotate_left
          · intro _ _; go_simp; first | done | with_reducible rfl
          simp only [Act.put, List.setIfInBounds_toArray, List.set_cons_zero, List.set_cons_succ]
          refine wpAnyH_take (i := 2) (oi := { dst := some 49, op := .load 23 (.tmp 48), type := 23, pos := "forms.go:499", after := #[{ on := 1, ground := .data }], guard := none }) (v := ?_) rfl (by kernel_rfl) (by kernel_rfl) (by kernel_rfl) (fun _ _ _ h => h) (Or.inl ⟨by rfl, ?_⟩) (by assumption) ?_
          rotate_left
          · intro _ _; go_simp; first | done | with_reducible rfl
          simp only [Act.put, List.setIfInBounds_toArray, List.set_cons_zero, List.set_cons_succ]
          refine wpAnyH_take (i := 3) (oi := { dst := some 50, op := .move (.tmp 5), type := 3, pos := "forms.go:499", after := #[], guard := none }) (v := ?_) rfl (by kernel_rfl) (by kernel_rfl) (by kernel_rfl) (fun _ _ _ h => h) (Or.inl ⟨by rfl, ?_⟩) (by assumption) ?_
          rotate_left
          · intro _ _; go_simp; first | done | with_reducible rfl
          simp only [Act.put, List.setIfInBounds_toArray, List.set_cons_zero, List.set_cons_succ]
          refine wpAnyH_take (i := 4) (oi := { dst := some 51, op := .indexAddr 23 (.tmp 49) (.tmp 50), type := 0, pos := "forms.go:499", after := #[{ on := 2, ground := .data }, { on := 3, ground := .data }], guard := none }) (v := ?_) rfl (by kernel_rfl) (by kernel_rfl) (by kernel_rfl) (fun _ _ _ h => h) (Or.inl ⟨by rfl, ?_⟩) (by assumption) ?_
          rotate_left
          · intro _ _; go_simp; first | done | with_reducible rfl
          simp only [Act.put, List.setIfInBounds_toArray, List.set_cons_zero, List.set_cons_succ]
          refine wpAnyH_take (i := 5) (oi := { dst := some 52, op := .fieldAddr 56 (.tmp 51) 0, type := 0, pos := "forms.go:499", after := #[{ on := 4, ground := .data }], guard := none }) (v := ?_) rfl (by kernel_rfl) (by kernel_rfl) (by kernel_rfl) (fun _ _ _ h => h) (Or.inl ⟨by rfl, ?_⟩) (by assumption) ?_
          rotate_left
          · intro _ _; go_simp; first | done | with_reducible rfl
          simp only [Act.put, List.setIfInBounds_toArray, List.set_cons_zero, List.set_cons_succ]
          refine wpAnyH_take (i := 6) (oi := { dst := some 53, op := .load 3 (.tmp 52), type := 3, pos := "forms.go:499", after := #[{ on := 5, ground := .data }], guard := none }) (v := ?_) rfl (by kernel_rfl) (by kernel_rfl) (by kernel_rfl) (fun _ _ _ h => h) (Or.inl ⟨by rfl, ?_⟩) (by assumption) ?_
          rotate_left
          · intro _ _; go_simp; first | done | with_reducible rfl
          simp only [Act.put, List.setIfInBounds_toArray, List.set_cons_zero, List.set_cons_succ]
          refine wpAnyH_take (i := 9) (oi := { dst := some 56, op := .fieldAddr 25 (.tmp 1) 1, type := 0, pos := "forms.go:499", after := #[], guard := none }) (v := ?_) rfl (by kernel_rfl) (by kernel_rfl) (by kernel_rfl) (fun _ _ _ h => h) (Or.inl ⟨by rfl, ?_⟩) (by assumption) ?_
          rotate_left
          · intro _ _; go_simp; first | done | with_reducible rfl
          simp only [Act.put, List.setIfInBounds_toArray, List.set_cons_zero, List.set_cons_succ]
          refine wpAnyH_take (i := 10) (oi := { dst := some 57, op := .load 23 (.tmp 56), type := 23, pos := "forms.go:499", after := #[{ on := 9, ground := .data }], guard := none }) (v := ?_) rfl (by kernel_rfl) (by kernel_rfl) (by kernel_rfl) (fun _ _ _ h => h) (Or.inl ⟨by rfl, ?_⟩) (by assumption) ?_
          rotate_left
          · intro _ _; go_simp; first | done | with_reducible rfl
          simp only [Act.put, List.setIfInBounds_toArray, List.set_cons_zero, List.set_cons_succ]
          refine wpAnyH_take (i := 11) (oi := { dst := some 58, op := .move (.tmp 5), type := 3, pos := "forms.go:499", after := #[], guard := none }) (v := ?_) rfl (by kernel_rfl) (by kernel_rfl) (by kernel_rfl) (fun _ _ _ h => h) (Or.inl ⟨by rfl, ?_⟩) (by assumption) ?_
          rotate_left
          · intro _ _; go_simp; first | done | with_reducible rfl
          simp only [Act.put, List.setIfInBounds_toArray, List.set_cons_zero, List.set_cons_succ]
          refine wpAnyH_take (i := 12) (oi := { dst := some 59, op := .indexAddr 23 (.tmp 57) (.tmp 58), type := 0, pos := "forms.go:499", after := #[{ on := 10, ground := .data }, { on := 11, ground := .data }], guard := none }) (v := ?_) rfl (by kernel_rfl) (by kernel_rfl) (by kernel_rfl) (fun _ _ _ h => h) (Or.inl ⟨by rfl, ?_⟩) (by assumption) ?_
          rotate_left
          · intro _ _; go_simp; first | done | with_reducible rfl
          simp only [Act.put, List.setIfInBounds_toArray, List.set_cons_zero, List.set_cons_succ]
          refine wpAnyH_take (i := 13) (oi := { dst := some 60, op := .fieldAddr 56 (.tmp 59) 1, type := 0, pos := "forms.go:499", after := #[{ on := 12, ground := .data }], guard := none }) (v := ?_) rfl (by kernel_rfl) (by kernel_rfl) (by kernel_rfl) (fun _ _ _ h => h) (Or.inl ⟨by rfl, ?_⟩) (by assumption) ?_
          rotate_left
          · intro _ _; go_simp; first | done | with_reducible rfl
          simp only [Act.put, List.setIfInBounds_toArray, List.set_cons_zero, List.set_cons_succ]
          refine wpAnyH_take (i := 14) (oi := { dst := some 61, op := .load 54 (.tmp 60), type := 54, pos := "forms.go:499", after := #[{ on := 13, ground := .data }], guard := none }) (v := _) rfl (by kernel_rfl) (by kernel_rfl) (by kernel_rfl) (fun _ _ _ h => h) (yieldsIf_load_mid (by rfl) _ _ rfl (bb) (o + j * 39 + 1) rfl (x.scr.cs) _ (fun _ h => h.2.1) (HUS.out) rfl (ix)) (by assumption) ?_
          simp only [Act.put, List.setIfInBounds_toArray, List.set_cons_zero, List.set_cons_succ]
          refine wpAnyH_ready (rs := [7]) (by kernel_rfl) (by simp) ?_
          refine AllReadyH.cons (o := { dst := some 54, op := .call { callee := .value (.func 29), args := #[.tmp 53], argTypes := #[3] }, type := 26, pos := "forms.go:499", after := #[{ on := 6, ground := .data }], guard := none }) rfl (fun K hK => ?_) AllReadyH.nil
          go_simp
          refine (rputb_any x.value _).mono ?_; rintro e w3 ⟨pv, rfl, ho3, hb3⟩; have HO3 : Hid (OwnB w3 wr.heap.size pv (numB x.value)) := ho3; have HOW3 : Hid (OwnB w3 w1.heap.size (.slice va vn vc) bk) := HOW.out.below (undrewR hb3); have h3 : Below w1.heap.size w1 w3 := HBR.out.trans ((undrewR hb3).mono hszr); clear ho3 hb3
          go_simp
          refine hK.out _ _ (HS2.out _ h3) (fun hHeld => ?_)
          clear hK K
          refine wpAnyH_ready (rs := [8]) (by kernel_rfl) (by simp) ?_
          refine AllReadyH.cons (o := { dst := some 55, op := .call { callee := .builtin Go.Builtin.append, args := #[.tmp 47, .tmp 54], argTypes := #[26, 26] }, type := 26, pos := "forms.go:499", after := #[{ on := 0, ground := .data }, { on := 7, ground := .data }, { on := 7, ground := .chain }], guard := none }) rfl (fun K hK => ?_) AllReadyH.nil
          refine step_append_b rfl _ _ rfl w1.heap.size _ bk rfl HOW3.out pv (numB x.value) rfl HO3.out.src (by omega) h3.size ?_; intro v4 w4 HO4 HG4 HM4; obtain ⟨a4, n4, cap4, rfl⟩ := HO4.out.any; have h4 : Below w1.heap.size w1 w4 := h3.grown HG4.out h3.size fun k hk => (HOW3.out.lt k hk).1
          simp only [Act.put, List.setIfInBounds_toArray, List.set_cons_zero, List.set_cons_succ]
          refine hK.out _ _ (HS2.out _ h4) (fun hHeld => ?_)
          clear hK K
          refine wpAnyH_ready (rs := [15]) (by kernel_rfl) (by simp) ?_
          refine AllReadyH.cons (o := { dst := some 62, op := .call { callee := .value (.func 58), args := #[.tmp 61], argTypes := #[54] }, type := 26, pos := "forms.go:499", after := #[{ on := 14, ground := .data }, { on := 8, ground := .chain }], guard := none }) rfl (fun K hK => ?_) AllReadyH.nil
          go_simp
          refine (rscriptb_any x.scr _).mono ?_; rintro e w5 ⟨qv, rfl, ho5, hb5⟩; have HO5 : Hid (OwnB w5 w4.heap.size qv (scrB x.scr)) := ho5; have HOW5 : Hid (OwnB w5 w1.heap.size (.slice a4 n4 cap4) (bk ++ numB x.value)) := HO4.out.below hb5; have h5 : Below w1.heap.size w1 w5 := h4.trans (hb5.mono h4.size); clear ho5 hb5
          go_simp
          refine hK.out _ _ (HS2.out _ h5) (fun hHeld => ?_)
          clear hK K
          refine wpAnyH_ready (rs := [16]) (by kernel_rfl) (by simp) ?_
          refine AllReadyH.cons (o := { dst := some 63, op := .call { callee := .builtin Go.Builtin.append, args := #[.tmp 55, .tmp 62], argTypes := #[26, 26] }, type := 26, pos := "forms.go:499", after := #[{ on := 8, ground := .data }, { on := 15, ground := .data }, { on := 15, ground := .chain }], guard := none }) rfl (fun K hK => ?_) AllReadyH.nil
          refine step_append_b rfl _ _ rfl w1.heap.size _ (bk ++ numB x.value) rfl HOW5.out qv (scrB x.scr) rfl HO5.out.src (by rw [List.length_append]; omega) h5.size ?_; intro v6 w6 HO6 HG6 HM6; obtain ⟨a6, n6, cap6, rfl⟩ := HO6.out.any; have h6 : Below w1.heap.size w1 w6 := h5.grown HG6.out h5.size fun k hk => (HOW5.out.lt k hk).1
          simp only [Act.put, List.setIfInBounds_toArray, List.set_cons_zero, List.set_cons_succ]
          refine hK.out _ _ (HS2.out _ h6) (fun hHeld => ?_)
          clear hK K
          refine wpAnyH_take (i := 17) (oi := { dst := some 3, op := .assign (.tmp 63), type := 26, pos := "forms.go:499", after := #[{ on := 16, ground := .data }, { on := 16, ground := .chain }, { on := 0, ground := .phase }, { on := 1, ground := .phase }, { on := 2, ground := .phase }, { on := 3, ground := .phase }, { on := 4, ground := .phase }, { on := 5, ground := .phase }, { on := 6, ground := .phase }, { on := 7, ground := .phase }, { on := 8, ground := .phase }, { on := 9, ground := .phase }, { on := 10, ground := .phase }, { on := 11, ground := .phase }, { on := 12, ground := .phase }, { on := 13, ground := .phase }, { on := 14, ground := .phase }, { on := 15, ground := .phase }, { on := 16, ground := .phase }], guard := none }) (v := ?_) rfl (by kernel_rfl) (by kernel_rfl) (by kernel_rfl) (fun _ _ _ h => h) (Or.inl ⟨by rfl, ?_⟩) (by assumption) ?_
          rotate_left
          · intro _ _; go_simp; first | done | with_reducible rfl
          simp only [Act.put, List.setIfInBounds_toArray, List.set_cons_zero, List.set_cons_succ]
          refine wpAnyH_done (by kernel_rfl) ?_ _
          refine NoPanic.normal ?_
          clear hHeld ix HS2
          have HO7 : Hid (OwnB w6 w1.heap.size (.slice a6 n6 cap6) (b2 ++ (outs.take (j + 1)).flatMap outB)) := by
            have := HO6.out
            rwa [outB_eq, ← HNX.out] at this
          have HB7 : Hid (Below w1.heap.size w1 w6) := h6
          clear HO6 HG6 HM6 h6 h5 h4 h3 HO5 HOW5 HO4 HG4 HM4 HO3 HOW3 HOW HBR
          go_wp2_with fail
          go_roundw
          case rel => exact ⟨j + 1, by omega, by go_num, HO7.out, HB7.out⟩
          case measure => simp [intOf]; omega
        · obtain rfl : j = m := by omega
          have c2 : wr.cell? ⟨N, 2, none⟩ = some (.int .i64 lock) := (HS.out _ HBR.out).2.2
          rw [List.take_of_length_le (by rw [HLO.out]; exact Nat.le_refl _)] at HOW hlen
          generalize b2 ++ outs.flatMap outB = b3 at *
          go_wp2_with fail
          refine (rputb_any _ _).mono ?_
          rintro e w3 ⟨pv, rfl, ho3, hb3⟩
          have HO3 : Hid (OwnB w3 wr.heap.size pv (numB lock)) := ho3
          have HOW3 : Hid (OwnB w3 w1.heap.size (.slice va vn vc) b3) := HOW.out.below hb3
          have HB3 : Hid (Below w1.heap.size w1 w3) := HBR.out.trans (hb3.mono hszr)
          have hs3 := HB3.out.size
          have hlm := numB_length lock
          obtain ⟨pa, pn, pc, rfl⟩ := ho3.any
          clear ho3 hb3 c0 c2 HOW HBR
          go_wp2_with (at_builtin; refine wpList_append_b rfl _ _ rfl w1.heap.size _ b3 rfl HOW3.out _ (numB lock) rfl HO3.out.src (by omega) hs3 ?_; intro v5 w5 HO5 HG5 HM5; obtain ⟨a5, n5, cap5, rfl⟩ := HO5.out.any)
          have HB5 : Hid (Below w1.heap.size w1 w5) := HB3.out.grown HG5.out hs3 fun k hk => (HOW3.out.lt k hk).1
          go_ret
          subst hN
          refine ⟨_, rfl, ?_, HBL.out.trans (HB5.out.mono (by omega))⟩
          rw [HBB2.out]
          exact HO5.out.less (by omega)
end Go.Proofs.YteikbpkjikacmaaGreatDoor
