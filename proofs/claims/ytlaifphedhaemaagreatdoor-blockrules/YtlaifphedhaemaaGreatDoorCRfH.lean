/- The document's own Encode, ID. -/
import Derived.Test.YtlaifphedhaemaaGreatDoorZRf
import Derived.Test.YtlaifphedhaemaaGreatDoorZR2
namespace Go.Proofs.YtlaifphedhaemaaGreatDoor
open Go.ChangeShapes Go.WideShapes Go.ChangeAt Go.RowKit

theorem Blk.grownBy {w w' : World} {row : Option Nat} {W : Nat} {cs : List Value} (h : Blk w W cs) (hg : w.grownBy w' row) (hne : row ≠ some W) : Blk w' W cs := by
  have hl := h.lt
  obtain ⟨t, hb⟩ := h
  exact ⟨t, by rw [hg.block W hl fun e => hne e.symm]; exact hb⟩
theorem Moved.ne {w : World} {v v' : Value} {W : Nat} (h : Moved w v v') (hv : v.ownBlock ≠ some W) (hW : W < w.heap.size) : v'.ownBlock ≠ some W := by
  rcases h with h | ⟨g, hg, h⟩
  · rw [h]; exact hv
  · rw [h]; intro e; injection e with e; omega
theorem chk_pre {t : TxD} (h : chkE t = 0) (k : Nat) (hk : k < t.ins.length) : (t.ins.getD k default).pre.size ≤ 64 := by
  have := List.all_eq_true.1 (chk_ins h) (t.ins.getD k default) (by rw [List.getD_eq_getElem?_getD, List.getElem?_eq_getElem hk]; exact List.getElem_mem hk)
  exact inOK_pre this
set_option maxRecDepth 100000 in
set_option maxHeartbeats 8000000 in
theorem rencode_any (tv : TxV) (t : TxD) (w : World) (hT : TxAt w tv t) :
    Calls Tryz.prog 34 #[tv.val t.lock] w fun e w' => ∃ v, e = .returned (.tuple #[v, .int .i64 (chkE t)]) ∧ OwnB w' w.heap.size v (encB t) ∧ Below w.heap.size w w' := by
  have HMO := follows_mixed
  have HT : Hid (TxAt w tv t) := hT
  obtain ⟨lk, hlk⟩ : ∃ z, z = t.lock := ⟨_, rfl⟩
  have HCHK : Hid (∀ w', TxAt w' tv t → Calls Tryz.prog 50 #[tv.val lk] w' fun e w'' => e = .returned (.int .i64 (chkE t)) ∧ Below w'.heap.size w' w'') := fun w' h => by rw [hlk]; exact rcheck_any tv t w' h
  have HBODY : Hid (∀ w', TxAt w' tv t → tv.n ≤ 100 → tv.m ≤ 100 → Calls Tryz.prog 61 #[tv.val lk] w' fun e w'' => ∃ v, e = .returned v ∧ OwnB w'' w'.heap.size v (bodyB t) ∧ Below w'.heap.size w' w'') := fun w' h h1 h2 => by rw [hlk]; exact rbody_any tv t w' h h1 h2
  rw [← hlk]
  clear hlk hT
  unfold TxV.val at *
  go_enter Tryz.func34, Tryz.ntmps34
  go_upto_region 1 with fail
  generalize hwv : World.alloc w _ = w1
  have HB0 : Hid (Blk w1 w.heap.size [.slice tv.a tv.n tv.c, .slice tv.b tv.m tv.d, .int .i64 lk]) := by rw [← hwv]; exact Blk.mk _ _ _ rfl rfl
  have HBL : Hid (Below w.heap.size w w1) := by rw [← hwv]; exact (Below.refl _ _).alloc (Nat.le_refl _) _
  clear hwv
  have HT1 : Hid (TxAt w1 tv t) := HT.out.below HBL.out
  clear HT
  generalize hN : w.heap.size = N at *
  have hs1 := HB0.out.lt
  have HS : Hid (∀ w', Below w1.heap.size w1 w' → w'.cell? ⟨N, 0, none⟩ = some (.slice tv.a tv.n tv.c) ∧ w'.cell? ⟨N, 1, none⟩ = some (.slice tv.b tv.m tv.d) ∧ w'.cell? ⟨N, 2, none⟩ = some (.int .i64 lk)) := fun w' h => ⟨(HB0.out.below h hs1).one rfl, (HB0.out.below h hs1).one rfl, (HB0.out.below h hs1).one rfl⟩
  clear HB0
  obtain ⟨c0, c1, c2⟩ := HS.out w1 (Below.refl _ _)
  go_wp2_with fail
  refine Calls.mono (HCHK.out w1 HT1.out) ?_
  rintro e w2 ⟨rfl, hb2⟩
  have HB2 : Hid (Below w1.heap.size w1 w2) := hb2
  have hs2 := hb2.size
  clear hb2 c0 c1 c2
  by_cases hz : chkE t = 0
  · have HENC : Hid (encB t = bodyB t ++ t.ins.flatMap witB) := show _ = _ from if_pos hz
    obtain ⟨hi, ho⟩ := chk_small hz
    have HLI : Hid (t.ins.length = tv.n) := HT1.out.ins.len
    have hn : tv.n ≤ 100 := by rw [← HLI.out]; exact hi
    have hm : tv.m ≤ 100 := by rw [← HT1.out.outs.len]; exact ho
    have HBLEN : Hid ((bodyB t).length ≤ 20000) := bodyB_length t hi ho
    have HPRE : Hid (∀ k, k < tv.n → (t.ins.getD k default).pre.size ≤ 64) := fun k hk => chk_pre hz k (by rw [HLI.out]; exact hk)
    have HIN : Hid (Els w1 tv.a tv.n tv.c t.ins) := HT1.out.ins
    have HBOD : Hid (Calls Tryz.prog 61 #[.agg #[.slice tv.a tv.n tv.c, .slice tv.b tv.m tv.d, .int .i64 lk]] w2 fun e w'' => ∃ v, e = .returned v ∧ OwnB w'' w2.heap.size v (bodyB t) ∧ Below w2.heap.size w2 w'') := HBODY.out w2 (HT1.out.below HB2.out) hn hm
    have HZ0 : Hid (chkE t = 0) := hz
    rw [hz]
    clear hz hi ho HBODY HCHK HT1
    generalize bodyB t = BB at *
    obtain ⟨ins, outs, lock⟩ := t
    obtain ⟨a, n, c, b, m, d⟩ := tv
    simp only at *
    obtain ⟨c0, c1, c2⟩ := HS.out w2 HB2.out
    go_wp2_with fail
    refine Calls.mono HBOD.out ?_
    rintro e w3 ⟨v3, rfl, ho3, hb3⟩
    have HO3 : Hid (OwnB w3 w1.heap.size v3 BB) := ho3.less hs2
    have HB3 : Hid (Below w1.heap.size w1 w3) := HB2.out.trans (hb3.mono hs2)
    obtain ⟨a3, n3, cap3, rfl⟩ := ho3.any
    clear ho3 hb3 c0 c1 c2 HBOD HB2
    go_wp2_with fail
    go_loopw [5, 6, 7] (fun v i _ wr => ∃ k : Nat, k ≤ n ∧ i = .int .i64 k ∧ Hid (OwnB wr w1.heap.size v (BB ++ (ins.take k).flatMap witB)) ∧ Hid (Below w1.heap.size w1 wr)) (fun _ i _ _ => n - (intOf i).toNat)
    case atStart => exact ⟨0, by omega, rfl, by rw [List.take_zero, List.flatMap_nil, List.append_nil]; exact HO3.out, HB3.out⟩
    case round =>
      obtain ⟨k, hk, rfl, HOW, HBR⟩ := hrel
      have hszr := HBR.out.size
      obtain ⟨va, vn, vc, rfl⟩ := HOW.out.any
      have c0 : wr.cell? ⟨N, 0, none⟩ = some (.slice a n c) := (HS.out _ HBR.out).1
      have hlen : (BB ++ (ins.take k).flatMap witB).length ≤ 40000 := by
        have h1 := flatMap_len witB 100 (ins.take k) fun x hx => witB_length x (by
          obtain ⟨j, hj, rfl⟩ := List.getElem_of_mem hx
          rw [List.length_take] at hj
          have := HPRE.out j (by omega)
          rw [List.getD_eq_getElem?_getD, List.getElem?_eq_getElem (show j < ins.length by omega)] at this
          rw [List.getElem_take]; exact this)
        have h2 := HBLEN.out
        rw [List.length_append]; rw [List.length_take] at h1; omega
      by_cases hlt : k < n
      · have e0 : (0 : Int) ≤ (k : Int) := by omega
        have e1 : (k : Int) < (n : Int) := by omega
        have HNX : Hid (BB ++ (ins.take (k + 1)).flatMap witB = BB ++ (ins.take k).flatMap witB ++ witB (ins.getD k default)) := by
          show _ = _
          rw [flatMap_next witB default ins k (by rw [HLI.out]; exact hlt), List.append_assoc]
        have hpre := HPRE.out k hlt
        obtain ⟨bb, o, rfl, hc⟩ := HIN.out.at k hlt
        obtain ⟨x, hx⟩ : ∃ x, x = ins.getD k default := ⟨_, rfl⟩
        change w1.rangeAt bb (o + k * 37) (In.cs (ins.getD k default)) at hc
        rw [← hx] at hc HNX hpre
        have k1 : wr.cell? ⟨bb, o + k * 37 + 34, none⟩ = some (.int .i64 x.kind) := rangeAt_below hc HBR.out (Nat.le_refl _) 34 _ x.kind_at
        have k2 : wr.cell? ⟨bb, o + k * 37 + 35, none⟩ = some (.int .i64 x.key) := rangeAt_below hc HBR.out (Nat.le_refl _) 35 _ x.key_at
        have k3 : wr.cell? ⟨bb, o + k * 37 + 36, none⟩ = some (.string x.pre) := rangeAt_below hc HBR.out (Nat.le_refl _) 36 _ x.pre_at
        clear hc hx
        generalize BB ++ (ins.take k).flatMap witB = bk at *
        go_upto_region 9 with fail
        generalize hw4 : World.alloc wr _ = w4
        have hb4 : Below wr.heap.size wr w4 := by rw [← hw4]; exact (Below.refl _ _).alloc (Nat.le_refl _) _
        have HW4 : Hid (Blk w4 wr.heap.size [.int .i64 x.kind, .int .i64 x.key, .string x.pre]) := by rw [← hw4]; exact Blk.mk _ _ _ rfl rfl
        have HOW4 : Hid (OwnB w4 w1.heap.size (.slice va vn vc) bk) := HOW.out.below hb4
        have HNE4 : Hid ((Value.slice va vn vc).ownBlock ≠ some wr.heap.size) := fun e => by have := (HOW.out.lt _ e).2; omega
        have HB4 : Hid (Below w1.heap.size w1 w4) := HBR.out.trans (hb4.mono hszr)
        have hWl := HW4.out.lt
        clear hw4 hb4 k1 k2 k3 c0 HOW HBR
        generalize hW : wr.heap.size = W at *
        have hp1 := numB_length x.kind
        have hp2 := numB_length x.key
        have hp3 := numB_length x.pre.size
        have hp4 : (strB x.pre).length ≤ 64 := by unfold strB; rw [List.length_map, Array.length_toList]; exact hpre
        have hp5 : (numB x.pre.size ++ strB x.pre).length ≤ 73 := by rw [List.length_append]; omega
        have HS2 : Hid (∀ w', Blk w' W [.int .i64 x.kind, .int .i64 x.key, .string x.pre] → w'.cell? ⟨W, 0, none⟩ = some (.int .i64 x.kind) ∧ w'.cell? ⟨W, 1, none⟩ = some (.int .i64 x.key) ∧ w'.cell? ⟨W, 2, none⟩ = some (.string x.pre)) := fun w' h => ⟨h.one rfl, h.one rfl, h.one rfl⟩
        refine wp_region_noPanic ?_
        refine wp_region_held_drew (S := fun w' => w'.cell? ⟨W, 0, none⟩ = some (.int .i64 x.kind) ∧ w'.cell? ⟨W, 1, none⟩ = some (.int .i64 x.key) ∧ w'.cell? ⟨W, 2, none⟩ = some (.string x.pre)) HMO.out (HS2.out _ (HW4.out.below (Below.refl _ _).drew HW4.out.lt)) (fun hHeld => ?_)
        refine wpAnyH_take (i := 0) (oi := { dst := some 28, op := .move (.tmp 5), type := 29, pos := "forms.go:513", after := #[], guard := none }) (v := ?_) rfl (by kernel_rfl) (by kernel_rfl) (by kernel_rfl) (fun _ _ _ h => h) (Or.inl ⟨by rfl, ?_⟩) (by assumption) ?_
        rotate_left
        · intro _ _; go_simp; first | done | with_reducible rfl
        simp only [Act.put, List.setIfInBounds_toArray, List.set_cons_zero, List.set_cons_succ]
        refine wpAnyH_take (i := 1) (oi := { dst := some 29, op := .fieldAddr 55 (.tmp 7) 0, type := 0, pos := "forms.go:513", after := #[], guard := none }) (v := ?_) rfl (by kernel_rfl) (by kernel_rfl) (by kernel_rfl) (fun _ _ _ h => h) (Or.inl ⟨by rfl, ?_⟩) (by assumption) ?_
        rotate_left
        · intro _ _; go_simp; first | done | with_reducible rfl
        simp only [Act.put, List.setIfInBounds_toArray, List.set_cons_zero, List.set_cons_succ]
        refine wpAnyH_take (i := 2) (oi := { dst := some 30, op := .load 3 (.tmp 29), type := 3, pos := "forms.go:513", after := #[{ on := 1, ground := .data }], guard := none }) (v := ?_) rfl (by kernel_rfl) (by kernel_rfl) (by kernel_rfl) (fun _ _ _ h => h) (Or.inl ⟨by rfl, ?_⟩) (by assumption) ?_
        rotate_left
        · intro _ _; go_simp; first | done | with_reducible rfl
        simp only [Act.put, List.setIfInBounds_toArray, List.set_cons_zero, List.set_cons_succ]
        refine wpAnyH_take (i := 5) (oi := { dst := some 33, op := .fieldAddr 55 (.tmp 7) 1, type := 0, pos := "forms.go:513", after := #[], guard := none }) (v := ?_) rfl (by kernel_rfl) (by kernel_rfl) (by kernel_rfl) (fun _ _ _ h => h) (Or.inl ⟨by rfl, ?_⟩) (by assumption) ?_
        rotate_left
        · intro _ _; go_simp; first | done | with_reducible rfl
        simp only [Act.put, List.setIfInBounds_toArray, List.set_cons_zero, List.set_cons_succ]
        refine wpAnyH_take (i := 6) (oi := { dst := some 34, op := .load 3 (.tmp 33), type := 3, pos := "forms.go:513", after := #[{ on := 5, ground := .data }], guard := none }) (v := ?_) rfl (by kernel_rfl) (by kernel_rfl) (by kernel_rfl) (fun _ _ _ h => h) (Or.inl ⟨by rfl, ?_⟩) (by assumption) ?_
        rotate_left
        · intro _ _; go_simp; first | done | with_reducible rfl
        simp only [Act.put, List.setIfInBounds_toArray, List.set_cons_zero, List.set_cons_succ]
        refine wpAnyH_take (i := 9) (oi := { dst := some 37, op := .fieldAddr 55 (.tmp 7) 2, type := 0, pos := "forms.go:513", after := #[], guard := none }) (v := ?_) rfl (by kernel_rfl) (by kernel_rfl) (by kernel_rfl) (fun _ _ _ h => h) (Or.inl ⟨by rfl, ?_⟩) (by assumption) ?_
        rotate_left
        · intro _ _; go_simp; first | done | with_reducible rfl
        simp only [Act.put, List.setIfInBounds_toArray, List.set_cons_zero, List.set_cons_succ]
        refine wpAnyH_take (i := 10) (oi := { dst := some 38, op := .load 9 (.tmp 37), type := 9, pos := "forms.go:513", after := #[{ on := 9, ground := .data }], guard := none }) (v := ?_) rfl (by kernel_rfl) (by kernel_rfl) (by kernel_rfl) (fun _ _ _ h => h) (Or.inl ⟨by rfl, ?_⟩) (by assumption) ?_
        rotate_left
        · intro _ _; go_simp; first | done | with_reducible rfl
        simp only [Act.put, List.setIfInBounds_toArray, List.set_cons_zero, List.set_cons_succ]
        refine wpAnyH_ready (rs := [3]) (by kernel_rfl) (by simp) ?_
        refine AllReadyH.cons (o := { dst := some 31, op := .call { callee := .value (.func 33), args := #[.tmp 30], argTypes := #[3] }, type := 29, pos := "forms.go:513", after := #[{ on := 2, ground := .data }], guard := none }) rfl (fun K hK => ?_) AllReadyH.nil
        go_simp
        refine (rputb_any x.kind _).mono ?_; rintro e w5 ⟨pv, rfl, ho5, hb5⟩; have g5 : Below w4.heap.size w4 w5 := undrewR hb5; have HO5 : Hid (OwnB w5 w4.heap.size pv (numB x.kind)) := ho5; have HOW5 : Hid (OwnB w5 w1.heap.size (.slice va vn vc) bk) := HOW4.out.below g5; have HW5 : Hid (Blk w5 W _) := HW4.out.below g5 hWl; have h5 : Below w1.heap.size w1 w5 := HB4.out.trans (g5.mono HB4.out.size); have hW5 := HW5.out.lt; clear ho5 hb5 g5
        go_simp
        refine hK.out _ _ (HS2.out _ HW5.out) (fun hHeld => ?_)
        clear hK K
        refine wpAnyH_ready (rs := [4]) (by kernel_rfl) (by simp) ?_
        refine AllReadyH.cons (o := { dst := some 32, op := .call { callee := .builtin Go.Builtin.append, args := #[.tmp 28, .tmp 31], argTypes := #[29, 29] }, type := 29, pos := "forms.go:513", after := #[{ on := 0, ground := .data }, { on := 3, ground := .data }, { on := 3, ground := .chain }], guard := none }) rfl (fun K hK => ?_) AllReadyH.nil
        refine step_append_b rfl _ _ rfl w1.heap.size _ bk rfl HOW5.out pv (numB x.kind) rfl HO5.out.src (by omega) h5.size ?_; intro v6 w6 HO6 HG6 HM6; have HNE6 : Hid (v6.ownBlock ≠ some W) := HM6.out.ne HNE4.out hW5; have HW6 : Hid (Blk w6 W _) := HW5.out.grownBy HG6.out HNE4.out; obtain ⟨a6, n6, cap6, rfl⟩ := HO6.out.any; have h6 : Below w1.heap.size w1 w6 := h5.grown HG6.out h5.size fun k hk => (HOW5.out.lt k hk).1
        simp only [Act.put, List.setIfInBounds_toArray, List.set_cons_zero, List.set_cons_succ]
        refine hK.out _ _ (HS2.out _ HW6.out) (fun hHeld => ?_)
        clear hK K
        refine wpAnyH_ready (rs := [7]) (by kernel_rfl) (by simp) ?_
        refine AllReadyH.cons (o := { dst := some 35, op := .call { callee := .value (.func 33), args := #[.tmp 34], argTypes := #[3] }, type := 29, pos := "forms.go:513", after := #[{ on := 6, ground := .data }, { on := 4, ground := .chain }], guard := none }) rfl (fun K hK => ?_) AllReadyH.nil
        go_simp
        refine (rputb_any x.key _).mono ?_; rintro e w7 ⟨qv, rfl, ho7, hb7⟩; have HO7 : Hid (OwnB w7 w6.heap.size qv (numB x.key)) := ho7; have HOW7 : Hid (OwnB w7 w1.heap.size (.slice a6 n6 cap6) (bk ++ numB x.kind)) := HO6.out.below hb7; have HW7 : Hid (Blk w7 W _) := HW6.out.below hb7 HW6.out.lt; have h7 : Below w1.heap.size w1 w7 := h6.trans (hb7.mono h6.size); have hW7 := HW7.out.lt; clear ho7 hb7
        go_simp
        refine hK.out _ _ (HS2.out _ HW7.out) (fun hHeld => ?_)
        clear hK K
        refine wpAnyH_ready (rs := [8]) (by kernel_rfl) (by simp) ?_
        refine AllReadyH.cons (o := { dst := some 36, op := .call { callee := .builtin Go.Builtin.append, args := #[.tmp 32, .tmp 35], argTypes := #[29, 29] }, type := 29, pos := "forms.go:513", after := #[{ on := 4, ground := .data }, { on := 7, ground := .data }, { on := 7, ground := .chain }], guard := none }) rfl (fun K hK => ?_) AllReadyH.nil
        refine step_append_b rfl _ _ rfl w1.heap.size _ (bk ++ numB x.kind) rfl HOW7.out qv (numB x.key) rfl HO7.out.src (by rw [List.length_append]; omega) h7.size ?_; intro v8 w8 HO8 HG8 HM8; have HNE8 : Hid (v8.ownBlock ≠ some W) := HM8.out.ne HNE6.out hW7; have HW8 : Hid (Blk w8 W _) := HW7.out.grownBy HG8.out HNE6.out; obtain ⟨a8, n8, cap8, rfl⟩ := HO8.out.any; have h8 : Below w1.heap.size w1 w8 := h7.grown HG8.out h7.size fun k hk => (HOW7.out.lt k hk).1
        simp only [Act.put, List.setIfInBounds_toArray, List.set_cons_zero, List.set_cons_succ]
        refine hK.out _ _ (HS2.out _ HW8.out) (fun hHeld => ?_)
        clear hK K
        refine wpAnyH_ready (rs := [11]) (by kernel_rfl) (by simp) ?_
        refine AllReadyH.cons (o := { dst := some 39, op := .call { callee := .value (.func 35), args := #[.tmp 38], argTypes := #[9] }, type := 29, pos := "forms.go:513", after := #[{ on := 10, ground := .data }, { on := 8, ground := .chain }], guard := none }) rfl (fun K hK => ?_) AllReadyH.nil
        go_simp
        refine (rtextb_any x.pre _ (by omega)).mono ?_; rintro e w9 ⟨rv, rfl, ho9, hb9⟩; have HO9 : Hid (OwnB w9 w8.heap.size rv (numB x.pre.size ++ strB x.pre)) := ho9; have HOW9 : Hid (OwnB w9 w1.heap.size (.slice a8 n8 cap8) (bk ++ numB x.kind ++ numB x.key)) := HO8.out.below hb9; have HW9 : Hid (Blk w9 W _) := HW8.out.below hb9 HW8.out.lt; have h9 : Below w1.heap.size w1 w9 := h8.trans (hb9.mono h8.size); clear ho9 hb9
        go_simp
        refine hK.out _ _ (HS2.out _ HW9.out) (fun hHeld => ?_)
        clear hK K
        refine wpAnyH_ready (rs := [12]) (by kernel_rfl) (by simp) ?_
        refine AllReadyH.cons (o := { dst := some 40, op := .call { callee := .builtin Go.Builtin.append, args := #[.tmp 36, .tmp 39], argTypes := #[29, 29] }, type := 29, pos := "forms.go:513", after := #[{ on := 8, ground := .data }, { on := 11, ground := .data }, { on := 11, ground := .chain }], guard := none }) rfl (fun K hK => ?_) AllReadyH.nil
        refine step_append_b rfl _ _ rfl w1.heap.size _ (bk ++ numB x.kind ++ numB x.key) rfl HOW9.out rv (numB x.pre.size ++ strB x.pre) rfl HO9.out.src (by rw [List.length_append, List.length_append]; omega) h9.size ?_; intro va1 wa1 HOa HGa HMa; have HWa : Hid (Blk wa1 W _) := HW9.out.grownBy HGa.out HNE8.out; obtain ⟨aa, na, capa, rfl⟩ := HOa.out.any; have ha1 : Below w1.heap.size w1 wa1 := h9.grown HGa.out h9.size fun k hk => (HOW9.out.lt k hk).1
        simp only [Act.put, List.setIfInBounds_toArray, List.set_cons_zero, List.set_cons_succ]
        refine hK.out _ _ (HS2.out _ HWa.out) (fun hHeld => ?_)
        clear hK K
        refine wpAnyH_take (i := 13) (oi := { dst := some 5, op := .assign (.tmp 40), type := 29, pos := "forms.go:513", after := #[{ on := 12, ground := .data }, { on := 12, ground := .chain }, { on := 0, ground := .phase }, { on := 1, ground := .phase }, { on := 2, ground := .phase }, { on := 3, ground := .phase }, { on := 4, ground := .phase }, { on := 5, ground := .phase }, { on := 6, ground := .phase }, { on := 7, ground := .phase }, { on := 8, ground := .phase }, { on := 9, ground := .phase }, { on := 10, ground := .phase }, { on := 11, ground := .phase }, { on := 12, ground := .phase }], guard := none }) (v := ?_) rfl (by kernel_rfl) (by kernel_rfl) (by kernel_rfl) (fun _ _ _ h => h) (Or.inl ⟨by rfl, ?_⟩) (by assumption) ?_
        rotate_left
        · intro _ _; go_simp; first | done | with_reducible rfl
        simp only [Act.put, List.setIfInBounds_toArray, List.set_cons_zero, List.set_cons_succ]
        refine wpAnyH_done (by kernel_rfl) ?_ _
        refine NoPanic.normal ?_
        clear hHeld HS2
        have HO7' : Hid (OwnB wa1 w1.heap.size (.slice aa na capa) (BB ++ (ins.take (k + 1)).flatMap witB)) := by
          have := HOa.out
          rwa [witB_eq, ← HNX.out] at this
        have HB7 : Hid (Below w1.heap.size w1 wa1) := ha1
        clear HOa HGa HMa ha1 h9 h8 h7 h6 h5 HO9 HOW9 HW9 HO8 HG8 HM8 HNE8 HW8 HO7 HOW7 HW7 HO6 HG6 HM6 HNE6 HW6 HO5 HOW5 HW5 HNE4 HW4 HOW4 HB4 HWa
        go_wp2_with fail
        go_roundw
        case rel => exact ⟨k + 1, by omega, by go_num, HO7'.out, HB7.out⟩
        case measure => simp [intOf]; omega
      · obtain rfl : k = n := by omega
        rw [List.take_of_length_le (by rw [HLI.out]; exact Nat.le_refl _)] at HOW
        go_wp2_with fail
        go_ret2
        subst hN
        exact ⟨.slice va vn vc, ret_pair rfl HZ0.out.symm, by rw [HENC.out]; exact HOW.out.less (by omega), HBL.out.trans (HBR.out.mono (by omega))⟩
  · have HENC : Hid (encB t = []) := show _ = _ from if_neg hz
    have hne : (chkE t != 0) = true := by simp [hz]
    obtain ⟨E, hE⟩ : ∃ E, E = chkE t := ⟨_, rfl⟩
    have HE : Hid (E = chkE t) := hE
    rw [← hE] at hne ⊢
    clear hz hE
    go_wp2_with fail
    go_ret2
    subst hN
    exact ⟨.slice none 0 0, ret_pair rfl HE.out, by rw [HENC.out]; exact OwnB.nil _ _, HBL.out.trans (HB2.out.mono (by omega))⟩
set_option maxRecDepth 100000 in
set_option maxHeartbeats 8000000 in
theorem rid_any (tv : TxV) (t : TxD) (w : World) (hT : TxAt w tv t) :
    Calls Tryz.prog 25 #[tv.val t.lock] w fun e w' => e = .returned (.agg (u8s (idB t)).toArray) ∧ Below w.heap.size w w' := by
  have HT : Hid (TxAt w tv t) := hT
  obtain ⟨lk, hlk⟩ : ∃ z, z = t.lock := ⟨_, rfl⟩
  have HCHK : Hid (∀ w', TxAt w' tv t → Calls Tryz.prog 50 #[tv.val lk] w' fun e w'' => e = .returned (.int .i64 (chkE t)) ∧ Below w'.heap.size w' w'') := fun w' h => by rw [hlk]; exact rcheck_any tv t w' h
  have HBODY : Hid (∀ w', TxAt w' tv t → tv.n ≤ 100 → tv.m ≤ 100 → Calls Tryz.prog 61 #[tv.val lk] w' fun e w'' => ∃ v, e = .returned v ∧ OwnB w'' w'.heap.size v (bodyB t) ∧ Below w'.heap.size w' w'') := fun w' h h1 h2 => by rw [hlk]; exact rbody_any tv t w' h h1 h2
  rw [← hlk]
  clear hlk hT
  unfold TxV.val at *
  go_enter Tryz.func25, Tryz.ntmps25
  go_upto_region 1 with fail
  generalize hwv : World.alloc (World.alloc w _) _ = w1
  have HB0 : Hid (Blk w1 w.heap.size [.slice tv.a tv.n tv.c, .slice tv.b tv.m tv.d, .int .i64 lk]) := by rw [← hwv]; exact (Blk.mk _ _ _ rfl rfl).alloc _
  have HB1 : Hid (Blk w1 (w.heap.size + 1) (u8s zeros32)) := by rw [← hwv]; exact Blk.mk _ _ _ (by simp) rfl
  have HBL : Hid (Below w.heap.size w w1) := by rw [← hwv]; exact ((Below.refl _ _).alloc (Nat.le_refl _) _).alloc (by simp) _
  clear hwv
  have HT1 : Hid (TxAt w1 tv t) := HT.out.below HBL.out
  clear HT
  generalize hN : w.heap.size = T at *
  have hs1 := HB1.out.lt
  have HS : Hid (∀ w', Below w1.heap.size w1 w' → w'.cell? ⟨T, 0, none⟩ = some (.slice tv.a tv.n tv.c) ∧ w'.cell? ⟨T, 1, none⟩ = some (.slice tv.b tv.m tv.d) ∧ w'.cell? ⟨T, 2, none⟩ = some (.int .i64 lk)) := fun w' h => ⟨(HB0.out.below h HB0.out.lt).one rfl, (HB0.out.below h HB0.out.lt).one rfl, (HB0.out.below h HB0.out.lt).one rfl⟩
  clear HB0
  obtain ⟨c0, c1, c2⟩ := HS.out w1 (Below.refl _ _)
  go_wp2_with fail
  refine Calls.mono (HCHK.out w1 HT1.out) ?_
  rintro e w2 ⟨rfl, hb2⟩
  have HB2 : Hid (Below w1.heap.size w1 w2) := hb2
  have hs2 := hb2.size
  clear hb2 c0 c1 c2
  by_cases hz : chkE t = 0
  · have HIDB : Hid (idB t = sum (sum (bodyB t))) := show _ = _ from if_pos hz
    obtain ⟨hi, ho⟩ := chk_small hz
    have hn : tv.n ≤ 100 := by rw [← HT1.out.ins.len]; exact hi
    have hm : tv.m ≤ 100 := by rw [← HT1.out.outs.len]; exact ho
    have HBLEN : Hid ((bodyB t).length ≤ 20000) := bodyB_length t hi ho
    have HBOD : Hid (Calls Tryz.prog 61 #[.agg #[.slice tv.a tv.n tv.c, .slice tv.b tv.m tv.d, .int .i64 lk]] w2 fun e w'' => ∃ v, e = .returned v ∧ OwnB w'' w2.heap.size v (bodyB t) ∧ Below w2.heap.size w2 w'') := HBODY.out w2 (HT1.out.below HB2.out) hn hm
    rw [hz]
    clear hz hi ho HBODY HCHK HT1
    generalize bodyB t = BB at *
    obtain ⟨c0, c1, c2⟩ := HS.out w2 HB2.out
    go_wp2_with fail
    refine Calls.mono HBOD.out ?_
    rintro e w3 ⟨v3, rfl, ho3, hb3⟩
    have HB3 : Hid (Below w1.heap.size w1 w3) := HB2.out.trans (hb3.mono hs2)
    obtain ⟨a3, cap3, rfl, hby3⟩ := ho3.bytes
    have HTW : Hid (Calls Tryz.prog 55 #[.slice a3 BB.length cap3] w3 fun e w' => e = .returned (.agg (u8s (sum (sum BB))).toArray) ∧ Below w3.heap.size w3 w') := reftwice_any a3 cap3 BB w3 hby3 (by have := HBLEN.out; omega)
    have hs3 := HB3.out.size
    have HIL : Hid ((sum (sum BB)).length = 32) := sum_length _
    clear ho3 hb3 hby3 c0 c1 c2 HBOD HB2
    generalize sum (sum BB) = h at *
    generalize BB.length = L at *
    go_wp2_with fail
    refine Calls.mono HTW.out ?_
    rintro e w4 ⟨rfl, hb4⟩
    have HB4 : Hid (Below w1.heap.size w1 w4) := HB3.out.trans (hb4.mono hs3)
    clear hb4 HTW HB3
    obtain ⟨t1, hg1⟩ := HB1.out.below HB4.out hs1
    have HG1 : Hid (w4.heap[T + 1]? = _) := hg1
    clear hg1
    go_wp2_with (refine wpList_store_row rfl 23 _ _ rfl (T + 1) (u8s h).toArray rfl rfl t1 _ HG1.out (size_h h HIL.out) (zh_size h HIL.out) (u8s_one _) ?_)
    refine bodyPost_ret (v := .agg (u8s h).toArray) ?_ rfl ⟨by rw [HIDB.out], ?_⟩
    · obtain ⟨tt, hb⟩ := Blk.row (ds := u8s h) ⟨t1, HG1.out⟩
      exact results_cell_row Tryz.results25 _ _ (T + 1) tt _ _ _ rfl hb Tryz.underlying23 rfl (size_h h HIL.out)
    · subst hN
      exact below_setRow (HBL.out.trans (HB4.out.mono (by omega))) (by omega) _
  · have HIDB : Hid (idB t = zeros32) := show _ = _ from if_neg hz
    have hne : (chkE t != 0) = true := by simp [hz]
    generalize chkE t = E at *
    clear hz
    obtain ⟨t1, hg1⟩ := HB1.out.below HB2.out hs1
    have HG1 : Hid (w2.heap[T + 1]? = _) := hg1
    clear hg1
    go_wp2_with (refine wpList_store_row rfl 23 _ _ rfl (T + 1) (u8s zeros32).toArray rfl rfl t1 _ HG1.out (size_h zeros32 rfl) rfl (u8s_one _) ?_)
    refine bodyPost_ret (v := .agg (u8s zeros32).toArray) ?_ rfl ⟨by rw [HIDB.out], ?_⟩
    · obtain ⟨tt, hb⟩ := Blk.row (ds := u8s zeros32) ⟨t1, HG1.out⟩
      exact results_cell_row Tryz.results25 _ _ (T + 1) tt _ _ _ rfl hb Tryz.underlying23 rfl (size_h zeros32 rfl)
    · subst hN
      exact below_setRow (HBL.out.trans (HB2.out.mono (by omega))) (by omega) _
end Go.Proofs.YtlaifphedhaemaaGreatDoor
