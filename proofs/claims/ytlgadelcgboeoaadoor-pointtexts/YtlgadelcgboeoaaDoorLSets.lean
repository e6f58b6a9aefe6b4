/- PointSets answers true at every two lists and every outpoint. -/
import Derived.Test.YtlgadelcgboeoaaDoorPAwake2
namespace Go.Proofs.YtlgadelcgboeoaaDoor
open Go.ChangeShapes Go.WideShapes Go.ChangeAt Go.RowKit

theorem undrewn {B : Nat} {w w' : World} (h : Below B w.drew w') : Below B w w' := ⟨h.os, h.tape, h.output, h.size, h.block⟩

set_option maxRecDepth 100000 in
set_option maxHeartbeats 4000000 in
theorem sets_out (a : Option Addr) (n cap : Nat) (a2 : Option Addr) (m cap2 : Nat) (p : Pt) (w : World) (hm : Mx w) (hnm : 60 < n ∨ 60 < m) :
    Calls Tryd.prog 3 #[.slice a n cap, .slice a2 m cap2, .agg p.cs.toArray] w fun e w' => e = .returned (.bool true) ∧ Below w.heap.size w w' := by
  have HM : Hid (Mx w) := hm
  clear hm
  go_enter Tryd.func3, Tryd.ntmps3
  go_upto_region 1 with fail
  generalize hw1 : World.alloc w _ = w1
  have hb1 : Below w.heap.size w w1 := by rw [← hw1]; exact (Below.refl _ _).alloc (Nat.le_refl _) _
  clear hw1
  have HM1 : Hid (Mx w1) := HM.out.below hb1
  have HB1 : Hid (Below w.heap.size w w1) := hb1
  clear hb1 HM
  by_cases h1 : 60 < n
  · have g1 : (60 : Int) < (n : Int) := by omega
    go_wp2_with fail
    refine (awake_any w1 HM1.out).mono ?_
    rintro e w2 ⟨rfl, hb2⟩
    have HB2 : Hid (Below w.heap.size w w2) := HB1.out.trans (hb2.mono HB1.out.size)
    clear hb2
    go_wp2_with fail
    go_ret
    exact ⟨rfl, HB2.out⟩
  · have g1 : ¬ (60 : Int) < (n : Int) := by omega
    have g2 : (60 : Int) < (m : Int) := by omega
    go_wp2_with fail
    refine (awake_any w1 HM1.out).mono ?_
    rintro e w2 ⟨rfl, hb2⟩
    have HB2 : Hid (Below w.heap.size w w2) := HB1.out.trans (hb2.mono HB1.out.size)
    clear hb2
    go_wp2_with fail
    go_ret
    exact ⟨rfl, HB2.out⟩

set_option maxRecDepth 100000 in
set_option maxHeartbeats 8000000 in
theorem sets_in (a : Option Addr) (n cap : Nat) (l : List Pt) (a2 : Option Addr) (m cap2 : Nat) (r : List Pt) (p : Pt) (w : World) (hp : Pts w a n cap l) (hr : Pts w a2 m cap2 r) (hm : Mx w) (hn : n ≤ 60) (hmm : m ≤ 60) :
    Calls Tryd.prog 3 #[.slice a n cap, .slice a2 m cap2, .agg p.cs.toArray] w fun e w' => e = .returned (.bool true) ∧ Below w.heap.size w w' := by
  have HM : Hid (Mx w) := hm
  have HU := und_pt
  have HMO := follows_mixed
  have HL : Hid (l.length = n) := hp.len
  have HP : Hid (Pts w a n cap l ∧ Pts w a2 m cap2 r) := ⟨hp, hr⟩
  clear hm hp hr
  have g1 : ¬ (60 : Int) < (n : Int) := by omega
  have g2 : ¬ (60 : Int) < (m : Int) := by omega
  go_enter Tryd.func3, Tryd.ntmps3
  go_upto_region 1 with fail
  generalize hw1 : World.alloc w _ = w1
  have hA1 : Blk w1 w.heap.size p.cs := by rw [← hw1]; exact Blk.new _ _ _
  have hb1 : Below w.heap.size w w1 := by rw [← hw1]; exact (Below.refl _ _).alloc (Nat.le_refl _) _
  clear hw1
  have H1 : Hid (Mx w1 ∧ Pts w1 a n cap l ∧ Pts w1 a2 m cap2 r ∧ Blk w1 w.heap.size p.cs ∧ Below w.heap.size w w1) := ⟨HM.out.below hb1, HP.out.1.below hb1, HP.out.2.below hb1, hA1, hb1⟩
  clear hb1 HM HP hA1
  generalize hN : w.heap.size = N at *
  go_wp2_with fail
  refine (parted_any a n cap l a2 m cap2 r w1 H1.out.2.1 H1.out.2.2.1 (by omega) (by omega)).mono ?_
  rintro e w2 ⟨u, v, rfl, hou, hov, hb2⟩
  obtain ⟨ab, capb, rfl, hpb⟩ := hou.pts
  obtain ⟨ar, capr, rfl, hprr⟩ := hov.pts
  have H2 : Hid (Mx w2 ∧ Pts w2 a n cap l ∧ Pts w2 a2 m cap2 r ∧ Blk w2 N p.cs ∧ Below N w w2) := by
    obtain ⟨h1, h2, h3, h4, h5⟩ := H1.out
    exact ⟨h1.below hb2, h2.below hb2, h3.below hb2, h4.below hb2 h4.lt, h5.trans (hb2.mono (Nat.le_of_lt h4.lt))⟩
  obtain ⟨bl, hbl⟩ : ∃ x, x = l.filter fun x => decide (x ∈ r) := ⟨_, rfl⟩
  obtain ⟨rl, hrl⟩ : ∃ x, x = l.filter fun x => !decide (x ∈ r) := ⟨_, rfl⟩
  rw [← hbl] at hpb ⊢
  rw [← hrl] at hprr ⊢
  have hbn : bl.length ≤ n := by rw [hbl, ← HL.out]; exact List.length_filter_le _ _
  have hrn : rl.length ≤ n := by rw [hrl, ← HL.out]; exact List.length_filter_le _ _
  have HBL : Hid ((l.filter fun x => decide (x ∈ r)) = bl ∧ (l.filter fun x => !decide (x ∈ r)) = rl) := ⟨hbl.symm, hrl.symm⟩
  have H3 : Hid (Pts w2 ab bl.length capb bl ∧ Pts w2 ar rl.length capr rl) := ⟨hpb, hprr⟩
  generalize hbb : bl.length = nb at *
  generalize hrr : rl.length = nr at *
  clear hou hov hb2 hbl hrl hpb hprr H1
  have HA : Hid (∀ w', Below w2.heap.size w2 w' → Mx w' ∧ Pts w' a n cap l ∧ Pts w' a2 m cap2 r ∧ Pts w' ab nb capb bl ∧ Pts w' ar nr capr rl ∧ w'.rangeAt N 0 p.cs) := fun w' hw' => by
    obtain ⟨h1, h2, h3, h4, h5⟩ := H2.out
    exact ⟨h1.below hw', h2.below hw', h3.below hw', H3.out.1.below hw', H3.out.2.below hw', (h4.below hw' h4.lt).whole⟩
  have h2N : N ≤ w2.heap.size := Nat.le_of_lt H2.out.2.2.2.1.lt
  have HE : Hid (Below N w w2) := H2.out.2.2.2.2
  clear H2 H3
  obtain ⟨d, hd⟩ : ∃ d, d = decide (l.Perm r) := ⟨_, rfl⟩
  obtain ⟨d2, hd2⟩ : ∃ d, d = decide (p ∈ l) := ⟨_, rfl⟩
  obtain ⟨c, hc⟩ : ∃ c, c = l.count p := ⟨_, rfl⟩
  have g3 : decide ((0 : Int) < (c : Int)) = d2 := by
    rw [hd2, hc]
    simp
  have g4 : decide (0 < c) = d2 := by rw [← g3]; simp
  have HD : Hid (d = decide (l.Perm r) ∧ d2 = decide (p ∈ l) ∧ c = l.count p) := ⟨hd, hd2, hc⟩
  clear hd hd2 hc
  have u26 := HU.out
  have ip := size_pt p
  go_wp2_with fail
  refine wp_region_noPanic ?_
  refine wp_region_held_drew (S := fun w' => w'.rangeAt N 0 p.cs) HMO.out ((HA.out _ (Below.refl _ _).drew).2.2.2.2.2) (fun hHeld => ?_)
  refine wpAnyH_take (i := 0) (oi := { dst := some 24, op := .move (.tmp 0), type := 22, pos := "law.go:25", after := #[], guard := none }) (v := ?_) rfl (by kernel_rfl) (by kernel_rfl) (by kernel_rfl) (fun _ _ _ h => h) (Or.inl ⟨by rfl, ?_⟩) (by assumption) ?_
  rotate_left
  · intro _ _; go_simp; first | done | with_reducible rfl
  simp only [Act.put, List.setIfInBounds_toArray, List.set_cons_zero, List.set_cons_succ]
  refine wpAnyH_take (i := 2) (oi := { dst := some 26, op := .move (.tmp 0), type := 22, pos := "law.go:25", after := #[], guard := none }) (v := ?_) rfl (by kernel_rfl) (by kernel_rfl) (by kernel_rfl) (fun _ _ _ h => h) (Or.inl ⟨by rfl, ?_⟩) (by assumption) ?_
  rotate_left
  · intro _ _; go_simp; first | done | with_reducible rfl
  simp only [Act.put, List.setIfInBounds_toArray, List.set_cons_zero, List.set_cons_succ]
  refine wpAnyH_ready (rs := [1]) (by kernel_rfl) (by simp) ?_
  refine AllReadyH.cons (o := { dst := some 25, op := .call { callee := .value (.func 10), args := #[.tmp 24], argTypes := #[22] }, type := 22, pos := "law.go:25", after := #[{ on := 0, ground := .data }], guard := none }) rfl (fun K hK => ?_) AllReadyH.nil
  go_simp
  refine (sort_any _ n cap l _ (HA.out _ (Below.refl _ _).drew).2.1 (by omega)).mono ?_; rintro e w6 ⟨a6, m6, cap6, r6, rfl, hinc6, hmem6, hp6, hm6, hb6⟩; have h6 : Below w2.heap.size w2 w6 := undrewn hb6
  go_simp
  refine hK.out _ _ ((HA.out _ h6).2.2.2.2.2) (fun hHeld => ?_)
  clear hK K
  refine wpAnyH_ready (rs := [3]) (by kernel_rfl) (by simp) ?_
  refine AllReadyH.cons (o := { dst := some 27, op := .call { callee := .value (.func 11), args := #[.tmp 26], argTypes := #[22] }, type := 22, pos := "law.go:25", after := #[{ on := 2, ground := .data }, { on := 1, ground := .chain }], guard := none }) rfl (fun K hK => ?_) AllReadyH.nil
  go_simp
  refine (refsorted_any _ n cap l _ (HA.out _ h6).2.1 (by omega)).mono ?_; rintro e w7 ⟨v7, s7, rfl, ho7, hinc7, hmem7, hl7, hb7⟩; obtain ⟨a7, cap7, rfl, hp7⟩ := ho7.pts; have h7 : Below w2.heap.size w2 w7 := h6.trans (hb7.mono h6.size); have hp67 := hp6.below hb7; have hrs : decide (r6 = s7) = true := decide_eq_true (inc_ext hinc6 hinc7 (fun x => (hmem6 x).trans (hmem7 x).symm)); clear hinc6 hmem6 hp6 hinc7 hmem7 ho7; generalize hs7 : s7.length = n7 at *
  go_simp
  refine hK.out _ _ ((HA.out _ h7).2.2.2.2.2) (fun hHeld => ?_)
  clear hK K
  refine wpAnyH_ready (rs := [4]) (by kernel_rfl) (by simp) ?_
  refine AllReadyH.cons (o := { dst := some 28, op := .call { callee := .value (.func 9), args := #[.tmp 25, .tmp 27], argTypes := #[22, 22] }, type := 4, pos := "law.go:25", after := #[{ on := 1, ground := .data }, { on := 3, ground := .data }, { on := 3, ground := .chain }], guard := none }) rfl (fun K hK => ?_) AllReadyH.nil
  go_simp
  refine (points_any _ m6 cap6 r6 _ n7 cap7 s7 _ hp67 hp7 (by omega) (by omega)).mono ?_; rw [hrs]; rintro e w8 ⟨rfl, hb8⟩; have h8 : Below w2.heap.size w2 w8 := h7.trans (hb8.mono h7.size); clear hrs hp67 hp7 hs7
  go_simp
  refine hK.out _ _ ((HA.out _ h8).2.2.2.2.2) (fun hHeld => ?_)
  clear hK K
  refine wpAnyH_take (i := 5) (oi := { dst := some 29, op := .move (.tmp 28), type := 4, pos := "law.go:25", after := #[{ on := 4, ground := .data }, { on := 4, ground := .chain }], guard := none }) (v := ?_) rfl (by kernel_rfl) (by kernel_rfl) (by kernel_rfl) (fun _ _ _ h => h) (Or.inl ⟨by rfl, ?_⟩) (by assumption) ?_
  rotate_left
  · intro _ _; go_simp; first | done | with_reducible rfl
  simp only [Act.put, List.setIfInBounds_toArray, List.set_cons_zero, List.set_cons_succ]
  refine wpAnyH_take (i := 6) (oi := { dst := some 30, op := .move (.tmp 0), type := 22, pos := "law.go:25", after := #[{ on := 5, ground := .guard }], guard := some (5, true) }) (v := ?_) rfl (by kernel_rfl) (by kernel_rfl) (by kernel_rfl) (fun _ _ _ h => h) (Or.inl ⟨by rfl, ?_⟩) (by assumption) ?_
  rotate_left
  · intro _ _; go_simp; first | done | with_reducible rfl
  simp only [Act.put, List.setIfInBounds_toArray, List.set_cons_zero, List.set_cons_succ]
  refine wpAnyH_take (i := 7) (oi := { dst := some 31, op := .move (.tmp 1), type := 22, pos := "law.go:25", after := #[{ on := 5, ground := .guard }], guard := some (5, true) }) (v := ?_) rfl (by kernel_rfl) (by kernel_rfl) (by kernel_rfl) (fun _ _ _ h => h) (Or.inl ⟨by rfl, ?_⟩) (by assumption) ?_
  rotate_left
  · intro _ _; go_simp; first | done | with_reducible rfl
  simp only [Act.put, List.setIfInBounds_toArray, List.set_cons_zero, List.set_cons_succ]
  refine wpAnyH_take (i := 9) (oi := { dst := some 33, op := .move (.tmp 7), type := 22, pos := "law.go:25", after := #[{ on := 5, ground := .guard }], guard := some (5, true) }) (v := ?_) rfl (by kernel_rfl) (by kernel_rfl) (by kernel_rfl) (fun _ _ _ h => h) (Or.inl ⟨by rfl, ?_⟩) (by assumption) ?_
  rotate_left
  · intro _ _; go_simp; first | done | with_reducible rfl
  simp only [Act.put, List.setIfInBounds_toArray, List.set_cons_zero, List.set_cons_succ]
  refine wpAnyH_ready (rs := [8]) (by kernel_rfl) (by simp) ?_
  refine AllReadyH.cons (o := { dst := some 32, op := .call { callee := .value (.func 12), args := #[.tmp 30, .tmp 31], argTypes := #[22, 22] }, type := 22, pos := "law.go:25", after := #[{ on := 6, ground := .data }, { on := 7, ground := .data }, { on := 5, ground := .chain }, { on := 5, ground := .guard }], guard := some (5, true) }) rfl (fun K hK => ?_) AllReadyH.nil
  go_simp
  refine (both_any _ n cap l _ m cap2 r _ (HA.out _ h8).2.1 (HA.out _ h8).2.2.1 (by omega) (by omega)).mono ?_; rw [HBL.out.1]; rintro e w9 ⟨v9, rfl, ho9, hb9⟩; obtain ⟨a9, cap9, rfl, hp9⟩ := ho9.pts; rw [hbb] at hp9 ⊢; have h9 : Below w2.heap.size w2 w9 := h8.trans (hb9.mono h8.size); clear ho9
  go_simp
  refine hK.out _ _ ((HA.out _ h9).2.2.2.2.2) (fun hHeld => ?_)
  clear hK K
  refine wpAnyH_ready (rs := [10]) (by kernel_rfl) (by simp) ?_
  refine AllReadyH.cons (o := { dst := some 34, op := .call { callee := .value (.func 9), args := #[.tmp 32, .tmp 33], argTypes := #[22, 22] }, type := 4, pos := "law.go:25", after := #[{ on := 8, ground := .data }, { on := 9, ground := .data }, { on := 8, ground := .chain }, { on := 5, ground := .guard }], guard := some (5, true) }) rfl (fun K hK => ?_) AllReadyH.nil
  go_simp
  refine (points_any _ nb cap9 bl _ nb capb bl _ hp9 (HA.out _ h9).2.2.2.1 (by omega) (by omega)).mono ?_; rw [show decide (bl = bl) = true by simp]; rintro e w10 ⟨rfl, hb10⟩; have h10 : Below w2.heap.size w2 w10 := h9.trans (hb10.mono h9.size); clear hp9
  go_simp
  refine hK.out _ _ ((HA.out _ h10).2.2.2.2.2) (fun hHeld => ?_)
  clear hK K
  refine wpAnyH_take (i := 11) (oi := { dst := some 35, op := .pick (.tmp 29) (.tmp 34) (.const (.bool false)), type := 4, pos := "law.go:25", after := #[{ on := 5, ground := .data }, { on := 10, ground := .data }], guard := none }) (v := ?_) rfl (by kernel_rfl) (by kernel_rfl) (by kernel_rfl) (fun _ _ _ h => h) (Or.inl ⟨by rfl, ?_⟩) (by assumption) ?_
  rotate_left
  · intro _ _; go_simp; first | done | with_reducible rfl
  simp only [Act.put, List.setIfInBounds_toArray, List.set_cons_zero, List.set_cons_succ]
  refine wpAnyH_take (i := 12) (oi := { dst := some 36, op := .move (.tmp 35), type := 4, pos := "law.go:25", after := #[{ on := 11, ground := .data }, { on := 10, ground := .chain }], guard := none }) (v := ?_) rfl (by kernel_rfl) (by kernel_rfl) (by kernel_rfl) (fun _ _ _ h => h) (Or.inl ⟨by rfl, ?_⟩) (by assumption) ?_
  rotate_left
  · intro _ _; go_simp; first | done | with_reducible rfl
  simp only [Act.put, List.setIfInBounds_toArray, List.set_cons_zero, List.set_cons_succ]
  refine wpAnyH_take (i := 13) (oi := { dst := some 37, op := .move (.tmp 0), type := 22, pos := "law.go:25", after := #[{ on := 12, ground := .guard }], guard := some (12, true) }) (v := ?_) rfl (by kernel_rfl) (by kernel_rfl) (by kernel_rfl) (fun _ _ _ h => h) (Or.inl ⟨by rfl, ?_⟩) (by assumption) ?_
  rotate_left
  · intro _ _; go_simp; first | done | with_reducible rfl
  simp only [Act.put, List.setIfInBounds_toArray, List.set_cons_zero, List.set_cons_succ]
  refine wpAnyH_take (i := 14) (oi := { dst := some 38, op := .move (.tmp 1), type := 22, pos := "law.go:25", after := #[{ on := 12, ground := .guard }], guard := some (12, true) }) (v := ?_) rfl (by kernel_rfl) (by kernel_rfl) (by kernel_rfl) (fun _ _ _ h => h) (Or.inl ⟨by rfl, ?_⟩) (by assumption) ?_
  rotate_left
  · intro _ _; go_simp; first | done | with_reducible rfl
  simp only [Act.put, List.setIfInBounds_toArray, List.set_cons_zero, List.set_cons_succ]
  refine wpAnyH_take (i := 16) (oi := { dst := some 40, op := .move (.tmp 8), type := 22, pos := "law.go:25", after := #[{ on := 12, ground := .guard }], guard := some (12, true) }) (v := ?_) rfl (by kernel_rfl) (by kernel_rfl) (by kernel_rfl) (fun _ _ _ h => h) (Or.inl ⟨by rfl, ?_⟩) (by assumption) ?_
  rotate_left
  · intro _ _; go_simp; first | done | with_reducible rfl
  simp only [Act.put, List.setIfInBounds_toArray, List.set_cons_zero, List.set_cons_succ]
  refine wpAnyH_ready (rs := [15]) (by kernel_rfl) (by simp) ?_
  refine AllReadyH.cons (o := { dst := some 39, op := .call { callee := .value (.func 13), args := #[.tmp 37, .tmp 38], argTypes := #[22, 22] }, type := 22, pos := "law.go:25", after := #[{ on := 13, ground := .data }, { on := 14, ground := .data }, { on := 12, ground := .chain }, { on := 12, ground := .guard }], guard := some (12, true) }) rfl (fun K hK => ?_) AllReadyH.nil
  go_simp
  refine (minus_any _ n cap l _ m cap2 r _ (HA.out _ h10).2.1 (HA.out _ h10).2.2.1 (by omega) (by omega)).mono ?_; rw [HBL.out.2]; rintro e w11 ⟨v11, rfl, ho11, hb11⟩; obtain ⟨a11, cap11, rfl, hp11⟩ := ho11.pts; rw [hrr] at hp11 ⊢; have h11 : Below w2.heap.size w2 w11 := h10.trans (hb11.mono h10.size); clear ho11
  go_simp
  refine hK.out _ _ ((HA.out _ h11).2.2.2.2.2) (fun hHeld => ?_)
  clear hK K
  refine wpAnyH_ready (rs := [17]) (by kernel_rfl) (by simp) ?_
  refine AllReadyH.cons (o := { dst := some 41, op := .call { callee := .value (.func 9), args := #[.tmp 39, .tmp 40], argTypes := #[22, 22] }, type := 4, pos := "law.go:25", after := #[{ on := 15, ground := .data }, { on := 16, ground := .data }, { on := 15, ground := .chain }, { on := 12, ground := .guard }], guard := some (12, true) }) rfl (fun K hK => ?_) AllReadyH.nil
  go_simp
  refine (points_any _ nr cap11 rl _ nr capr rl _ hp11 (HA.out _ h11).2.2.2.2.1 (by omega) (by omega)).mono ?_; rw [show decide (rl = rl) = true by simp]; rintro e w12 ⟨rfl, hb12⟩; have h12 : Below w2.heap.size w2 w12 := h11.trans (hb12.mono h11.size); clear hp11
  go_simp
  refine hK.out _ _ ((HA.out _ h12).2.2.2.2.2) (fun hHeld => ?_)
  clear hK K
  refine wpAnyH_take (i := 18) (oi := { dst := some 42, op := .pick (.tmp 36) (.tmp 41) (.const (.bool false)), type := 4, pos := "law.go:25", after := #[{ on := 12, ground := .data }, { on := 17, ground := .data }], guard := none }) (v := ?_) rfl (by kernel_rfl) (by kernel_rfl) (by kernel_rfl) (fun _ _ _ h => h) (Or.inl ⟨by rfl, ?_⟩) (by assumption) ?_
  rotate_left
  · intro _ _; go_simp; first | done | with_reducible rfl
  simp only [Act.put, List.setIfInBounds_toArray, List.set_cons_zero, List.set_cons_succ]
  refine wpAnyH_take (i := 19) (oi := { dst := some 43, op := .move (.tmp 42), type := 4, pos := "law.go:25", after := #[{ on := 18, ground := .data }, { on := 17, ground := .chain }], guard := none }) (v := ?_) rfl (by kernel_rfl) (by kernel_rfl) (by kernel_rfl) (fun _ _ _ h => h) (Or.inl ⟨by rfl, ?_⟩) (by assumption) ?_
  rotate_left
  · intro _ _; go_simp; first | done | with_reducible rfl
  simp only [Act.put, List.setIfInBounds_toArray, List.set_cons_zero, List.set_cons_succ]
  refine wpAnyH_take (i := 20) (oi := { dst := some 44, op := .move (.tmp 0), type := 22, pos := "law.go:25", after := #[{ on := 19, ground := .guard }], guard := some (19, true) }) (v := ?_) rfl (by kernel_rfl) (by kernel_rfl) (by kernel_rfl) (fun _ _ _ h => h) (Or.inl ⟨by rfl, ?_⟩) (by assumption) ?_
  rotate_left
  · intro _ _; go_simp; first | done | with_reducible rfl
  simp only [Act.put, List.setIfInBounds_toArray, List.set_cons_zero, List.set_cons_succ]
  refine wpAnyH_take (i := 21) (oi := { dst := some 45, op := .move (.tmp 1), type := 22, pos := "law.go:25", after := #[{ on := 19, ground := .guard }], guard := some (19, true) }) (v := ?_) rfl (by kernel_rfl) (by kernel_rfl) (by kernel_rfl) (fun _ _ _ h => h) (Or.inl ⟨by rfl, ?_⟩) (by assumption) ?_
  rotate_left
  · intro _ _; go_simp; first | done | with_reducible rfl
  simp only [Act.put, List.setIfInBounds_toArray, List.set_cons_zero, List.set_cons_succ]
  refine wpAnyH_take (i := 23) (oi := { dst := some 47, op := .move (.tmp 0), type := 22, pos := "law.go:25", after := #[{ on := 19, ground := .guard }], guard := some (19, true) }) (v := ?_) rfl (by kernel_rfl) (by kernel_rfl) (by kernel_rfl) (fun _ _ _ h => h) (Or.inl ⟨by rfl, ?_⟩) (by assumption) ?_
  rotate_left
  · intro _ _; go_simp; first | done | with_reducible rfl
  simp only [Act.put, List.setIfInBounds_toArray, List.set_cons_zero, List.set_cons_succ]
  refine wpAnyH_take (i := 24) (oi := { dst := some 48, op := .move (.tmp 1), type := 22, pos := "law.go:25", after := #[{ on := 19, ground := .guard }], guard := some (19, true) }) (v := ?_) rfl (by kernel_rfl) (by kernel_rfl) (by kernel_rfl) (fun _ _ _ h => h) (Or.inl ⟨by rfl, ?_⟩) (by assumption) ?_
  rotate_left
  · intro _ _; go_simp; first | done | with_reducible rfl
  simp only [Act.put, List.setIfInBounds_toArray, List.set_cons_zero, List.set_cons_succ]
  refine wpAnyH_ready (rs := [22]) (by kernel_rfl) (by simp) ?_
  refine AllReadyH.cons (o := { dst := some 46, op := .call { callee := .value (.func 14), args := #[.tmp 44, .tmp 45], argTypes := #[22, 22] }, type := 4, pos := "law.go:25", after := #[{ on := 20, ground := .data }, { on := 21, ground := .data }, { on := 19, ground := .chain }, { on := 19, ground := .guard }], guard := some (19, true) }) rfl (fun K hK => ?_) AllReadyH.nil
  go_simp
  refine (alike_any _ n cap l _ m cap2 r _ (HA.out _ h12).2.1 (HA.out _ h12).2.2.1 (by omega) (by omega)).mono ?_; rw [← HD.out.1]; rintro e w13 ⟨rfl, hb13⟩; have h13 : Below w2.heap.size w2 w13 := h12.trans (hb13.mono h12.size)
  go_simp
  refine hK.out _ _ ((HA.out _ h13).2.2.2.2.2) (fun hHeld => ?_)
  clear hK K
  refine wpAnyH_ready (rs := [25]) (by kernel_rfl) (by simp) ?_
  refine AllReadyH.cons (o := { dst := some 49, op := .call { callee := .value (.func 15), args := #[.tmp 47, .tmp 48], argTypes := #[22, 22] }, type := 4, pos := "law.go:25", after := #[{ on := 23, ground := .data }, { on := 24, ground := .data }, { on := 22, ground := .chain }, { on := 19, ground := .guard }], guard := some (19, true) }) rfl (fun K hK => ?_) AllReadyH.nil
  go_simp
  refine (refalike_any _ n cap l _ m cap2 r _ (HA.out _ h13).2.1 (HA.out _ h13).2.2.1 (by omega) (by omega)).mono ?_; rw [← HD.out.1]; rintro e w14 ⟨rfl, hb14⟩; have h14 : Below w2.heap.size w2 w14 := h13.trans (hb14.mono h13.size)
  go_simp
  refine hK.out _ _ ((HA.out _ h14).2.2.2.2.2) (fun hHeld => ?_)
  clear hK K
  refine wpAnyH_take (i := 26) (oi := { dst := some 50, op := .binOp Go.BinOp.eql 4 (.tmp 46) (.tmp 49) 4, type := 4, pos := "law.go:25", after := #[{ on := 22, ground := .data }, { on := 25, ground := .data }, { on := 19, ground := .guard }], guard := some (19, true) }) (v := .bool true) rfl (by kernel_rfl) (by kernel_rfl) (by kernel_rfl) (fun _ _ _ h => h) (Or.inl ⟨by rfl, ?_⟩) (by assumption) ?_
  · intro _ _; go_simp
  simp only [Act.put, List.setIfInBounds_toArray, List.set_cons_zero, List.set_cons_succ]
  refine wpAnyH_take (i := 27) (oi := { dst := some 51, op := .pick (.tmp 43) (.tmp 50) (.const (.bool false)), type := 4, pos := "law.go:25", after := #[{ on := 19, ground := .data }, { on := 26, ground := .data }], guard := none }) (v := ?_) rfl (by kernel_rfl) (by kernel_rfl) (by kernel_rfl) (fun _ _ _ h => h) (Or.inl ⟨by rfl, ?_⟩) (by assumption) ?_
  rotate_left
  · intro _ _; go_simp; first | done | with_reducible rfl
  simp only [Act.put, List.setIfInBounds_toArray, List.set_cons_zero, List.set_cons_succ]
  refine wpAnyH_take (i := 28) (oi := { dst := some 52, op := .move (.tmp 51), type := 4, pos := "law.go:25", after := #[{ on := 27, ground := .data }, { on := 25, ground := .chain }], guard := none }) (v := ?_) rfl (by kernel_rfl) (by kernel_rfl) (by kernel_rfl) (fun _ _ _ h => h) (Or.inl ⟨by rfl, ?_⟩) (by assumption) ?_
  rotate_left
  · intro _ _; go_simp; first | done | with_reducible rfl
  simp only [Act.put, List.setIfInBounds_toArray, List.set_cons_zero, List.set_cons_succ]
  refine wpAnyH_take (i := 29) (oi := { dst := some 53, op := .move (.tmp 0), type := 22, pos := "law.go:25", after := #[{ on := 28, ground := .guard }], guard := some (28, true) }) (v := ?_) rfl (by kernel_rfl) (by kernel_rfl) (by kernel_rfl) (fun _ _ _ h => h) (Or.inl ⟨by rfl, ?_⟩) (by assumption) ?_
  rotate_left
  · intro _ _; go_simp; first | done | with_reducible rfl
  simp only [Act.put, List.setIfInBounds_toArray, List.set_cons_zero, List.set_cons_succ]
  refine wpAnyH_take (i := 30) (oi := { dst := some 54, op := .load 26 (.tmp 5), type := 26, pos := "law.go:25", after := #[{ on := 28, ground := .guard }], guard := some (28, true) }) (v := _) rfl (by kernel_rfl) (by kernel_rfl) (by kernel_rfl) (fun _ _ _ h => h) (yieldsIf_load_mid (by rfl) _ _ rfl (N) (0) rfl (p.cs) _ (fun _ h => h) (u26) rfl (ip)) (by assumption) ?_
  simp only [Act.put, List.setIfInBounds_toArray, List.set_cons_zero, List.set_cons_succ]
  refine wpAnyH_take (i := 32) (oi := { dst := some 56, op := .move (.tmp 0), type := 22, pos := "law.go:25", after := #[{ on := 28, ground := .guard }], guard := some (28, true) }) (v := ?_) rfl (by kernel_rfl) (by kernel_rfl) (by kernel_rfl) (fun _ _ _ h => h) (Or.inl ⟨by rfl, ?_⟩) (by assumption) ?_
  rotate_left
  · intro _ _; go_simp; first | done | with_reducible rfl
  simp only [Act.put, List.setIfInBounds_toArray, List.set_cons_zero, List.set_cons_succ]
  refine wpAnyH_take (i := 33) (oi := { dst := some 57, op := .load 26 (.tmp 5), type := 26, pos := "law.go:25", after := #[{ on := 28, ground := .guard }], guard := some (28, true) }) (v := _) rfl (by kernel_rfl) (by kernel_rfl) (by kernel_rfl) (fun _ _ _ h => h) (yieldsIf_load_mid (by rfl) _ _ rfl (N) (0) rfl (p.cs) _ (fun _ h => h) (u26) rfl (ip)) (by assumption) ?_
  simp only [Act.put, List.setIfInBounds_toArray, List.set_cons_zero, List.set_cons_succ]
  refine wpAnyH_ready (rs := [31]) (by kernel_rfl) (by simp) ?_
  refine AllReadyH.cons (o := { dst := some 55, op := .call { callee := .value (.func 16), args := #[.tmp 53, .tmp 54], argTypes := #[22, 26] }, type := 4, pos := "law.go:25", after := #[{ on := 29, ground := .data }, { on := 30, ground := .data }, { on := 28, ground := .chain }, { on := 28, ground := .guard }], guard := some (28, true) }) rfl (fun K hK => ?_) AllReadyH.nil
  go_simp
  refine (has_any _ n cap l p _ (HA.out _ h14).2.1 (by omega)).mono ?_; rw [← HD.out.2.1]; rintro e w15 ⟨rfl, hb15⟩; have h15 : Below w2.heap.size w2 w15 := h14.trans (hb15.mono h14.size)
  go_simp
  refine hK.out _ _ ((HA.out _ h15).2.2.2.2.2) (fun hHeld => ?_)
  clear hK K
  refine wpAnyH_ready (rs := [34]) (by kernel_rfl) (by simp) ?_
  refine AllReadyH.cons (o := { dst := some 58, op := .call { callee := .value (.func 17), args := #[.tmp 56, .tmp 57], argTypes := #[22, 26] }, type := 3, pos := "law.go:25", after := #[{ on := 32, ground := .data }, { on := 33, ground := .data }, { on := 31, ground := .chain }, { on := 28, ground := .guard }], guard := some (28, true) }) rfl (fun K hK => ?_) AllReadyH.nil
  go_simp
  refine (times_any _ n cap l p _ (HA.out _ h15).2.1 (by omega)).mono ?_; rw [← HD.out.2.2]; rintro e w16 ⟨rfl, hb16⟩; have h16 : Below w2.heap.size w2 w16 := h15.trans (hb16.mono h15.size)
  go_simp
  refine hK.out _ _ ((HA.out _ h16).2.2.2.2.2) (fun hHeld => ?_)
  clear hK K
  refine wpAnyH_take (i := 35) (oi := { dst := some 59, op := .binOp Go.BinOp.gtr 3 (.tmp 58) (.const (.int .i64 0)) 3, type := 4, pos := "law.go:25", after := #[{ on := 34, ground := .data }, { on := 28, ground := .guard }], guard := some (28, true) }) (v := .bool d2) rfl (by kernel_rfl) (by kernel_rfl) (by kernel_rfl) (fun _ _ _ h => h) (Or.inl ⟨by rfl, ?_⟩) (by assumption) ?_
  · intro _ _; go_simp
  simp only [Act.put, List.setIfInBounds_toArray, List.set_cons_zero, List.set_cons_succ]
  refine wpAnyH_take (i := 36) (oi := { dst := some 60, op := .binOp Go.BinOp.eql 4 (.tmp 55) (.tmp 59) 4, type := 4, pos := "law.go:25", after := #[{ on := 31, ground := .data }, { on := 35, ground := .data }, { on := 28, ground := .guard }], guard := some (28, true) }) (v := .bool true) rfl (by kernel_rfl) (by kernel_rfl) (by kernel_rfl) (fun _ _ _ h => h) (Or.inl ⟨by rfl, ?_⟩) (by assumption) ?_
  · intro _ _; go_simp
  simp only [Act.put, List.setIfInBounds_toArray, List.set_cons_zero, List.set_cons_succ]
  refine wpAnyH_take (i := 37) (oi := { dst := some 61, op := .pick (.tmp 52) (.tmp 60) (.const (.bool false)), type := 4, pos := "law.go:25", after := #[{ on := 28, ground := .data }, { on := 36, ground := .data }], guard := none }) (v := ?_) rfl (by kernel_rfl) (by kernel_rfl) (by kernel_rfl) (fun _ _ _ h => h) (Or.inl ⟨by rfl, ?_⟩) (by assumption) ?_
  rotate_left
  · intro _ _; go_simp; first | done | with_reducible rfl
  simp only [Act.put, List.setIfInBounds_toArray, List.set_cons_zero, List.set_cons_succ]
  refine wpAnyH_take (i := 38) (oi := { dst := some 62, op := .move (.tmp 61), type := 4, pos := "law.go:25", after := #[{ on := 37, ground := .data }, { on := 34, ground := .chain }], guard := none }) (v := ?_) rfl (by kernel_rfl) (by kernel_rfl) (by kernel_rfl) (fun _ _ _ h => h) (Or.inl ⟨by rfl, ?_⟩) (by assumption) ?_
  rotate_left
  · intro _ _; go_simp; first | done | with_reducible rfl
  simp only [Act.put, List.setIfInBounds_toArray, List.set_cons_zero, List.set_cons_succ]
  refine wpAnyH_ready (rs := [39]) (by kernel_rfl) (by simp) ?_
  refine AllReadyH.cons (o := { dst := some 63, op := .call { callee := .value (.func 7), args := #[], argTypes := #[] }, type := 4, pos := "law.go:25", after := #[{ on := 38, ground := .chain }, { on := 38, ground := .guard }], guard := some (38, true) }) rfl (fun K hK => ?_) AllReadyH.nil
  go_simp
  refine (awake_any _ (HA.out _ h16).1).mono ?_; rintro e w17 ⟨rfl, hb17⟩; have h17 : Below w2.heap.size w2 w17 := h16.trans (hb17.mono h16.size)
  go_simp
  refine hK.out _ _ ((HA.out _ h17).2.2.2.2.2) (fun hHeld => ?_)
  clear hK K
  refine wpAnyH_take (i := 40) (oi := { dst := some 64, op := .pick (.tmp 62) (.tmp 63) (.const (.bool false)), type := 4, pos := "law.go:25", after := #[{ on := 38, ground := .data }, { on := 39, ground := .data }], guard := none }) (v := ?_) rfl (by kernel_rfl) (by kernel_rfl) (by kernel_rfl) (fun _ _ _ h => h) (Or.inl ⟨by rfl, ?_⟩) (by assumption) ?_
  rotate_left
  · intro _ _; go_simp; first | done | with_reducible rfl
  simp only [Act.put, List.setIfInBounds_toArray, List.set_cons_zero, List.set_cons_succ]
  refine wpAnyH_take (i := 41) (oi := { dst := some 6, op := .assign (.tmp 64), type := 4, pos := "law.go:25", after := #[{ on := 40, ground := .data }, { on := 39, ground := .chain }, { on := 0, ground := .phase }, { on := 1, ground := .phase }, { on := 2, ground := .phase }, { on := 3, ground := .phase }, { on := 4, ground := .phase }, { on := 5, ground := .phase }, { on := 6, ground := .phase }, { on := 7, ground := .phase }, { on := 8, ground := .phase }, { on := 9, ground := .phase }, { on := 10, ground := .phase }, { on := 11, ground := .phase }, { on := 12, ground := .phase }, { on := 13, ground := .phase }, { on := 14, ground := .phase }, { on := 15, ground := .phase }, { on := 16, ground := .phase }, { on := 17, ground := .phase }, { on := 18, ground := .phase }, { on := 19, ground := .phase }, { on := 20, ground := .phase }, { on := 21, ground := .phase }, { on := 22, ground := .phase }, { on := 23, ground := .phase }, { on := 24, ground := .phase }, { on := 25, ground := .phase }, { on := 26, ground := .phase }, { on := 27, ground := .phase }, { on := 28, ground := .phase }, { on := 29, ground := .phase }, { on := 30, ground := .phase }, { on := 31, ground := .phase }, { on := 32, ground := .phase }, { on := 33, ground := .phase }, { on := 34, ground := .phase }, { on := 35, ground := .phase }, { on := 36, ground := .phase }, { on := 37, ground := .phase }, { on := 38, ground := .phase }, { on := 39, ground := .phase }, { on := 40, ground := .phase }], guard := none }) (v := ?_) rfl (by kernel_rfl) (by kernel_rfl) (by kernel_rfl) (fun _ _ _ h => h) (Or.inl ⟨by rfl, ?_⟩) (by assumption) ?_
  rotate_left
  · intro _ _; go_simp; first | done | with_reducible rfl
  simp only [Act.put, List.setIfInBounds_toArray, List.set_cons_zero, List.set_cons_succ]
  refine wpAnyH_done (by kernel_rfl) ?_ _
  refine NoPanic.normal ?_
  have HEND : Hid (Below N w w17) := HE.out.trans (h17.mono h2N)
  clear hHeld u26 ip h6 h7 h8 h9 h10 h11 h12 h13 h14 h15 h16 h17 hb6 hb7 hb8 hb9 hb10 hb11 hb12 hb13 hb14 hb15 hb16 hb17
  go_wp2_with fail
  go_ret
  subst hN
  exact ⟨rfl, HEND.out⟩
end Go.Proofs.YtlgadelcgboeoaaDoor
