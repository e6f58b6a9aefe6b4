/- PointOrder answers true at every list and every number. -/
import Derived.Test.YtlgadelcgboeoaaDoorLParts
namespace Go.Proofs.YtlgadelcgboeoaaDoor
open Go.ChangeShapes Go.WideShapes Go.ChangeAt Go.RowKit

set_option maxRecDepth 100000 in
set_option maxHeartbeats 4000000 in
theorem order_out (a : Option Addr) (n cap : Nat) (z : Int) (w : World) (hm : Mx w) (hnm : n = 0 ∨ 60 < n) :
    Calls Tryd.prog 4 #[.slice a n cap, .int .i64 z] w fun e w' => e = .returned (.bool true) ∧ Below w.heap.size w w' := by
  have HM : Hid (Mx w) := hm
  clear hm
  go_enter Tryd.func4, Tryd.ntmps4
  by_cases h1 : n = 0
  · subst h1
    go_wp2_with fail
    refine (awake_any w HM.out).mono ?_
    rintro e w2 ⟨rfl, hb2⟩
    have HB2 : Hid (Below w.heap.size w w2) := hb2
    clear hb2
    go_wp2_with fail
    go_ret
    exact ⟨rfl, HB2.out⟩
  · have g1 : ((n : Int) == 0) = false := by simpa using h1
    have g2 : (60 : Int) < (n : Int) := by omega
    go_wp2_with fail
    refine (awake_any w HM.out).mono ?_
    rintro e w2 ⟨rfl, hb2⟩
    have HB2 : Hid (Below w.heap.size w w2) := hb2
    clear hb2
    go_wp2_with fail
    go_ret
    exact ⟨rfl, HB2.out⟩

set_option maxRecDepth 100000 in
set_option maxHeartbeats 8000000 in
theorem order_in (a : Option Addr) (n cap : Nat) (l : List Pt) (z : Int) (w : World) (hp : Pts w a n cap l) (hm : Mx w) (hn0 : 0 < n) (hn : n ≤ 60) :
    Calls Tryd.prog 4 #[.slice a n cap, .int .i64 z] w fun e w' => e = .returned (.bool true) ∧ Below w.heap.size w w' := by
  have HM : Hid (Mx w) := hm
  have HU := und_pt
  have HMO := follows_mixed
  have HL : Hid (l.length = n) := hp.len
  have HP : Hid (Pts w a n cap l) := hp
  have hcap := hp.fits
  obtain ⟨b, o, rfl, _⟩ := hp.there hn0
  have g1 : ((n : Int) == 0) = false := by simpa using (by omega : ¬ n = 0)
  have g2 : ¬ (60 : Int) < (n : Int) := by omega
  obtain ⟨k, hk, hkn⟩ : ∃ k : Nat, z % (n : Int) = (k : Int) ∧ k < n := by
    have h1 := Int.emod_nonneg z (show (n : Int) ≠ 0 by omega)
    have h2 := Int.emod_lt_of_pos z (show (0 : Int) < (n : Int) by omega)
    exact ⟨(z % (n : Int)).toNat, by omega, by omega⟩
  have HK : Hid (z % (n : Int) = (k : Int)) := hk
  clear hm hp hk
  go_enter Tryd.func4, Tryd.ntmps4
  go_wp2_with fail
  refine (sort_any _ n cap l w HP.out (by omega)).mono ?_
  rintro e w1 ⟨al, m, cl, r, rfl, hinc, hmem, hpr, hmn, hb1⟩
  have H1 : Hid (Inc r ∧ (∀ x, x ∈ r ↔ x ∈ l) ∧ Pts w1 al m cl r ∧ Pts w1 (some ⟨b, o, none⟩) n cap l ∧ Mx w1 ∧ Below w.heap.size w w1) := ⟨hinc, hmem, hpr, HP.out.below hb1, HM.out.below hb1, hb1⟩
  have HRL : Hid (r.length = m) := hpr.len
  clear hinc hmem hpr hb1 HP HM
  go_wp2_with fail
  refine (round_any z (n : Int) w1 (by omega) (by omega)).mono ?_
  rw [HK.out]
  rintro e w1' ⟨rfl, rfl⟩
  have h1N : w.heap.size ≤ w1.heap.size := H1.out.2.2.2.2.2.size
  have HTK : Hid (∀ w', Below w1.heap.size w1 w' → Pts w' (some ⟨b, o, none⟩) k cap (l.take k) ∧ Pts w' (some ⟨b, o + k * 33, none⟩) (n - k) (cap - k) (l.drop k)) := fun w' hw' =>
    ⟨(H1.out.2.2.2.1.below hw').take k (by omega), (H1.out.2.2.2.1.below hw').drop k (by omega) _ (fun h => nomatch h) (fun b' o' e _ => by injection e with e; injection e with e1 e2; rw [e1, e2])⟩
  have hdl : (l.drop k).length = n - k := by rw [List.length_drop, HL.out]
  have htl : (l.take k).length = k := by rw [List.length_take, HL.out]; omega
  have HPM : Hid (([] ++ l.drop k ++ l.take k).Perm l) := by
    have h : (l.drop k ++ l.take k).Perm l := List.perm_append_comm.trans (List.Perm.of_eq (List.take_append_drop k l))
    show List.Perm _ _
    simpa using h
  have HL4 : Hid (([] ++ l.drop k ++ l.take k).length = n) := by
    show _ = _
    rw [List.length_append, List.nil_append, hdl, htl]; omega
  have f0 : (0 : Int) ≤ (k : Int) := by omega
  have f1 : (k : Int) ≤ (n : Int) := by omega
  have f2 : (k : Int) ≤ (cap : Int) := by omega
  have f3 : (n : Int) ≤ (cap : Int) := by omega
  have f4 : ¬ cap = k := by omega
  go_wp2_with fail
  refine wp_region_noPanic ?_
  refine wp_region_held_drew (S := fun w' => Below w1.heap.size w1 w') HMO.out ((Below.refl _ _).drew) (fun hHeld => ?_)
  refine wpAnyH_take (i := 1) (oi := { dst := some 26, op := .move (.tmp 0), type := 22, pos := "law.go:35", after := #[], guard := none }) (v := ?_) rfl (by kernel_rfl) (by kernel_rfl) (by kernel_rfl) (fun _ _ _ h => h) (Or.inl ⟨by rfl, ?_⟩) (by assumption) ?_
  rotate_left
  · intro _ _; go_simp; first | done | with_reducible rfl
  simp only [Act.put, List.setIfInBounds_toArray, List.set_cons_zero, List.set_cons_succ]
  refine wpAnyH_take (i := 2) (oi := { dst := some 27, op := .move (.tmp 6), type := 3, pos := "law.go:35", after := #[], guard := none }) (v := ?_) rfl (by kernel_rfl) (by kernel_rfl) (by kernel_rfl) (fun _ _ _ h => h) (Or.inl ⟨by rfl, ?_⟩) (by assumption) ?_
  rotate_left
  · intro _ _; go_simp; first | done | with_reducible rfl
  simp only [Act.put, List.setIfInBounds_toArray, List.set_cons_zero, List.set_cons_succ]
  refine wpAnyH_take (i := 3) (oi := { dst := some 28, op := .slice 22 (.tmp 26) (some (.tmp 27)) none none, type := 22, pos := "law.go:35", after := #[{ on := 1, ground := .data }, { on := 2, ground := .data }], guard := none }) (v := ?_) rfl (by kernel_rfl) (by kernel_rfl) (by kernel_rfl) (fun _ _ _ h => h) (Or.inl ⟨by rfl, ?_⟩) (by assumption) ?_
  rotate_left
  · intro _ _; go_simp; first | done | with_reducible rfl
  simp only [Act.put, List.setIfInBounds_toArray, List.set_cons_zero, List.set_cons_succ]
  refine wpAnyH_take (i := 5) (oi := { dst := some 30, op := .move (.tmp 0), type := 22, pos := "law.go:35", after := #[], guard := none }) (v := ?_) rfl (by kernel_rfl) (by kernel_rfl) (by kernel_rfl) (fun _ _ _ h => h) (Or.inl ⟨by rfl, ?_⟩) (by assumption) ?_
  rotate_left
  · intro _ _; go_simp; first | done | with_reducible rfl
  simp only [Act.put, List.setIfInBounds_toArray, List.set_cons_zero, List.set_cons_succ]
  refine wpAnyH_take (i := 6) (oi := { dst := some 31, op := .move (.tmp 6), type := 3, pos := "law.go:35", after := #[], guard := none }) (v := ?_) rfl (by kernel_rfl) (by kernel_rfl) (by kernel_rfl) (fun _ _ _ h => h) (Or.inl ⟨by rfl, ?_⟩) (by assumption) ?_
  rotate_left
  · intro _ _; go_simp; first | done | with_reducible rfl
  simp only [Act.put, List.setIfInBounds_toArray, List.set_cons_zero, List.set_cons_succ]
  refine wpAnyH_take (i := 7) (oi := { dst := some 32, op := .slice 22 (.tmp 30) none (some (.tmp 31)) none, type := 22, pos := "law.go:35", after := #[{ on := 5, ground := .data }, { on := 6, ground := .data }], guard := none }) (v := ?_) rfl (by kernel_rfl) (by kernel_rfl) (by kernel_rfl) (fun _ _ _ h => h) (Or.inl ⟨by rfl, ?_⟩) (by assumption) ?_
  rotate_left
  · intro _ _; go_simp; first | done | with_reducible rfl
  simp only [Act.put, List.setIfInBounds_toArray, List.set_cons_zero, List.set_cons_succ]
  refine wpAnyH_ready (rs := [0]) (by kernel_rfl) (by simp) ?_
  refine AllReadyH.cons (o := { dst := some 25, op := .buildSlice 22 0 #[], type := 22, pos := "law.go:35", after := #[], guard := none }) rfl (fun K hK => ?_) AllReadyH.nil
  refine step_build_none rfl rfl ?_; intro wz HOZ HEZ; have HOC : Hid (Own wz w1.heap.size _ []) := HOZ.out.less hHeld.size
  simp only [Act.put, List.setIfInBounds_toArray, List.set_cons_zero, List.set_cons_succ]
  refine hK.out _ _ ((show Below _ _ wz by rw [HEZ.out]; exact hHeld.alloc hHeld.size _)) (fun hHeld => ?_)
  clear hK K
  refine wpAnyH_ready (rs := [4]) (by kernel_rfl) (by simp) ?_
  refine AllReadyH.cons (o := { dst := some 29, op := .call { callee := .builtin Go.Builtin.append, args := #[.tmp 25, .tmp 28], argTypes := #[22, 22] }, type := 22, pos := "law.go:35", after := #[{ on := 0, ground := .data }, { on := 3, ground := .data }], guard := none }) rfl (fun K hK => ?_) AllReadyH.nil
  refine step_append_pts rfl _ _ rfl w1.heap.size _ [] rfl HOC.out _ (n - k) (cap - k) (l.drop k) rfl (HTK.out _ hHeld).2 (by simp; omega) hHeld.size ?_; intro v3 w3 HO3 HG3
  simp only [Act.put, List.setIfInBounds_toArray, List.set_cons_zero, List.set_cons_succ]
  refine hK.out _ _ (hHeld.trans (HOC.out.grown HG3.out hHeld.size)) (fun hHeld => ?_)
  clear hK K
  refine wpAnyH_ready (rs := [8]) (by kernel_rfl) (by simp) ?_
  refine AllReadyH.cons (o := { dst := some 33, op := .call { callee := .builtin Go.Builtin.append, args := #[.tmp 29, .tmp 32], argTypes := #[22, 22] }, type := 22, pos := "law.go:35", after := #[{ on := 4, ground := .data }, { on := 7, ground := .data }, { on := 4, ground := .chain }], guard := none }) rfl (fun K hK => ?_) AllReadyH.nil
  refine step_append_pts rfl _ _ rfl w1.heap.size v3 ([] ++ l.drop k) rfl HO3.out _ k cap (l.take k) rfl (HTK.out _ hHeld).1 (by rw [List.nil_append, hdl]; omega) hHeld.size ?_; intro v4 w4 HO4 HG4; obtain ⟨a4, c4, hv4, hp4⟩ := HO4.out.pts; subst hv4; rw [HL4.out] at hp4 ⊢
  simp only [Act.put, List.setIfInBounds_toArray, List.set_cons_zero, List.set_cons_succ]
  refine hK.out _ _ (hHeld.trans (HO3.out.grown HG4.out hHeld.size)) (fun hHeld => ?_)
  clear hK K
  refine wpAnyH_ready (rs := [9]) (by kernel_rfl) (by simp) ?_
  refine AllReadyH.cons (o := { dst := some 34, op := .call { callee := .value (.func 10), args := #[.tmp 33], argTypes := #[22] }, type := 22, pos := "law.go:35", after := #[{ on := 8, ground := .data }, { on := 8, ground := .chain }], guard := none }) rfl (fun K hK => ?_) AllReadyH.nil
  go_simp
  refine (sort_any a4 n c4 _ w4 hp4 (by omega)).mono ?_; rintro e w5 ⟨ag, mg, cg, rg, rfl, hincg, hmemg, hpg, hmg, hb5⟩; have h5 : Below w1.heap.size w1 w5 := hHeld.trans (hb5.mono hHeld.size)
  go_simp
  refine hK.out _ _ (h5) (fun hHeld => ?_)
  clear hK K
  refine wpAnyH_take (i := 10) (oi := { dst := some 7, op := .assign (.tmp 34), type := 22, pos := "law.go:35", after := #[{ on := 9, ground := .data }, { on := 9, ground := .chain }, { on := 0, ground := .phase }, { on := 1, ground := .phase }, { on := 2, ground := .phase }, { on := 3, ground := .phase }, { on := 4, ground := .phase }, { on := 5, ground := .phase }, { on := 6, ground := .phase }, { on := 7, ground := .phase }, { on := 8, ground := .phase }, { on := 9, ground := .phase }], guard := none }) (v := ?_) rfl (by kernel_rfl) (by kernel_rfl) (by kernel_rfl) (fun _ _ _ h => h) (Or.inl ⟨by rfl, ?_⟩) (by assumption) ?_
  rotate_left
  · intro _ _; go_simp; first | done | with_reducible rfl
  simp only [Act.put, List.setIfInBounds_toArray, List.set_cons_zero, List.set_cons_succ]
  refine wpAnyH_done (by kernel_rfl) ?_ _
  refine NoPanic.normal ?_
  have hrg : rg = r := inc_ext hincg H1.out.1 (fun x => (hmemg x).trans (HPM.out.mem_iff.trans (H1.out.2.1 x).symm))
  subst hrg
  obtain rfl : m = mg := by rw [← HRL.out]; exact hpg.len
  have HA : Hid (∀ w', Below w5.heap.size w5 w' → Mx w' ∧ Pts w' (some ⟨b, o, none⟩) n cap l ∧ Pts w' al m cl rg ∧ Pts w' ag m cg rg ∧ Pts w' (some ⟨b, o, none⟩) k cap (l.take k) ∧ Pts w' (some ⟨b, o + k * 33, none⟩) (n - k) (cap - k) (l.drop k)) := fun w' hw' => by
    have hw1 : Below w1.heap.size w1 w' := h5.trans (hw'.mono h5.size)
    obtain ⟨h1, h2, h3, h4, h6, _⟩ := H1.out
    exact ⟨h6.below hw1, h4.below hw1, h3.below hw1, hpg.below hw', HTK.out _ hw1⟩
  have HI : Hid (Inc rg ∧ ∀ x, x ∈ rg ↔ x ∈ l) := ⟨H1.out.1, H1.out.2.1⟩
  have HE : Hid (Below w.heap.size w w5) := H1.out.2.2.2.2.2.trans (h5.mono h1N)
  have h5N : w.heap.size ≤ w5.heap.size := HE.out.size
  clear hHeld hincg hmemg hpg hmg hb5 h5 hp4 HO4 HG4 HO3 HG3 HOC HOZ HEZ H1 HTK HK h1N
  go_wp2_with fail
  go_loopw [8] (fun i wr => ∃ q : Nat, q ≤ m ∧ i = .int .i64 q ∧ Below w5.heap.size w5 wr) (fun i _ => m - (intOf i).toNat)
  case atStart => exact ⟨0, by omega, rfl, Below.refl _ _⟩
  case round =>
    obtain ⟨q, hq, rfl, hbk⟩ := hrel
    by_cases hlt : q < m
    · have e0 : (0 : Int) ≤ (q : Int) := by omega
      have e1 : (q : Int) < (m : Int) := by omega
      obtain ⟨rb, ro, hal, hcx⟩ := (HA.out _ hbk).2.2.1.at q hlt
      subst hal
      obtain ⟨x, hx⟩ : ∃ x, x = rg.getD q default := ⟨_, rfl⟩
      rw [← hx] at hcx
      have HX : Hid (x = rg.getD q default) := hx
      have HCX : Hid (wr.rangeAt rb (ro + q * 33) x.cs) := hcx
      have HBK : Hid (Below w5.heap.size w5 wr) := hbk
      have hwr : w5.heap.size ≤ wr.heap.size := hbk.size
      have HIN : Hid (decide (x ∈ l) = true) := decide_eq_true ((HI.out.2 x).1 (by rw [hx]; exact getD_mem (by rw [HRL.out]; exact hlt)))
      have u26 := HU.out
      have ix := size_pt x
      clear hx hcx hbk
      by_cases hq0 : q = 0
      · have HSK : Hid (∀ w', Below wr.heap.size wr w' → w'.rangeAt rb (ro + q * 33) x.cs) := fun w' hw' => rangeAt_below HCX.out hw' (Nat.le_refl _)
        have HQ0 : Hid (q = 0) := hq0
        have g0 : ¬ 0 < q := by omega
        clear hq0
        go_wp2_with fail
        refine wp_region_noPanic ?_
        refine wp_region_held_drew (S := fun w' => w'.rangeAt rb (ro + q * 33) x.cs) HMO.out (HSK.out _ (Below.refl _ _).drew) (fun hHeld => ?_)
        refine wpAnyH_take (i := 0) (oi := { dst := some 41, op := .move (.tmp 8), type := 3, pos := "law.go:37", after := #[], guard := none }) (v := ?_) rfl (by kernel_rfl) (by kernel_rfl) (by kernel_rfl) (fun _ _ _ h => h) (Or.inl ⟨by rfl, ?_⟩) (by assumption) ?_
        rotate_left
        · intro _ _; go_simp; first | done | with_reducible rfl
        simp only [Act.put, List.setIfInBounds_toArray, List.set_cons_zero, List.set_cons_succ]
        refine wpAnyH_take (i := 1) (oi := { dst := some 42, op := .binOp Go.BinOp.gtr 3 (.tmp 41) (.const (.int .i64 0)) 3, type := 4, pos := "law.go:37", after := #[{ on := 0, ground := .data }], guard := none }) (v := .bool false) rfl (by kernel_rfl) (by kernel_rfl) (by kernel_rfl) (fun _ _ _ h => h) (Or.inl ⟨by rfl, ?_⟩) (by assumption) ?_
        · intro _ _; go_simp
        simp only [Act.put, List.setIfInBounds_toArray, List.set_cons_zero, List.set_cons_succ]
        refine wpAnyH_take (i := 2) (oi := { dst := some 43, op := .move (.tmp 42), type := 4, pos := "law.go:37", after := #[{ on := 1, ground := .data }], guard := none }) (v := ?_) rfl (by kernel_rfl) (by kernel_rfl) (by kernel_rfl) (fun _ _ _ h => h) (Or.inl ⟨by rfl, ?_⟩) (by assumption) ?_
        rotate_left
        · intro _ _; go_simp; first | done | with_reducible rfl
        simp only [Act.put, List.setIfInBounds_toArray, List.set_cons_zero, List.set_cons_succ]
        refine wpAnyH_take (i := 3) (oi := { dst := some 44, op := .move (.tmp 5), type := 22, pos := "law.go:37", after := #[{ on := 2, ground := .guard }], guard := some (2, true) }) (v := undef) rfl (by kernel_rfl) (by kernel_rfl) (by kernel_rfl) (fun _ _ _ h => h) (Or.inr ⟨by rfl, rfl⟩) (by assumption) ?_
        simp only [Act.put, List.setIfInBounds_toArray, List.set_cons_zero, List.set_cons_succ]
        refine wpAnyH_take (i := 4) (oi := { dst := some 45, op := .move (.tmp 8), type := 3, pos := "law.go:37", after := #[{ on := 2, ground := .guard }], guard := some (2, true) }) (v := undef) rfl (by kernel_rfl) (by kernel_rfl) (by kernel_rfl) (fun _ _ _ h => h) (Or.inr ⟨by rfl, rfl⟩) (by assumption) ?_
        simp only [Act.put, List.setIfInBounds_toArray, List.set_cons_zero, List.set_cons_succ]
        refine wpAnyH_take (i := 5) (oi := { dst := some 46, op := .binOp Go.BinOp.sub 3 (.tmp 45) (.const (.int .i64 1)) 3, type := 3, pos := "law.go:37", after := #[{ on := 4, ground := .data }, { on := 2, ground := .guard }], guard := some (2, true) }) (v := undef) rfl (by kernel_rfl) (by kernel_rfl) (by kernel_rfl) (fun _ _ _ h => h) (Or.inr ⟨by rfl, rfl⟩) (by assumption) ?_
        simp only [Act.put, List.setIfInBounds_toArray, List.set_cons_zero, List.set_cons_succ]
        refine wpAnyH_take (i := 6) (oi := { dst := some 47, op := .indexAddr 22 (.tmp 44) (.tmp 46), type := 0, pos := "law.go:37", after := #[{ on := 3, ground := .data }, { on := 5, ground := .data }, { on := 2, ground := .guard }], guard := some (2, true) }) (v := undef) rfl (by kernel_rfl) (by kernel_rfl) (by kernel_rfl) (fun _ _ _ h => h) (Or.inr ⟨by rfl, rfl⟩) (by assumption) ?_
        simp only [Act.put, List.setIfInBounds_toArray, List.set_cons_zero, List.set_cons_succ]
        refine wpAnyH_take (i := 7) (oi := { dst := some 48, op := .load 26 (.tmp 47), type := 26, pos := "law.go:37", after := #[{ on := 6, ground := .data }, { on := 2, ground := .guard }], guard := some (2, true) }) (v := undef) rfl (by kernel_rfl) (by kernel_rfl) (by kernel_rfl) (fun _ _ _ h => h) (Or.inr ⟨by rfl, rfl⟩) (by assumption) ?_
        simp only [Act.put, List.setIfInBounds_toArray, List.set_cons_zero, List.set_cons_succ]
        refine wpAnyH_take (i := 8) (oi := { dst := some 49, op := .move (.tmp 5), type := 22, pos := "law.go:37", after := #[{ on := 2, ground := .guard }], guard := some (2, true) }) (v := undef) rfl (by kernel_rfl) (by kernel_rfl) (by kernel_rfl) (fun _ _ _ h => h) (Or.inr ⟨by rfl, rfl⟩) (by assumption) ?_
        simp only [Act.put, List.setIfInBounds_toArray, List.set_cons_zero, List.set_cons_succ]
        refine wpAnyH_take (i := 9) (oi := { dst := some 50, op := .move (.tmp 8), type := 3, pos := "law.go:37", after := #[{ on := 2, ground := .guard }], guard := some (2, true) }) (v := undef) rfl (by kernel_rfl) (by kernel_rfl) (by kernel_rfl) (fun _ _ _ h => h) (Or.inr ⟨by rfl, rfl⟩) (by assumption) ?_
        simp only [Act.put, List.setIfInBounds_toArray, List.set_cons_zero, List.set_cons_succ]
        refine wpAnyH_take (i := 10) (oi := { dst := some 51, op := .indexAddr 22 (.tmp 49) (.tmp 50), type := 0, pos := "law.go:37", after := #[{ on := 8, ground := .data }, { on := 9, ground := .data }, { on := 2, ground := .guard }], guard := some (2, true) }) (v := undef) rfl (by kernel_rfl) (by kernel_rfl) (by kernel_rfl) (fun _ _ _ h => h) (Or.inr ⟨by rfl, rfl⟩) (by assumption) ?_
        simp only [Act.put, List.setIfInBounds_toArray, List.set_cons_zero, List.set_cons_succ]
        refine wpAnyH_take (i := 11) (oi := { dst := some 52, op := .load 26 (.tmp 51), type := 26, pos := "law.go:37", after := #[{ on := 10, ground := .data }, { on := 2, ground := .guard }], guard := some (2, true) }) (v := undef) rfl (by kernel_rfl) (by kernel_rfl) (by kernel_rfl) (fun _ _ _ h => h) (Or.inr ⟨by rfl, rfl⟩) (by assumption) ?_
        simp only [Act.put, List.setIfInBounds_toArray, List.set_cons_zero, List.set_cons_succ]
        refine wpAnyH_take (i := 12) (oi := { dst := some 53, op := .call { callee := .value (.func 19), args := #[.tmp 48, .tmp 52], argTypes := #[26, 26] }, type := 4, pos := "law.go:37", after := #[{ on := 7, ground := .data }, { on := 11, ground := .data }, { on := 2, ground := .chain }, { on := 2, ground := .guard }], guard := some (2, true) }) (v := undef) rfl (by kernel_rfl) (by kernel_rfl) (by kernel_rfl) (fun _ _ _ h => h) (Or.inr ⟨by rfl, rfl⟩) (by assumption) ?_
        simp only [Act.put, List.setIfInBounds_toArray, List.set_cons_zero, List.set_cons_succ]
        refine wpAnyH_take (i := 13) (oi := { dst := some 54, op := .unOp Go.UnOp.not 4 (.tmp 53), type := 4, pos := "law.go:37", after := #[{ on := 12, ground := .data }, { on := 2, ground := .guard }], guard := some (2, true) }) (v := undef) rfl (by kernel_rfl) (by kernel_rfl) (by kernel_rfl) (fun _ _ _ h => h) (Or.inr ⟨by rfl, rfl⟩) (by assumption) ?_
        simp only [Act.put, List.setIfInBounds_toArray, List.set_cons_zero, List.set_cons_succ]
        refine wpAnyH_take (i := 14) (oi := { dst := some 55, op := .move (.tmp 54), type := 4, pos := "law.go:37", after := #[{ on := 13, ground := .data }, { on := 12, ground := .chain }, { on := 2, ground := .guard }], guard := some (2, true) }) (v := undef) rfl (by kernel_rfl) (by kernel_rfl) (by kernel_rfl) (fun _ _ _ h => h) (Or.inr ⟨by rfl, rfl⟩) (by assumption) ?_
        simp only [Act.put, List.setIfInBounds_toArray, List.set_cons_zero, List.set_cons_succ]
        refine wpAnyH_take (i := 15) (oi := { dst := some 56, op := .move (.tmp 5), type := 22, pos := "law.go:37", after := #[{ on := 14, ground := .guard }], guard := some (14, false) }) (v := undef) rfl (by kernel_rfl) (by kernel_rfl) (by kernel_rfl) (fun _ _ _ h => h) (Or.inr ⟨by rfl, rfl⟩) (by assumption) ?_
        simp only [Act.put, List.setIfInBounds_toArray, List.set_cons_zero, List.set_cons_succ]
        refine wpAnyH_take (i := 16) (oi := { dst := some 57, op := .move (.tmp 8), type := 3, pos := "law.go:37", after := #[{ on := 14, ground := .guard }], guard := some (14, false) }) (v := undef) rfl (by kernel_rfl) (by kernel_rfl) (by kernel_rfl) (fun _ _ _ h => h) (Or.inr ⟨by rfl, rfl⟩) (by assumption) ?_
        simp only [Act.put, List.setIfInBounds_toArray, List.set_cons_zero, List.set_cons_succ]
        refine wpAnyH_take (i := 17) (oi := { dst := some 58, op := .indexAddr 22 (.tmp 56) (.tmp 57), type := 0, pos := "law.go:37", after := #[{ on := 15, ground := .data }, { on := 16, ground := .data }, { on := 14, ground := .guard }], guard := some (14, false) }) (v := undef) rfl (by kernel_rfl) (by kernel_rfl) (by kernel_rfl) (fun _ _ _ h => h) (Or.inr ⟨by rfl, rfl⟩) (by assumption) ?_
        simp only [Act.put, List.setIfInBounds_toArray, List.set_cons_zero, List.set_cons_succ]
        refine wpAnyH_take (i := 18) (oi := { dst := some 59, op := .load 26 (.tmp 58), type := 26, pos := "law.go:37", after := #[{ on := 17, ground := .data }, { on := 14, ground := .guard }], guard := some (14, false) }) (v := undef) rfl (by kernel_rfl) (by kernel_rfl) (by kernel_rfl) (fun _ _ _ h => h) (Or.inr ⟨by rfl, rfl⟩) (by assumption) ?_
        simp only [Act.put, List.setIfInBounds_toArray, List.set_cons_zero, List.set_cons_succ]
        refine wpAnyH_take (i := 19) (oi := { dst := some 60, op := .move (.tmp 5), type := 22, pos := "law.go:37", after := #[{ on := 14, ground := .guard }], guard := some (14, false) }) (v := undef) rfl (by kernel_rfl) (by kernel_rfl) (by kernel_rfl) (fun _ _ _ h => h) (Or.inr ⟨by rfl, rfl⟩) (by assumption) ?_
        simp only [Act.put, List.setIfInBounds_toArray, List.set_cons_zero, List.set_cons_succ]
        refine wpAnyH_take (i := 20) (oi := { dst := some 61, op := .move (.tmp 8), type := 3, pos := "law.go:37", after := #[{ on := 14, ground := .guard }], guard := some (14, false) }) (v := undef) rfl (by kernel_rfl) (by kernel_rfl) (by kernel_rfl) (fun _ _ _ h => h) (Or.inr ⟨by rfl, rfl⟩) (by assumption) ?_
        simp only [Act.put, List.setIfInBounds_toArray, List.set_cons_zero, List.set_cons_succ]
        refine wpAnyH_take (i := 21) (oi := { dst := some 62, op := .binOp Go.BinOp.sub 3 (.tmp 61) (.const (.int .i64 1)) 3, type := 3, pos := "law.go:37", after := #[{ on := 20, ground := .data }, { on := 14, ground := .guard }], guard := some (14, false) }) (v := undef) rfl (by kernel_rfl) (by kernel_rfl) (by kernel_rfl) (fun _ _ _ h => h) (Or.inr ⟨by rfl, rfl⟩) (by assumption) ?_
        simp only [Act.put, List.setIfInBounds_toArray, List.set_cons_zero, List.set_cons_succ]
        refine wpAnyH_take (i := 22) (oi := { dst := some 63, op := .indexAddr 22 (.tmp 60) (.tmp 62), type := 0, pos := "law.go:37", after := #[{ on := 19, ground := .data }, { on := 21, ground := .data }, { on := 14, ground := .guard }], guard := some (14, false) }) (v := undef) rfl (by kernel_rfl) (by kernel_rfl) (by kernel_rfl) (fun _ _ _ h => h) (Or.inr ⟨by rfl, rfl⟩) (by assumption) ?_
        simp only [Act.put, List.setIfInBounds_toArray, List.set_cons_zero, List.set_cons_succ]
        refine wpAnyH_take (i := 23) (oi := { dst := some 64, op := .load 26 (.tmp 63), type := 26, pos := "law.go:37", after := #[{ on := 22, ground := .data }, { on := 14, ground := .guard }], guard := some (14, false) }) (v := undef) rfl (by kernel_rfl) (by kernel_rfl) (by kernel_rfl) (fun _ _ _ h => h) (Or.inr ⟨by rfl, rfl⟩) (by assumption) ?_
        simp only [Act.put, List.setIfInBounds_toArray, List.set_cons_zero, List.set_cons_succ]
        refine wpAnyH_take (i := 24) (oi := { dst := some 65, op := .call { callee := .value (.func 19), args := #[.tmp 59, .tmp 64], argTypes := #[26, 26] }, type := 4, pos := "law.go:37", after := #[{ on := 18, ground := .data }, { on := 23, ground := .data }, { on := 14, ground := .chain }, { on := 14, ground := .guard }], guard := some (14, false) }) (v := undef) rfl (by kernel_rfl) (by kernel_rfl) (by kernel_rfl) (fun _ _ _ h => h) (Or.inr ⟨by rfl, rfl⟩) (by assumption) ?_
        simp only [Act.put, List.setIfInBounds_toArray, List.set_cons_zero, List.set_cons_succ]
        refine wpAnyH_take (i := 25) (oi := { dst := some 66, op := .pick (.tmp 55) (.const (.bool true)) (.tmp 65), type := 4, pos := "law.go:37", after := #[{ on := 14, ground := .data }, { on := 24, ground := .data }, { on := 2, ground := .guard }], guard := some (2, true) }) (v := undef) rfl (by kernel_rfl) (by kernel_rfl) (by kernel_rfl) (fun _ _ _ h => h) (Or.inr ⟨by rfl, rfl⟩) (by assumption) ?_
        simp only [Act.put, List.setIfInBounds_toArray, List.set_cons_zero, List.set_cons_succ]
        refine wpAnyH_take (i := 26) (oi := { dst := some 67, op := .pick (.tmp 43) (.tmp 66) (.const (.bool false)), type := 4, pos := "law.go:37", after := #[{ on := 2, ground := .data }, { on := 25, ground := .data }], guard := none }) (v := ?_) rfl (by kernel_rfl) (by kernel_rfl) (by kernel_rfl) (fun _ _ _ h => h) (Or.inl ⟨by rfl, ?_⟩) (by assumption) ?_
        rotate_left
        · intro _ _; go_simp; first | done | with_reducible rfl
        simp only [Act.put, List.setIfInBounds_toArray, List.set_cons_zero, List.set_cons_succ]
        refine wpAnyH_take (i := 27) (oi := { dst := some 68, op := .move (.tmp 67), type := 4, pos := "law.go:37", after := #[{ on := 26, ground := .data }, { on := 24, ground := .chain }], guard := none }) (v := ?_) rfl (by kernel_rfl) (by kernel_rfl) (by kernel_rfl) (fun _ _ _ h => h) (Or.inl ⟨by rfl, ?_⟩) (by assumption) ?_
        rotate_left
        · intro _ _; go_simp; first | done | with_reducible rfl
        simp only [Act.put, List.setIfInBounds_toArray, List.set_cons_zero, List.set_cons_succ]
        refine wpAnyH_take (i := 28) (oi := { dst := some 69, op := .move (.tmp 0), type := 22, pos := "law.go:37", after := #[{ on := 27, ground := .guard }], guard := some (27, false) }) (v := ?_) rfl (by kernel_rfl) (by kernel_rfl) (by kernel_rfl) (fun _ _ _ h => h) (Or.inl ⟨by rfl, ?_⟩) (by assumption) ?_
        rotate_left
        · intro _ _; go_simp; first | done | with_reducible rfl
        simp only [Act.put, List.setIfInBounds_toArray, List.set_cons_zero, List.set_cons_succ]
        refine wpAnyH_take (i := 29) (oi := { dst := some 70, op := .move (.tmp 5), type := 22, pos := "law.go:37", after := #[{ on := 27, ground := .guard }], guard := some (27, false) }) (v := ?_) rfl (by kernel_rfl) (by kernel_rfl) (by kernel_rfl) (fun _ _ _ h => h) (Or.inl ⟨by rfl, ?_⟩) (by assumption) ?_
        rotate_left
        · intro _ _; go_simp; first | done | with_reducible rfl
        simp only [Act.put, List.setIfInBounds_toArray, List.set_cons_zero, List.set_cons_succ]
        refine wpAnyH_take (i := 30) (oi := { dst := some 71, op := .move (.tmp 8), type := 3, pos := "law.go:37", after := #[{ on := 27, ground := .guard }], guard := some (27, false) }) (v := ?_) rfl (by kernel_rfl) (by kernel_rfl) (by kernel_rfl) (fun _ _ _ h => h) (Or.inl ⟨by rfl, ?_⟩) (by assumption) ?_
        rotate_left
        · intro _ _; go_simp; first | done | with_reducible rfl
        simp only [Act.put, List.setIfInBounds_toArray, List.set_cons_zero, List.set_cons_succ]
        refine wpAnyH_take (i := 31) (oi := { dst := some 72, op := .indexAddr 22 (.tmp 70) (.tmp 71), type := 0, pos := "law.go:37", after := #[{ on := 29, ground := .data }, { on := 30, ground := .data }, { on := 27, ground := .guard }], guard := some (27, false) }) (v := ?_) rfl (by kernel_rfl) (by kernel_rfl) (by kernel_rfl) (fun _ _ _ h => h) (Or.inl ⟨by rfl, ?_⟩) (by assumption) ?_
        rotate_left
        · intro _ _; go_simp; first | done | with_reducible rfl
        simp only [Act.put, List.setIfInBounds_toArray, List.set_cons_zero, List.set_cons_succ]
        refine wpAnyH_take (i := 32) (oi := { dst := some 73, op := .load 26 (.tmp 72), type := 26, pos := "law.go:37", after := #[{ on := 31, ground := .data }, { on := 27, ground := .guard }], guard := some (27, false) }) (v := _) rfl (by kernel_rfl) (by kernel_rfl) (by kernel_rfl) (fun _ _ _ h => h) (yieldsIf_load_mid (by rfl) _ _ rfl (rb) (ro + q * 33) rfl (x.cs) _ (fun _ h => h) (u26) rfl (ix)) (by assumption) ?_
        simp only [Act.put, List.setIfInBounds_toArray, List.set_cons_zero, List.set_cons_succ]
        refine wpAnyH_ready (rs := [33]) (by kernel_rfl) (by simp) ?_
        refine AllReadyH.cons (o := { dst := some 74, op := .call { callee := .value (.func 16), args := #[.tmp 69, .tmp 73], argTypes := #[22, 26] }, type := 4, pos := "law.go:37", after := #[{ on := 28, ground := .data }, { on := 32, ground := .data }, { on := 27, ground := .chain }, { on := 27, ground := .guard }], guard := some (27, false) }) rfl (fun K hK => ?_) AllReadyH.nil
        go_simp
        refine (has_any _ n cap l x _ ((HA.out _ HBK.out).2.1.below (Below.refl _ _).drew) (by omega)).mono ?_; rw [HIN.out]; rintro e w6 ⟨rfl, hb6⟩; have h6 : Below wr.heap.size wr w6 := undrewn hb6
        go_simp
        refine hK.out _ _ (HSK.out _ h6) (fun hHeld => ?_)
        clear hK K
        refine wpAnyH_take (i := 34) (oi := { dst := some 75, op := .unOp Go.UnOp.not 4 (.tmp 74), type := 4, pos := "law.go:37", after := #[{ on := 33, ground := .data }, { on := 27, ground := .guard }], guard := some (27, false) }) (v := ?_) rfl (by kernel_rfl) (by kernel_rfl) (by kernel_rfl) (fun _ _ _ h => h) (Or.inl ⟨by rfl, ?_⟩) (by assumption) ?_
        rotate_left
        · intro _ _; go_simp; first | done | with_reducible rfl
        simp only [Act.put, List.setIfInBounds_toArray, List.set_cons_zero, List.set_cons_succ]
        refine wpAnyH_take (i := 35) (oi := { dst := some 76, op := .pick (.tmp 68) (.const (.bool true)) (.tmp 75), type := 4, pos := "law.go:37", after := #[{ on := 27, ground := .data }, { on := 34, ground := .data }], guard := none }) (v := ?_) rfl (by kernel_rfl) (by kernel_rfl) (by kernel_rfl) (fun _ _ _ h => h) (Or.inl ⟨by rfl, ?_⟩) (by assumption) ?_
        rotate_left
        · intro _ _; go_simp; first | done | with_reducible rfl
        simp only [Act.put, List.setIfInBounds_toArray, List.set_cons_zero, List.set_cons_succ]
        refine wpAnyH_done (by kernel_rfl) ?_ _
        refine NoPanic.normal ?_
        have HB6 : Hid (Below w5.heap.size w5 w6) := HBK.out.trans (h6.mono hwr)
        clear hHeld u26 ix HSK hb6 h6 g0
        go_wp2_with fail
        go_roundw
        case rel => exact ⟨q + 1, by omega, by go_num, HB6.out⟩
        case measure => simp [intOf]; omega
      · obtain ⟨rb2, ro2, hal2, hcy⟩ := (HA.out _ HBK.out).2.2.1.at (q - 1) (by omega)
        injection hal2 with hal2
        injection hal2 with e2 e3
        subst e2; subst e3
        obtain ⟨y, hy⟩ : ∃ y, y = rg.getD (q - 1) default := ⟨_, rfl⟩
        rw [← hy] at hcy
        have hlt1 : ltPt y x = true := by rw [hy, HX.out]; exact inc_lt HI.out.1 (by omega) (by rw [HRL.out]; exact hlt)
        have HLT : Hid (ltPt y x = true ∧ ltPt x y = false) := ⟨hlt1, ltPt_asymm hlt1⟩
        have HSK : Hid (∀ w', Below wr.heap.size wr w' → w'.rangeAt rb (ro + q * 33) x.cs ∧ w'.rangeAt rb (ro + (q - 1) * 33) y.cs) := fun w' hw' => ⟨rangeAt_below HCX.out hw' (Nat.le_refl _), rangeAt_below hcy hw' (Nat.le_refl _)⟩
        have iy := size_pt y
        have g0 : (0 : Int) < (q : Int) := by omega
        have g6 : (1 : Int) ≤ (q : Int) := by omega
        have g7 : 0 < q := by omega
        have g3 : (q : Int) - 1 < (m : Int) := by omega
        have g4 : ((q : Int) - 1).toNat = q - 1 := by omega
        have g5 : IntKind.i64.wrap ((q : Int) - 1) = (q : Int) - 1 := i64_fit (by omega) (by omega)
        clear hy hcy hlt1
        go_wp2_with fail
        refine wp_region_noPanic ?_
        refine wp_region_held_drew (S := fun w' => w'.rangeAt rb (ro + q * 33) x.cs ∧ w'.rangeAt rb (ro + (q - 1) * 33) y.cs) HMO.out (HSK.out _ (Below.refl _ _).drew) (fun hHeld => ?_)
        refine wpAnyH_take (i := 0) (oi := { dst := some 41, op := .move (.tmp 8), type := 3, pos := "law.go:37", after := #[], guard := none }) (v := ?_) rfl (by kernel_rfl) (by kernel_rfl) (by kernel_rfl) (fun _ _ _ h => h) (Or.inl ⟨by rfl, ?_⟩) (by assumption) ?_
        rotate_left
        · intro _ _; go_simp; first | done | with_reducible rfl
        simp only [Act.put, List.setIfInBounds_toArray, List.set_cons_zero, List.set_cons_succ]
        refine wpAnyH_take (i := 1) (oi := { dst := some 42, op := .binOp Go.BinOp.gtr 3 (.tmp 41) (.const (.int .i64 0)) 3, type := 4, pos := "law.go:37", after := #[{ on := 0, ground := .data }], guard := none }) (v := .bool true) rfl (by kernel_rfl) (by kernel_rfl) (by kernel_rfl) (fun _ _ _ h => h) (Or.inl ⟨by rfl, ?_⟩) (by assumption) ?_
        · intro _ _; go_simp
        simp only [Act.put, List.setIfInBounds_toArray, List.set_cons_zero, List.set_cons_succ]
        refine wpAnyH_take (i := 2) (oi := { dst := some 43, op := .move (.tmp 42), type := 4, pos := "law.go:37", after := #[{ on := 1, ground := .data }], guard := none }) (v := ?_) rfl (by kernel_rfl) (by kernel_rfl) (by kernel_rfl) (fun _ _ _ h => h) (Or.inl ⟨by rfl, ?_⟩) (by assumption) ?_
        rotate_left
        · intro _ _; go_simp; first | done | with_reducible rfl
        simp only [Act.put, List.setIfInBounds_toArray, List.set_cons_zero, List.set_cons_succ]
        refine wpAnyH_take (i := 3) (oi := { dst := some 44, op := .move (.tmp 5), type := 22, pos := "law.go:37", after := #[{ on := 2, ground := .guard }], guard := some (2, true) }) (v := ?_) rfl (by kernel_rfl) (by kernel_rfl) (by kernel_rfl) (fun _ _ _ h => h) (Or.inl ⟨by rfl, ?_⟩) (by assumption) ?_
        rotate_left
        · intro _ _; go_simp; first | done | with_reducible rfl
        simp only [Act.put, List.setIfInBounds_toArray, List.set_cons_zero, List.set_cons_succ]
        refine wpAnyH_take (i := 4) (oi := { dst := some 45, op := .move (.tmp 8), type := 3, pos := "law.go:37", after := #[{ on := 2, ground := .guard }], guard := some (2, true) }) (v := ?_) rfl (by kernel_rfl) (by kernel_rfl) (by kernel_rfl) (fun _ _ _ h => h) (Or.inl ⟨by rfl, ?_⟩) (by assumption) ?_
        rotate_left
        · intro _ _; go_simp; first | done | with_reducible rfl
        simp only [Act.put, List.setIfInBounds_toArray, List.set_cons_zero, List.set_cons_succ]
        refine wpAnyH_take (i := 5) (oi := { dst := some 46, op := .binOp Go.BinOp.sub 3 (.tmp 45) (.const (.int .i64 1)) 3, type := 3, pos := "law.go:37", after := #[{ on := 4, ground := .data }, { on := 2, ground := .guard }], guard := some (2, true) }) (v := ?_) rfl (by kernel_rfl) (by kernel_rfl) (by kernel_rfl) (fun _ _ _ h => h) (Or.inl ⟨by rfl, ?_⟩) (by assumption) ?_
        rotate_left
        · intro _ _; go_simp; first | done | with_reducible rfl
        simp only [Act.put, List.setIfInBounds_toArray, List.set_cons_zero, List.set_cons_succ]
        refine wpAnyH_take (i := 6) (oi := { dst := some 47, op := .indexAddr 22 (.tmp 44) (.tmp 46), type := 0, pos := "law.go:37", after := #[{ on := 3, ground := .data }, { on := 5, ground := .data }, { on := 2, ground := .guard }], guard := some (2, true) }) (v := ?_) rfl (by kernel_rfl) (by kernel_rfl) (by kernel_rfl) (fun _ _ _ h => h) (Or.inl ⟨by rfl, ?_⟩) (by assumption) ?_
        rotate_left
        · intro _ _; go_simp; first | done | with_reducible rfl
        simp only [Act.put, List.setIfInBounds_toArray, List.set_cons_zero, List.set_cons_succ]
        refine wpAnyH_take (i := 7) (oi := { dst := some 48, op := .load 26 (.tmp 47), type := 26, pos := "law.go:37", after := #[{ on := 6, ground := .data }, { on := 2, ground := .guard }], guard := some (2, true) }) (v := _) rfl (by kernel_rfl) (by kernel_rfl) (by kernel_rfl) (fun _ _ _ h => h) (yieldsIf_load_mid (by rfl) _ _ rfl (rb) (ro + (q - 1) * 33) rfl (y.cs) _ (fun _ h => h.2) (u26) rfl (iy)) (by assumption) ?_
        simp only [Act.put, List.setIfInBounds_toArray, List.set_cons_zero, List.set_cons_succ]
        refine wpAnyH_take (i := 8) (oi := { dst := some 49, op := .move (.tmp 5), type := 22, pos := "law.go:37", after := #[{ on := 2, ground := .guard }], guard := some (2, true) }) (v := ?_) rfl (by kernel_rfl) (by kernel_rfl) (by kernel_rfl) (fun _ _ _ h => h) (Or.inl ⟨by rfl, ?_⟩) (by assumption) ?_
        rotate_left
        · intro _ _; go_simp; first | done | with_reducible rfl
        simp only [Act.put, List.setIfInBounds_toArray, List.set_cons_zero, List.set_cons_succ]
        refine wpAnyH_take (i := 9) (oi := { dst := some 50, op := .move (.tmp 8), type := 3, pos := "law.go:37", after := #[{ on := 2, ground := .guard }], guard := some (2, true) }) (v := ?_) rfl (by kernel_rfl) (by kernel_rfl) (by kernel_rfl) (fun _ _ _ h => h) (Or.inl ⟨by rfl, ?_⟩) (by assumption) ?_
        rotate_left
        · intro _ _; go_simp; first | done | with_reducible rfl
        simp only [Act.put, List.setIfInBounds_toArray, List.set_cons_zero, List.set_cons_succ]
        refine wpAnyH_take (i := 10) (oi := { dst := some 51, op := .indexAddr 22 (.tmp 49) (.tmp 50), type := 0, pos := "law.go:37", after := #[{ on := 8, ground := .data }, { on := 9, ground := .data }, { on := 2, ground := .guard }], guard := some (2, true) }) (v := ?_) rfl (by kernel_rfl) (by kernel_rfl) (by kernel_rfl) (fun _ _ _ h => h) (Or.inl ⟨by rfl, ?_⟩) (by assumption) ?_
        rotate_left
        · intro _ _; go_simp; first | done | with_reducible rfl
        simp only [Act.put, List.setIfInBounds_toArray, List.set_cons_zero, List.set_cons_succ]
        refine wpAnyH_take (i := 11) (oi := { dst := some 52, op := .load 26 (.tmp 51), type := 26, pos := "law.go:37", after := #[{ on := 10, ground := .data }, { on := 2, ground := .guard }], guard := some (2, true) }) (v := _) rfl (by kernel_rfl) (by kernel_rfl) (by kernel_rfl) (fun _ _ _ h => h) (yieldsIf_load_mid (by rfl) _ _ rfl (rb) (ro + q * 33) rfl (x.cs) _ (fun _ h => h.1) (u26) rfl (ix)) (by assumption) ?_
        simp only [Act.put, List.setIfInBounds_toArray, List.set_cons_zero, List.set_cons_succ]
        refine wpAnyH_ready (rs := [12]) (by kernel_rfl) (by simp) ?_
        refine AllReadyH.cons (o := { dst := some 53, op := .call { callee := .value (.func 19), args := #[.tmp 48, .tmp 52], argTypes := #[26, 26] }, type := 4, pos := "law.go:37", after := #[{ on := 7, ground := .data }, { on := 11, ground := .data }, { on := 2, ground := .chain }, { on := 2, ground := .guard }], guard := some (2, true) }) rfl (fun K hK => ?_) AllReadyH.nil
        go_simp
        refine (pless_any y x _).mono ?_; rw [HLT.out.1]; rintro e w6 ⟨rfl, hb6⟩; have h6 : Below wr.heap.size wr w6 := undrewn hb6.1
        go_simp
        refine hK.out _ _ (HSK.out _ h6) (fun hHeld => ?_)
        clear hK K
        refine wpAnyH_take (i := 13) (oi := { dst := some 54, op := .unOp Go.UnOp.not 4 (.tmp 53), type := 4, pos := "law.go:37", after := #[{ on := 12, ground := .data }, { on := 2, ground := .guard }], guard := some (2, true) }) (v := ?_) rfl (by kernel_rfl) (by kernel_rfl) (by kernel_rfl) (fun _ _ _ h => h) (Or.inl ⟨by rfl, ?_⟩) (by assumption) ?_
        rotate_left
        · intro _ _; go_simp; first | done | with_reducible rfl
        simp only [Act.put, List.setIfInBounds_toArray, List.set_cons_zero, List.set_cons_succ]
        refine wpAnyH_take (i := 14) (oi := { dst := some 55, op := .move (.tmp 54), type := 4, pos := "law.go:37", after := #[{ on := 13, ground := .data }, { on := 12, ground := .chain }, { on := 2, ground := .guard }], guard := some (2, true) }) (v := ?_) rfl (by kernel_rfl) (by kernel_rfl) (by kernel_rfl) (fun _ _ _ h => h) (Or.inl ⟨by rfl, ?_⟩) (by assumption) ?_
        rotate_left
        · intro _ _; go_simp; first | done | with_reducible rfl
        simp only [Act.put, List.setIfInBounds_toArray, List.set_cons_zero, List.set_cons_succ]
        refine wpAnyH_take (i := 15) (oi := { dst := some 56, op := .move (.tmp 5), type := 22, pos := "law.go:37", after := #[{ on := 14, ground := .guard }], guard := some (14, false) }) (v := ?_) rfl (by kernel_rfl) (by kernel_rfl) (by kernel_rfl) (fun _ _ _ h => h) (Or.inl ⟨by rfl, ?_⟩) (by assumption) ?_
        rotate_left
        · intro _ _; go_simp; first | done | with_reducible rfl
        simp only [Act.put, List.setIfInBounds_toArray, List.set_cons_zero, List.set_cons_succ]
        refine wpAnyH_take (i := 16) (oi := { dst := some 57, op := .move (.tmp 8), type := 3, pos := "law.go:37", after := #[{ on := 14, ground := .guard }], guard := some (14, false) }) (v := ?_) rfl (by kernel_rfl) (by kernel_rfl) (by kernel_rfl) (fun _ _ _ h => h) (Or.inl ⟨by rfl, ?_⟩) (by assumption) ?_
        rotate_left
        · intro _ _; go_simp; first | done | with_reducible rfl
        simp only [Act.put, List.setIfInBounds_toArray, List.set_cons_zero, List.set_cons_succ]
        refine wpAnyH_take (i := 17) (oi := { dst := some 58, op := .indexAddr 22 (.tmp 56) (.tmp 57), type := 0, pos := "law.go:37", after := #[{ on := 15, ground := .data }, { on := 16, ground := .data }, { on := 14, ground := .guard }], guard := some (14, false) }) (v := ?_) rfl (by kernel_rfl) (by kernel_rfl) (by kernel_rfl) (fun _ _ _ h => h) (Or.inl ⟨by rfl, ?_⟩) (by assumption) ?_
        rotate_left
        · intro _ _; go_simp; first | done | with_reducible rfl
        simp only [Act.put, List.setIfInBounds_toArray, List.set_cons_zero, List.set_cons_succ]
        refine wpAnyH_take (i := 18) (oi := { dst := some 59, op := .load 26 (.tmp 58), type := 26, pos := "law.go:37", after := #[{ on := 17, ground := .data }, { on := 14, ground := .guard }], guard := some (14, false) }) (v := _) rfl (by kernel_rfl) (by kernel_rfl) (by kernel_rfl) (fun _ _ _ h => h) (yieldsIf_load_mid (by rfl) _ _ rfl (rb) (ro + q * 33) rfl (x.cs) _ (fun _ h => h.1) (u26) rfl (ix)) (by assumption) ?_
        simp only [Act.put, List.setIfInBounds_toArray, List.set_cons_zero, List.set_cons_succ]
        refine wpAnyH_take (i := 19) (oi := { dst := some 60, op := .move (.tmp 5), type := 22, pos := "law.go:37", after := #[{ on := 14, ground := .guard }], guard := some (14, false) }) (v := ?_) rfl (by kernel_rfl) (by kernel_rfl) (by kernel_rfl) (fun _ _ _ h => h) (Or.inl ⟨by rfl, ?_⟩) (by assumption) ?_
        rotate_left
        · intro _ _; go_simp; first | done | with_reducible rfl
        simp only [Act.put, List.setIfInBounds_toArray, List.set_cons_zero, List.set_cons_succ]
        refine wpAnyH_take (i := 20) (oi := { dst := some 61, op := .move (.tmp 8), type := 3, pos := "law.go:37", after := #[{ on := 14, ground := .guard }], guard := some (14, false) }) (v := ?_) rfl (by kernel_rfl) (by kernel_rfl) (by kernel_rfl) (fun _ _ _ h => h) (Or.inl ⟨by rfl, ?_⟩) (by assumption) ?_
        rotate_left
        · intro _ _; go_simp; first | done | with_reducible rfl
        simp only [Act.put, List.setIfInBounds_toArray, List.set_cons_zero, List.set_cons_succ]
        refine wpAnyH_take (i := 21) (oi := { dst := some 62, op := .binOp Go.BinOp.sub 3 (.tmp 61) (.const (.int .i64 1)) 3, type := 3, pos := "law.go:37", after := #[{ on := 20, ground := .data }, { on := 14, ground := .guard }], guard := some (14, false) }) (v := ?_) rfl (by kernel_rfl) (by kernel_rfl) (by kernel_rfl) (fun _ _ _ h => h) (Or.inl ⟨by rfl, ?_⟩) (by assumption) ?_
        rotate_left
        · intro _ _; go_simp; first | done | with_reducible rfl
        simp only [Act.put, List.setIfInBounds_toArray, List.set_cons_zero, List.set_cons_succ]
        refine wpAnyH_take (i := 22) (oi := { dst := some 63, op := .indexAddr 22 (.tmp 60) (.tmp 62), type := 0, pos := "law.go:37", after := #[{ on := 19, ground := .data }, { on := 21, ground := .data }, { on := 14, ground := .guard }], guard := some (14, false) }) (v := ?_) rfl (by kernel_rfl) (by kernel_rfl) (by kernel_rfl) (fun _ _ _ h => h) (Or.inl ⟨by rfl, ?_⟩) (by assumption) ?_
        rotate_left
        · intro _ _; go_simp; first | done | with_reducible rfl
        simp only [Act.put, List.setIfInBounds_toArray, List.set_cons_zero, List.set_cons_succ]
        refine wpAnyH_take (i := 23) (oi := { dst := some 64, op := .load 26 (.tmp 63), type := 26, pos := "law.go:37", after := #[{ on := 22, ground := .data }, { on := 14, ground := .guard }], guard := some (14, false) }) (v := _) rfl (by kernel_rfl) (by kernel_rfl) (by kernel_rfl) (fun _ _ _ h => h) (yieldsIf_load_mid (by rfl) _ _ rfl (rb) (ro + (q - 1) * 33) rfl (y.cs) _ (fun _ h => h.2) (u26) rfl (iy)) (by assumption) ?_
        simp only [Act.put, List.setIfInBounds_toArray, List.set_cons_zero, List.set_cons_succ]
        refine wpAnyH_ready (rs := [24]) (by kernel_rfl) (by simp) ?_
        refine AllReadyH.cons (o := { dst := some 65, op := .call { callee := .value (.func 19), args := #[.tmp 59, .tmp 64], argTypes := #[26, 26] }, type := 4, pos := "law.go:37", after := #[{ on := 18, ground := .data }, { on := 23, ground := .data }, { on := 14, ground := .chain }, { on := 14, ground := .guard }], guard := some (14, false) }) rfl (fun K hK => ?_) AllReadyH.nil
        go_simp
        refine (pless_any x y _).mono ?_; rw [HLT.out.2]; rintro e w7 ⟨rfl, hb7⟩; have h7 : Below wr.heap.size wr w7 := h6.trans (hb7.1.mono h6.size)
        go_simp
        refine hK.out _ _ (HSK.out _ h7) (fun hHeld => ?_)
        clear hK K
        refine wpAnyH_take (i := 25) (oi := { dst := some 66, op := .pick (.tmp 55) (.const (.bool true)) (.tmp 65), type := 4, pos := "law.go:37", after := #[{ on := 14, ground := .data }, { on := 24, ground := .data }, { on := 2, ground := .guard }], guard := some (2, true) }) (v := ?_) rfl (by kernel_rfl) (by kernel_rfl) (by kernel_rfl) (fun _ _ _ h => h) (Or.inl ⟨by rfl, ?_⟩) (by assumption) ?_
        rotate_left
        · intro _ _; go_simp; first | done | with_reducible rfl
        simp only [Act.put, List.setIfInBounds_toArray, List.set_cons_zero, List.set_cons_succ]
        refine wpAnyH_take (i := 26) (oi := { dst := some 67, op := .pick (.tmp 43) (.tmp 66) (.const (.bool false)), type := 4, pos := "law.go:37", after := #[{ on := 2, ground := .data }, { on := 25, ground := .data }], guard := none }) (v := ?_) rfl (by kernel_rfl) (by kernel_rfl) (by kernel_rfl) (fun _ _ _ h => h) (Or.inl ⟨by rfl, ?_⟩) (by assumption) ?_
        rotate_left
        · intro _ _; go_simp; first | done | with_reducible rfl
        simp only [Act.put, List.setIfInBounds_toArray, List.set_cons_zero, List.set_cons_succ]
        refine wpAnyH_take (i := 27) (oi := { dst := some 68, op := .move (.tmp 67), type := 4, pos := "law.go:37", after := #[{ on := 26, ground := .data }, { on := 24, ground := .chain }], guard := none }) (v := ?_) rfl (by kernel_rfl) (by kernel_rfl) (by kernel_rfl) (fun _ _ _ h => h) (Or.inl ⟨by rfl, ?_⟩) (by assumption) ?_
        rotate_left
        · intro _ _; go_simp; first | done | with_reducible rfl
        simp only [Act.put, List.setIfInBounds_toArray, List.set_cons_zero, List.set_cons_succ]
        refine wpAnyH_take (i := 28) (oi := { dst := some 69, op := .move (.tmp 0), type := 22, pos := "law.go:37", after := #[{ on := 27, ground := .guard }], guard := some (27, false) }) (v := ?_) rfl (by kernel_rfl) (by kernel_rfl) (by kernel_rfl) (fun _ _ _ h => h) (Or.inl ⟨by rfl, ?_⟩) (by assumption) ?_
        rotate_left
        · intro _ _; go_simp; first | done | with_reducible rfl
        simp only [Act.put, List.setIfInBounds_toArray, List.set_cons_zero, List.set_cons_succ]
        refine wpAnyH_take (i := 29) (oi := { dst := some 70, op := .move (.tmp 5), type := 22, pos := "law.go:37", after := #[{ on := 27, ground := .guard }], guard := some (27, false) }) (v := ?_) rfl (by kernel_rfl) (by kernel_rfl) (by kernel_rfl) (fun _ _ _ h => h) (Or.inl ⟨by rfl, ?_⟩) (by assumption) ?_
        rotate_left
        · intro _ _; go_simp; first | done | with_reducible rfl
        simp only [Act.put, List.setIfInBounds_toArray, List.set_cons_zero, List.set_cons_succ]
        refine wpAnyH_take (i := 30) (oi := { dst := some 71, op := .move (.tmp 8), type := 3, pos := "law.go:37", after := #[{ on := 27, ground := .guard }], guard := some (27, false) }) (v := ?_) rfl (by kernel_rfl) (by kernel_rfl) (by kernel_rfl) (fun _ _ _ h => h) (Or.inl ⟨by rfl, ?_⟩) (by assumption) ?_
        rotate_left
        · intro _ _; go_simp; first | done | with_reducible rfl
        simp only [Act.put, List.setIfInBounds_toArray, List.set_cons_zero, List.set_cons_succ]
        refine wpAnyH_take (i := 31) (oi := { dst := some 72, op := .indexAddr 22 (.tmp 70) (.tmp 71), type := 0, pos := "law.go:37", after := #[{ on := 29, ground := .data }, { on := 30, ground := .data }, { on := 27, ground := .guard }], guard := some (27, false) }) (v := ?_) rfl (by kernel_rfl) (by kernel_rfl) (by kernel_rfl) (fun _ _ _ h => h) (Or.inl ⟨by rfl, ?_⟩) (by assumption) ?_
        rotate_left
        · intro _ _; go_simp; first | done | with_reducible rfl
        simp only [Act.put, List.setIfInBounds_toArray, List.set_cons_zero, List.set_cons_succ]
        refine wpAnyH_take (i := 32) (oi := { dst := some 73, op := .load 26 (.tmp 72), type := 26, pos := "law.go:37", after := #[{ on := 31, ground := .data }, { on := 27, ground := .guard }], guard := some (27, false) }) (v := _) rfl (by kernel_rfl) (by kernel_rfl) (by kernel_rfl) (fun _ _ _ h => h) (yieldsIf_load_mid (by rfl) _ _ rfl (rb) (ro + q * 33) rfl (x.cs) _ (fun _ h => h.1) (u26) rfl (ix)) (by assumption) ?_
        simp only [Act.put, List.setIfInBounds_toArray, List.set_cons_zero, List.set_cons_succ]
        refine wpAnyH_ready (rs := [33]) (by kernel_rfl) (by simp) ?_
        refine AllReadyH.cons (o := { dst := some 74, op := .call { callee := .value (.func 16), args := #[.tmp 69, .tmp 73], argTypes := #[22, 26] }, type := 4, pos := "law.go:37", after := #[{ on := 28, ground := .data }, { on := 32, ground := .data }, { on := 27, ground := .chain }, { on := 27, ground := .guard }], guard := some (27, false) }) rfl (fun K hK => ?_) AllReadyH.nil
        go_simp
        refine (has_any _ n cap l x _ ((HA.out _ HBK.out).2.1.below h7) (by omega)).mono ?_; rw [HIN.out]; rintro e w8 ⟨rfl, hb8⟩; have h8 : Below wr.heap.size wr w8 := h7.trans (hb8.mono h7.size)
        go_simp
        refine hK.out _ _ (HSK.out _ h8) (fun hHeld => ?_)
        clear hK K
        refine wpAnyH_take (i := 34) (oi := { dst := some 75, op := .unOp Go.UnOp.not 4 (.tmp 74), type := 4, pos := "law.go:37", after := #[{ on := 33, ground := .data }, { on := 27, ground := .guard }], guard := some (27, false) }) (v := ?_) rfl (by kernel_rfl) (by kernel_rfl) (by kernel_rfl) (fun _ _ _ h => h) (Or.inl ⟨by rfl, ?_⟩) (by assumption) ?_
        rotate_left
        · intro _ _; go_simp; first | done | with_reducible rfl
        simp only [Act.put, List.setIfInBounds_toArray, List.set_cons_zero, List.set_cons_succ]
        refine wpAnyH_take (i := 35) (oi := { dst := some 76, op := .pick (.tmp 68) (.const (.bool true)) (.tmp 75), type := 4, pos := "law.go:37", after := #[{ on := 27, ground := .data }, { on := 34, ground := .data }], guard := none }) (v := ?_) rfl (by kernel_rfl) (by kernel_rfl) (by kernel_rfl) (fun _ _ _ h => h) (Or.inl ⟨by rfl, ?_⟩) (by assumption) ?_
        rotate_left
        · intro _ _; go_simp; first | done | with_reducible rfl
        simp only [Act.put, List.setIfInBounds_toArray, List.set_cons_zero, List.set_cons_succ]
        refine wpAnyH_done (by kernel_rfl) ?_ _
        refine NoPanic.normal ?_
        have HB6 : Hid (Below w5.heap.size w5 w8) := HBK.out.trans (h8.mono hwr)
        clear hHeld u26 ix iy HSK hb6 h6 hb7 h7 hb8 h8 g0 g3 g4 g5 g6 g7
        go_wp2_with fail
        go_roundw
        case rel => exact ⟨q + 1, by omega, by go_num, HB6.out⟩
        case measure => simp [intOf]; omega
    · obtain rfl : q = m := by omega
      have HB5 : Hid (Below w5.heap.size w5 wr) := hbk
      clear hbk
      generalize wr = w9 at *
      go_wp2_with fail
      go_loopw [9] (fun i wr => ∃ q : Nat, q ≤ n ∧ i = .int .i64 q ∧ Below w5.heap.size w5 wr) (fun i _ => n - (intOf i).toNat)
      case atStart => exact ⟨0, by omega, rfl, HB5.out⟩
      case round =>
        obtain ⟨i, hi, rfl, hbk⟩ := hrel
        clear HB5
        have hwr : w5.heap.size ≤ wr.heap.size := hbk.size
        have HBK : Hid (Below w5.heap.size w5 wr) := hbk
        clear hbk
        by_cases hin : i < n
        · have e0 : (0 : Int) ≤ (i : Int) := by omega
          have e1 : (i : Int) < (n : Int) := by omega
          obtain ⟨b2, o2, hab, hcx⟩ := (HA.out _ HBK.out).2.1.at i hin
          injection hab with hab
          injection hab with e2 e3
          subst e2; subst e3
          obtain ⟨x, hx⟩ : ∃ x, x = l.getD i default := ⟨_, rfl⟩
          rw [← hx] at hcx
          have HCX : Hid (wr.rangeAt b (o + i * 33) x.cs) := hcx
          have HIN : Hid (decide (x ∈ rg) = true) := decide_eq_true ((HI.out.2 x).2 (by rw [hx]; exact getD_mem (by rw [HL.out]; exact hin)))
          clear hx hcx
          go_wp2_with (first
            | (refine wpList_load_mid rfl 26 _ rfl b (o + i * 33) rfl x.cs _ HCX.out HU.out rfl (size_pt x) ?_)
            | fail)
          refine (has_any al q cl rg x wr (HA.out _ HBK.out).2.2.1 (by omega)).mono ?_
          rw [HIN.out]
          rintro e w6 ⟨rfl, hb6⟩
          have HB6 : Hid (Below w5.heap.size w5 w6) := HBK.out.trans (hb6.mono hwr)
          clear hb6
          go_wp2_with fail
          go_roundw
          case rel => exact ⟨i + 1, by omega, by go_num, HB6.out⟩
          case measure => simp [intOf]; omega
        · obtain rfl : i = n := by omega
          have HN1 : Hid (l.filter (fun x => !decide (x ∈ rg)) = []) := by
            show _ = _
            rw [List.filter_eq_nil_iff]
            intro x hx
            simp [(HI.out.2 x).2 hx]
          have HN2 : Hid (l.filter (fun x => decide (x ∈ rg)) = l) := by
            show _ = _
            rw [List.filter_eq_self]
            intro x hx
            simp [(HI.out.2 x).2 hx]
          have HN3 : Hid (decide (l.Perm ([] ++ l.drop k ++ l.take k)) = true) := decide_eq_true HPM.out.symm
          have HN4 : Hid (decide (l.Perm (l.drop 1)) = false) := decide_eq_false fun h => by
            have := h.length_eq
            rw [List.length_drop, HL.out] at this
            omega
          obtain ⟨adr, hadr⟩ : ∃ r : Option Addr, (if cap = 1 then some ⟨b, o, none⟩ else some ⟨b, o + 33, none⟩) = r := ⟨_, rfl⟩
          have HT1 : Hid (∀ w', Below wr.heap.size wr w' → Pts w' adr (i - 1) (cap - 1) (l.drop 1)) := fun w' hw' => ((HA.out _ HBK.out).2.1.below hw').drop 1 (by omega) adr (fun h => by rw [← hadr] at h; split at h <;> cases h) (fun b' o' e h => by injection e with e; injection e with e1 e2; rw [← hadr, if_neg (by omega), e1, e2])
          have HA2 : Hid (∀ w', Below wr.heap.size wr w' → Mx w' ∧ Pts w' (some ⟨b, o, none⟩) i cap l ∧ Pts w' al q cl rg ∧ Pts w' ag q cg rg ∧ Pts w' (some ⟨b, o, none⟩) k cap (l.take k) ∧ Pts w' (some ⟨b, o + k * 33, none⟩) (i - k) (cap - k) (l.drop k)) := fun w' hw' => HA.out _ (HBK.out.trans (hw'.mono hwr))
          have k1 : (1 : Int) ≤ (i : Int) := by omega
          have k2 : (1 : Int) ≤ (cap : Int) := by omega
          clear HA HI HPM
          go_wp2_with fail
          refine wp_region_noPanic ?_
          refine wp_region_held_drew (S := fun w' => Below wr.heap.size wr w') HMO.out ((Below.refl _ _).drew) (fun hHeld => ?_)
          refine wpAnyH_take (i := 0) (oi := { dst := some 90, op := .move (.tmp 5), type := 22, pos := "law.go:46", after := #[], guard := none }) (v := ?_) rfl (by kernel_rfl) (by kernel_rfl) (by kernel_rfl) (fun _ _ _ h => h) (Or.inl ⟨by rfl, ?_⟩) (by assumption) ?_
          rotate_left
          · intro _ _; go_simp; first | done | with_reducible rfl
          simp only [Act.put, List.setIfInBounds_toArray, List.set_cons_zero, List.set_cons_succ]
          refine wpAnyH_take (i := 1) (oi := { dst := some 91, op := .move (.tmp 7), type := 22, pos := "law.go:46", after := #[], guard := none }) (v := ?_) rfl (by kernel_rfl) (by kernel_rfl) (by kernel_rfl) (fun _ _ _ h => h) (Or.inl ⟨by rfl, ?_⟩) (by assumption) ?_
          rotate_left
          · intro _ _; go_simp; first | done | with_reducible rfl
          simp only [Act.put, List.setIfInBounds_toArray, List.set_cons_zero, List.set_cons_succ]
          refine wpAnyH_ready (rs := [2]) (by kernel_rfl) (by simp) ?_
          refine AllReadyH.cons (o := { dst := some 92, op := .call { callee := .value (.func 9), args := #[.tmp 90, .tmp 91], argTypes := #[22, 22] }, type := 4, pos := "law.go:46", after := #[{ on := 0, ground := .data }, { on := 1, ground := .data }], guard := none }) rfl (fun K hK => ?_) AllReadyH.nil
          go_simp
          refine (points_any _ q cl rg _ q cg rg _ (HA2.out _ hHeld).2.2.1 (HA2.out _ hHeld).2.2.2.1 (by omega) (by omega)).mono ?_; rw [show decide (rg = rg) = true by simp]; rintro e w6 ⟨rfl, hb6⟩
          go_simp
          refine hK.out _ _ (hHeld.trans (hb6.mono hHeld.size)) (fun hHeld => ?_)
          clear hK K
          refine wpAnyH_take (i := 3) (oi := { dst := some 93, op := .move (.tmp 92), type := 4, pos := "law.go:46", after := #[{ on := 2, ground := .data }, { on := 2, ground := .chain }], guard := none }) (v := ?_) rfl (by kernel_rfl) (by kernel_rfl) (by kernel_rfl) (fun _ _ _ h => h) (Or.inl ⟨by rfl, ?_⟩) (by assumption) ?_
          rotate_left
          · intro _ _; go_simp; first | done | with_reducible rfl
          simp only [Act.put, List.setIfInBounds_toArray, List.set_cons_zero, List.set_cons_succ]
          refine wpAnyH_take (i := 4) (oi := { dst := some 94, op := .move (.tmp 0), type := 22, pos := "law.go:46", after := #[{ on := 3, ground := .guard }], guard := some (3, true) }) (v := ?_) rfl (by kernel_rfl) (by kernel_rfl) (by kernel_rfl) (fun _ _ _ h => h) (Or.inl ⟨by rfl, ?_⟩) (by assumption) ?_
          rotate_left
          · intro _ _; go_simp; first | done | with_reducible rfl
          simp only [Act.put, List.setIfInBounds_toArray, List.set_cons_zero, List.set_cons_succ]
          refine wpAnyH_take (i := 5) (oi := { dst := some 95, op := .move (.tmp 5), type := 22, pos := "law.go:46", after := #[{ on := 3, ground := .guard }], guard := some (3, true) }) (v := ?_) rfl (by kernel_rfl) (by kernel_rfl) (by kernel_rfl) (fun _ _ _ h => h) (Or.inl ⟨by rfl, ?_⟩) (by assumption) ?_
          rotate_left
          · intro _ _; go_simp; first | done | with_reducible rfl
          simp only [Act.put, List.setIfInBounds_toArray, List.set_cons_zero, List.set_cons_succ]
          refine wpAnyH_ready (rs := [6]) (by kernel_rfl) (by simp) ?_
          refine AllReadyH.cons (o := { dst := some 96, op := .call { callee := .value (.func 13), args := #[.tmp 94, .tmp 95], argTypes := #[22, 22] }, type := 22, pos := "law.go:46", after := #[{ on := 4, ground := .data }, { on := 5, ground := .data }, { on := 3, ground := .chain }, { on := 3, ground := .guard }], guard := some (3, true) }) rfl (fun K hK => ?_) AllReadyH.nil
          go_simp
          refine (minus_any _ i cap l _ q cl rg _ (HA2.out _ hHeld).2.1 (HA2.out _ hHeld).2.2.1 (by omega) (by omega)).mono ?_; rw [HN1.out]; rintro e w7 ⟨v7, rfl, ho7, hb7⟩; obtain ⟨a7, c7, rfl, hp7⟩ := ho7.pts; simp only [List.length_nil]
          go_simp
          refine hK.out _ _ (hHeld.trans (hb7.mono hHeld.size)) (fun hHeld => ?_)
          clear hK K
          refine wpAnyH_take (i := 7) (oi := { dst := some 97, op := .call { callee := .builtin Go.Builtin.len, args := #[.tmp 96], argTypes := #[22] }, type := 3, pos := "law.go:46", after := #[{ on := 6, ground := .data }, { on := 3, ground := .guard }], guard := some (3, true) }) (v := ?_) rfl (by kernel_rfl) (by kernel_rfl) (by kernel_rfl) (fun _ _ _ h => h) (Or.inl ⟨by rfl, ?_⟩) (by assumption) ?_
          rotate_left
          · intro _ _; go_simp; first | done | with_reducible rfl
          simp only [Act.put, List.setIfInBounds_toArray, List.set_cons_zero, List.set_cons_succ]
          refine wpAnyH_take (i := 8) (oi := { dst := some 98, op := .binOp Go.BinOp.eql 3 (.tmp 97) (.const (.int .i64 0)) 3, type := 4, pos := "law.go:46", after := #[{ on := 7, ground := .data }, { on := 3, ground := .guard }], guard := some (3, true) }) (v := .bool true) rfl (by kernel_rfl) (by kernel_rfl) (by kernel_rfl) (fun _ _ _ h => h) (Or.inl ⟨by rfl, ?_⟩) (by assumption) ?_
          · intro _ _; go_simp
          simp only [Act.put, List.setIfInBounds_toArray, List.set_cons_zero, List.set_cons_succ]
          refine wpAnyH_take (i := 9) (oi := { dst := some 99, op := .pick (.tmp 93) (.tmp 98) (.const (.bool false)), type := 4, pos := "law.go:46", after := #[{ on := 3, ground := .data }, { on := 8, ground := .data }], guard := none }) (v := ?_) rfl (by kernel_rfl) (by kernel_rfl) (by kernel_rfl) (fun _ _ _ h => h) (Or.inl ⟨by rfl, ?_⟩) (by assumption) ?_
          rotate_left
          · intro _ _; go_simp; first | done | with_reducible rfl
          simp only [Act.put, List.setIfInBounds_toArray, List.set_cons_zero, List.set_cons_succ]
          refine wpAnyH_take (i := 10) (oi := { dst := some 100, op := .move (.tmp 99), type := 4, pos := "law.go:46", after := #[{ on := 9, ground := .data }, { on := 6, ground := .chain }], guard := none }) (v := ?_) rfl (by kernel_rfl) (by kernel_rfl) (by kernel_rfl) (fun _ _ _ h => h) (Or.inl ⟨by rfl, ?_⟩) (by assumption) ?_
          rotate_left
          · intro _ _; go_simp; first | done | with_reducible rfl
          simp only [Act.put, List.setIfInBounds_toArray, List.set_cons_zero, List.set_cons_succ]
          refine wpAnyH_take (i := 11) (oi := { dst := some 101, op := .move (.tmp 0), type := 22, pos := "law.go:46", after := #[{ on := 10, ground := .guard }], guard := some (10, true) }) (v := ?_) rfl (by kernel_rfl) (by kernel_rfl) (by kernel_rfl) (fun _ _ _ h => h) (Or.inl ⟨by rfl, ?_⟩) (by assumption) ?_
          rotate_left
          · intro _ _; go_simp; first | done | with_reducible rfl
          simp only [Act.put, List.setIfInBounds_toArray, List.set_cons_zero, List.set_cons_succ]
          refine wpAnyH_take (i := 12) (oi := { dst := some 102, op := .move (.tmp 5), type := 22, pos := "law.go:46", after := #[{ on := 10, ground := .guard }], guard := some (10, true) }) (v := ?_) rfl (by kernel_rfl) (by kernel_rfl) (by kernel_rfl) (fun _ _ _ h => h) (Or.inl ⟨by rfl, ?_⟩) (by assumption) ?_
          rotate_left
          · intro _ _; go_simp; first | done | with_reducible rfl
          simp only [Act.put, List.setIfInBounds_toArray, List.set_cons_zero, List.set_cons_succ]
          refine wpAnyH_take (i := 14) (oi := { dst := some 104, op := .move (.tmp 0), type := 22, pos := "law.go:46", after := #[{ on := 10, ground := .guard }], guard := some (10, true) }) (v := ?_) rfl (by kernel_rfl) (by kernel_rfl) (by kernel_rfl) (fun _ _ _ h => h) (Or.inl ⟨by rfl, ?_⟩) (by assumption) ?_
          rotate_left
          · intro _ _; go_simp; first | done | with_reducible rfl
          simp only [Act.put, List.setIfInBounds_toArray, List.set_cons_zero, List.set_cons_succ]
          refine wpAnyH_ready (rs := [13]) (by kernel_rfl) (by simp) ?_
          refine AllReadyH.cons (o := { dst := some 103, op := .call { callee := .value (.func 12), args := #[.tmp 101, .tmp 102], argTypes := #[22, 22] }, type := 22, pos := "law.go:46", after := #[{ on := 11, ground := .data }, { on := 12, ground := .data }, { on := 10, ground := .chain }, { on := 10, ground := .guard }], guard := some (10, true) }) rfl (fun K hK => ?_) AllReadyH.nil
          go_simp
          refine (both_any _ i cap l _ q cl rg _ (HA2.out _ hHeld).2.1 (HA2.out _ hHeld).2.2.1 (by omega) (by omega)).mono ?_; rw [HN2.out]; rintro e w10 ⟨v10, rfl, ho10, hb10⟩; obtain ⟨a10, c10, rfl, hp10⟩ := ho10.pts; rw [HL.out] at hp10 ⊢
          go_simp
          refine hK.out _ _ (hHeld.trans (hb10.mono hHeld.size)) (fun hHeld => ?_)
          clear hK K
          refine wpAnyH_ready (rs := [15]) (by kernel_rfl) (by simp) ?_
          refine AllReadyH.cons (o := { dst := some 105, op := .call { callee := .value (.func 9), args := #[.tmp 103, .tmp 104], argTypes := #[22, 22] }, type := 4, pos := "law.go:46", after := #[{ on := 13, ground := .data }, { on := 14, ground := .data }, { on := 13, ground := .chain }, { on := 10, ground := .guard }], guard := some (10, true) }) rfl (fun K hK => ?_) AllReadyH.nil
          go_simp
          refine (points_any _ i c10 l _ i cap l _ hp10 (HA2.out _ hHeld).2.1 (by omega) (by omega)).mono ?_; rw [show decide (l = l) = true by simp]; rintro e w11 ⟨rfl, hb11⟩
          go_simp
          refine hK.out _ _ (hHeld.trans (hb11.mono hHeld.size)) (fun hHeld => ?_)
          clear hK K
          refine wpAnyH_take (i := 16) (oi := { dst := some 106, op := .pick (.tmp 100) (.tmp 105) (.const (.bool false)), type := 4, pos := "law.go:46", after := #[{ on := 10, ground := .data }, { on := 15, ground := .data }], guard := none }) (v := ?_) rfl (by kernel_rfl) (by kernel_rfl) (by kernel_rfl) (fun _ _ _ h => h) (Or.inl ⟨by rfl, ?_⟩) (by assumption) ?_
          rotate_left
          · intro _ _; go_simp; first | done | with_reducible rfl
          simp only [Act.put, List.setIfInBounds_toArray, List.set_cons_zero, List.set_cons_succ]
          refine wpAnyH_take (i := 17) (oi := { dst := some 107, op := .move (.tmp 106), type := 4, pos := "law.go:46", after := #[{ on := 16, ground := .data }, { on := 15, ground := .chain }], guard := none }) (v := ?_) rfl (by kernel_rfl) (by kernel_rfl) (by kernel_rfl) (fun _ _ _ h => h) (Or.inl ⟨by rfl, ?_⟩) (by assumption) ?_
          rotate_left
          · intro _ _; go_simp; first | done | with_reducible rfl
          simp only [Act.put, List.setIfInBounds_toArray, List.set_cons_zero, List.set_cons_succ]
          refine wpAnyH_take (i := 18) (oi := { dst := some 108, op := .move (.tmp 0), type := 22, pos := "law.go:46", after := #[{ on := 17, ground := .guard }], guard := some (17, true) }) (v := ?_) rfl (by kernel_rfl) (by kernel_rfl) (by kernel_rfl) (fun _ _ _ h => h) (Or.inl ⟨by rfl, ?_⟩) (by assumption) ?_
          rotate_left
          · intro _ _; go_simp; first | done | with_reducible rfl
          simp only [Act.put, List.setIfInBounds_toArray, List.set_cons_zero, List.set_cons_succ]
          refine wpAnyH_take (i := 20) (oi := { dst := some 110, op := .move (.tmp 0), type := 22, pos := "law.go:46", after := #[{ on := 17, ground := .guard }], guard := some (17, true) }) (v := ?_) rfl (by kernel_rfl) (by kernel_rfl) (by kernel_rfl) (fun _ _ _ h => h) (Or.inl ⟨by rfl, ?_⟩) (by assumption) ?_
          rotate_left
          · intro _ _; go_simp; first | done | with_reducible rfl
          simp only [Act.put, List.setIfInBounds_toArray, List.set_cons_zero, List.set_cons_succ]
          refine wpAnyH_take (i := 21) (oi := { dst := some 111, op := .move (.tmp 6), type := 3, pos := "law.go:46", after := #[{ on := 17, ground := .guard }], guard := some (17, true) }) (v := ?_) rfl (by kernel_rfl) (by kernel_rfl) (by kernel_rfl) (fun _ _ _ h => h) (Or.inl ⟨by rfl, ?_⟩) (by assumption) ?_
          rotate_left
          · intro _ _; go_simp; first | done | with_reducible rfl
          simp only [Act.put, List.setIfInBounds_toArray, List.set_cons_zero, List.set_cons_succ]
          refine wpAnyH_take (i := 22) (oi := { dst := some 112, op := .slice 22 (.tmp 110) (some (.tmp 111)) none none, type := 22, pos := "law.go:46", after := #[{ on := 20, ground := .data }, { on := 21, ground := .data }, { on := 17, ground := .guard }], guard := some (17, true) }) (v := ?_) rfl (by kernel_rfl) (by kernel_rfl) (by kernel_rfl) (fun _ _ _ h => h) (Or.inl ⟨by rfl, ?_⟩) (by assumption) ?_
          rotate_left
          · intro _ _; go_simp; first | done | with_reducible rfl
          simp only [Act.put, List.setIfInBounds_toArray, List.set_cons_zero, List.set_cons_succ]
          refine wpAnyH_take (i := 24) (oi := { dst := some 114, op := .move (.tmp 0), type := 22, pos := "law.go:46", after := #[{ on := 17, ground := .guard }], guard := some (17, true) }) (v := ?_) rfl (by kernel_rfl) (by kernel_rfl) (by kernel_rfl) (fun _ _ _ h => h) (Or.inl ⟨by rfl, ?_⟩) (by assumption) ?_
          rotate_left
          · intro _ _; go_simp; first | done | with_reducible rfl
          simp only [Act.put, List.setIfInBounds_toArray, List.set_cons_zero, List.set_cons_succ]
          refine wpAnyH_take (i := 25) (oi := { dst := some 115, op := .move (.tmp 6), type := 3, pos := "law.go:46", after := #[{ on := 17, ground := .guard }], guard := some (17, true) }) (v := ?_) rfl (by kernel_rfl) (by kernel_rfl) (by kernel_rfl) (fun _ _ _ h => h) (Or.inl ⟨by rfl, ?_⟩) (by assumption) ?_
          rotate_left
          · intro _ _; go_simp; first | done | with_reducible rfl
          simp only [Act.put, List.setIfInBounds_toArray, List.set_cons_zero, List.set_cons_succ]
          refine wpAnyH_take (i := 26) (oi := { dst := some 116, op := .slice 22 (.tmp 114) none (some (.tmp 115)) none, type := 22, pos := "law.go:46", after := #[{ on := 24, ground := .data }, { on := 25, ground := .data }, { on := 17, ground := .guard }], guard := some (17, true) }) (v := ?_) rfl (by kernel_rfl) (by kernel_rfl) (by kernel_rfl) (fun _ _ _ h => h) (Or.inl ⟨by rfl, ?_⟩) (by assumption) ?_
          rotate_left
          · intro _ _; go_simp; first | done | with_reducible rfl
          simp only [Act.put, List.setIfInBounds_toArray, List.set_cons_zero, List.set_cons_succ]
          refine wpAnyH_ready (rs := [19]) (by kernel_rfl) (by simp) ?_
          refine AllReadyH.cons (o := { dst := some 109, op := .buildSlice 22 0 #[], type := 22, pos := "law.go:46", after := #[{ on := 17, ground := .guard }], guard := some (17, true) }) rfl (fun K hK => ?_) AllReadyH.nil
          rw [if_pos (show Region.wanted _ _ = true by rfl)]; refine wp_build_none rfl ?_; intro wz HOZ HEZ; have HOC : Hid (Own wz wr.heap.size _ []) := HOZ.out.less hHeld.size
          simp only [Act.put, List.setIfInBounds_toArray, List.set_cons_zero, List.set_cons_succ]
          refine hK.out _ _ ((show Below _ _ wz by rw [HEZ.out]; exact hHeld.alloc hHeld.size _)) (fun hHeld => ?_)
          clear hK K
          refine wpAnyH_ready (rs := [23]) (by kernel_rfl) (by simp) ?_
          refine AllReadyH.cons (o := { dst := some 113, op := .call { callee := .builtin Go.Builtin.append, args := #[.tmp 109, .tmp 112], argTypes := #[22, 22] }, type := 22, pos := "law.go:46", after := #[{ on := 19, ground := .data }, { on := 22, ground := .data }, { on := 17, ground := .chain }, { on := 17, ground := .guard }], guard := some (17, true) }) rfl (fun K hK => ?_) AllReadyH.nil
          rw [if_pos (show Region.wanted _ _ = true by rfl)]; refine wp_append_pts _ _ rfl wr.heap.size _ [] rfl HOC.out _ (i - k) (cap - k) (l.drop k) rfl (HA2.out _ hHeld).2.2.2.2.2 (by simp; omega) hHeld.size ?_; intro v3 w3 HO3 HG3
          simp only [Act.put, List.setIfInBounds_toArray, List.set_cons_zero, List.set_cons_succ]
          refine hK.out _ _ (hHeld.trans (HOC.out.grown HG3.out hHeld.size)) (fun hHeld => ?_)
          clear hK K
          refine wpAnyH_ready (rs := [27]) (by kernel_rfl) (by simp) ?_
          refine AllReadyH.cons (o := { dst := some 117, op := .call { callee := .builtin Go.Builtin.append, args := #[.tmp 113, .tmp 116], argTypes := #[22, 22] }, type := 22, pos := "law.go:46", after := #[{ on := 23, ground := .data }, { on := 26, ground := .data }, { on := 23, ground := .chain }, { on := 17, ground := .guard }], guard := some (17, true) }) rfl (fun K hK => ?_) AllReadyH.nil
          rw [if_pos (show Region.wanted _ _ = true by rfl)]; refine wp_append_pts _ _ rfl wr.heap.size v3 ([] ++ l.drop k) rfl HO3.out _ k cap (l.take k) rfl (HA2.out _ hHeld).2.2.2.2.1 (by rw [List.nil_append, hdl]; omega) hHeld.size ?_; intro v4 w4 HO4 HG4; obtain ⟨a4, c4, hv4, hp4⟩ := HO4.out.pts; subst hv4; rw [HL4.out] at hp4 ⊢
          simp only [Act.put, List.setIfInBounds_toArray, List.set_cons_zero, List.set_cons_succ]
          refine hK.out _ _ (hHeld.trans (HO3.out.grown HG4.out hHeld.size)) (fun hHeld => ?_)
          clear hK K
          refine wpAnyH_ready (rs := [28]) (by kernel_rfl) (by simp) ?_
          refine AllReadyH.cons (o := { dst := some 118, op := .call { callee := .value (.func 14), args := #[.tmp 108, .tmp 117], argTypes := #[22, 22] }, type := 4, pos := "law.go:46", after := #[{ on := 18, ground := .data }, { on := 27, ground := .data }, { on := 27, ground := .chain }, { on := 17, ground := .guard }], guard := some (17, true) }) rfl (fun K hK => ?_) AllReadyH.nil
          go_simp
          refine (alike_any _ i cap l a4 i c4 _ _ (HA2.out _ hHeld).2.1 hp4 (by omega) (by omega)).mono ?_; rw [HN3.out]; rintro e w12 ⟨rfl, hb12⟩
          go_simp
          refine hK.out _ _ (hHeld.trans (hb12.mono hHeld.size)) (fun hHeld => ?_)
          clear hK K
          refine wpAnyH_take (i := 29) (oi := { dst := some 119, op := .pick (.tmp 107) (.tmp 118) (.const (.bool false)), type := 4, pos := "law.go:46", after := #[{ on := 17, ground := .data }, { on := 28, ground := .data }], guard := none }) (v := ?_) rfl (by kernel_rfl) (by kernel_rfl) (by kernel_rfl) (fun _ _ _ h => h) (Or.inl ⟨by rfl, ?_⟩) (by assumption) ?_
          rotate_left
          · intro _ _; go_simp; first | done | with_reducible rfl
          simp only [Act.put, List.setIfInBounds_toArray, List.set_cons_zero, List.set_cons_succ]
          refine wpAnyH_take (i := 30) (oi := { dst := some 120, op := .move (.tmp 119), type := 4, pos := "law.go:46", after := #[{ on := 29, ground := .data }, { on := 28, ground := .chain }], guard := none }) (v := ?_) rfl (by kernel_rfl) (by kernel_rfl) (by kernel_rfl) (fun _ _ _ h => h) (Or.inl ⟨by rfl, ?_⟩) (by assumption) ?_
          rotate_left
          · intro _ _; go_simp; first | done | with_reducible rfl
          simp only [Act.put, List.setIfInBounds_toArray, List.set_cons_zero, List.set_cons_succ]
          refine wpAnyH_take (i := 31) (oi := { dst := some 121, op := .move (.tmp 0), type := 22, pos := "law.go:46", after := #[{ on := 30, ground := .guard }], guard := some (30, true) }) (v := ?_) rfl (by kernel_rfl) (by kernel_rfl) (by kernel_rfl) (fun _ _ _ h => h) (Or.inl ⟨by rfl, ?_⟩) (by assumption) ?_
          rotate_left
          · intro _ _; go_simp; first | done | with_reducible rfl
          simp only [Act.put, List.setIfInBounds_toArray, List.set_cons_zero, List.set_cons_succ]
          refine wpAnyH_take (i := 32) (oi := { dst := some 122, op := .move (.tmp 0), type := 22, pos := "law.go:46", after := #[{ on := 30, ground := .guard }], guard := some (30, true) }) (v := ?_) rfl (by kernel_rfl) (by kernel_rfl) (by kernel_rfl) (fun _ _ _ h => h) (Or.inl ⟨by rfl, ?_⟩) (by assumption) ?_
          rotate_left
          · intro _ _; go_simp; first | done | with_reducible rfl
          simp only [Act.put, List.setIfInBounds_toArray, List.set_cons_zero, List.set_cons_succ]
          refine wpAnyH_take (i := 33) (oi := { dst := some 123, op := .slice 22 (.tmp 122) (some (.const (.int .i64 1))) none none, type := 22, pos := "law.go:46", after := #[{ on := 32, ground := .data }, { on := 30, ground := .guard }], guard := some (30, true) }) (v := ?_) rfl (by kernel_rfl) (by kernel_rfl) (by kernel_rfl) (fun _ _ _ h => h) (Or.inl ⟨by rfl, ?_⟩) (by assumption) ?_
          rotate_left
          · intro _ _; go_simp; first | done | with_reducible rfl
          simp only [Act.put, List.setIfInBounds_toArray, List.set_cons_zero, List.set_cons_succ]
          refine wpAnyH_ready (rs := [34]) (by kernel_rfl) (by simp) ?_
          refine AllReadyH.cons (o := { dst := some 124, op := .call { callee := .value (.func 14), args := #[.tmp 121, .tmp 123], argTypes := #[22, 22] }, type := 4, pos := "law.go:46", after := #[{ on := 31, ground := .data }, { on := 33, ground := .data }, { on := 30, ground := .chain }, { on := 30, ground := .guard }], guard := some (30, true) }) rfl (fun K hK => ?_) AllReadyH.nil
          go_simp
          refine (alike_any _ i cap l adr (i - 1) (cap - 1) (l.drop 1) _ (HA2.out _ hHeld).2.1 (HT1.out _ hHeld) (by omega) (by omega)).mono ?_; rw [HN4.out]; rintro e w13 ⟨rfl, hb13⟩
          go_simp
          refine hK.out _ _ (hHeld.trans (hb13.mono hHeld.size)) (fun hHeld => ?_)
          clear hK K
          refine wpAnyH_take (i := 35) (oi := { dst := some 125, op := .unOp Go.UnOp.not 4 (.tmp 124), type := 4, pos := "law.go:46", after := #[{ on := 34, ground := .data }, { on := 30, ground := .guard }], guard := some (30, true) }) (v := ?_) rfl (by kernel_rfl) (by kernel_rfl) (by kernel_rfl) (fun _ _ _ h => h) (Or.inl ⟨by rfl, ?_⟩) (by assumption) ?_
          rotate_left
          · intro _ _; go_simp; first | done | with_reducible rfl
          simp only [Act.put, List.setIfInBounds_toArray, List.set_cons_zero, List.set_cons_succ]
          refine wpAnyH_take (i := 36) (oi := { dst := some 126, op := .pick (.tmp 120) (.tmp 125) (.const (.bool false)), type := 4, pos := "law.go:46", after := #[{ on := 30, ground := .data }, { on := 35, ground := .data }], guard := none }) (v := ?_) rfl (by kernel_rfl) (by kernel_rfl) (by kernel_rfl) (fun _ _ _ h => h) (Or.inl ⟨by rfl, ?_⟩) (by assumption) ?_
          rotate_left
          · intro _ _; go_simp; first | done | with_reducible rfl
          simp only [Act.put, List.setIfInBounds_toArray, List.set_cons_zero, List.set_cons_succ]
          refine wpAnyH_take (i := 37) (oi := { dst := some 127, op := .move (.tmp 126), type := 4, pos := "law.go:46", after := #[{ on := 36, ground := .data }, { on := 34, ground := .chain }], guard := none }) (v := ?_) rfl (by kernel_rfl) (by kernel_rfl) (by kernel_rfl) (fun _ _ _ h => h) (Or.inl ⟨by rfl, ?_⟩) (by assumption) ?_
          rotate_left
          · intro _ _; go_simp; first | done | with_reducible rfl
          simp only [Act.put, List.setIfInBounds_toArray, List.set_cons_zero, List.set_cons_succ]
          refine wpAnyH_ready (rs := [38]) (by kernel_rfl) (by simp) ?_
          refine AllReadyH.cons (o := { dst := some 128, op := .call { callee := .value (.func 7), args := #[], argTypes := #[] }, type := 4, pos := "law.go:46", after := #[{ on := 37, ground := .chain }, { on := 37, ground := .guard }], guard := some (37, true) }) rfl (fun K hK => ?_) AllReadyH.nil
          go_simp
          refine (awake_any _ (HA2.out _ hHeld).1).mono ?_; rintro e w14 ⟨rfl, hb14⟩
          go_simp
          refine hK.out _ _ (hHeld.trans (hb14.mono hHeld.size)) (fun hHeld => ?_)
          clear hK K
          refine wpAnyH_take (i := 39) (oi := { dst := some 129, op := .pick (.tmp 127) (.tmp 128) (.const (.bool false)), type := 4, pos := "law.go:46", after := #[{ on := 37, ground := .data }, { on := 38, ground := .data }], guard := none }) (v := ?_) rfl (by kernel_rfl) (by kernel_rfl) (by kernel_rfl) (fun _ _ _ h => h) (Or.inl ⟨by rfl, ?_⟩) (by assumption) ?_
          rotate_left
          · intro _ _; go_simp; first | done | with_reducible rfl
          simp only [Act.put, List.setIfInBounds_toArray, List.set_cons_zero, List.set_cons_succ]
          refine wpAnyH_take (i := 40) (oi := { dst := some 4, op := .assign (.tmp 129), type := 4, pos := "law.go:46", after := #[{ on := 39, ground := .data }, { on := 38, ground := .chain }, { on := 0, ground := .phase }, { on := 1, ground := .phase }, { on := 2, ground := .phase }, { on := 3, ground := .phase }, { on := 4, ground := .phase }, { on := 5, ground := .phase }, { on := 6, ground := .phase }, { on := 7, ground := .phase }, { on := 8, ground := .phase }, { on := 9, ground := .phase }, { on := 10, ground := .phase }, { on := 11, ground := .phase }, { on := 12, ground := .phase }, { on := 13, ground := .phase }, { on := 14, ground := .phase }, { on := 15, ground := .phase }, { on := 16, ground := .phase }, { on := 17, ground := .phase }, { on := 18, ground := .phase }, { on := 19, ground := .phase }, { on := 20, ground := .phase }, { on := 21, ground := .phase }, { on := 22, ground := .phase }, { on := 23, ground := .phase }, { on := 24, ground := .phase }, { on := 25, ground := .phase }, { on := 26, ground := .phase }, { on := 27, ground := .phase }, { on := 28, ground := .phase }, { on := 29, ground := .phase }, { on := 30, ground := .phase }, { on := 31, ground := .phase }, { on := 32, ground := .phase }, { on := 33, ground := .phase }, { on := 34, ground := .phase }, { on := 35, ground := .phase }, { on := 36, ground := .phase }, { on := 37, ground := .phase }, { on := 38, ground := .phase }, { on := 39, ground := .phase }], guard := none }) (v := ?_) rfl (by kernel_rfl) (by kernel_rfl) (by kernel_rfl) (fun _ _ _ h => h) (Or.inl ⟨by rfl, ?_⟩) (by assumption) ?_
          rotate_left
          · intro _ _; go_simp; first | done | with_reducible rfl
          simp only [Act.put, List.setIfInBounds_toArray, List.set_cons_zero, List.set_cons_succ]
          refine wpAnyH_done (by kernel_rfl) ?_ _
          refine NoPanic.normal ?_
          have HEND : Hid (Below w.heap.size w w14) := HE.out.trans ((HBK.out.trans (hHeld.mono hwr)).mono h5N)
          clear hHeld
          go_wp2_with fail
          go_ret
          exact ⟨rfl, HEND.out⟩
end Go.Proofs.YtlgadelcgboeoaaDoor
