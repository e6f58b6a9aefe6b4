/- The document's own Parted and Alike. -/
import Derived.Test.YtlgadelcgboeoaaDoorPAlike
namespace Go.Proofs.YtlgadelcgboeoaaDoor
open Go.ChangeShapes Go.WideShapes Go.ChangeAt Go.RowKit

/-- Two rows do not lie in one block. -/
def Apart (u v : Value) : Prop := ∀ k, u.ownBlock = some k → v.ownBlock ≠ some k
theorem Apart.symm {u v : Value} (h : Apart u v) : Apart v u := fun k hv hu => h k hu hv
theorem Apart.ne {u v : Value} (h : Apart u v) : v.ownBlock = none ∨ v.ownBlock ≠ u.ownBlock := by
  cases hv : v.ownBlock with
  | none => exact .inl rfl
  | some k => exact .inr fun e => h k e.symm hv
theorem Apart.more {w : World} {N : Nat} {u u' v : Value} {l : List Pt} (h : Apart u v) (hv : Own w N v l) (hu : u'.ownBlock = u.ownBlock ∨ ∃ g, w.heap.size ≤ g ∧ u'.ownBlock = some g) : Apart u' v := by
  intro k hk hvk
  rcases hu with e | ⟨g, hg, e⟩
  · exact h k (e ▸ hk) hvk
  · rw [e] at hk
    injection hk with hk
    have := (hv.lt k hvk).2
    omega

set_option maxRecDepth 100000 in
set_option maxHeartbeats 4000000 in
theorem parted_any (a : Option Addr) (n cap : Nat) (l : List Pt) (a2 : Option Addr) (m cap2 : Nat) (r : List Pt) (w : World) (hp : Pts w a n cap l) (hr : Pts w a2 m cap2 r) (hn : n ≤ 100000) (hm : m ≤ 100000) :
    Calls Tryd.prog 8 #[.slice a n cap, .slice a2 m cap2] w fun e w' => ∃ u v, e = .returned (.tuple #[u, v]) ∧ Own w' w.heap.size u (l.filter fun x => decide (x ∈ r)) ∧ Own w' w.heap.size v (l.filter fun x => !decide (x ∈ r)) ∧ Below w.heap.size w w' := by
  have HU := und_pt
  have HL : Hid (l.length = n) := hp.len
  have HP : Hid (Pts w a n cap l) := hp
  have HR : Hid (Pts w a2 m cap2 r) := hr
  have HRL : Hid (r.length = m) := hr.len
  clear hp hr
  go_enter Tryd.func8, Tryd.ntmps8
  generalize hM : w.heap.size = M
  go_wp2_with fail
  go_loopw [6, 7, 8] (fun u v i wr => ∃ (k : Nat) (pl ql : List Pt), k ≤ n ∧ i = .int .i64 k ∧ pl.length ≤ k ∧ ql.length ≤ k ∧ Hid (pl = (l.take k).filter fun x => decide (x ∈ r)) ∧ Hid (ql = (l.take k).filter fun x => !decide (x ∈ r)) ∧ Hid (Own wr M u pl) ∧ Hid (Own wr M v ql) ∧ Hid (Apart u v) ∧ Below M w wr) (fun _ _ i _ => n - (intOf i).toNat)
  case atStart => exact ⟨0, [], [], by omega, rfl, Nat.le_refl _, Nat.le_refl _, by show [] = _; simp, by show [] = _; simp, Own.nil _ _, Own.nil _ _, (fun k hk => nomatch hk), Below.refl _ _⟩
  case round =>
    obtain ⟨k, pl, ql, hk, rfl, hplk, hqlk, HE, HE2, HO, HO2, HAP, hbk⟩ := hrel
    have hMw : M ≤ wr.heap.size := by have := hbk.size; omega
    by_cases hlt : k < n
    · have e0 : (0 : Int) ≤ (k : Int) := by omega
      have e1 : (k : Int) < (n : Int) := by omega
      have HPk : Hid (Pts wr a n cap l) := HP.out.below (hM ▸ hbk)
      have HRk : Hid (Pts wr a2 m cap2 r) := HR.out.below (hM ▸ hbk)
      obtain ⟨b, o, rfl, hc⟩ := HPk.out.at k hlt
      obtain ⟨x, hx⟩ : ∃ x, x = l.getD k default := ⟨_, rfl⟩
      rw [← hx] at hc
      have HF := filter_take l (fun x => decide (x ∈ r)) k (by rw [HL.out]; exact hlt)
      have HG := filter_take l (fun x => !decide (x ∈ r)) k (by rw [HL.out]; exact hlt)
      rw [← hx, ← HE.out] at HF
      rw [← hx, ← HE2.out] at HG
      have HFF : Hid (_ = _) := HF
      have HGG : Hid (_ = _) := HG
      have HC : Hid (∀ w', Below wr.heap.size wr w' → w'.rangeAt b (o + k * 33) x.cs) := fun w' hw' => rangeAt_below hc hw' (Nat.le_refl _)
      have HB : Hid (Below M w wr) := hbk
      clear hc hbk HF HG hx HPk
      go_wp2_with (first
        | (refine wpList_load_mid rfl 26 _ rfl b (o + k * 33) rfl x.cs _ (HC.out _ (Below.refl _ _)) HU.out rfl (size_pt x) ?_)
        | fail)
      refine (times_any a2 m cap2 r x wr HRk.out hm).mono ?_
      rintro e w3 ⟨rfl, hb3⟩
      have h3s : M ≤ w3.heap.size := by have := hb3.size; omega
      have HC3 : Hid (w3.rangeAt b (o + k * 33) x.cs) := HC.out _ hb3
      have HB3 : Hid (Below M w w3) := HB.out.trans (hb3.mono hMw)
      have HO3 : Hid (Own w3 M u6 pl) := HO.out.below hb3
      have HO4 : Hid (Own w3 M u7 ql) := HO2.out.below hb3
      have hct : r.count x ≤ m := by rw [← HRL.out]; exact List.count_le_length
      generalize hcx : r.count x = c at *
      have HCX : Hid (r.count x = c) := hcx
      clear hb3 HC HB HO HO2 HRk hcx
      by_cases hc0 : 0 < c
      · have g1 : (0 : Int) < (c : Int) := by omega
        have hmem : x ∈ r := List.count_pos_iff.1 (by rw [HCX.out]; exact hc0)
        have HF2 : Hid (pl ++ [x] = (l.take (k + 1)).filter fun x => decide (x ∈ r)) := by show _ = _; rw [HFF.out]; simp [hmem]
        have HG2 : Hid (ql = (l.take (k + 1)).filter fun x => !decide (x ∈ r)) := by show _ = _; rw [HGG.out]; simp [hmem]
        have HO5 : Hid (∀ o, Own (w3.alloc o) M u6 pl ∧ Own (w3.alloc o) M u7 ql ∧ Below M w (w3.alloc o)) := fun o => ⟨HO3.out.below ((Below.refl _ _).alloc (Nat.le_refl _) _), HO4.out.below ((Below.refl _ _).alloc (Nat.le_refl _) _), HB3.out.alloc h3s _⟩
        clear hmem HFF HGG
        go_upto_region 4 with (first
          | (refine wpList_load_mid rfl 26 _ rfl b (o + k * 33) rfl x.cs _ HC3.out HU.out rfl (size_pt x) ?_)
          | (refine wpList_build_pts rfl 1 _ rfl [x] rfl (by omega) (by omega) [.tmp 26] rfl rfl ?_)
          | (at_builtin; refine wpList_append_pts rfl _ _ rfl M u6 pl rfl (HO5.out _).1 _ 1 1 [x] rfl (Pts.lit w3 [x] 1 rfl (by omega)) (by omega) (by simp; omega) ?_; intro v4 w4 HO6 HG6 HN6))
        have HR6 : Hid (Own w4 M u7 ql) := (HO5.out _).2.1.kept HG6.out HAP.out.ne
        have HA6 : Hid (Apart v4 u7) := HAP.out.more (HO5.out _).2.1 HN6.out
        have HBEL : Hid (Below M w w4) := (HO5.out _).2.2.trans ((HO5.out _).1.grown HG6.out (by simp; omega))
        clear HO5 HG6 HN6
        go_wp2_with fail
        go_roundw
        case rel => exact ⟨k + 1, pl ++ [x], ql, by omega, by go_num, by simp; omega, by omega, HF2.out, HG2.out, HO6.out, HR6.out, HA6.out, HBEL.out⟩
        case measure => simp [intOf]; omega
      · have g1 : ¬ (0 : Int) < (c : Int) := by omega
        have hmem : ¬ x ∈ r := fun h => hc0 (by rw [← HCX.out]; exact List.count_pos_iff.2 h)
        have HF2 : Hid (pl = (l.take (k + 1)).filter fun x => decide (x ∈ r)) := by show _ = _; rw [HFF.out]; simp [hmem]
        have HG2 : Hid (ql ++ [x] = (l.take (k + 1)).filter fun x => !decide (x ∈ r)) := by show _ = _; rw [HGG.out]; simp [hmem]
        have HO5 : Hid (∀ o, Own (w3.alloc o) M u6 pl ∧ Own (w3.alloc o) M u7 ql ∧ Below M w (w3.alloc o)) := fun o => ⟨HO3.out.below ((Below.refl _ _).alloc (Nat.le_refl _) _), HO4.out.below ((Below.refl _ _).alloc (Nat.le_refl _) _), HB3.out.alloc h3s _⟩
        clear hmem HFF HGG
        go_upto_region 4 with (first
          | (refine wpList_load_mid rfl 26 _ rfl b (o + k * 33) rfl x.cs _ HC3.out HU.out rfl (size_pt x) ?_)
          | (refine wpList_build_pts rfl 1 _ rfl [x] rfl (by omega) (by omega) [.tmp 33] rfl rfl ?_)
          | (at_builtin; refine wpList_append_pts rfl _ _ rfl M u7 ql rfl (HO5.out _).2.1 _ 1 1 [x] rfl (Pts.lit w3 [x] 1 rfl (by omega)) (by omega) (by simp; omega) ?_; intro v4 w4 HO6 HG6 HN6))
        have HR6 : Hid (Own w4 M u6 pl) := (HO5.out _).1.kept HG6.out HAP.out.symm.ne
        have HA6 : Hid (Apart u6 v4) := (HAP.out.symm.more (HO5.out _).1 HN6.out).symm
        have HBEL : Hid (Below M w w4) := (HO5.out _).2.2.trans ((HO5.out _).2.1.grown HG6.out (by simp; omega))
        clear HO5 HG6 HN6
        go_wp2_with fail
        go_roundw
        case rel => exact ⟨k + 1, pl, ql ++ [x], by omega, by go_num, by omega, by simp; omega, HF2.out, HG2.out, HR6.out, HO6.out, HA6.out, HBEL.out⟩
        case measure => simp [intOf]; omega
    · obtain rfl : k = n := by omega
      have e1 : l.take k = l := List.take_of_length_le (by rw [HL.out]; exact Nat.le_refl _)
      have HF2 : Hid (pl = l.filter fun x => decide (x ∈ r)) := by have h := HE.out; rwa [e1] at h
      have HG2 : Hid (ql = l.filter fun x => !decide (x ∈ r)) := by have h := HE2.out; rwa [e1] at h
      clear HE HE2 e1
      go_wp2_with fail
      go_ret2
      subst hM
      exact ⟨u6, u7, rfl, HF2.out ▸ HO.out, HG2.out ▸ HO2.out, hbk⟩

set_option maxRecDepth 100000 in
set_option maxHeartbeats 4000000 in
theorem refalike_any (a : Option Addr) (n cap : Nat) (l : List Pt) (a2 : Option Addr) (m cap2 : Nat) (r : List Pt) (w : World) (hp : Pts w a n cap l) (hr : Pts w a2 m cap2 r) (hn : n ≤ 100000) (hm : m ≤ 100000) :
    Calls Tryd.prog 15 #[.slice a n cap, .slice a2 m cap2] w fun e w' => e = .returned (.bool (decide (l.Perm r))) ∧ Below w.heap.size w w' := by
  have HU := und_pt
  have HMO := follows_mixed
  have HL : Hid (l.length = n) := hp.len
  have HRL : Hid (r.length = m) := hr.len
  have HP : Hid (Pts w a n cap l) := hp
  have HR : Hid (Pts w a2 m cap2 r) := hr
  clear hp hr
  go_enter Tryd.func15, Tryd.ntmps15
  go_wp2_with fail
  go_loopw [5] (fun i wr => ∃ k : Nat, k ≤ n ∧ i = .int .i64 k ∧ Hid (∀ j, j < k → l.count (l.getD j default) = r.count (l.getD j default)) ∧ Below w.heap.size w wr) (fun i _ => n - (intOf i).toNat)
  case atStart => exact ⟨0, by omega, rfl, (fun j hj => absurd hj (Nat.not_lt_zero _)), Below.refl _ _⟩
  case round =>
    obtain ⟨k, hk, rfl, HE, hbk⟩ := hrel
    by_cases hlt : k < n
    · have e0 : (0 : Int) ≤ (k : Int) := by omega
      have e1 : (k : Int) < (n : Int) := by omega
      have HPk : Hid (Pts wr a n cap l) := HP.out.below hbk
      have HRk : Hid (Pts wr a2 m cap2 r) := HR.out.below hbk
      obtain ⟨b, o, rfl, hc⟩ := HPk.out.at k hlt
      obtain ⟨x, hx⟩ : ∃ x, x = l.getD k default := ⟨_, rfl⟩
      rw [← hx] at hc
      have HX : Hid (x = l.getD k default) := hx
      have HSK : Hid (∀ w', Below wr.heap.size wr w' → w'.rangeAt b (o + k * 33) x.cs) := fun w' hw' => rangeAt_below hc hw' (Nat.le_refl _)
      have HB : Hid (Below w.heap.size w wr) := hbk
      have hbs := hbk.size
      have u26 := HU.out
      have ix := size_pt x
      have hc1 : l.count x ≤ n := by rw [← HL.out]; exact List.count_le_length
      have hc2 : r.count x ≤ m := by rw [← HRL.out]; exact List.count_le_length
      obtain ⟨c, hcc⟩ : ∃ c, c = l.count x := ⟨_, rfl⟩
      obtain ⟨d, hdd⟩ : ∃ d, d = r.count x := ⟨_, rfl⟩
      rw [← hcc] at hc1
      rw [← hdd] at hc2
      have HCC : Hid (c = l.count x ∧ d = r.count x) := ⟨hcc, hdd⟩
      clear hc hx hbk hcc hdd
      go_wp2_with fail
      refine wp_region_noPanic ?_
      refine wp_region_held_drew (S := fun w' => w'.rangeAt b (o + k * 33) x.cs) HMO.out (HSK.out _ (Below.refl _ _).drew) (fun hHeld => ?_)
      refine wpAnyH_take (i := 0) (oi := { dst := some 12, op := .move (.tmp 0), type := 22, pos := "forms.go:334", after := #[], guard := none }) (v := ?_) rfl (by kernel_rfl) (by kernel_rfl) (by kernel_rfl) (fun _ _ _ h => h) (Or.inl ⟨by rfl, ?_⟩) (by assumption) ?_
      rotate_left
      · intro _ _; go_simp; first | done | with_reducible rfl
      simp only [Act.put, List.setIfInBounds_toArray, List.set_cons_zero, List.set_cons_succ]
      refine wpAnyH_take (i := 1) (oi := { dst := some 13, op := .move (.tmp 0), type := 22, pos := "forms.go:334", after := #[], guard := none }) (v := ?_) rfl (by kernel_rfl) (by kernel_rfl) (by kernel_rfl) (fun _ _ _ h => h) (Or.inl ⟨by rfl, ?_⟩) (by assumption) ?_
      rotate_left
      · intro _ _; go_simp; first | done | with_reducible rfl
      simp only [Act.put, List.setIfInBounds_toArray, List.set_cons_zero, List.set_cons_succ]
      refine wpAnyH_take (i := 2) (oi := { dst := some 14, op := .move (.tmp 5), type := 3, pos := "forms.go:334", after := #[], guard := none }) (v := ?_) rfl (by kernel_rfl) (by kernel_rfl) (by kernel_rfl) (fun _ _ _ h => h) (Or.inl ⟨by rfl, ?_⟩) (by assumption) ?_
      rotate_left
      · intro _ _; go_simp; first | done | with_reducible rfl
      simp only [Act.put, List.setIfInBounds_toArray, List.set_cons_zero, List.set_cons_succ]
      refine wpAnyH_take (i := 3) (oi := { dst := some 15, op := .indexAddr 22 (.tmp 13) (.tmp 14), type := 0, pos := "forms.go:334", after := #[{ on := 1, ground := .data }, { on := 2, ground := .data }], guard := none }) (v := ?_) rfl (by kernel_rfl) (by kernel_rfl) (by kernel_rfl) (fun _ _ _ h => h) (Or.inl ⟨by rfl, ?_⟩) (by assumption) ?_
      rotate_left
      · intro _ _; go_simp; first | done | with_reducible rfl
      simp only [Act.put, List.setIfInBounds_toArray, List.set_cons_zero, List.set_cons_succ]
      refine wpAnyH_take (i := 4) (oi := { dst := some 16, op := .load 26 (.tmp 15), type := 26, pos := "forms.go:334", after := #[{ on := 3, ground := .data }], guard := none }) (v := _) rfl (by kernel_rfl) (by kernel_rfl) (by kernel_rfl) (fun _ _ _ h => h) (yieldsIf_load_mid (by rfl) _ _ rfl (b) (o + k * 33) rfl (x.cs) _ (fun _ h => h) (u26) rfl (ix)) (by assumption) ?_
      simp only [Act.put, List.setIfInBounds_toArray, List.set_cons_zero, List.set_cons_succ]
      refine wpAnyH_take (i := 6) (oi := { dst := some 18, op := .move (.tmp 1), type := 22, pos := "forms.go:334", after := #[], guard := none }) (v := ?_) rfl (by kernel_rfl) (by kernel_rfl) (by kernel_rfl) (fun _ _ _ h => h) (Or.inl ⟨by rfl, ?_⟩) (by assumption) ?_
      rotate_left
      · intro _ _; go_simp; first | done | with_reducible rfl
      simp only [Act.put, List.setIfInBounds_toArray, List.set_cons_zero, List.set_cons_succ]
      refine wpAnyH_take (i := 7) (oi := { dst := some 19, op := .move (.tmp 0), type := 22, pos := "forms.go:334", after := #[], guard := none }) (v := ?_) rfl (by kernel_rfl) (by kernel_rfl) (by kernel_rfl) (fun _ _ _ h => h) (Or.inl ⟨by rfl, ?_⟩) (by assumption) ?_
      rotate_left
      · intro _ _; go_simp; first | done | with_reducible rfl
      simp only [Act.put, List.setIfInBounds_toArray, List.set_cons_zero, List.set_cons_succ]
      refine wpAnyH_take (i := 8) (oi := { dst := some 20, op := .move (.tmp 5), type := 3, pos := "forms.go:334", after := #[], guard := none }) (v := ?_) rfl (by kernel_rfl) (by kernel_rfl) (by kernel_rfl) (fun _ _ _ h => h) (Or.inl ⟨by rfl, ?_⟩) (by assumption) ?_
      rotate_left
      · intro _ _; go_simp; first | done | with_reducible rfl
      simp only [Act.put, List.setIfInBounds_toArray, List.set_cons_zero, List.set_cons_succ]
      refine wpAnyH_take (i := 9) (oi := { dst := some 21, op := .indexAddr 22 (.tmp 19) (.tmp 20), type := 0, pos := "forms.go:334", after := #[{ on := 7, ground := .data }, { on := 8, ground := .data }], guard := none }) (v := ?_) rfl (by kernel_rfl) (by kernel_rfl) (by kernel_rfl) (fun _ _ _ h => h) (Or.inl ⟨by rfl, ?_⟩) (by assumption) ?_
      rotate_left
      · intro _ _; go_simp; first | done | with_reducible rfl
      simp only [Act.put, List.setIfInBounds_toArray, List.set_cons_zero, List.set_cons_succ]
      refine wpAnyH_take (i := 10) (oi := { dst := some 22, op := .load 26 (.tmp 21), type := 26, pos := "forms.go:334", after := #[{ on := 9, ground := .data }], guard := none }) (v := _) rfl (by kernel_rfl) (by kernel_rfl) (by kernel_rfl) (fun _ _ _ h => h) (yieldsIf_load_mid (by rfl) _ _ rfl (b) (o + k * 33) rfl (x.cs) _ (fun _ h => h) (u26) rfl (ix)) (by assumption) ?_
      simp only [Act.put, List.setIfInBounds_toArray, List.set_cons_zero, List.set_cons_succ]
      refine wpAnyH_ready (rs := [5]) (by kernel_rfl) (by simp) ?_
      refine AllReadyH.cons (o := { dst := some 17, op := .call { callee := .value (.func 17), args := #[.tmp 12, .tmp 16], argTypes := #[22, 26] }, type := 3, pos := "forms.go:334", after := #[{ on := 0, ground := .data }, { on := 4, ground := .data }], guard := none }) rfl (fun K hK => ?_) AllReadyH.nil
      go_simp
      refine (times_any _ n cap l x _ (HPk.out.below (Below.refl _ _).drew) hn).mono ?_; rw [← HCC.out.1]; rintro e w3 ⟨rfl, hb3⟩; have h3 : Below wr.heap.size wr w3 := ⟨hb3.os, hb3.tape, hb3.output, hb3.size, hb3.block⟩
      go_simp
      refine hK.out _ _ (HSK.out _ h3) (fun hHeld => ?_)
      clear hK K
      refine wpAnyH_ready (rs := [11]) (by kernel_rfl) (by simp) ?_
      refine AllReadyH.cons (o := { dst := some 23, op := .call { callee := .value (.func 17), args := #[.tmp 18, .tmp 22], argTypes := #[22, 26] }, type := 3, pos := "forms.go:334", after := #[{ on := 6, ground := .data }, { on := 10, ground := .data }, { on := 5, ground := .chain }], guard := none }) rfl (fun K hK => ?_) AllReadyH.nil
      go_simp
      refine (times_any _ m cap2 r x _ (HRk.out.below h3) hm).mono ?_; rw [← HCC.out.2]; rintro e w4 ⟨rfl, hb4⟩; have h4 : Below wr.heap.size wr w4 := h3.trans (hb4.mono h3.size)
      go_simp
      refine hK.out _ _ (HSK.out _ h4) (fun hHeld => ?_)
      clear hK K
      refine wpAnyH_take (i := 12) (oi := { dst := some 24, op := .binOp Go.BinOp.neq 3 (.tmp 17) (.tmp 23) 3, type := 4, pos := "forms.go:334", after := #[{ on := 5, ground := .data }, { on := 11, ground := .data }], guard := none }) (v := ?_) rfl (by kernel_rfl) (by kernel_rfl) (by kernel_rfl) (fun _ _ _ h => h) (Or.inl ⟨by rfl, ?_⟩) (by assumption) ?_
      rotate_left
      · intro _ _; go_simp; first | done | with_reducible rfl
      simp only [Act.put, List.setIfInBounds_toArray, List.set_cons_zero, List.set_cons_succ]
      refine wpAnyH_done (by kernel_rfl) ?_ _
      refine NoPanic.normal ?_
      clear u26 ix hHeld
      have HB4 : Hid (Below w.heap.size w w4) := HB.out.trans (h4.mono hbs)
      clear hb3 hb4 h3 h4 HSK HB HPk HRk
      by_cases hcd : c = d
      · subst hcd
        go_wp2_with fail
        go_roundw
        case rel =>
          refine ⟨k + 1, by omega, by go_num, fun j hj => ?_, HB4.out⟩
          by_cases e : j = k
          · subst e; rw [← HX.out, ← HCC.out.1, HCC.out.2]
          · exact HE.out j (by omega)
        case measure => simp [intOf]; omega
      · have HRES : Hid (decide (l.Perm r) = false) := by
          refine decide_eq_false fun h => hcd ?_
          rw [HCC.out.1, HCC.out.2, h.count_eq]
        have g1 : ((c : Int) == (d : Int)) = false := by simpa using (by omega : ¬ (c : Int) = (d : Int))
        go_wp2_with fail
        go_ret
        exact ⟨ret_bool HRES.out.symm, HB4.out⟩
    · obtain rfl : k = n := by omega
      by_cases hkm : k = m
      · subst hkm
        have HRES : Hid (decide (l.Perm r) = true) := decide_eq_true (perm_of_counts (by rw [HL.out, HRL.out]) fun x hx => by
          obtain ⟨j, hj, e⟩ := mem_getD hx
          rw [← e]; exact HE.out j (by rw [← HL.out]; exact hj))
        go_wp2_with fail
        go_ret
        exact ⟨ret_bool HRES.out.symm, hbk⟩
      · have HRES : Hid (decide (l.Perm r) = false) := by
          refine decide_eq_false fun h => hkm ?_
          rw [← HL.out, ← HRL.out, h.length_eq]
        have g1 : ((k : Int) == (m : Int)) = false := by simpa using (by omega : ¬ (k : Int) = (m : Int))
        go_wp2_with fail
        go_ret
        exact ⟨ret_bool HRES.out.symm, hbk⟩
end Go.Proofs.YtlgadelcgboeoaaDoor
