/- PointParts answers true at every two lists. -/
import Derived.Test.YtlgadelcgboeoaaDoorLSets
import Derived.Test.YtlgadelcgboeoaaDoorPtF
namespace Go.Proofs.YtlgadelcgboeoaaDoor
open Go.ChangeShapes Go.WideShapes Go.ChangeAt Go.RowKit

set_option maxRecDepth 100000 in
set_option maxHeartbeats 4000000 in
theorem parts_out (a : Option Addr) (n cap : Nat) (a2 : Option Addr) (m cap2 : Nat) (w : World) (hm : Mx w) (hnm : 40 < n ∨ 40 < m) :
    Calls Tryd.prog 6 #[.slice a n cap, .slice a2 m cap2] w fun e w' => e = .returned (.bool true) ∧ Below w.heap.size w w' := by
  have HM : Hid (Mx w) := hm
  clear hm
  go_enter Tryd.func6, Tryd.ntmps6
  by_cases h1 : 40 < n
  · have g1 : (40 : Int) < (n : Int) := by omega
    go_wp2_with fail
    refine (awake_any w HM.out).mono ?_
    rintro e w2 ⟨rfl, hb2⟩
    have HB2 : Hid (Below w.heap.size w w2) := hb2
    clear hb2
    go_wp2_with fail
    go_ret
    exact ⟨rfl, HB2.out⟩
  · have g1 : ¬ (40 : Int) < (n : Int) := by omega
    have g2 : (40 : Int) < (m : Int) := by omega
    go_wp2_with fail
    refine (awake_any w HM.out).mono ?_
    rintro e w2 ⟨rfl, hb2⟩
    have HB2 : Hid (Below w.heap.size w w2) := hb2
    clear hb2
    go_wp2_with fail
    go_ret
    exact ⟨rfl, HB2.out⟩

theorem filter_both (l : List Pt) (f : Pt → Bool) : (l.filter f).length + (l.filter fun x => !f x).length = l.length := by
  induction l with
  | nil => rfl
  | cons x l ih => cases h : f x <;> simp [h] <;> omega
/-- Where one of the parts stands. -/
theorem filter_at (l : List Pt) (f : Pt → Bool) (k : Nat) (hk : k < l.length) (hf : f (l.getD k default) = true) :
    ((l.take k).filter f).length < (l.filter f).length ∧ (l.filter f).getD ((l.take k).filter f).length default = l.getD k default := by
  have e : l.filter f = (l.take k).filter f ++ l.getD k default :: (l.drop (k + 1)).filter f := by
    have h1 : l = l.take k ++ l.getD k default :: l.drop (k + 1) := by
      rw [List.getD_eq_getElem?_getD, List.getElem?_eq_getElem hk]
      simp
    calc l.filter f = (l.take k ++ l.getD k default :: l.drop (k + 1)).filter f := by rw [← h1]
      _ = _ := by rw [List.filter_append, List.filter_cons, if_pos hf]
  rw [e]
  refine ⟨by simp, ?_⟩
  rw [List.getD_eq_getElem?_getD, List.getElem?_append_right (Nat.le_refl _), Nat.sub_self]
  rfl

set_option maxRecDepth 100000 in
set_option maxHeartbeats 8000000 in
theorem parts_in (a : Option Addr) (n cap : Nat) (l : List Pt) (a2 : Option Addr) (m cap2 : Nat) (r : List Pt) (w : World) (hp : Pts w a n cap l) (hr : Pts w a2 m cap2 r) (hm : Mx w) (hn : n ≤ 40) (hmm : m ≤ 40) :
    Calls Tryd.prog 6 #[.slice a n cap, .slice a2 m cap2] w fun e w' => e = .returned (.bool true) ∧ Below w.heap.size w w' := by
  have HM : Hid (Mx w) := hm
  have HU := und_pt
  have HMO := follows_mixed
  have HL : Hid (l.length = n) := hp.len
  have HP : Hid (Pts w a n cap l ∧ Pts w a2 m cap2 r) := ⟨hp, hr⟩
  clear hm hp hr
  have g1 : ¬ (40 : Int) < (n : Int) := by omega
  have g2 : ¬ (40 : Int) < (m : Int) := by omega
  go_enter Tryd.func6, Tryd.ntmps6
  go_wp2_with fail
  refine (both_any a n cap l a2 m cap2 r w HP.out.1 HP.out.2 (by omega) (by omega)).mono ?_
  rintro e w1 ⟨v1, rfl, ho1, hb1⟩
  obtain ⟨ax, cx, rfl, hpx⟩ := ho1.pts
  have H1 : Hid (Pts w1 a n cap l ∧ Pts w1 a2 m cap2 r ∧ Mx w1 ∧ Below w.heap.size w w1) := ⟨HP.out.1.below hb1, HP.out.2.below hb1, HM.out.below hb1, hb1⟩
  have HPX : Hid (Pts w1 ax _ cx _) := hpx
  clear ho1 hb1 hpx HP HM
  go_wp2_with fail
  refine (minus_any a n cap l a2 m cap2 r w1 H1.out.1 H1.out.2.1 (by omega) (by omega)).mono ?_
  rintro e w2 ⟨v2, rfl, ho2, hb2⟩
  obtain ⟨ay, cy, rfl, hpy⟩ := ho2.pts
  have H2 : Hid (Pts w2 a n cap l ∧ Pts w2 a2 m cap2 r ∧ Mx w2 ∧ Below w.heap.size w w2) := by
    obtain ⟨h1, h2, h3, h4⟩ := H1.out
    exact ⟨h1.below hb2, h2.below hb2, h3.below hb2, h4.trans (hb2.mono h4.size)⟩
  have HPX2 := HPX.out.below hb2
  obtain ⟨bl, hbl⟩ : ∃ x, x = l.filter fun x => decide (x ∈ r) := ⟨_, rfl⟩
  obtain ⟨rl, hrl⟩ : ∃ x, x = l.filter fun x => !decide (x ∈ r) := ⟨_, rfl⟩
  rw [← hbl] at HPX2 ⊢
  rw [← hrl] at hpy ⊢
  have hbn : bl.length ≤ n := by rw [hbl, ← HL.out]; exact List.length_filter_le _ _
  have hrn : rl.length ≤ n := by rw [hrl, ← HL.out]; exact List.length_filter_le _ _
  have HBL : Hid (bl = (l.filter fun x => decide (x ∈ r)) ∧ rl = l.filter fun x => !decide (x ∈ r)) := ⟨hbl, hrl⟩
  have H3 : Hid (Pts w2 ax bl.length cx bl ∧ Pts w2 ay rl.length cy rl) := ⟨HPX2, hpy⟩
  have HLN : Hid (bl.length + rl.length = n) := by
    show _ = _
    rw [hbl, hrl, ← HL.out]
    exact filter_both l _
  generalize hbb : bl.length = nb at *
  generalize hrr : rl.length = nr at *
  have HBB : Hid (bl.length = nb ∧ rl.length = nr) := ⟨hbb, hrr⟩
  clear ho2 hb2 hbl hrl HPX2 hpy H1 HPX hbb hrr
  have HA : Hid (∀ w', Below w2.heap.size w2 w' → Mx w' ∧ Pts w' a n cap l ∧ Pts w' a2 m cap2 r ∧ Pts w' ax nb cx bl ∧ Pts w' ay nr cy rl) := fun w' hw' => by
    obtain ⟨h1, h2, h3, h4⟩ := H2.out
    exact ⟨h3.below hw', h1.below hw', h2.below hw', H3.out.1.below hw', H3.out.2.below hw'⟩
  have HE : Hid (Below w.heap.size w w2) := H2.out.2.2.2
  have h2N : w.heap.size ≤ w2.heap.size := HE.out.size
  clear H2 H3
  go_wp2_with fail
  go_loopw [7, 8, 9] (fun s t u wr => ∃ i j k : Nat, k ≤ n ∧ s = .int .i64 i ∧ t = .int .i64 j ∧ u = .int .i64 k ∧ i ≤ k ∧ j ≤ k ∧ Hid (i = ((l.take k).filter fun x => decide (x ∈ r)).length ∧ j = ((l.take k).filter fun x => !decide (x ∈ r)).length) ∧ Below w2.heap.size w2 wr) (fun _ _ u _ => n - (intOf u).toNat)
  case atStart => exact ⟨0, 0, 0, by omega, rfl, rfl, rfl, Nat.le_refl _, Nat.le_refl _, ⟨by simp, by simp⟩, Below.refl _ _⟩
  case round =>
    obtain ⟨i, j, k, hk, rfl, rfl, rfl, hik, hjk, HIJ, hbk⟩ := hrel
    by_cases hlt : k < n
    · have e0 : (0 : Int) ≤ (k : Int) := by omega
      have e1 : (k : Int) < (n : Int) := by omega
      obtain ⟨b, o, rfl, hca⟩ := (HA.out _ hbk).2.1.at k hlt
      obtain ⟨x, hx⟩ : ∃ x, x = l.getD k default := ⟨_, rfl⟩
      rw [← hx] at hca
      have HX : Hid (x = l.getD k default) := hx
      have HCA : Hid (wr.rangeAt b (o + k * 33) x.cs) := hca
      have HBK : Hid (Below w2.heap.size w2 wr) := hbk
      have hwr : w2.heap.size ≤ wr.heap.size := hbk.size
      have hkl : k < l.length := by rw [HL.out]; exact hlt
      have hF := filter_take l (fun x => decide (x ∈ r)) k hkl
      have hG := filter_take l (fun x => !decide (x ∈ r)) k hkl
      rw [← hx] at hF hG
      clear hca hbk
      by_cases hmem : x ∈ r
      · have hat := filter_at l (fun x => decide (x ∈ r)) k hkl (by rw [← hx]; exact decide_eq_true hmem)
        rw [← HIJ.out.1, ← HBL.out.1, HBB.out.1, ← hx] at hat
        have HD : Hid (decide (x ∈ r) = true) := decide_eq_true hmem
        have HF : Hid ((l.take (k + 1)).filter (fun x => decide (x ∈ r)) = (l.take k).filter (fun x => decide (x ∈ r)) ++ [x]) := by show _ = _; rw [hF]; simp [hmem]
        have HG : Hid ((l.take (k + 1)).filter (fun x => !decide (x ∈ r)) = (l.take k).filter (fun x => !decide (x ∈ r))) := by show _ = _; rw [hG]; simp [hmem]
        obtain ⟨hin, hxi⟩ := hat
        obtain ⟨bx, ox, rfl, hcx⟩ := (HA.out _ HBK.out).2.2.2.1.at i hin
        rw [hxi] at hcx
        have HSK : Hid (∀ w', Below wr.heap.size wr w' → w'.rangeAt b (o + k * 33) x.cs ∧ w'.rangeAt bx (ox + i * 33) x.cs) := fun w' hw' => ⟨rangeAt_below HCA.out hw' (Nat.le_refl _), rangeAt_below hcx hw' (Nat.le_refl _)⟩
        have u26 := HU.out
        have ix := size_pt x
        have q1 : ∀ w', (binOp .eql 26 (.agg x.cs.toArray) (.agg x.cs.toArray)).run Tryd.prog w' = .ok (.bool true) w' := fun w' => by rw [eql_pt]; simp
        have q2 : ∀ (op : BinOp) (u v : Operand) w', (eqGuard op 26 u v (.agg x.cs.toArray) (.agg x.cs.toArray)).run Tryd.prog w' = .ok () w' := fun op u v => guard_pt op u v x x
        have q3 : ∀ w', (Op.equalIn 10000 26 (.agg x.cs.toArray) (.agg x.cs.toArray)).run Tryd.prog w' = .ok true w' := fun w' => by rw [equalIn_pt]; simp
        have f0 : (0 : Int) ≤ (i : Int) := by omega
        have f1 : (i : Int) < (nb : Int) := by omega
        clear hcx hF hG hx hmem hxi
        go_wp2_with fail
        refine wp_region_noPanic ?_
        refine wp_region_held_drew (S := fun w' => w'.rangeAt b (o + k * 33) x.cs ∧ w'.rangeAt bx (ox + i * 33) x.cs) HMO.out (HSK.out _ (Below.refl _ _).drew) (fun hHeld => ?_)
        refine wpAnyH_take (i := 0) (oi := { dst := some 32, op := .move (.tmp 7), type := 3, pos := "law.go:70", after := #[], guard := none }) (v := ?_) rfl (by kernel_rfl) (by kernel_rfl) (by kernel_rfl) (fun _ _ _ h => h) (Or.inl ⟨by rfl, ?_⟩) (by assumption) ?_
        rotate_left
        · intro _ _; go_simp; first | done | with_reducible rfl
        simp only [Act.put, List.setIfInBounds_toArray, List.set_cons_zero, List.set_cons_succ]
        refine wpAnyH_take (i := 1) (oi := { dst := some 33, op := .move (.tmp 5), type := 22, pos := "law.go:70", after := #[], guard := none }) (v := ?_) rfl (by kernel_rfl) (by kernel_rfl) (by kernel_rfl) (fun _ _ _ h => h) (Or.inl ⟨by rfl, ?_⟩) (by assumption) ?_
        rotate_left
        · intro _ _; go_simp; first | done | with_reducible rfl
        simp only [Act.put, List.setIfInBounds_toArray, List.set_cons_zero, List.set_cons_succ]
        refine wpAnyH_take (i := 2) (oi := { dst := some 34, op := .call { callee := .builtin Go.Builtin.len, args := #[.tmp 33], argTypes := #[22] }, type := 3, pos := "law.go:70", after := #[{ on := 1, ground := .data }], guard := none }) (v := ?_) rfl (by kernel_rfl) (by kernel_rfl) (by kernel_rfl) (fun _ _ _ h => h) (Or.inl ⟨by rfl, ?_⟩) (by assumption) ?_
        rotate_left
        · intro _ _; go_simp; first | done | with_reducible rfl
        simp only [Act.put, List.setIfInBounds_toArray, List.set_cons_zero, List.set_cons_succ]
        refine wpAnyH_take (i := 3) (oi := { dst := some 35, op := .binOp Go.BinOp.lss 3 (.tmp 32) (.tmp 34) 3, type := 4, pos := "law.go:70", after := #[{ on := 0, ground := .data }, { on := 2, ground := .data }], guard := none }) (v := .bool true) rfl (by kernel_rfl) (by kernel_rfl) (by kernel_rfl) (fun _ _ _ h => h) (Or.inl ⟨by rfl, ?_⟩) (by assumption) ?_
        · intro _ _; go_simp
        simp only [Act.put, List.setIfInBounds_toArray, List.set_cons_zero, List.set_cons_succ]
        refine wpAnyH_take (i := 4) (oi := { dst := some 36, op := .move (.tmp 35), type := 4, pos := "law.go:70", after := #[{ on := 3, ground := .data }], guard := none }) (v := ?_) rfl (by kernel_rfl) (by kernel_rfl) (by kernel_rfl) (fun _ _ _ h => h) (Or.inl ⟨by rfl, ?_⟩) (by assumption) ?_
        rotate_left
        · intro _ _; go_simp; first | done | with_reducible rfl
        simp only [Act.put, List.setIfInBounds_toArray, List.set_cons_zero, List.set_cons_succ]
        refine wpAnyH_take (i := 5) (oi := { dst := some 37, op := .move (.tmp 5), type := 22, pos := "law.go:70", after := #[{ on := 4, ground := .guard }], guard := some (4, true) }) (v := ?_) rfl (by kernel_rfl) (by kernel_rfl) (by kernel_rfl) (fun _ _ _ h => h) (Or.inl ⟨by rfl, ?_⟩) (by assumption) ?_
        rotate_left
        · intro _ _; go_simp; first | done | with_reducible rfl
        simp only [Act.put, List.setIfInBounds_toArray, List.set_cons_zero, List.set_cons_succ]
        refine wpAnyH_take (i := 6) (oi := { dst := some 38, op := .move (.tmp 7), type := 3, pos := "law.go:70", after := #[{ on := 4, ground := .guard }], guard := some (4, true) }) (v := ?_) rfl (by kernel_rfl) (by kernel_rfl) (by kernel_rfl) (fun _ _ _ h => h) (Or.inl ⟨by rfl, ?_⟩) (by assumption) ?_
        rotate_left
        · intro _ _; go_simp; first | done | with_reducible rfl
        simp only [Act.put, List.setIfInBounds_toArray, List.set_cons_zero, List.set_cons_succ]
        refine wpAnyH_take (i := 7) (oi := { dst := some 39, op := .indexAddr 22 (.tmp 37) (.tmp 38), type := 0, pos := "law.go:70", after := #[{ on := 5, ground := .data }, { on := 6, ground := .data }, { on := 4, ground := .guard }], guard := some (4, true) }) (v := ?_) rfl (by kernel_rfl) (by kernel_rfl) (by kernel_rfl) (fun _ _ _ h => h) (Or.inl ⟨by rfl, ?_⟩) (by assumption) ?_
        rotate_left
        · intro _ _; go_simp; first | done | with_reducible rfl
        simp only [Act.put, List.setIfInBounds_toArray, List.set_cons_zero, List.set_cons_succ]
        refine wpAnyH_take (i := 8) (oi := { dst := some 40, op := .load 26 (.tmp 39), type := 26, pos := "law.go:70", after := #[{ on := 7, ground := .data }, { on := 4, ground := .guard }], guard := some (4, true) }) (v := _) rfl (by kernel_rfl) (by kernel_rfl) (by kernel_rfl) (fun _ _ _ h => h) (yieldsIf_load_mid (by rfl) _ _ rfl (bx) (ox + i * 33) rfl (x.cs) _ (fun _ h => h.2) (u26) rfl (ix)) (by assumption) ?_
        simp only [Act.put, List.setIfInBounds_toArray, List.set_cons_zero, List.set_cons_succ]
        refine wpAnyH_take (i := 9) (oi := { dst := some 41, op := .move (.tmp 0), type := 22, pos := "law.go:70", after := #[{ on := 4, ground := .guard }], guard := some (4, true) }) (v := ?_) rfl (by kernel_rfl) (by kernel_rfl) (by kernel_rfl) (fun _ _ _ h => h) (Or.inl ⟨by rfl, ?_⟩) (by assumption) ?_
        rotate_left
        · intro _ _; go_simp; first | done | with_reducible rfl
        simp only [Act.put, List.setIfInBounds_toArray, List.set_cons_zero, List.set_cons_succ]
        refine wpAnyH_take (i := 10) (oi := { dst := some 42, op := .move (.tmp 9), type := 3, pos := "law.go:70", after := #[{ on := 4, ground := .guard }], guard := some (4, true) }) (v := ?_) rfl (by kernel_rfl) (by kernel_rfl) (by kernel_rfl) (fun _ _ _ h => h) (Or.inl ⟨by rfl, ?_⟩) (by assumption) ?_
        rotate_left
        · intro _ _; go_simp; first | done | with_reducible rfl
        simp only [Act.put, List.setIfInBounds_toArray, List.set_cons_zero, List.set_cons_succ]
        refine wpAnyH_take (i := 11) (oi := { dst := some 43, op := .indexAddr 22 (.tmp 41) (.tmp 42), type := 0, pos := "law.go:70", after := #[{ on := 9, ground := .data }, { on := 10, ground := .data }, { on := 4, ground := .guard }], guard := some (4, true) }) (v := ?_) rfl (by kernel_rfl) (by kernel_rfl) (by kernel_rfl) (fun _ _ _ h => h) (Or.inl ⟨by rfl, ?_⟩) (by assumption) ?_
        rotate_left
        · intro _ _; go_simp; first | done | with_reducible rfl
        simp only [Act.put, List.setIfInBounds_toArray, List.set_cons_zero, List.set_cons_succ]
        refine wpAnyH_take (i := 12) (oi := { dst := some 44, op := .load 26 (.tmp 43), type := 26, pos := "law.go:70", after := #[{ on := 11, ground := .data }, { on := 4, ground := .guard }], guard := some (4, true) }) (v := _) rfl (by kernel_rfl) (by kernel_rfl) (by kernel_rfl) (fun _ _ _ h => h) (yieldsIf_load_mid (by rfl) _ _ rfl (b) (o + k * 33) rfl (x.cs) _ (fun _ h => h.1) (u26) rfl (ix)) (by assumption) ?_
        simp only [Act.put, List.setIfInBounds_toArray, List.set_cons_zero, List.set_cons_succ]
        refine wpAnyH_take (i := 13) (oi := { dst := some 45, op := .binOp Go.BinOp.eql 26 (.tmp 40) (.tmp 44) 26, type := 4, pos := "law.go:70", after := #[{ on := 8, ground := .data }, { on := 12, ground := .data }, { on := 4, ground := .guard }], guard := some (4, true) }) (v := .bool true) rfl (by kernel_rfl) (by kernel_rfl) (by kernel_rfl) (fun _ _ _ h => h) (Or.inl ⟨by rfl, ?_⟩) (by assumption) ?_
        · intro _ _; go_simp
        simp only [Act.put, List.setIfInBounds_toArray, List.set_cons_zero, List.set_cons_succ]
        refine wpAnyH_take (i := 14) (oi := { dst := some 46, op := .pick (.tmp 36) (.tmp 45) (.const (.bool false)), type := 4, pos := "law.go:70", after := #[{ on := 4, ground := .data }, { on := 13, ground := .data }], guard := none }) (v := ?_) rfl (by kernel_rfl) (by kernel_rfl) (by kernel_rfl) (fun _ _ _ h => h) (Or.inl ⟨by rfl, ?_⟩) (by assumption) ?_
        rotate_left
        · intro _ _; go_simp; first | done | with_reducible rfl
        simp only [Act.put, List.setIfInBounds_toArray, List.set_cons_zero, List.set_cons_succ]
        refine wpAnyH_take (i := 15) (oi := { dst := some 47, op := .move (.tmp 46), type := 4, pos := "law.go:70", after := #[{ on := 14, ground := .data }, { on := 4, ground := .chain }], guard := none }) (v := ?_) rfl (by kernel_rfl) (by kernel_rfl) (by kernel_rfl) (fun _ _ _ h => h) (Or.inl ⟨by rfl, ?_⟩) (by assumption) ?_
        rotate_left
        · intro _ _; go_simp; first | done | with_reducible rfl
        simp only [Act.put, List.setIfInBounds_toArray, List.set_cons_zero, List.set_cons_succ]
        refine wpAnyH_take (i := 16) (oi := { dst := some 48, op := .move (.tmp 1), type := 22, pos := "law.go:70", after := #[{ on := 15, ground := .guard }], guard := some (15, true) }) (v := ?_) rfl (by kernel_rfl) (by kernel_rfl) (by kernel_rfl) (fun _ _ _ h => h) (Or.inl ⟨by rfl, ?_⟩) (by assumption) ?_
        rotate_left
        · intro _ _; go_simp; first | done | with_reducible rfl
        simp only [Act.put, List.setIfInBounds_toArray, List.set_cons_zero, List.set_cons_succ]
        refine wpAnyH_take (i := 17) (oi := { dst := some 49, op := .move (.tmp 0), type := 22, pos := "law.go:70", after := #[{ on := 15, ground := .guard }], guard := some (15, true) }) (v := ?_) rfl (by kernel_rfl) (by kernel_rfl) (by kernel_rfl) (fun _ _ _ h => h) (Or.inl ⟨by rfl, ?_⟩) (by assumption) ?_
        rotate_left
        · intro _ _; go_simp; first | done | with_reducible rfl
        simp only [Act.put, List.setIfInBounds_toArray, List.set_cons_zero, List.set_cons_succ]
        refine wpAnyH_take (i := 18) (oi := { dst := some 50, op := .move (.tmp 9), type := 3, pos := "law.go:70", after := #[{ on := 15, ground := .guard }], guard := some (15, true) }) (v := ?_) rfl (by kernel_rfl) (by kernel_rfl) (by kernel_rfl) (fun _ _ _ h => h) (Or.inl ⟨by rfl, ?_⟩) (by assumption) ?_
        rotate_left
        · intro _ _; go_simp; first | done | with_reducible rfl
        simp only [Act.put, List.setIfInBounds_toArray, List.set_cons_zero, List.set_cons_succ]
        refine wpAnyH_take (i := 19) (oi := { dst := some 51, op := .indexAddr 22 (.tmp 49) (.tmp 50), type := 0, pos := "law.go:70", after := #[{ on := 17, ground := .data }, { on := 18, ground := .data }, { on := 15, ground := .guard }], guard := some (15, true) }) (v := ?_) rfl (by kernel_rfl) (by kernel_rfl) (by kernel_rfl) (fun _ _ _ h => h) (Or.inl ⟨by rfl, ?_⟩) (by assumption) ?_
        rotate_left
        · intro _ _; go_simp; first | done | with_reducible rfl
        simp only [Act.put, List.setIfInBounds_toArray, List.set_cons_zero, List.set_cons_succ]
        refine wpAnyH_take (i := 20) (oi := { dst := some 52, op := .load 26 (.tmp 51), type := 26, pos := "law.go:70", after := #[{ on := 19, ground := .data }, { on := 15, ground := .guard }], guard := some (15, true) }) (v := _) rfl (by kernel_rfl) (by kernel_rfl) (by kernel_rfl) (fun _ _ _ h => h) (yieldsIf_load_mid (by rfl) _ _ rfl (b) (o + k * 33) rfl (x.cs) _ (fun _ h => h.1) (u26) rfl (ix)) (by assumption) ?_
        simp only [Act.put, List.setIfInBounds_toArray, List.set_cons_zero, List.set_cons_succ]
        refine wpAnyH_ready (rs := [21]) (by kernel_rfl) (by simp) ?_
        refine AllReadyH.cons (o := { dst := some 53, op := .call { callee := .value (.func 16), args := #[.tmp 48, .tmp 52], argTypes := #[22, 26] }, type := 4, pos := "law.go:70", after := #[{ on := 16, ground := .data }, { on := 20, ground := .data }, { on := 15, ground := .chain }, { on := 15, ground := .guard }], guard := some (15, true) }) rfl (fun K hK => ?_) AllReadyH.nil
        go_simp
        refine (has_any _ m cap2 r x _ ((HA.out _ HBK.out).2.2.1.below (Below.refl _ _).drew) (by omega)).mono ?_; rw [HD.out]; rintro e w4 ⟨rfl, hb4⟩; have h4 : Below wr.heap.size wr w4 := undrewn hb4
        go_simp
        refine hK.out _ _ (HSK.out _ h4) (fun hHeld => ?_)
        clear hK K
        refine wpAnyH_take (i := 22) (oi := { dst := some 54, op := .pick (.tmp 47) (.tmp 53) (.const (.bool false)), type := 4, pos := "law.go:70", after := #[{ on := 15, ground := .data }, { on := 21, ground := .data }], guard := none }) (v := ?_) rfl (by kernel_rfl) (by kernel_rfl) (by kernel_rfl) (fun _ _ _ h => h) (Or.inl ⟨by rfl, ?_⟩) (by assumption) ?_
        rotate_left
        · intro _ _; go_simp; first | done | with_reducible rfl
        simp only [Act.put, List.setIfInBounds_toArray, List.set_cons_zero, List.set_cons_succ]
        refine wpAnyH_take (i := 23) (oi := { dst := some 31, op := .assign (.tmp 54), type := 4, pos := "law.go:70", after := #[{ on := 22, ground := .data }, { on := 21, ground := .chain }], guard := none }) (v := ?_) rfl (by kernel_rfl) (by kernel_rfl) (by kernel_rfl) (fun _ _ _ h => h) (Or.inl ⟨by rfl, ?_⟩) (by assumption) ?_
        rotate_left
        · intro _ _; go_simp; first | done | with_reducible rfl
        simp only [Act.put, List.setIfInBounds_toArray, List.set_cons_zero, List.set_cons_succ]
        refine wpAnyH_done (by kernel_rfl) ?_ _
        refine NoPanic.normal ?_
        have HB4 : Hid (Below w2.heap.size w2 w4) := HBK.out.trans (h4.mono hwr)
        clear hHeld q1 q2 q3 u26 ix HSK hb4 h4 f0 f1
        go_wp2_with fail
        go_roundw
        case rel => exact ⟨i + 1, j, k + 1, by omega, by go_num, rfl, by go_num, by omega, by omega, ⟨by rw [HF.out, List.length_append, ← HIJ.out.1]; rfl, by rw [HG.out, ← HIJ.out.2]⟩, HB4.out⟩
        case measure => simp [intOf]; omega
      · have hat := filter_at l (fun x => !decide (x ∈ r)) k hkl (by rw [← hx]; simp [hmem])
        rw [← HIJ.out.2, ← HBL.out.2, HBB.out.2, ← hx] at hat
        obtain ⟨hjn, hzj⟩ := hat
        have HZ : Hid (rl.getD j default = x) := hzj
        have HD : Hid (decide (x ∈ r) = false) := decide_eq_false hmem
        have HF : Hid ((l.take (k + 1)).filter (fun x => decide (x ∈ r)) = (l.take k).filter (fun x => decide (x ∈ r))) := by show _ = _; rw [hF]; simp [hmem]
        have HG : Hid ((l.take (k + 1)).filter (fun x => !decide (x ∈ r)) = (l.take k).filter (fun x => !decide (x ∈ r)) ++ [x]) := by show _ = _; rw [hG]; simp [hmem]
        have HNM : Hid (¬ x ∈ r) := hmem
        clear hF hG hx hmem hzj
        by_cases hin : i < nb
        · obtain ⟨bx, ox, rfl, hcx⟩ := (HA.out _ HBK.out).2.2.2.1.at i hin
          obtain ⟨y, hy⟩ : ∃ y, y = bl.getD i default := ⟨_, rfl⟩
          rw [← hy] at hcx
          have hyx : decide (y = x) = false := by
            refine decide_eq_false fun e => HNM.out ?_
            have hm := getD_mem (l := bl) (k := i) (by rw [HBB.out.1]; exact hin)
            rw [← hy, e, HBL.out.1] at hm
            simpa using (List.mem_filter.1 hm).2
          have HSK : Hid (∀ w', Below wr.heap.size wr w' → w'.rangeAt b (o + k * 33) x.cs ∧ w'.rangeAt bx (ox + i * 33) y.cs) := fun w' hw' => ⟨rangeAt_below HCA.out hw' (Nat.le_refl _), rangeAt_below hcx hw' (Nat.le_refl _)⟩
          have u26 := HU.out
          have ix := size_pt x
          have iy := size_pt y
          have q1 : ∀ w', (binOp .eql 26 (.agg y.cs.toArray) (.agg x.cs.toArray)).run Tryd.prog w' = .ok (.bool false) w' := fun w' => by rw [eql_pt, hyx]
          have q2 : ∀ (op : BinOp) (u v : Operand) w', (eqGuard op 26 u v (.agg y.cs.toArray) (.agg x.cs.toArray)).run Tryd.prog w' = .ok () w' := fun op u v => guard_pt op u v y x
          have q3 : ∀ w', (Op.equalIn 10000 26 (.agg y.cs.toArray) (.agg x.cs.toArray)).run Tryd.prog w' = .ok false w' := fun w' => by rw [equalIn_pt, hyx]
          have f0 : (0 : Int) ≤ (i : Int) := by omega
          have f1 : (i : Int) < (nb : Int) := by omega
          clear hcx hy hyx
          go_wp2_with fail
          refine wp_region_noPanic ?_
          refine wp_region_held_drew (S := fun w' => w'.rangeAt b (o + k * 33) x.cs ∧ w'.rangeAt bx (ox + i * 33) y.cs) HMO.out (HSK.out _ (Below.refl _ _).drew) (fun hHeld => ?_)
          refine wpAnyH_take (i := 0) (oi := { dst := some 32, op := .move (.tmp 7), type := 3, pos := "law.go:70", after := #[], guard := none }) (v := ?_) rfl (by kernel_rfl) (by kernel_rfl) (by kernel_rfl) (fun _ _ _ h => h) (Or.inl ⟨by rfl, ?_⟩) (by assumption) ?_
          rotate_left
          · intro _ _; go_simp; first | done | with_reducible rfl
          simp only [Act.put, List.setIfInBounds_toArray, List.set_cons_zero, List.set_cons_succ]
          refine wpAnyH_take (i := 1) (oi := { dst := some 33, op := .move (.tmp 5), type := 22, pos := "law.go:70", after := #[], guard := none }) (v := ?_) rfl (by kernel_rfl) (by kernel_rfl) (by kernel_rfl) (fun _ _ _ h => h) (Or.inl ⟨by rfl, ?_⟩) (by assumption) ?_
          rotate_left
          · intro _ _; go_simp; first | done | with_reducible rfl
          simp only [Act.put, List.setIfInBounds_toArray, List.set_cons_zero, List.set_cons_succ]
          refine wpAnyH_take (i := 2) (oi := { dst := some 34, op := .call { callee := .builtin Go.Builtin.len, args := #[.tmp 33], argTypes := #[22] }, type := 3, pos := "law.go:70", after := #[{ on := 1, ground := .data }], guard := none }) (v := ?_) rfl (by kernel_rfl) (by kernel_rfl) (by kernel_rfl) (fun _ _ _ h => h) (Or.inl ⟨by rfl, ?_⟩) (by assumption) ?_
          rotate_left
          · intro _ _; go_simp; first | done | with_reducible rfl
          simp only [Act.put, List.setIfInBounds_toArray, List.set_cons_zero, List.set_cons_succ]
          refine wpAnyH_take (i := 3) (oi := { dst := some 35, op := .binOp Go.BinOp.lss 3 (.tmp 32) (.tmp 34) 3, type := 4, pos := "law.go:70", after := #[{ on := 0, ground := .data }, { on := 2, ground := .data }], guard := none }) (v := .bool true) rfl (by kernel_rfl) (by kernel_rfl) (by kernel_rfl) (fun _ _ _ h => h) (Or.inl ⟨by rfl, ?_⟩) (by assumption) ?_
          · intro _ _; go_simp
          simp only [Act.put, List.setIfInBounds_toArray, List.set_cons_zero, List.set_cons_succ]
          refine wpAnyH_take (i := 4) (oi := { dst := some 36, op := .move (.tmp 35), type := 4, pos := "law.go:70", after := #[{ on := 3, ground := .data }], guard := none }) (v := ?_) rfl (by kernel_rfl) (by kernel_rfl) (by kernel_rfl) (fun _ _ _ h => h) (Or.inl ⟨by rfl, ?_⟩) (by assumption) ?_
          rotate_left
          · intro _ _; go_simp; first | done | with_reducible rfl
          simp only [Act.put, List.setIfInBounds_toArray, List.set_cons_zero, List.set_cons_succ]
          refine wpAnyH_take (i := 5) (oi := { dst := some 37, op := .move (.tmp 5), type := 22, pos := "law.go:70", after := #[{ on := 4, ground := .guard }], guard := some (4, true) }) (v := ?_) rfl (by kernel_rfl) (by kernel_rfl) (by kernel_rfl) (fun _ _ _ h => h) (Or.inl ⟨by rfl, ?_⟩) (by assumption) ?_
          rotate_left
          · intro _ _; go_simp; first | done | with_reducible rfl
          simp only [Act.put, List.setIfInBounds_toArray, List.set_cons_zero, List.set_cons_succ]
          refine wpAnyH_take (i := 6) (oi := { dst := some 38, op := .move (.tmp 7), type := 3, pos := "law.go:70", after := #[{ on := 4, ground := .guard }], guard := some (4, true) }) (v := ?_) rfl (by kernel_rfl) (by kernel_rfl) (by kernel_rfl) (fun _ _ _ h => h) (Or.inl ⟨by rfl, ?_⟩) (by assumption) ?_
          rotate_left
          · intro _ _; go_simp; first | done | with_reducible rfl
          simp only [Act.put, List.setIfInBounds_toArray, List.set_cons_zero, List.set_cons_succ]
          refine wpAnyH_take (i := 7) (oi := { dst := some 39, op := .indexAddr 22 (.tmp 37) (.tmp 38), type := 0, pos := "law.go:70", after := #[{ on := 5, ground := .data }, { on := 6, ground := .data }, { on := 4, ground := .guard }], guard := some (4, true) }) (v := ?_) rfl (by kernel_rfl) (by kernel_rfl) (by kernel_rfl) (fun _ _ _ h => h) (Or.inl ⟨by rfl, ?_⟩) (by assumption) ?_
          rotate_left
          · intro _ _; go_simp; first | done | with_reducible rfl
          simp only [Act.put, List.setIfInBounds_toArray, List.set_cons_zero, List.set_cons_succ]
          refine wpAnyH_take (i := 8) (oi := { dst := some 40, op := .load 26 (.tmp 39), type := 26, pos := "law.go:70", after := #[{ on := 7, ground := .data }, { on := 4, ground := .guard }], guard := some (4, true) }) (v := _) rfl (by kernel_rfl) (by kernel_rfl) (by kernel_rfl) (fun _ _ _ h => h) (yieldsIf_load_mid (by rfl) _ _ rfl (bx) (ox + i * 33) rfl (y.cs) _ (fun _ h => h.2) (u26) rfl (iy)) (by assumption) ?_
          simp only [Act.put, List.setIfInBounds_toArray, List.set_cons_zero, List.set_cons_succ]
          refine wpAnyH_take (i := 9) (oi := { dst := some 41, op := .move (.tmp 0), type := 22, pos := "law.go:70", after := #[{ on := 4, ground := .guard }], guard := some (4, true) }) (v := ?_) rfl (by kernel_rfl) (by kernel_rfl) (by kernel_rfl) (fun _ _ _ h => h) (Or.inl ⟨by rfl, ?_⟩) (by assumption) ?_
          rotate_left
          · intro _ _; go_simp; first | done | with_reducible rfl
          simp only [Act.put, List.setIfInBounds_toArray, List.set_cons_zero, List.set_cons_succ]
          refine wpAnyH_take (i := 10) (oi := { dst := some 42, op := .move (.tmp 9), type := 3, pos := "law.go:70", after := #[{ on := 4, ground := .guard }], guard := some (4, true) }) (v := ?_) rfl (by kernel_rfl) (by kernel_rfl) (by kernel_rfl) (fun _ _ _ h => h) (Or.inl ⟨by rfl, ?_⟩) (by assumption) ?_
          rotate_left
          · intro _ _; go_simp; first | done | with_reducible rfl
          simp only [Act.put, List.setIfInBounds_toArray, List.set_cons_zero, List.set_cons_succ]
          refine wpAnyH_take (i := 11) (oi := { dst := some 43, op := .indexAddr 22 (.tmp 41) (.tmp 42), type := 0, pos := "law.go:70", after := #[{ on := 9, ground := .data }, { on := 10, ground := .data }, { on := 4, ground := .guard }], guard := some (4, true) }) (v := ?_) rfl (by kernel_rfl) (by kernel_rfl) (by kernel_rfl) (fun _ _ _ h => h) (Or.inl ⟨by rfl, ?_⟩) (by assumption) ?_
          rotate_left
          · intro _ _; go_simp; first | done | with_reducible rfl
          simp only [Act.put, List.setIfInBounds_toArray, List.set_cons_zero, List.set_cons_succ]
          refine wpAnyH_take (i := 12) (oi := { dst := some 44, op := .load 26 (.tmp 43), type := 26, pos := "law.go:70", after := #[{ on := 11, ground := .data }, { on := 4, ground := .guard }], guard := some (4, true) }) (v := _) rfl (by kernel_rfl) (by kernel_rfl) (by kernel_rfl) (fun _ _ _ h => h) (yieldsIf_load_mid (by rfl) _ _ rfl (b) (o + k * 33) rfl (x.cs) _ (fun _ h => h.1) (u26) rfl (ix)) (by assumption) ?_
          simp only [Act.put, List.setIfInBounds_toArray, List.set_cons_zero, List.set_cons_succ]
          refine wpAnyH_take (i := 13) (oi := { dst := some 45, op := .binOp Go.BinOp.eql 26 (.tmp 40) (.tmp 44) 26, type := 4, pos := "law.go:70", after := #[{ on := 8, ground := .data }, { on := 12, ground := .data }, { on := 4, ground := .guard }], guard := some (4, true) }) (v := .bool false) rfl (by kernel_rfl) (by kernel_rfl) (by kernel_rfl) (fun _ _ _ h => h) (Or.inl ⟨by rfl, ?_⟩) (by assumption) ?_
          · intro _ _; go_simp
          simp only [Act.put, List.setIfInBounds_toArray, List.set_cons_zero, List.set_cons_succ]
          refine wpAnyH_take (i := 14) (oi := { dst := some 46, op := .pick (.tmp 36) (.tmp 45) (.const (.bool false)), type := 4, pos := "law.go:70", after := #[{ on := 4, ground := .data }, { on := 13, ground := .data }], guard := none }) (v := ?_) rfl (by kernel_rfl) (by kernel_rfl) (by kernel_rfl) (fun _ _ _ h => h) (Or.inl ⟨by rfl, ?_⟩) (by assumption) ?_
          rotate_left
          · intro _ _; go_simp; first | done | with_reducible rfl
          simp only [Act.put, List.setIfInBounds_toArray, List.set_cons_zero, List.set_cons_succ]
          refine wpAnyH_take (i := 15) (oi := { dst := some 47, op := .move (.tmp 46), type := 4, pos := "law.go:70", after := #[{ on := 14, ground := .data }, { on := 4, ground := .chain }], guard := none }) (v := ?_) rfl (by kernel_rfl) (by kernel_rfl) (by kernel_rfl) (fun _ _ _ h => h) (Or.inl ⟨by rfl, ?_⟩) (by assumption) ?_
          rotate_left
          · intro _ _; go_simp; first | done | with_reducible rfl
          simp only [Act.put, List.setIfInBounds_toArray, List.set_cons_zero, List.set_cons_succ]
          refine wpAnyH_take (i := 16) (oi := { dst := some 48, op := .move (.tmp 1), type := 22, pos := "law.go:70", after := #[{ on := 15, ground := .guard }], guard := some (15, true) }) (v := undef) rfl (by kernel_rfl) (by kernel_rfl) (by kernel_rfl) (fun _ _ _ h => h) (Or.inr ⟨by rfl, rfl⟩) (by assumption) ?_
          simp only [Act.put, List.setIfInBounds_toArray, List.set_cons_zero, List.set_cons_succ]
          refine wpAnyH_take (i := 17) (oi := { dst := some 49, op := .move (.tmp 0), type := 22, pos := "law.go:70", after := #[{ on := 15, ground := .guard }], guard := some (15, true) }) (v := undef) rfl (by kernel_rfl) (by kernel_rfl) (by kernel_rfl) (fun _ _ _ h => h) (Or.inr ⟨by rfl, rfl⟩) (by assumption) ?_
          simp only [Act.put, List.setIfInBounds_toArray, List.set_cons_zero, List.set_cons_succ]
          refine wpAnyH_take (i := 18) (oi := { dst := some 50, op := .move (.tmp 9), type := 3, pos := "law.go:70", after := #[{ on := 15, ground := .guard }], guard := some (15, true) }) (v := undef) rfl (by kernel_rfl) (by kernel_rfl) (by kernel_rfl) (fun _ _ _ h => h) (Or.inr ⟨by rfl, rfl⟩) (by assumption) ?_
          simp only [Act.put, List.setIfInBounds_toArray, List.set_cons_zero, List.set_cons_succ]
          refine wpAnyH_take (i := 19) (oi := { dst := some 51, op := .indexAddr 22 (.tmp 49) (.tmp 50), type := 0, pos := "law.go:70", after := #[{ on := 17, ground := .data }, { on := 18, ground := .data }, { on := 15, ground := .guard }], guard := some (15, true) }) (v := undef) rfl (by kernel_rfl) (by kernel_rfl) (by kernel_rfl) (fun _ _ _ h => h) (Or.inr ⟨by rfl, rfl⟩) (by assumption) ?_
          simp only [Act.put, List.setIfInBounds_toArray, List.set_cons_zero, List.set_cons_succ]
          refine wpAnyH_take (i := 20) (oi := { dst := some 52, op := .load 26 (.tmp 51), type := 26, pos := "law.go:70", after := #[{ on := 19, ground := .data }, { on := 15, ground := .guard }], guard := some (15, true) }) (v := undef) rfl (by kernel_rfl) (by kernel_rfl) (by kernel_rfl) (fun _ _ _ h => h) (Or.inr ⟨by rfl, rfl⟩) (by assumption) ?_
          simp only [Act.put, List.setIfInBounds_toArray, List.set_cons_zero, List.set_cons_succ]
          refine wpAnyH_take (i := 21) (oi := { dst := some 53, op := .call { callee := .value (.func 16), args := #[.tmp 48, .tmp 52], argTypes := #[22, 26] }, type := 4, pos := "law.go:70", after := #[{ on := 16, ground := .data }, { on := 20, ground := .data }, { on := 15, ground := .chain }, { on := 15, ground := .guard }], guard := some (15, true) }) (v := undef) rfl (by kernel_rfl) (by kernel_rfl) (by kernel_rfl) (fun _ _ _ h => h) (Or.inr ⟨by rfl, rfl⟩) (by assumption) ?_
          simp only [Act.put, List.setIfInBounds_toArray, List.set_cons_zero, List.set_cons_succ]
          refine wpAnyH_take (i := 22) (oi := { dst := some 54, op := .pick (.tmp 47) (.tmp 53) (.const (.bool false)), type := 4, pos := "law.go:70", after := #[{ on := 15, ground := .data }, { on := 21, ground := .data }], guard := none }) (v := ?_) rfl (by kernel_rfl) (by kernel_rfl) (by kernel_rfl) (fun _ _ _ h => h) (Or.inl ⟨by rfl, ?_⟩) (by assumption) ?_
          rotate_left
          · intro _ _; go_simp; first | done | with_reducible rfl
          simp only [Act.put, List.setIfInBounds_toArray, List.set_cons_zero, List.set_cons_succ]
          refine wpAnyH_take (i := 23) (oi := { dst := some 31, op := .assign (.tmp 54), type := 4, pos := "law.go:70", after := #[{ on := 22, ground := .data }, { on := 21, ground := .chain }], guard := none }) (v := ?_) rfl (by kernel_rfl) (by kernel_rfl) (by kernel_rfl) (fun _ _ _ h => h) (Or.inl ⟨by rfl, ?_⟩) (by assumption) ?_
          rotate_left
          · intro _ _; go_simp; first | done | with_reducible rfl
          simp only [Act.put, List.setIfInBounds_toArray, List.set_cons_zero, List.set_cons_succ]
          refine wpAnyH_done (by kernel_rfl) ?_ _
          refine NoPanic.normal ?_
          clear hHeld q1 q2 q3 u26 ix iy HSK f0 f1
          obtain ⟨w4, hw4e⟩ : ∃ w4, w4 = wr.drew := ⟨_, rfl⟩
          rw [← hw4e]
          have h04 : Below wr.heap.size wr w4 := by rw [hw4e]; exact (Below.refl _ _).drew
          have hw4 : wr.heap.size ≤ w4.heap.size := h04.size
          have hw4' : w2.heap.size ≤ w4.heap.size := by omega
          have h4 : Below w2.heap.size w2 w4 := HBK.out.trans (h04.mono hwr)
          clear hw4e
          obtain ⟨by_, oy, rfl, hcz⟩ := (HA.out _ h4).2.2.2.2.at j hjn
          rw [HZ.out] at hcz
          have HSK2 : Hid (∀ w', Below w4.heap.size w4 w' → w'.rangeAt b (o + k * 33) x.cs ∧ w'.rangeAt by_ (oy + j * 33) x.cs) := fun w' hw' => ⟨rangeAt_below HCA.out (h04.trans (hw'.mono hw4)) (Nat.le_refl _), rangeAt_below hcz hw' (Nat.le_refl _)⟩
          have u26 := HU.out
          have ix := size_pt x
          have q1 : ∀ w', (binOp .eql 26 (.agg x.cs.toArray) (.agg x.cs.toArray)).run Tryd.prog w' = .ok (.bool true) w' := fun w' => by rw [eql_pt]; simp
          have q2 : ∀ (op : BinOp) (u v : Operand) w', (eqGuard op 26 u v (.agg x.cs.toArray) (.agg x.cs.toArray)).run Tryd.prog w' = .ok () w' := fun op u v => guard_pt op u v x x
          have q3 : ∀ w', (Op.equalIn 10000 26 (.agg x.cs.toArray) (.agg x.cs.toArray)).run Tryd.prog w' = .ok true w' := fun w' => by rw [equalIn_pt]; simp
          have f0 : (0 : Int) ≤ (j : Int) := by omega
          have f1 : (j : Int) < (nr : Int) := by omega
          clear hcz
          go_wp2_with fail
          refine wp_region_noPanic ?_
          refine wp_region_held_drew (S := fun w' => w'.rangeAt b (o + k * 33) x.cs ∧ w'.rangeAt by_ (oy + j * 33) x.cs) HMO.out (HSK2.out _ (Below.refl _ _).drew) (fun hHeld => ?_)
          refine wpAnyH_take (i := 0) (oi := { dst := some 58, op := .move (.tmp 8), type := 3, pos := "law.go:72", after := #[], guard := none }) (v := ?_) rfl (by kernel_rfl) (by kernel_rfl) (by kernel_rfl) (fun _ _ _ h => h) (Or.inl ⟨by rfl, ?_⟩) (by assumption) ?_
          rotate_left
          · intro _ _; go_simp; first | done | with_reducible rfl
          simp only [Act.put, List.setIfInBounds_toArray, List.set_cons_zero, List.set_cons_succ]
          refine wpAnyH_take (i := 1) (oi := { dst := some 59, op := .move (.tmp 6), type := 22, pos := "law.go:72", after := #[], guard := none }) (v := ?_) rfl (by kernel_rfl) (by kernel_rfl) (by kernel_rfl) (fun _ _ _ h => h) (Or.inl ⟨by rfl, ?_⟩) (by assumption) ?_
          rotate_left
          · intro _ _; go_simp; first | done | with_reducible rfl
          simp only [Act.put, List.setIfInBounds_toArray, List.set_cons_zero, List.set_cons_succ]
          refine wpAnyH_take (i := 2) (oi := { dst := some 60, op := .call { callee := .builtin Go.Builtin.len, args := #[.tmp 59], argTypes := #[22] }, type := 3, pos := "law.go:72", after := #[{ on := 1, ground := .data }], guard := none }) (v := ?_) rfl (by kernel_rfl) (by kernel_rfl) (by kernel_rfl) (fun _ _ _ h => h) (Or.inl ⟨by rfl, ?_⟩) (by assumption) ?_
          rotate_left
          · intro _ _; go_simp; first | done | with_reducible rfl
          simp only [Act.put, List.setIfInBounds_toArray, List.set_cons_zero, List.set_cons_succ]
          refine wpAnyH_take (i := 3) (oi := { dst := some 61, op := .binOp Go.BinOp.lss 3 (.tmp 58) (.tmp 60) 3, type := 4, pos := "law.go:72", after := #[{ on := 0, ground := .data }, { on := 2, ground := .data }], guard := none }) (v := .bool true) rfl (by kernel_rfl) (by kernel_rfl) (by kernel_rfl) (fun _ _ _ h => h) (Or.inl ⟨by rfl, ?_⟩) (by assumption) ?_
          · intro _ _; go_simp
          simp only [Act.put, List.setIfInBounds_toArray, List.set_cons_zero, List.set_cons_succ]
          refine wpAnyH_take (i := 4) (oi := { dst := some 62, op := .move (.tmp 61), type := 4, pos := "law.go:72", after := #[{ on := 3, ground := .data }], guard := none }) (v := ?_) rfl (by kernel_rfl) (by kernel_rfl) (by kernel_rfl) (fun _ _ _ h => h) (Or.inl ⟨by rfl, ?_⟩) (by assumption) ?_
          rotate_left
          · intro _ _; go_simp; first | done | with_reducible rfl
          simp only [Act.put, List.setIfInBounds_toArray, List.set_cons_zero, List.set_cons_succ]
          refine wpAnyH_take (i := 5) (oi := { dst := some 63, op := .move (.tmp 6), type := 22, pos := "law.go:72", after := #[{ on := 4, ground := .guard }], guard := some (4, true) }) (v := ?_) rfl (by kernel_rfl) (by kernel_rfl) (by kernel_rfl) (fun _ _ _ h => h) (Or.inl ⟨by rfl, ?_⟩) (by assumption) ?_
          rotate_left
          · intro _ _; go_simp; first | done | with_reducible rfl
          simp only [Act.put, List.setIfInBounds_toArray, List.set_cons_zero, List.set_cons_succ]
          refine wpAnyH_take (i := 6) (oi := { dst := some 64, op := .move (.tmp 8), type := 3, pos := "law.go:72", after := #[{ on := 4, ground := .guard }], guard := some (4, true) }) (v := ?_) rfl (by kernel_rfl) (by kernel_rfl) (by kernel_rfl) (fun _ _ _ h => h) (Or.inl ⟨by rfl, ?_⟩) (by assumption) ?_
          rotate_left
          · intro _ _; go_simp; first | done | with_reducible rfl
          simp only [Act.put, List.setIfInBounds_toArray, List.set_cons_zero, List.set_cons_succ]
          refine wpAnyH_take (i := 7) (oi := { dst := some 65, op := .indexAddr 22 (.tmp 63) (.tmp 64), type := 0, pos := "law.go:72", after := #[{ on := 5, ground := .data }, { on := 6, ground := .data }, { on := 4, ground := .guard }], guard := some (4, true) }) (v := ?_) rfl (by kernel_rfl) (by kernel_rfl) (by kernel_rfl) (fun _ _ _ h => h) (Or.inl ⟨by rfl, ?_⟩) (by assumption) ?_
          rotate_left
          · intro _ _; go_simp; first | done | with_reducible rfl
          simp only [Act.put, List.setIfInBounds_toArray, List.set_cons_zero, List.set_cons_succ]
          refine wpAnyH_take (i := 8) (oi := { dst := some 66, op := .load 26 (.tmp 65), type := 26, pos := "law.go:72", after := #[{ on := 7, ground := .data }, { on := 4, ground := .guard }], guard := some (4, true) }) (v := _) rfl (by kernel_rfl) (by kernel_rfl) (by kernel_rfl) (fun _ _ _ h => h) (yieldsIf_load_mid (by rfl) _ _ rfl (by_) (oy + j * 33) rfl (x.cs) _ (fun _ h => h.2) (u26) rfl (ix)) (by assumption) ?_
          simp only [Act.put, List.setIfInBounds_toArray, List.set_cons_zero, List.set_cons_succ]
          refine wpAnyH_take (i := 9) (oi := { dst := some 67, op := .move (.tmp 0), type := 22, pos := "law.go:72", after := #[{ on := 4, ground := .guard }], guard := some (4, true) }) (v := ?_) rfl (by kernel_rfl) (by kernel_rfl) (by kernel_rfl) (fun _ _ _ h => h) (Or.inl ⟨by rfl, ?_⟩) (by assumption) ?_
          rotate_left
          · intro _ _; go_simp; first | done | with_reducible rfl
          simp only [Act.put, List.setIfInBounds_toArray, List.set_cons_zero, List.set_cons_succ]
          refine wpAnyH_take (i := 10) (oi := { dst := some 68, op := .move (.tmp 9), type := 3, pos := "law.go:72", after := #[{ on := 4, ground := .guard }], guard := some (4, true) }) (v := ?_) rfl (by kernel_rfl) (by kernel_rfl) (by kernel_rfl) (fun _ _ _ h => h) (Or.inl ⟨by rfl, ?_⟩) (by assumption) ?_
          rotate_left
          · intro _ _; go_simp; first | done | with_reducible rfl
          simp only [Act.put, List.setIfInBounds_toArray, List.set_cons_zero, List.set_cons_succ]
          refine wpAnyH_take (i := 11) (oi := { dst := some 69, op := .indexAddr 22 (.tmp 67) (.tmp 68), type := 0, pos := "law.go:72", after := #[{ on := 9, ground := .data }, { on := 10, ground := .data }, { on := 4, ground := .guard }], guard := some (4, true) }) (v := ?_) rfl (by kernel_rfl) (by kernel_rfl) (by kernel_rfl) (fun _ _ _ h => h) (Or.inl ⟨by rfl, ?_⟩) (by assumption) ?_
          rotate_left
          · intro _ _; go_simp; first | done | with_reducible rfl
          simp only [Act.put, List.setIfInBounds_toArray, List.set_cons_zero, List.set_cons_succ]
          refine wpAnyH_take (i := 12) (oi := { dst := some 70, op := .load 26 (.tmp 69), type := 26, pos := "law.go:72", after := #[{ on := 11, ground := .data }, { on := 4, ground := .guard }], guard := some (4, true) }) (v := _) rfl (by kernel_rfl) (by kernel_rfl) (by kernel_rfl) (fun _ _ _ h => h) (yieldsIf_load_mid (by rfl) _ _ rfl (b) (o + k * 33) rfl (x.cs) _ (fun _ h => h.1) (u26) rfl (ix)) (by assumption) ?_
          simp only [Act.put, List.setIfInBounds_toArray, List.set_cons_zero, List.set_cons_succ]
          refine wpAnyH_take (i := 13) (oi := { dst := some 71, op := .binOp Go.BinOp.eql 26 (.tmp 66) (.tmp 70) 26, type := 4, pos := "law.go:72", after := #[{ on := 8, ground := .data }, { on := 12, ground := .data }, { on := 4, ground := .guard }], guard := some (4, true) }) (v := .bool true) rfl (by kernel_rfl) (by kernel_rfl) (by kernel_rfl) (fun _ _ _ h => h) (Or.inl ⟨by rfl, ?_⟩) (by assumption) ?_
          · intro _ _; go_simp
          simp only [Act.put, List.setIfInBounds_toArray, List.set_cons_zero, List.set_cons_succ]
          refine wpAnyH_take (i := 14) (oi := { dst := some 72, op := .pick (.tmp 62) (.tmp 71) (.const (.bool false)), type := 4, pos := "law.go:72", after := #[{ on := 4, ground := .data }, { on := 13, ground := .data }], guard := none }) (v := ?_) rfl (by kernel_rfl) (by kernel_rfl) (by kernel_rfl) (fun _ _ _ h => h) (Or.inl ⟨by rfl, ?_⟩) (by assumption) ?_
          rotate_left
          · intro _ _; go_simp; first | done | with_reducible rfl
          simp only [Act.put, List.setIfInBounds_toArray, List.set_cons_zero, List.set_cons_succ]
          refine wpAnyH_take (i := 15) (oi := { dst := some 73, op := .move (.tmp 72), type := 4, pos := "law.go:72", after := #[{ on := 14, ground := .data }, { on := 4, ground := .chain }], guard := none }) (v := ?_) rfl (by kernel_rfl) (by kernel_rfl) (by kernel_rfl) (fun _ _ _ h => h) (Or.inl ⟨by rfl, ?_⟩) (by assumption) ?_
          rotate_left
          · intro _ _; go_simp; first | done | with_reducible rfl
          simp only [Act.put, List.setIfInBounds_toArray, List.set_cons_zero, List.set_cons_succ]
          refine wpAnyH_take (i := 16) (oi := { dst := some 74, op := .move (.tmp 1), type := 22, pos := "law.go:72", after := #[{ on := 15, ground := .guard }], guard := some (15, true) }) (v := ?_) rfl (by kernel_rfl) (by kernel_rfl) (by kernel_rfl) (fun _ _ _ h => h) (Or.inl ⟨by rfl, ?_⟩) (by assumption) ?_
          rotate_left
          · intro _ _; go_simp; first | done | with_reducible rfl
          simp only [Act.put, List.setIfInBounds_toArray, List.set_cons_zero, List.set_cons_succ]
          refine wpAnyH_take (i := 17) (oi := { dst := some 75, op := .move (.tmp 0), type := 22, pos := "law.go:72", after := #[{ on := 15, ground := .guard }], guard := some (15, true) }) (v := ?_) rfl (by kernel_rfl) (by kernel_rfl) (by kernel_rfl) (fun _ _ _ h => h) (Or.inl ⟨by rfl, ?_⟩) (by assumption) ?_
          rotate_left
          · intro _ _; go_simp; first | done | with_reducible rfl
          simp only [Act.put, List.setIfInBounds_toArray, List.set_cons_zero, List.set_cons_succ]
          refine wpAnyH_take (i := 18) (oi := { dst := some 76, op := .move (.tmp 9), type := 3, pos := "law.go:72", after := #[{ on := 15, ground := .guard }], guard := some (15, true) }) (v := ?_) rfl (by kernel_rfl) (by kernel_rfl) (by kernel_rfl) (fun _ _ _ h => h) (Or.inl ⟨by rfl, ?_⟩) (by assumption) ?_
          rotate_left
          · intro _ _; go_simp; first | done | with_reducible rfl
          simp only [Act.put, List.setIfInBounds_toArray, List.set_cons_zero, List.set_cons_succ]
          refine wpAnyH_take (i := 19) (oi := { dst := some 77, op := .indexAddr 22 (.tmp 75) (.tmp 76), type := 0, pos := "law.go:72", after := #[{ on := 17, ground := .data }, { on := 18, ground := .data }, { on := 15, ground := .guard }], guard := some (15, true) }) (v := ?_) rfl (by kernel_rfl) (by kernel_rfl) (by kernel_rfl) (fun _ _ _ h => h) (Or.inl ⟨by rfl, ?_⟩) (by assumption) ?_
          rotate_left
          · intro _ _; go_simp; first | done | with_reducible rfl
          simp only [Act.put, List.setIfInBounds_toArray, List.set_cons_zero, List.set_cons_succ]
          refine wpAnyH_take (i := 20) (oi := { dst := some 78, op := .load 26 (.tmp 77), type := 26, pos := "law.go:72", after := #[{ on := 19, ground := .data }, { on := 15, ground := .guard }], guard := some (15, true) }) (v := _) rfl (by kernel_rfl) (by kernel_rfl) (by kernel_rfl) (fun _ _ _ h => h) (yieldsIf_load_mid (by rfl) _ _ rfl (b) (o + k * 33) rfl (x.cs) _ (fun _ h => h.1) (u26) rfl (ix)) (by assumption) ?_
          simp only [Act.put, List.setIfInBounds_toArray, List.set_cons_zero, List.set_cons_succ]
          refine wpAnyH_ready (rs := [21]) (by kernel_rfl) (by simp) ?_
          refine AllReadyH.cons (o := { dst := some 79, op := .call { callee := .value (.func 16), args := #[.tmp 74, .tmp 78], argTypes := #[22, 26] }, type := 4, pos := "law.go:72", after := #[{ on := 16, ground := .data }, { on := 20, ground := .data }, { on := 15, ground := .chain }, { on := 15, ground := .guard }], guard := some (15, true) }) rfl (fun K hK => ?_) AllReadyH.nil
          go_simp
          refine (has_any _ m cap2 r x _ ((HA.out _ h4).2.2.1.below (Below.refl _ _).drew) (by omega)).mono ?_; rw [HD.out]; rintro e w5 ⟨rfl, hb5⟩; have h5 : Below w4.heap.size w4 w5 := undrewn hb5
          go_simp
          refine hK.out _ _ (HSK2.out _ h5) (fun hHeld => ?_)
          clear hK K
          refine wpAnyH_take (i := 22) (oi := { dst := some 80, op := .unOp Go.UnOp.not 4 (.tmp 79), type := 4, pos := "law.go:72", after := #[{ on := 21, ground := .data }, { on := 15, ground := .guard }], guard := some (15, true) }) (v := ?_) rfl (by kernel_rfl) (by kernel_rfl) (by kernel_rfl) (fun _ _ _ h => h) (Or.inl ⟨by rfl, ?_⟩) (by assumption) ?_
          rotate_left
          · intro _ _; go_simp; first | done | with_reducible rfl
          simp only [Act.put, List.setIfInBounds_toArray, List.set_cons_zero, List.set_cons_succ]
          refine wpAnyH_take (i := 23) (oi := { dst := some 81, op := .pick (.tmp 73) (.tmp 80) (.const (.bool false)), type := 4, pos := "law.go:72", after := #[{ on := 15, ground := .data }, { on := 22, ground := .data }], guard := none }) (v := ?_) rfl (by kernel_rfl) (by kernel_rfl) (by kernel_rfl) (fun _ _ _ h => h) (Or.inl ⟨by rfl, ?_⟩) (by assumption) ?_
          rotate_left
          · intro _ _; go_simp; first | done | with_reducible rfl
          simp only [Act.put, List.setIfInBounds_toArray, List.set_cons_zero, List.set_cons_succ]
          refine wpAnyH_take (i := 24) (oi := { dst := some 57, op := .assign (.tmp 81), type := 4, pos := "law.go:72", after := #[{ on := 23, ground := .data }, { on := 21, ground := .chain }], guard := none }) (v := ?_) rfl (by kernel_rfl) (by kernel_rfl) (by kernel_rfl) (fun _ _ _ h => h) (Or.inl ⟨by rfl, ?_⟩) (by assumption) ?_
          rotate_left
          · intro _ _; go_simp; first | done | with_reducible rfl
          simp only [Act.put, List.setIfInBounds_toArray, List.set_cons_zero, List.set_cons_succ]
          refine wpAnyH_done (by kernel_rfl) ?_ _
          refine NoPanic.normal ?_
          have HB5 : Hid (Below w2.heap.size w2 w5) := h4.trans (h5.mono hw4')
          clear hHeld q1 q2 q3 u26 ix HSK2 hb5 h5 f0 f1
          go_wp2_with fail
          go_roundw
          case rel => exact ⟨i, j + 1, k + 1, by omega, rfl, by go_num, by go_num, by omega, by omega, ⟨by rw [HF.out, ← HIJ.out.1], by rw [HG.out, List.length_append, ← HIJ.out.2]; rfl⟩, HB5.out⟩
          case measure => simp [intOf]; omega
        · have f9 : ¬ (i : Int) < (nb : Int) := by omega
          go_wp2_with fail
          refine wp_region_noPanic ?_
          refine wp_region_held_drew (S := fun _ => True) HMO.out (trivial) (fun hHeld => ?_)
          refine wpAnyH_take (i := 0) (oi := { dst := some 32, op := .move (.tmp 7), type := 3, pos := "law.go:70", after := #[], guard := none }) (v := ?_) rfl (by kernel_rfl) (by kernel_rfl) (by kernel_rfl) (fun _ _ _ h => h) (Or.inl ⟨by rfl, ?_⟩) (by assumption) ?_
          rotate_left
          · intro _ _; go_simp; first | done | with_reducible rfl
          simp only [Act.put, List.setIfInBounds_toArray, List.set_cons_zero, List.set_cons_succ]
          refine wpAnyH_take (i := 1) (oi := { dst := some 33, op := .move (.tmp 5), type := 22, pos := "law.go:70", after := #[], guard := none }) (v := ?_) rfl (by kernel_rfl) (by kernel_rfl) (by kernel_rfl) (fun _ _ _ h => h) (Or.inl ⟨by rfl, ?_⟩) (by assumption) ?_
          rotate_left
          · intro _ _; go_simp; first | done | with_reducible rfl
          simp only [Act.put, List.setIfInBounds_toArray, List.set_cons_zero, List.set_cons_succ]
          refine wpAnyH_take (i := 2) (oi := { dst := some 34, op := .call { callee := .builtin Go.Builtin.len, args := #[.tmp 33], argTypes := #[22] }, type := 3, pos := "law.go:70", after := #[{ on := 1, ground := .data }], guard := none }) (v := ?_) rfl (by kernel_rfl) (by kernel_rfl) (by kernel_rfl) (fun _ _ _ h => h) (Or.inl ⟨by rfl, ?_⟩) (by assumption) ?_
          rotate_left
          · intro _ _; go_simp; first | done | with_reducible rfl
          simp only [Act.put, List.setIfInBounds_toArray, List.set_cons_zero, List.set_cons_succ]
          refine wpAnyH_take (i := 3) (oi := { dst := some 35, op := .binOp Go.BinOp.lss 3 (.tmp 32) (.tmp 34) 3, type := 4, pos := "law.go:70", after := #[{ on := 0, ground := .data }, { on := 2, ground := .data }], guard := none }) (v := .bool false) rfl (by kernel_rfl) (by kernel_rfl) (by kernel_rfl) (fun _ _ _ h => h) (Or.inl ⟨by rfl, ?_⟩) (by assumption) ?_
          · intro _ _; go_simp
          simp only [Act.put, List.setIfInBounds_toArray, List.set_cons_zero, List.set_cons_succ]
          refine wpAnyH_take (i := 4) (oi := { dst := some 36, op := .move (.tmp 35), type := 4, pos := "law.go:70", after := #[{ on := 3, ground := .data }], guard := none }) (v := ?_) rfl (by kernel_rfl) (by kernel_rfl) (by kernel_rfl) (fun _ _ _ h => h) (Or.inl ⟨by rfl, ?_⟩) (by assumption) ?_
          rotate_left
          · intro _ _; go_simp; first | done | with_reducible rfl
          simp only [Act.put, List.setIfInBounds_toArray, List.set_cons_zero, List.set_cons_succ]
          refine wpAnyH_take (i := 5) (oi := { dst := some 37, op := .move (.tmp 5), type := 22, pos := "law.go:70", after := #[{ on := 4, ground := .guard }], guard := some (4, true) }) (v := undef) rfl (by kernel_rfl) (by kernel_rfl) (by kernel_rfl) (fun _ _ _ h => h) (Or.inr ⟨by rfl, rfl⟩) (by assumption) ?_
          simp only [Act.put, List.setIfInBounds_toArray, List.set_cons_zero, List.set_cons_succ]
          refine wpAnyH_take (i := 6) (oi := { dst := some 38, op := .move (.tmp 7), type := 3, pos := "law.go:70", after := #[{ on := 4, ground := .guard }], guard := some (4, true) }) (v := undef) rfl (by kernel_rfl) (by kernel_rfl) (by kernel_rfl) (fun _ _ _ h => h) (Or.inr ⟨by rfl, rfl⟩) (by assumption) ?_
          simp only [Act.put, List.setIfInBounds_toArray, List.set_cons_zero, List.set_cons_succ]
          refine wpAnyH_take (i := 7) (oi := { dst := some 39, op := .indexAddr 22 (.tmp 37) (.tmp 38), type := 0, pos := "law.go:70", after := #[{ on := 5, ground := .data }, { on := 6, ground := .data }, { on := 4, ground := .guard }], guard := some (4, true) }) (v := undef) rfl (by kernel_rfl) (by kernel_rfl) (by kernel_rfl) (fun _ _ _ h => h) (Or.inr ⟨by rfl, rfl⟩) (by assumption) ?_
          simp only [Act.put, List.setIfInBounds_toArray, List.set_cons_zero, List.set_cons_succ]
          refine wpAnyH_take (i := 8) (oi := { dst := some 40, op := .load 26 (.tmp 39), type := 26, pos := "law.go:70", after := #[{ on := 7, ground := .data }, { on := 4, ground := .guard }], guard := some (4, true) }) (v := undef) rfl (by kernel_rfl) (by kernel_rfl) (by kernel_rfl) (fun _ _ _ h => h) (Or.inr ⟨by rfl, rfl⟩) (by assumption) ?_
          simp only [Act.put, List.setIfInBounds_toArray, List.set_cons_zero, List.set_cons_succ]
          refine wpAnyH_take (i := 9) (oi := { dst := some 41, op := .move (.tmp 0), type := 22, pos := "law.go:70", after := #[{ on := 4, ground := .guard }], guard := some (4, true) }) (v := undef) rfl (by kernel_rfl) (by kernel_rfl) (by kernel_rfl) (fun _ _ _ h => h) (Or.inr ⟨by rfl, rfl⟩) (by assumption) ?_
          simp only [Act.put, List.setIfInBounds_toArray, List.set_cons_zero, List.set_cons_succ]
          refine wpAnyH_take (i := 10) (oi := { dst := some 42, op := .move (.tmp 9), type := 3, pos := "law.go:70", after := #[{ on := 4, ground := .guard }], guard := some (4, true) }) (v := undef) rfl (by kernel_rfl) (by kernel_rfl) (by kernel_rfl) (fun _ _ _ h => h) (Or.inr ⟨by rfl, rfl⟩) (by assumption) ?_
          simp only [Act.put, List.setIfInBounds_toArray, List.set_cons_zero, List.set_cons_succ]
          refine wpAnyH_take (i := 11) (oi := { dst := some 43, op := .indexAddr 22 (.tmp 41) (.tmp 42), type := 0, pos := "law.go:70", after := #[{ on := 9, ground := .data }, { on := 10, ground := .data }, { on := 4, ground := .guard }], guard := some (4, true) }) (v := undef) rfl (by kernel_rfl) (by kernel_rfl) (by kernel_rfl) (fun _ _ _ h => h) (Or.inr ⟨by rfl, rfl⟩) (by assumption) ?_
          simp only [Act.put, List.setIfInBounds_toArray, List.set_cons_zero, List.set_cons_succ]
          refine wpAnyH_take (i := 12) (oi := { dst := some 44, op := .load 26 (.tmp 43), type := 26, pos := "law.go:70", after := #[{ on := 11, ground := .data }, { on := 4, ground := .guard }], guard := some (4, true) }) (v := undef) rfl (by kernel_rfl) (by kernel_rfl) (by kernel_rfl) (fun _ _ _ h => h) (Or.inr ⟨by rfl, rfl⟩) (by assumption) ?_
          simp only [Act.put, List.setIfInBounds_toArray, List.set_cons_zero, List.set_cons_succ]
          refine wpAnyH_take (i := 13) (oi := { dst := some 45, op := .binOp Go.BinOp.eql 26 (.tmp 40) (.tmp 44) 26, type := 4, pos := "law.go:70", after := #[{ on := 8, ground := .data }, { on := 12, ground := .data }, { on := 4, ground := .guard }], guard := some (4, true) }) (v := undef) rfl (by kernel_rfl) (by kernel_rfl) (by kernel_rfl) (fun _ _ _ h => h) (Or.inr ⟨by rfl, rfl⟩) (by assumption) ?_
          simp only [Act.put, List.setIfInBounds_toArray, List.set_cons_zero, List.set_cons_succ]
          refine wpAnyH_take (i := 14) (oi := { dst := some 46, op := .pick (.tmp 36) (.tmp 45) (.const (.bool false)), type := 4, pos := "law.go:70", after := #[{ on := 4, ground := .data }, { on := 13, ground := .data }], guard := none }) (v := ?_) rfl (by kernel_rfl) (by kernel_rfl) (by kernel_rfl) (fun _ _ _ h => h) (Or.inl ⟨by rfl, ?_⟩) (by assumption) ?_
          rotate_left
          · intro _ _; go_simp; first | done | with_reducible rfl
          simp only [Act.put, List.setIfInBounds_toArray, List.set_cons_zero, List.set_cons_succ]
          refine wpAnyH_take (i := 15) (oi := { dst := some 47, op := .move (.tmp 46), type := 4, pos := "law.go:70", after := #[{ on := 14, ground := .data }, { on := 4, ground := .chain }], guard := none }) (v := ?_) rfl (by kernel_rfl) (by kernel_rfl) (by kernel_rfl) (fun _ _ _ h => h) (Or.inl ⟨by rfl, ?_⟩) (by assumption) ?_
          rotate_left
          · intro _ _; go_simp; first | done | with_reducible rfl
          simp only [Act.put, List.setIfInBounds_toArray, List.set_cons_zero, List.set_cons_succ]
          refine wpAnyH_take (i := 16) (oi := { dst := some 48, op := .move (.tmp 1), type := 22, pos := "law.go:70", after := #[{ on := 15, ground := .guard }], guard := some (15, true) }) (v := undef) rfl (by kernel_rfl) (by kernel_rfl) (by kernel_rfl) (fun _ _ _ h => h) (Or.inr ⟨by rfl, rfl⟩) (by assumption) ?_
          simp only [Act.put, List.setIfInBounds_toArray, List.set_cons_zero, List.set_cons_succ]
          refine wpAnyH_take (i := 17) (oi := { dst := some 49, op := .move (.tmp 0), type := 22, pos := "law.go:70", after := #[{ on := 15, ground := .guard }], guard := some (15, true) }) (v := undef) rfl (by kernel_rfl) (by kernel_rfl) (by kernel_rfl) (fun _ _ _ h => h) (Or.inr ⟨by rfl, rfl⟩) (by assumption) ?_
          simp only [Act.put, List.setIfInBounds_toArray, List.set_cons_zero, List.set_cons_succ]
          refine wpAnyH_take (i := 18) (oi := { dst := some 50, op := .move (.tmp 9), type := 3, pos := "law.go:70", after := #[{ on := 15, ground := .guard }], guard := some (15, true) }) (v := undef) rfl (by kernel_rfl) (by kernel_rfl) (by kernel_rfl) (fun _ _ _ h => h) (Or.inr ⟨by rfl, rfl⟩) (by assumption) ?_
          simp only [Act.put, List.setIfInBounds_toArray, List.set_cons_zero, List.set_cons_succ]
          refine wpAnyH_take (i := 19) (oi := { dst := some 51, op := .indexAddr 22 (.tmp 49) (.tmp 50), type := 0, pos := "law.go:70", after := #[{ on := 17, ground := .data }, { on := 18, ground := .data }, { on := 15, ground := .guard }], guard := some (15, true) }) (v := undef) rfl (by kernel_rfl) (by kernel_rfl) (by kernel_rfl) (fun _ _ _ h => h) (Or.inr ⟨by rfl, rfl⟩) (by assumption) ?_
          simp only [Act.put, List.setIfInBounds_toArray, List.set_cons_zero, List.set_cons_succ]
          refine wpAnyH_take (i := 20) (oi := { dst := some 52, op := .load 26 (.tmp 51), type := 26, pos := "law.go:70", after := #[{ on := 19, ground := .data }, { on := 15, ground := .guard }], guard := some (15, true) }) (v := undef) rfl (by kernel_rfl) (by kernel_rfl) (by kernel_rfl) (fun _ _ _ h => h) (Or.inr ⟨by rfl, rfl⟩) (by assumption) ?_
          simp only [Act.put, List.setIfInBounds_toArray, List.set_cons_zero, List.set_cons_succ]
          refine wpAnyH_take (i := 21) (oi := { dst := some 53, op := .call { callee := .value (.func 16), args := #[.tmp 48, .tmp 52], argTypes := #[22, 26] }, type := 4, pos := "law.go:70", after := #[{ on := 16, ground := .data }, { on := 20, ground := .data }, { on := 15, ground := .chain }, { on := 15, ground := .guard }], guard := some (15, true) }) (v := undef) rfl (by kernel_rfl) (by kernel_rfl) (by kernel_rfl) (fun _ _ _ h => h) (Or.inr ⟨by rfl, rfl⟩) (by assumption) ?_
          simp only [Act.put, List.setIfInBounds_toArray, List.set_cons_zero, List.set_cons_succ]
          refine wpAnyH_take (i := 22) (oi := { dst := some 54, op := .pick (.tmp 47) (.tmp 53) (.const (.bool false)), type := 4, pos := "law.go:70", after := #[{ on := 15, ground := .data }, { on := 21, ground := .data }], guard := none }) (v := ?_) rfl (by kernel_rfl) (by kernel_rfl) (by kernel_rfl) (fun _ _ _ h => h) (Or.inl ⟨by rfl, ?_⟩) (by assumption) ?_
          rotate_left
          · intro _ _; go_simp; first | done | with_reducible rfl
          simp only [Act.put, List.setIfInBounds_toArray, List.set_cons_zero, List.set_cons_succ]
          refine wpAnyH_take (i := 23) (oi := { dst := some 31, op := .assign (.tmp 54), type := 4, pos := "law.go:70", after := #[{ on := 22, ground := .data }, { on := 21, ground := .chain }], guard := none }) (v := ?_) rfl (by kernel_rfl) (by kernel_rfl) (by kernel_rfl) (fun _ _ _ h => h) (Or.inl ⟨by rfl, ?_⟩) (by assumption) ?_
          rotate_left
          · intro _ _; go_simp; first | done | with_reducible rfl
          simp only [Act.put, List.setIfInBounds_toArray, List.set_cons_zero, List.set_cons_succ]
          refine wpAnyH_done (by kernel_rfl) ?_ _
          refine NoPanic.normal ?_
          clear hHeld f9
          obtain ⟨w4, hw4e⟩ : ∃ w4, w4 = wr.drew := ⟨_, rfl⟩
          rw [← hw4e]
          have h04 : Below wr.heap.size wr w4 := by rw [hw4e]; exact (Below.refl _ _).drew
          have hw4 : wr.heap.size ≤ w4.heap.size := h04.size
          have hw4' : w2.heap.size ≤ w4.heap.size := by omega
          have h4 : Below w2.heap.size w2 w4 := HBK.out.trans (h04.mono hwr)
          clear hw4e
          obtain ⟨by_, oy, rfl, hcz⟩ := (HA.out _ h4).2.2.2.2.at j hjn
          rw [HZ.out] at hcz
          have HSK2 : Hid (∀ w', Below w4.heap.size w4 w' → w'.rangeAt b (o + k * 33) x.cs ∧ w'.rangeAt by_ (oy + j * 33) x.cs) := fun w' hw' => ⟨rangeAt_below HCA.out (h04.trans (hw'.mono hw4)) (Nat.le_refl _), rangeAt_below hcz hw' (Nat.le_refl _)⟩
          have u26 := HU.out
          have ix := size_pt x
          have q1 : ∀ w', (binOp .eql 26 (.agg x.cs.toArray) (.agg x.cs.toArray)).run Tryd.prog w' = .ok (.bool true) w' := fun w' => by rw [eql_pt]; simp
          have q2 : ∀ (op : BinOp) (u v : Operand) w', (eqGuard op 26 u v (.agg x.cs.toArray) (.agg x.cs.toArray)).run Tryd.prog w' = .ok () w' := fun op u v => guard_pt op u v x x
          have q3 : ∀ w', (Op.equalIn 10000 26 (.agg x.cs.toArray) (.agg x.cs.toArray)).run Tryd.prog w' = .ok true w' := fun w' => by rw [equalIn_pt]; simp
          have f0 : (0 : Int) ≤ (j : Int) := by omega
          have f1 : (j : Int) < (nr : Int) := by omega
          clear hcz
          go_wp2_with fail
          refine wp_region_noPanic ?_
          refine wp_region_held_drew (S := fun w' => w'.rangeAt b (o + k * 33) x.cs ∧ w'.rangeAt by_ (oy + j * 33) x.cs) HMO.out (HSK2.out _ (Below.refl _ _).drew) (fun hHeld => ?_)
          refine wpAnyH_take (i := 0) (oi := { dst := some 58, op := .move (.tmp 8), type := 3, pos := "law.go:72", after := #[], guard := none }) (v := ?_) rfl (by kernel_rfl) (by kernel_rfl) (by kernel_rfl) (fun _ _ _ h => h) (Or.inl ⟨by rfl, ?_⟩) (by assumption) ?_
          rotate_left
          · intro _ _; go_simp; first | done | with_reducible rfl
          simp only [Act.put, List.setIfInBounds_toArray, List.set_cons_zero, List.set_cons_succ]
          refine wpAnyH_take (i := 1) (oi := { dst := some 59, op := .move (.tmp 6), type := 22, pos := "law.go:72", after := #[], guard := none }) (v := ?_) rfl (by kernel_rfl) (by kernel_rfl) (by kernel_rfl) (fun _ _ _ h => h) (Or.inl ⟨by rfl, ?_⟩) (by assumption) ?_
          rotate_left
          · intro _ _; go_simp; first | done | with_reducible rfl
          simp only [Act.put, List.setIfInBounds_toArray, List.set_cons_zero, List.set_cons_succ]
          refine wpAnyH_take (i := 2) (oi := { dst := some 60, op := .call { callee := .builtin Go.Builtin.len, args := #[.tmp 59], argTypes := #[22] }, type := 3, pos := "law.go:72", after := #[{ on := 1, ground := .data }], guard := none }) (v := ?_) rfl (by kernel_rfl) (by kernel_rfl) (by kernel_rfl) (fun _ _ _ h => h) (Or.inl ⟨by rfl, ?_⟩) (by assumption) ?_
          rotate_left
          · intro _ _; go_simp; first | done | with_reducible rfl
          simp only [Act.put, List.setIfInBounds_toArray, List.set_cons_zero, List.set_cons_succ]
          refine wpAnyH_take (i := 3) (oi := { dst := some 61, op := .binOp Go.BinOp.lss 3 (.tmp 58) (.tmp 60) 3, type := 4, pos := "law.go:72", after := #[{ on := 0, ground := .data }, { on := 2, ground := .data }], guard := none }) (v := .bool true) rfl (by kernel_rfl) (by kernel_rfl) (by kernel_rfl) (fun _ _ _ h => h) (Or.inl ⟨by rfl, ?_⟩) (by assumption) ?_
          · intro _ _; go_simp
          simp only [Act.put, List.setIfInBounds_toArray, List.set_cons_zero, List.set_cons_succ]
          refine wpAnyH_take (i := 4) (oi := { dst := some 62, op := .move (.tmp 61), type := 4, pos := "law.go:72", after := #[{ on := 3, ground := .data }], guard := none }) (v := ?_) rfl (by kernel_rfl) (by kernel_rfl) (by kernel_rfl) (fun _ _ _ h => h) (Or.inl ⟨by rfl, ?_⟩) (by assumption) ?_
          rotate_left
          · intro _ _; go_simp; first | done | with_reducible rfl
          simp only [Act.put, List.setIfInBounds_toArray, List.set_cons_zero, List.set_cons_succ]
          refine wpAnyH_take (i := 5) (oi := { dst := some 63, op := .move (.tmp 6), type := 22, pos := "law.go:72", after := #[{ on := 4, ground := .guard }], guard := some (4, true) }) (v := ?_) rfl (by kernel_rfl) (by kernel_rfl) (by kernel_rfl) (fun _ _ _ h => h) (Or.inl ⟨by rfl, ?_⟩) (by assumption) ?_
          rotate_left
          · intro _ _; go_simp; first | done | with_reducible rfl
          simp only [Act.put, List.setIfInBounds_toArray, List.set_cons_zero, List.set_cons_succ]
          refine wpAnyH_take (i := 6) (oi := { dst := some 64, op := .move (.tmp 8), type := 3, pos := "law.go:72", after := #[{ on := 4, ground := .guard }], guard := some (4, true) }) (v := ?_) rfl (by kernel_rfl) (by kernel_rfl) (by kernel_rfl) (fun _ _ _ h => h) (Or.inl ⟨by rfl, ?_⟩) (by assumption) ?_
          rotate_left
          · intro _ _; go_simp; first | done | with_reducible rfl
          simp only [Act.put, List.setIfInBounds_toArray, List.set_cons_zero, List.set_cons_succ]
          refine wpAnyH_take (i := 7) (oi := { dst := some 65, op := .indexAddr 22 (.tmp 63) (.tmp 64), type := 0, pos := "law.go:72", after := #[{ on := 5, ground := .data }, { on := 6, ground := .data }, { on := 4, ground := .guard }], guard := some (4, true) }) (v := ?_) rfl (by kernel_rfl) (by kernel_rfl) (by kernel_rfl) (fun _ _ _ h => h) (Or.inl ⟨by rfl, ?_⟩) (by assumption) ?_
          rotate_left
          · intro _ _; go_simp; first | done | with_reducible rfl
          simp only [Act.put, List.setIfInBounds_toArray, List.set_cons_zero, List.set_cons_succ]
          refine wpAnyH_take (i := 8) (oi := { dst := some 66, op := .load 26 (.tmp 65), type := 26, pos := "law.go:72", after := #[{ on := 7, ground := .data }, { on := 4, ground := .guard }], guard := some (4, true) }) (v := _) rfl (by kernel_rfl) (by kernel_rfl) (by kernel_rfl) (fun _ _ _ h => h) (yieldsIf_load_mid (by rfl) _ _ rfl (by_) (oy + j * 33) rfl (x.cs) _ (fun _ h => h.2) (u26) rfl (ix)) (by assumption) ?_
          simp only [Act.put, List.setIfInBounds_toArray, List.set_cons_zero, List.set_cons_succ]
          refine wpAnyH_take (i := 9) (oi := { dst := some 67, op := .move (.tmp 0), type := 22, pos := "law.go:72", after := #[{ on := 4, ground := .guard }], guard := some (4, true) }) (v := ?_) rfl (by kernel_rfl) (by kernel_rfl) (by kernel_rfl) (fun _ _ _ h => h) (Or.inl ⟨by rfl, ?_⟩) (by assumption) ?_
          rotate_left
          · intro _ _; go_simp; first | done | with_reducible rfl
          simp only [Act.put, List.setIfInBounds_toArray, List.set_cons_zero, List.set_cons_succ]
          refine wpAnyH_take (i := 10) (oi := { dst := some 68, op := .move (.tmp 9), type := 3, pos := "law.go:72", after := #[{ on := 4, ground := .guard }], guard := some (4, true) }) (v := ?_) rfl (by kernel_rfl) (by kernel_rfl) (by kernel_rfl) (fun _ _ _ h => h) (Or.inl ⟨by rfl, ?_⟩) (by assumption) ?_
          rotate_left
          · intro _ _; go_simp; first | done | with_reducible rfl
          simp only [Act.put, List.setIfInBounds_toArray, List.set_cons_zero, List.set_cons_succ]
          refine wpAnyH_take (i := 11) (oi := { dst := some 69, op := .indexAddr 22 (.tmp 67) (.tmp 68), type := 0, pos := "law.go:72", after := #[{ on := 9, ground := .data }, { on := 10, ground := .data }, { on := 4, ground := .guard }], guard := some (4, true) }) (v := ?_) rfl (by kernel_rfl) (by kernel_rfl) (by kernel_rfl) (fun _ _ _ h => h) (Or.inl ⟨by rfl, ?_⟩) (by assumption) ?_
          rotate_left
          · intro _ _; go_simp; first | done | with_reducible rfl
          simp only [Act.put, List.setIfInBounds_toArray, List.set_cons_zero, List.set_cons_succ]
          refine wpAnyH_take (i := 12) (oi := { dst := some 70, op := .load 26 (.tmp 69), type := 26, pos := "law.go:72", after := #[{ on := 11, ground := .data }, { on := 4, ground := .guard }], guard := some (4, true) }) (v := _) rfl (by kernel_rfl) (by kernel_rfl) (by kernel_rfl) (fun _ _ _ h => h) (yieldsIf_load_mid (by rfl) _ _ rfl (b) (o + k * 33) rfl (x.cs) _ (fun _ h => h.1) (u26) rfl (ix)) (by assumption) ?_
          simp only [Act.put, List.setIfInBounds_toArray, List.set_cons_zero, List.set_cons_succ]
          refine wpAnyH_take (i := 13) (oi := { dst := some 71, op := .binOp Go.BinOp.eql 26 (.tmp 66) (.tmp 70) 26, type := 4, pos := "law.go:72", after := #[{ on := 8, ground := .data }, { on := 12, ground := .data }, { on := 4, ground := .guard }], guard := some (4, true) }) (v := .bool true) rfl (by kernel_rfl) (by kernel_rfl) (by kernel_rfl) (fun _ _ _ h => h) (Or.inl ⟨by rfl, ?_⟩) (by assumption) ?_
          · intro _ _; go_simp
          simp only [Act.put, List.setIfInBounds_toArray, List.set_cons_zero, List.set_cons_succ]
          refine wpAnyH_take (i := 14) (oi := { dst := some 72, op := .pick (.tmp 62) (.tmp 71) (.const (.bool false)), type := 4, pos := "law.go:72", after := #[{ on := 4, ground := .data }, { on := 13, ground := .data }], guard := none }) (v := ?_) rfl (by kernel_rfl) (by kernel_rfl) (by kernel_rfl) (fun _ _ _ h => h) (Or.inl ⟨by rfl, ?_⟩) (by assumption) ?_
          rotate_left
          · intro _ _; go_simp; first | done | with_reducible rfl
          simp only [Act.put, List.setIfInBounds_toArray, List.set_cons_zero, List.set_cons_succ]
          refine wpAnyH_take (i := 15) (oi := { dst := some 73, op := .move (.tmp 72), type := 4, pos := "law.go:72", after := #[{ on := 14, ground := .data }, { on := 4, ground := .chain }], guard := none }) (v := ?_) rfl (by kernel_rfl) (by kernel_rfl) (by kernel_rfl) (fun _ _ _ h => h) (Or.inl ⟨by rfl, ?_⟩) (by assumption) ?_
          rotate_left
          · intro _ _; go_simp; first | done | with_reducible rfl
          simp only [Act.put, List.setIfInBounds_toArray, List.set_cons_zero, List.set_cons_succ]
          refine wpAnyH_take (i := 16) (oi := { dst := some 74, op := .move (.tmp 1), type := 22, pos := "law.go:72", after := #[{ on := 15, ground := .guard }], guard := some (15, true) }) (v := ?_) rfl (by kernel_rfl) (by kernel_rfl) (by kernel_rfl) (fun _ _ _ h => h) (Or.inl ⟨by rfl, ?_⟩) (by assumption) ?_
          rotate_left
          · intro _ _; go_simp; first | done | with_reducible rfl
          simp only [Act.put, List.setIfInBounds_toArray, List.set_cons_zero, List.set_cons_succ]
          refine wpAnyH_take (i := 17) (oi := { dst := some 75, op := .move (.tmp 0), type := 22, pos := "law.go:72", after := #[{ on := 15, ground := .guard }], guard := some (15, true) }) (v := ?_) rfl (by kernel_rfl) (by kernel_rfl) (by kernel_rfl) (fun _ _ _ h => h) (Or.inl ⟨by rfl, ?_⟩) (by assumption) ?_
          rotate_left
          · intro _ _; go_simp; first | done | with_reducible rfl
          simp only [Act.put, List.setIfInBounds_toArray, List.set_cons_zero, List.set_cons_succ]
          refine wpAnyH_take (i := 18) (oi := { dst := some 76, op := .move (.tmp 9), type := 3, pos := "law.go:72", after := #[{ on := 15, ground := .guard }], guard := some (15, true) }) (v := ?_) rfl (by kernel_rfl) (by kernel_rfl) (by kernel_rfl) (fun _ _ _ h => h) (Or.inl ⟨by rfl, ?_⟩) (by assumption) ?_
          rotate_left
          · intro _ _; go_simp; first | done | with_reducible rfl
          simp only [Act.put, List.setIfInBounds_toArray, List.set_cons_zero, List.set_cons_succ]
          refine wpAnyH_take (i := 19) (oi := { dst := some 77, op := .indexAddr 22 (.tmp 75) (.tmp 76), type := 0, pos := "law.go:72", after := #[{ on := 17, ground := .data }, { on := 18, ground := .data }, { on := 15, ground := .guard }], guard := some (15, true) }) (v := ?_) rfl (by kernel_rfl) (by kernel_rfl) (by kernel_rfl) (fun _ _ _ h => h) (Or.inl ⟨by rfl, ?_⟩) (by assumption) ?_
          rotate_left
          · intro _ _; go_simp; first | done | with_reducible rfl
          simp only [Act.put, List.setIfInBounds_toArray, List.set_cons_zero, List.set_cons_succ]
          refine wpAnyH_take (i := 20) (oi := { dst := some 78, op := .load 26 (.tmp 77), type := 26, pos := "law.go:72", after := #[{ on := 19, ground := .data }, { on := 15, ground := .guard }], guard := some (15, true) }) (v := _) rfl (by kernel_rfl) (by kernel_rfl) (by kernel_rfl) (fun _ _ _ h => h) (yieldsIf_load_mid (by rfl) _ _ rfl (b) (o + k * 33) rfl (x.cs) _ (fun _ h => h.1) (u26) rfl (ix)) (by assumption) ?_
          simp only [Act.put, List.setIfInBounds_toArray, List.set_cons_zero, List.set_cons_succ]
          refine wpAnyH_ready (rs := [21]) (by kernel_rfl) (by simp) ?_
          refine AllReadyH.cons (o := { dst := some 79, op := .call { callee := .value (.func 16), args := #[.tmp 74, .tmp 78], argTypes := #[22, 26] }, type := 4, pos := "law.go:72", after := #[{ on := 16, ground := .data }, { on := 20, ground := .data }, { on := 15, ground := .chain }, { on := 15, ground := .guard }], guard := some (15, true) }) rfl (fun K hK => ?_) AllReadyH.nil
          go_simp
          refine (has_any _ m cap2 r x _ ((HA.out _ h4).2.2.1.below (Below.refl _ _).drew) (by omega)).mono ?_; rw [HD.out]; rintro e w5 ⟨rfl, hb5⟩; have h5 : Below w4.heap.size w4 w5 := undrewn hb5
          go_simp
          refine hK.out _ _ (HSK2.out _ h5) (fun hHeld => ?_)
          clear hK K
          refine wpAnyH_take (i := 22) (oi := { dst := some 80, op := .unOp Go.UnOp.not 4 (.tmp 79), type := 4, pos := "law.go:72", after := #[{ on := 21, ground := .data }, { on := 15, ground := .guard }], guard := some (15, true) }) (v := ?_) rfl (by kernel_rfl) (by kernel_rfl) (by kernel_rfl) (fun _ _ _ h => h) (Or.inl ⟨by rfl, ?_⟩) (by assumption) ?_
          rotate_left
          · intro _ _; go_simp; first | done | with_reducible rfl
          simp only [Act.put, List.setIfInBounds_toArray, List.set_cons_zero, List.set_cons_succ]
          refine wpAnyH_take (i := 23) (oi := { dst := some 81, op := .pick (.tmp 73) (.tmp 80) (.const (.bool false)), type := 4, pos := "law.go:72", after := #[{ on := 15, ground := .data }, { on := 22, ground := .data }], guard := none }) (v := ?_) rfl (by kernel_rfl) (by kernel_rfl) (by kernel_rfl) (fun _ _ _ h => h) (Or.inl ⟨by rfl, ?_⟩) (by assumption) ?_
          rotate_left
          · intro _ _; go_simp; first | done | with_reducible rfl
          simp only [Act.put, List.setIfInBounds_toArray, List.set_cons_zero, List.set_cons_succ]
          refine wpAnyH_take (i := 24) (oi := { dst := some 57, op := .assign (.tmp 81), type := 4, pos := "law.go:72", after := #[{ on := 23, ground := .data }, { on := 21, ground := .chain }], guard := none }) (v := ?_) rfl (by kernel_rfl) (by kernel_rfl) (by kernel_rfl) (fun _ _ _ h => h) (Or.inl ⟨by rfl, ?_⟩) (by assumption) ?_
          rotate_left
          · intro _ _; go_simp; first | done | with_reducible rfl
          simp only [Act.put, List.setIfInBounds_toArray, List.set_cons_zero, List.set_cons_succ]
          refine wpAnyH_done (by kernel_rfl) ?_ _
          refine NoPanic.normal ?_
          have HB5 : Hid (Below w2.heap.size w2 w5) := h4.trans (h5.mono hw4')
          clear hHeld q1 q2 q3 u26 ix HSK2 hb5 h5 f0 f1
          go_wp2_with fail
          go_roundw
          case rel => exact ⟨i, j + 1, k + 1, by omega, rfl, by go_num, by go_num, by omega, by omega, ⟨by rw [HF.out, ← HIJ.out.1], by rw [HG.out, List.length_append, ← HIJ.out.2]; rfl⟩, HB5.out⟩
          case measure => simp [intOf]; omega
    · obtain rfl : k = n := by omega
      have e1 : l.take k = l := List.take_of_length_le (by rw [HL.out]; exact Nat.le_refl _)
      have hij := HIJ.out
      rw [e1, ← HBL.out.1, ← HBL.out.2, HBB.out.1, HBB.out.2] at hij
      obtain ⟨rfl, rfl⟩ := hij
      have HPX : Hid (Pts wr ax i cx bl) := (HA.out _ hbk).2.2.2.1
      have HPY : Hid (Pts wr ay j cy rl) := (HA.out _ hbk).2.2.2.2
      have HBK : Hid (Below w2.heap.size w2 wr) := hbk
      have hwr : w2.heap.size ≤ wr.heap.size := hbk.size
      have HPERM : Hid (decide (([] ++ bl ++ rl).Perm l) = true) := by
        refine decide_eq_true ?_
        rw [List.nil_append, HBL.out.1, HBL.out.2]
        exact List.filter_append_perm _ l
      have HNONE : Hid (rl.filter (fun x => decide (x ∈ r)) = []) := by
        show _ = _
        rw [HBL.out.2, List.filter_filter, List.filter_eq_nil_iff]
        intro x _
        cases decide (x ∈ r) <;> simp
      clear e1 hbk HIJ
      go_wp2_with (first
        | (show wpList _ _ _ (Oper.mk (some 95) _ _ _ _ _ :: _) _ _; refine wpList_build_none (by rfl) rfl ?_; intro w3 HO3 HE3)
        | (show wpList _ _ _ (Oper.mk (some 97) _ _ _ _ _ :: _) _ _; refine wpList_append_wanted (by rfl) _ _ rfl wr.heap.size _ [] rfl HO3.out ax i cx bl rfl (HPX.out.below (by rw [HE3.out]; exact (Below.refl _ _).alloc (Nat.le_refl _) _)) (by simp; omega) (by rw [HE3.out]; simp) ?_; intro v4 w4 HO4 HG4; have H4B : Hid (Below wr.heap.size wr w4) := (show Below wr.heap.size wr w3 by rw [HE3.out]; exact (Below.refl _ _).alloc (Nat.le_refl _) _).trans (HO3.out.grown HG4.out (by rw [HE3.out]; simp)))
        | (show wpList _ _ _ (Oper.mk (some 99) _ _ _ _ _ :: _) _ _; refine wpList_append_wanted (by rfl) _ _ rfl wr.heap.size v4 ([] ++ bl) rfl HO4.out ay j cy rl rfl (HPY.out.below H4B.out) (by rw [List.nil_append, HBB.out.1]; omega) H4B.out.size ?_; intro v5 w5 HO5 HG5; have H5B : Hid (Below wr.heap.size wr w5) := H4B.out.trans (HO4.out.grown HG5.out H4B.out.size))
        | fail)
      obtain ⟨a5, c5, hv5, hp5⟩ := HO5.out.pts
      subst hv5
      have hl5 : ([] ++ bl ++ rl).length = i + j := by simp [HBB.out.1, HBB.out.2]
      rw [hl5] at hp5 ⊢
      refine (alike_any a5 (i + j) c5 ([] ++ bl ++ rl) a k cap l w5 hp5 ((HA.out _ HBK.out).2.1.below H5B.out) (by omega) (by omega)).mono ?_
      rw [HPERM.out]
      rintro e w6 ⟨rfl, hb6⟩
      have H6B : Hid (Below wr.heap.size wr w6) := H5B.out.trans (hb6.mono H5B.out.size)
      clear hb6 hp5 hl5 HO5 HG5 H5B HO4 HG4 H4B HO3 HE3
      go_wp2_with fail
      refine (both_any ay j cy rl a2 m cap2 r w6 (HPY.out.below H6B.out) ((HA.out _ HBK.out).2.2.1.below H6B.out) (by omega) (by omega)).mono ?_
      rw [HNONE.out]
      rintro e w7 ⟨v7, rfl, ho7, hb7⟩
      obtain ⟨a7, c7, rfl, hp7⟩ := ho7.pts
      have H7B : Hid (Below wr.heap.size wr w7) := H6B.out.trans (hb7.mono H6B.out.size)
      clear hb7 ho7 hp7 H6B
      simp only [List.length_nil]
      go_wp2_with fail
      refine (awake_any w7 ((HA.out _ HBK.out).1.below H7B.out)).mono ?_
      rintro e w8 ⟨rfl, hb8⟩
      have HEND : Hid (Below w.heap.size w w8) := HE.out.trans ((HBK.out.trans ((H7B.out.trans (hb8.mono H7B.out.size)).mono hwr)).mono h2N)
      clear hb8 H7B
      go_wp2_with fail
      go_ret
      exact ⟨rfl, HEND.out⟩
end Go.Proofs.YtlgadelcgboeoaaDoor
