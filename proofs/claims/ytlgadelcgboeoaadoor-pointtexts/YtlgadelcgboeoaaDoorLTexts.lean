/- PointTexts answers true at every outpoint and every text. -/
import Derived.Test.YtlgadelcgboeoaaDoorTRefPP
namespace Go.Proofs.YtlgadelcgboeoaaDoor
open Go.ChangeShapes Go.WideShapes Go.ChangeAt Go.RowKit

set_option maxRecDepth 100000 in
set_option maxHeartbeats 4000000 in
theorem texts_out (p : Pt) (s : ByteArray) (w : World) (hm : Mx w) (h : 200 < s.size) :
    Calls Tryd.prog 5 #[.agg p.cs.toArray, .string s] w fun e w' => e = .returned (.bool true) ∧ Below w.heap.size w w' := by
  have HM : Hid (Mx w) := hm
  clear hm
  go_enter Tryd.func5, Tryd.ntmps5
  go_upto_region 1 with fail
  generalize hw1 : World.alloc w _ = w1
  have hb1 : Below w.heap.size w w1 := by rw [← hw1]; exact (Below.refl _ _).alloc (Nat.le_refl _) _
  clear hw1
  have HM1 : Hid (Mx w1) := HM.out.below hb1
  have HB1 : Hid (Below w.heap.size w w1) := hb1
  clear hb1 HM
  have g1 : (200 : Int) < (s.size : Int) := by omega
  go_wp2_with fail
  refine (awake_any w1 HM1.out).mono ?_
  rintro e w2 ⟨rfl, hb2⟩
  have HB2 : Hid (Below w.heap.size w w2) := HB1.out.trans (hb2.mono HB1.out.size)
  clear hb2
  go_wp2_with fail
  go_ret
  exact ⟨rfl, HB2.out⟩

theorem back_ok {p q : Pt} {b : Bool} (hp : p.ok) (h : IsPoint (txt p) q b) : q = p ∧ b = true := IsPoint.same h (.inl ⟨rfl, hp, rfl⟩)
theorem back_bad {p q : Pt} {b : Bool} (hp : ¬ p.ok) (h : IsPoint (txt p) q b) : b = false := by
  rw [txt_bad hp] at h
  exact (IsPoint.same h (no_point_len (.inl (by decide)))).2
theorem txt_small (p : Pt) : (txt p).length ≤ 1000 := by
  by_cases h : p.ok
  · have := txt_len h; omega
  · rw [txt_bad h]; decide

set_option maxRecDepth 100000 in
set_option maxHeartbeats 8000000 in
theorem texts_in (p : Pt) (bs : List (BitVec 8)) (w : World) (hm : Mx w) (hv : Vr w) (hs : bs.length ≤ 200) :
    Calls Tryd.prog 5 #[.agg p.cs.toArray, .string (str bs)] w fun e w' => e = .returned (.bool true) ∧ Below w.heap.size w w' := by
  have HM : Hid (Mx w ∧ Vr w) := ⟨hm, hv⟩
  have HU := und_pt
  have HMO := follows_mixed
  have hsz : (str bs).size = bs.length := str_size bs
  have g1 : ¬ (200 : Int) < (bs.length : Int) := by omega
  have HSB : Hid (bs.length ≤ 1000) := Nat.le_trans hs (by decide)
  clear hm hv hs
  go_enter Tryd.func5, Tryd.ntmps5
  go_upto_region 1 with fail
  generalize hw1 : World.alloc w _ = w1
  have hA1 : Blk w1 w.heap.size p.cs := by rw [← hw1]; exact Blk.new _ _ _
  have hb1 : Below w.heap.size w w1 := by rw [← hw1]; exact (Below.refl _ _).alloc (Nat.le_refl _) _
  clear hw1
  have H1 : Hid ((Mx w1 ∧ Vr w1) ∧ Blk w1 w.heap.size p.cs ∧ Below w.heap.size w w1) := ⟨⟨HM.out.1.below hb1, HM.out.2.below hb1⟩, hA1, hb1⟩
  clear hb1 HM hA1
  generalize hN : w.heap.size = N at *
  go_wp2_with fail
  refine (pparse_any bs w1 HSB.out H1.out.1.1 H1.out.1.2).mono ?_
  rintro e w2 ⟨q, ok, rfl, hq, hb2⟩
  have H2 : Hid ((Mx w2 ∧ Vr w2) ∧ Blk w2 N p.cs ∧ Below N w w2) := by
    obtain ⟨⟨h1, h2⟩, h3, h4⟩ := H1.out
    exact ⟨⟨h1.below hb2, h2.below hb2⟩, h3.below hb2 h3.lt, h4.trans (hb2.mono (Nat.le_of_lt h3.lt))⟩
  have HQ : Hid (IsPoint bs q ok) := hq
  clear H1 hq hb2
  go_upto_region 4 with (refine wpList_store_row rfl 26 _ _ rfl w2.heap.size q.cs.toArray rfl rfl 26 (default : Pt).cs.toArray (heap_alloc_new _ _) (size_pta q) (by rw [List.size_toArray, List.size_toArray, Pt.cs_length, Pt.cs_length]) q.cs_all ?_)
  generalize hw3 : World.setRow _ _ _ = w3
  have H3 : Hid ((Mx w3 ∧ Vr w3) ∧ Blk w3 N p.cs ∧ Below N w w3 ∧ Blk w3 w2.heap.size q.cs) := by
    have hb : Below w2.heap.size w2 w3 := by rw [← hw3]; exact below_setRow ((Below.refl _ _).alloc (Nat.le_refl _) _) (Nat.le_refl _) _
    have hX : Blk w3 w2.heap.size q.cs := by rw [← hw3]; exact Blk.row (cs := (default : Pt).cs) (Blk.mk _ _ _ rfl rfl)
    obtain ⟨⟨h1, h2⟩, h3, h4⟩ := H2.out
    exact ⟨⟨h1.below hb, h2.below hb⟩, h3.below hb h3.lt, h4.trans (hb.mono (Nat.le_of_lt h3.lt)), hX⟩
  clear hw3 H2
  generalize w2.heap.size = Q1 at *
  go_wp2_with fail
  refine (refpparse_any bs w3).mono ?_
  rintro e w4 ⟨r, is, rfl, hr, hb4⟩
  have H4 : Hid ((Mx w4 ∧ Vr w4) ∧ Blk w4 N p.cs ∧ Below N w w4 ∧ Blk w4 Q1 q.cs) := by
    obtain ⟨⟨h1, h2⟩, h3, h4, h5⟩ := H3.out
    exact ⟨⟨h1.below hb4, h2.below hb4⟩, h3.below hb4 h3.lt, h4.trans (hb4.mono (Nat.le_of_lt h3.lt)), h5.below hb4 h5.lt⟩
  obtain ⟨hqr, hoi⟩ := HQ.out.same hr
  subst hqr
  subst hoi
  clear H3 hr hb4 HQ
  go_upto_region 5 with (refine wpList_store_row rfl 26 _ _ rfl w4.heap.size q.cs.toArray rfl rfl 26 (default : Pt).cs.toArray (heap_alloc_new _ _) (size_pta q) (by rw [List.size_toArray, List.size_toArray, Pt.cs_length, Pt.cs_length]) q.cs_all ?_)
  generalize hw5 : World.setRow _ _ _ = w5
  have H5 : Hid ((Mx w5 ∧ Vr w5) ∧ Blk w5 N p.cs ∧ Below N w w5 ∧ Blk w5 Q1 q.cs ∧ Blk w5 w4.heap.size q.cs) := by
    have hb : Below w4.heap.size w4 w5 := by rw [← hw5]; exact below_setRow ((Below.refl _ _).alloc (Nat.le_refl _) _) (Nat.le_refl _) _
    have hX : Blk w5 w4.heap.size q.cs := by rw [← hw5]; exact Blk.row (cs := (default : Pt).cs) (Blk.mk _ _ _ rfl rfl)
    obtain ⟨⟨h1, h2⟩, h3, h4, h5⟩ := H4.out
    exact ⟨⟨h1.below hb, h2.below hb⟩, h3.below hb h3.lt, h4.trans (hb.mono (Nat.le_of_lt h3.lt)), h5.below hb h5.lt, hX⟩
  clear hw5 H4
  generalize w4.heap.size = Q2 at *
  have ip := size_pt p
  have IP : Hid ((Tryd.prog.info? 26).map (·.size) = some p.cs.length) := ip
  have IQ : Hid ((Tryd.prog.info? 26).map (·.size) = some q.cs.length) := size_pt q
  clear ip
  go_wp2_with (refine wpList_load_mid rfl 26 _ rfl N 0 rfl p.cs _ H5.out.2.1.whole HU.out rfl IP.out ?_)
  refine (ptext_any p w5).mono ?_
  rintro e w6 ⟨rfl, hb6⟩
  have H6 : Hid ((Mx w6 ∧ Vr w6) ∧ Blk w6 N p.cs ∧ Below N w w6 ∧ Blk w6 Q1 q.cs ∧ Blk w6 Q2 q.cs) := by
    obtain ⟨⟨h1, h2⟩, h3, h4, h5, h6⟩ := H5.out
    exact ⟨⟨h1.below hb6, h2.below hb6⟩, h3.below hb6 h3.lt, h4.trans (hb6.mono (Nat.le_of_lt h3.lt)), h5.below hb6 h5.lt, h6.below hb6 h6.lt⟩
  clear H5 hb6
  go_wp2_with fail
  refine (pparse_any (txt p) w6 (txt_small p) H6.out.1.1 H6.out.1.2).mono ?_
  rintro e w7 ⟨b, good, rfl, hbk, hb7⟩
  have H7 : Hid ((Mx w7 ∧ Vr w7) ∧ Blk w7 N p.cs ∧ Below N w w7 ∧ Blk w7 Q1 q.cs ∧ Blk w7 Q2 q.cs) := by
    obtain ⟨⟨h1, h2⟩, h3, h4, h5, h6⟩ := H6.out
    exact ⟨⟨h1.below hb7, h2.below hb7⟩, h3.below hb7 h3.lt, h4.trans (hb7.mono (Nat.le_of_lt h3.lt)), h5.below hb7 h5.lt, h6.below hb7 h6.lt⟩
  have HBK : Hid (IsPoint (txt p) b good) := hbk
  clear H6 hb7 hbk
  go_upto_region 6 with (refine wpList_store_row rfl 26 _ _ rfl w7.heap.size b.cs.toArray rfl rfl 26 (default : Pt).cs.toArray (heap_alloc_new _ _) (size_pta b) (by rw [List.size_toArray, List.size_toArray, Pt.cs_length, Pt.cs_length]) b.cs_all ?_)
  generalize hw8 : World.setRow _ _ _ = w8
  have H8 : Hid ((Mx w8 ∧ Vr w8) ∧ Blk w8 N p.cs ∧ Below N w w8 ∧ Blk w8 Q1 q.cs ∧ Blk w8 Q2 q.cs ∧ Blk w8 w7.heap.size b.cs) := by
    have hb : Below w7.heap.size w7 w8 := by rw [← hw8]; exact below_setRow ((Below.refl _ _).alloc (Nat.le_refl _) _) (Nat.le_refl _) _
    have hX : Blk w8 w7.heap.size b.cs := by rw [← hw8]; exact Blk.row (cs := (default : Pt).cs) (Blk.mk _ _ _ rfl rfl)
    obtain ⟨⟨h1, h2⟩, h3, h4, h5, h6⟩ := H7.out
    exact ⟨⟨h1.below hb, h2.below hb⟩, h3.below hb h3.lt, h4.trans (hb.mono (Nat.le_of_lt h3.lt)), h5.below hb h5.lt, h6.below hb h6.lt, hX⟩
  clear hw8 H7
  generalize w7.heap.size = Q3 at *
  have ca := H8.out.2.1.cell 32
  rw [Pt.cell_n] at ca
  have HS : Hid (∀ w', Below w8.heap.size w8 w' → Mx w' ∧ w'.rangeAt N 0 p.cs ∧ w'.rangeAt Q1 0 q.cs ∧ w'.rangeAt Q2 0 q.cs ∧ w'.rangeAt Q3 0 b.cs) := fun w' hw' => by
    obtain ⟨⟨h1, _⟩, h3, _, h5, h6, h7⟩ := H8.out
    exact ⟨h1.below hw', (h3.below hw' h3.lt).whole, (h5.below hw' h5.lt).whole, (h6.below hw' h6.lt).whole, (h7.below hw' h7.lt).whole⟩
  have HB : Hid (Below N w w8 ∧ N ≤ w8.heap.size) := ⟨H8.out.2.2.1, Nat.le_of_lt H8.out.2.1.lt⟩
  clear H8
  have u26 := HU.out
  have q1 : ∀ w', (binOp .eql 26 (.agg q.cs.toArray) (.agg q.cs.toArray)).run Tryd.prog w' = .ok (.bool true) w' := fun w' => by rw [eql_pt]; simp
  by_cases hp : p.ok
  · obtain ⟨hbp, hgd⟩ := back_ok hp HBK.out
    subst hbp
    subst hgd
    have q2 : ∀ w', (binOp .eql 26 (.agg b.cs.toArray) (.agg b.cs.toArray)).run Tryd.prog w' = .ok (.bool true) w' := fun w' => by rw [eql_pt]; simp
    have n0 : (0 : Int) ≤ b.n := hp.1
    have n1 : b.n ≤ (99 : Int) := hp.2
    clear HBK
    have ip := IP.out
    have iq := IQ.out
    have ib := IP.out
    go_wp2_with fail
    refine wp_region_noPanic ?_
    refine wp_region_held_drew (S := fun w' => Below w8.heap.size w8 w') HMO.out ((Below.refl _ _).drew) (fun hHeld => ?_)
    refine wpAnyH_take (i := 0) (oi := { dst := some 40, op := .load 26 (.tmp 2), type := 26, pos := "law.go:58", after := #[], guard := none }) (v := _) rfl (by kernel_rfl) (by kernel_rfl) (by kernel_rfl) (fun _ _ _ h => h) (yieldsIf_load_mid (by rfl) _ _ rfl (N) (0) rfl (b.cs) _ (fun _ h => (HS.out _ h).2.1) (u26) rfl (ip)) (by assumption) ?_
    simp only [Act.put, List.setIfInBounds_toArray, List.set_cons_zero, List.set_cons_succ]
    refine wpAnyH_take (i := 2) (oi := { dst := some 42, op := .load 26 (.tmp 2), type := 26, pos := "law.go:58", after := #[], guard := none }) (v := _) rfl (by kernel_rfl) (by kernel_rfl) (by kernel_rfl) (fun _ _ _ h => h) (yieldsIf_load_mid (by rfl) _ _ rfl (N) (0) rfl (b.cs) _ (fun _ h => (HS.out _ h).2.1) (u26) rfl (ip)) (by assumption) ?_
    simp only [Act.put, List.setIfInBounds_toArray, List.set_cons_zero, List.set_cons_succ]
    refine wpAnyH_ready (rs := [1]) (by kernel_rfl) (by simp) ?_
    refine AllReadyH.cons (o := { dst := some 41, op := .call { callee := .value (.func 22), args := #[.tmp 40], argTypes := #[26] }, type := 9, pos := "law.go:58", after := #[{ on := 0, ground := .data }], guard := none }) rfl (fun K hK => ?_) AllReadyH.nil
    go_simp
    refine (ptext_any b _).mono ?_; rintro e w9 ⟨rfl, hb9⟩; have h9 : Below w8.heap.size w8 w9 := undrewn hb9
    go_simp
    refine hK.out _ _ (h9) (fun hHeld => ?_)
    clear hK K
    refine wpAnyH_ready (rs := [3]) (by kernel_rfl) (by simp) ?_
    refine AllReadyH.cons (o := { dst := some 43, op := .call { callee := .value (.func 23), args := #[.tmp 42], argTypes := #[26] }, type := 9, pos := "law.go:58", after := #[{ on := 2, ground := .data }, { on := 1, ground := .chain }], guard := none }) rfl (fun K hK => ?_) AllReadyH.nil
    go_simp
    refine (refptext_any b _).mono ?_; rintro e w10 ⟨rfl, hb10⟩; have h10 : Below w8.heap.size w8 w10 := h9.trans (hb10.mono h9.size)
    go_simp
    refine hK.out _ _ (h10) (fun hHeld => ?_)
    clear hK K
    refine wpAnyH_take (i := 4) (oi := { dst := some 44, op := .binOp Go.BinOp.eql 9 (.tmp 41) (.tmp 43) 9, type := 4, pos := "law.go:58", after := #[{ on := 1, ground := .data }, { on := 3, ground := .data }], guard := none }) (v := .bool true) rfl (by kernel_rfl) (by kernel_rfl) (by kernel_rfl) (fun _ _ _ h => h) (Or.inl ⟨by rfl, ?_⟩) (by assumption) ?_
    · intro _ _; go_simp
    simp only [Act.put, List.setIfInBounds_toArray, List.set_cons_zero, List.set_cons_succ]
    refine wpAnyH_take (i := 5) (oi := { dst := some 45, op := .move (.tmp 44), type := 4, pos := "law.go:58", after := #[{ on := 4, ground := .data }, { on := 3, ground := .chain }], guard := none }) (v := ?_) rfl (by kernel_rfl) (by kernel_rfl) (by kernel_rfl) (fun _ _ _ h => h) (Or.inl ⟨by rfl, ?_⟩) (by assumption) ?_
    rotate_left
    · intro _ _; go_simp; first | done | with_reducible rfl
    simp only [Act.put, List.setIfInBounds_toArray, List.set_cons_zero, List.set_cons_succ]
    refine wpAnyH_take (i := 6) (oi := { dst := some 46, op := .load 26 (.tmp 5), type := 26, pos := "law.go:58", after := #[{ on := 5, ground := .guard }], guard := some (5, true) }) (v := _) rfl (by kernel_rfl) (by kernel_rfl) (by kernel_rfl) (fun _ _ _ h => h) (yieldsIf_load_mid (by rfl) _ _ rfl (Q1) (0) rfl (q.cs) _ (fun _ h => (HS.out _ h).2.2.1) (u26) rfl (iq)) (by assumption) ?_
    simp only [Act.put, List.setIfInBounds_toArray, List.set_cons_zero, List.set_cons_succ]
    refine wpAnyH_take (i := 7) (oi := { dst := some 47, op := .load 26 (.tmp 7), type := 26, pos := "law.go:58", after := #[{ on := 5, ground := .guard }], guard := some (5, true) }) (v := _) rfl (by kernel_rfl) (by kernel_rfl) (by kernel_rfl) (fun _ _ _ h => h) (yieldsIf_load_mid (by rfl) _ _ rfl (Q2) (0) rfl (q.cs) _ (fun _ h => (HS.out _ h).2.2.2.1) (u26) rfl (iq)) (by assumption) ?_
    simp only [Act.put, List.setIfInBounds_toArray, List.set_cons_zero, List.set_cons_succ]
    refine wpAnyH_take (i := 8) (oi := { dst := some 48, op := .binOp Go.BinOp.eql 26 (.tmp 46) (.tmp 47) 26, type := 4, pos := "law.go:58", after := #[{ on := 6, ground := .data }, { on := 7, ground := .data }, { on := 5, ground := .guard }], guard := some (5, true) }) (v := .bool true) rfl (by kernel_rfl) (by kernel_rfl) (by kernel_rfl) (fun _ _ _ h => h) (Or.inl ⟨by rfl, ?_⟩) (by assumption) ?_
    · intro _ _; go_simp
    simp only [Act.put, List.setIfInBounds_toArray, List.set_cons_zero, List.set_cons_succ]
    refine wpAnyH_take (i := 9) (oi := { dst := some 49, op := .pick (.tmp 45) (.tmp 48) (.const (.bool false)), type := 4, pos := "law.go:58", after := #[{ on := 5, ground := .data }, { on := 8, ground := .data }], guard := none }) (v := ?_) rfl (by kernel_rfl) (by kernel_rfl) (by kernel_rfl) (fun _ _ _ h => h) (Or.inl ⟨by rfl, ?_⟩) (by assumption) ?_
    rotate_left
    · intro _ _; go_simp; first | done | with_reducible rfl
    simp only [Act.put, List.setIfInBounds_toArray, List.set_cons_zero, List.set_cons_succ]
    refine wpAnyH_take (i := 10) (oi := { dst := some 50, op := .move (.tmp 49), type := 4, pos := "law.go:58", after := #[{ on := 9, ground := .data }, { on := 5, ground := .chain }], guard := none }) (v := ?_) rfl (by kernel_rfl) (by kernel_rfl) (by kernel_rfl) (fun _ _ _ h => h) (Or.inl ⟨by rfl, ?_⟩) (by assumption) ?_
    rotate_left
    · intro _ _; go_simp; first | done | with_reducible rfl
    simp only [Act.put, List.setIfInBounds_toArray, List.set_cons_zero, List.set_cons_succ]
    refine wpAnyH_take (i := 11) (oi := { dst := some 51, op := .move (.tmp 6), type := 4, pos := "law.go:58", after := #[{ on := 10, ground := .guard }], guard := some (10, true) }) (v := ?_) rfl (by kernel_rfl) (by kernel_rfl) (by kernel_rfl) (fun _ _ _ h => h) (Or.inl ⟨by rfl, ?_⟩) (by assumption) ?_
    rotate_left
    · intro _ _; go_simp; first | done | with_reducible rfl
    simp only [Act.put, List.setIfInBounds_toArray, List.set_cons_zero, List.set_cons_succ]
    refine wpAnyH_take (i := 12) (oi := { dst := some 52, op := .move (.tmp 8), type := 4, pos := "law.go:58", after := #[{ on := 10, ground := .guard }], guard := some (10, true) }) (v := ?_) rfl (by kernel_rfl) (by kernel_rfl) (by kernel_rfl) (fun _ _ _ h => h) (Or.inl ⟨by rfl, ?_⟩) (by assumption) ?_
    rotate_left
    · intro _ _; go_simp; first | done | with_reducible rfl
    simp only [Act.put, List.setIfInBounds_toArray, List.set_cons_zero, List.set_cons_succ]
    refine wpAnyH_take (i := 13) (oi := { dst := some 53, op := .binOp Go.BinOp.eql 4 (.tmp 51) (.tmp 52) 4, type := 4, pos := "law.go:58", after := #[{ on := 11, ground := .data }, { on := 12, ground := .data }, { on := 10, ground := .guard }], guard := some (10, true) }) (v := .bool true) rfl (by kernel_rfl) (by kernel_rfl) (by kernel_rfl) (fun _ _ _ h => h) (Or.inl ⟨by rfl, ?_⟩) (by assumption) ?_
    · intro _ _; go_simp
    simp only [Act.put, List.setIfInBounds_toArray, List.set_cons_zero, List.set_cons_succ]
    refine wpAnyH_take (i := 14) (oi := { dst := some 54, op := .pick (.tmp 50) (.tmp 53) (.const (.bool false)), type := 4, pos := "law.go:58", after := #[{ on := 10, ground := .data }, { on := 13, ground := .data }], guard := none }) (v := ?_) rfl (by kernel_rfl) (by kernel_rfl) (by kernel_rfl) (fun _ _ _ h => h) (Or.inl ⟨by rfl, ?_⟩) (by assumption) ?_
    rotate_left
    · intro _ _; go_simp; first | done | with_reducible rfl
    simp only [Act.put, List.setIfInBounds_toArray, List.set_cons_zero, List.set_cons_succ]
    refine wpAnyH_take (i := 15) (oi := { dst := some 55, op := .move (.tmp 54), type := 4, pos := "law.go:58", after := #[{ on := 14, ground := .data }, { on := 10, ground := .chain }], guard := none }) (v := ?_) rfl (by kernel_rfl) (by kernel_rfl) (by kernel_rfl) (fun _ _ _ h => h) (Or.inl ⟨by rfl, ?_⟩) (by assumption) ?_
    rotate_left
    · intro _ _; go_simp; first | done | with_reducible rfl
    simp only [Act.put, List.setIfInBounds_toArray, List.set_cons_zero, List.set_cons_succ]
    refine wpAnyH_take (i := 16) (oi := { dst := some 56, op := .move (.tmp 10), type := 4, pos := "law.go:58", after := #[{ on := 15, ground := .guard }], guard := some (15, true) }) (v := ?_) rfl (by kernel_rfl) (by kernel_rfl) (by kernel_rfl) (fun _ _ _ h => h) (Or.inl ⟨by rfl, ?_⟩) (by assumption) ?_
    rotate_left
    · intro _ _; go_simp; first | done | with_reducible rfl
    simp only [Act.put, List.setIfInBounds_toArray, List.set_cons_zero, List.set_cons_succ]
    refine wpAnyH_take (i := 17) (oi := { dst := some 57, op := .move (.tmp 11), type := 4, pos := "law.go:58", after := #[{ on := 15, ground := .guard }], guard := some (15, true) }) (v := ?_) rfl (by kernel_rfl) (by kernel_rfl) (by kernel_rfl) (fun _ _ _ h => h) (Or.inl ⟨by rfl, ?_⟩) (by assumption) ?_
    rotate_left
    · intro _ _; go_simp; first | done | with_reducible rfl
    simp only [Act.put, List.setIfInBounds_toArray, List.set_cons_zero, List.set_cons_succ]
    refine wpAnyH_take (i := 18) (oi := { dst := some 58, op := .binOp Go.BinOp.eql 4 (.tmp 56) (.tmp 57) 4, type := 4, pos := "law.go:58", after := #[{ on := 16, ground := .data }, { on := 17, ground := .data }, { on := 15, ground := .guard }], guard := some (15, true) }) (v := .bool true) rfl (by kernel_rfl) (by kernel_rfl) (by kernel_rfl) (fun _ _ _ h => h) (Or.inl ⟨by rfl, ?_⟩) (by assumption) ?_
    · intro _ _; go_simp
    simp only [Act.put, List.setIfInBounds_toArray, List.set_cons_zero, List.set_cons_succ]
    refine wpAnyH_take (i := 19) (oi := { dst := some 59, op := .pick (.tmp 55) (.tmp 58) (.const (.bool false)), type := 4, pos := "law.go:58", after := #[{ on := 15, ground := .data }, { on := 18, ground := .data }], guard := none }) (v := ?_) rfl (by kernel_rfl) (by kernel_rfl) (by kernel_rfl) (fun _ _ _ h => h) (Or.inl ⟨by rfl, ?_⟩) (by assumption) ?_
    rotate_left
    · intro _ _; go_simp; first | done | with_reducible rfl
    simp only [Act.put, List.setIfInBounds_toArray, List.set_cons_zero, List.set_cons_succ]
    refine wpAnyH_take (i := 20) (oi := { dst := some 60, op := .move (.tmp 59), type := 4, pos := "law.go:58", after := #[{ on := 19, ground := .data }, { on := 15, ground := .chain }], guard := none }) (v := ?_) rfl (by kernel_rfl) (by kernel_rfl) (by kernel_rfl) (fun _ _ _ h => h) (Or.inl ⟨by rfl, ?_⟩) (by assumption) ?_
    rotate_left
    · intro _ _; go_simp; first | done | with_reducible rfl
    simp only [Act.put, List.setIfInBounds_toArray, List.set_cons_zero, List.set_cons_succ]
    refine wpAnyH_take (i := 21) (oi := { dst := some 61, op := .move (.tmp 11), type := 4, pos := "law.go:58", after := #[{ on := 20, ground := .guard }], guard := some (20, true) }) (v := ?_) rfl (by kernel_rfl) (by kernel_rfl) (by kernel_rfl) (fun _ _ _ h => h) (Or.inl ⟨by rfl, ?_⟩) (by assumption) ?_
    rotate_left
    · intro _ _; go_simp; first | done | with_reducible rfl
    simp only [Act.put, List.setIfInBounds_toArray, List.set_cons_zero, List.set_cons_succ]
    refine wpAnyH_take (i := 22) (oi := { dst := some 62, op := .unOp Go.UnOp.not 4 (.tmp 61), type := 4, pos := "law.go:58", after := #[{ on := 21, ground := .data }, { on := 20, ground := .guard }], guard := some (20, true) }) (v := ?_) rfl (by kernel_rfl) (by kernel_rfl) (by kernel_rfl) (fun _ _ _ h => h) (Or.inl ⟨by rfl, ?_⟩) (by assumption) ?_
    rotate_left
    · intro _ _; go_simp; first | done | with_reducible rfl
    simp only [Act.put, List.setIfInBounds_toArray, List.set_cons_zero, List.set_cons_succ]
    refine wpAnyH_take (i := 23) (oi := { dst := some 63, op := .move (.tmp 62), type := 4, pos := "law.go:58", after := #[{ on := 22, ground := .data }, { on := 20, ground := .chain }, { on := 20, ground := .guard }], guard := some (20, true) }) (v := ?_) rfl (by kernel_rfl) (by kernel_rfl) (by kernel_rfl) (fun _ _ _ h => h) (Or.inl ⟨by rfl, ?_⟩) (by assumption) ?_
    rotate_left
    · intro _ _; go_simp; first | done | with_reducible rfl
    simp only [Act.put, List.setIfInBounds_toArray, List.set_cons_zero, List.set_cons_succ]
    refine wpAnyH_take (i := 24) (oi := { dst := some 64, op := .load 26 (.tmp 9), type := 26, pos := "law.go:58", after := #[{ on := 23, ground := .guard }], guard := some (23, false) }) (v := _) rfl (by kernel_rfl) (by kernel_rfl) (by kernel_rfl) (fun _ _ _ h => h) (yieldsIf_load_mid (by rfl) _ _ rfl (Q3) (0) rfl (b.cs) _ (fun _ h => (HS.out _ h).2.2.2.2) (u26) rfl (ib)) (by assumption) ?_
    simp only [Act.put, List.setIfInBounds_toArray, List.set_cons_zero, List.set_cons_succ]
    refine wpAnyH_take (i := 25) (oi := { dst := some 65, op := .load 26 (.tmp 2), type := 26, pos := "law.go:58", after := #[{ on := 23, ground := .guard }], guard := some (23, false) }) (v := _) rfl (by kernel_rfl) (by kernel_rfl) (by kernel_rfl) (fun _ _ _ h => h) (yieldsIf_load_mid (by rfl) _ _ rfl (N) (0) rfl (b.cs) _ (fun _ h => (HS.out _ h).2.1) (u26) rfl (ip)) (by assumption) ?_
    simp only [Act.put, List.setIfInBounds_toArray, List.set_cons_zero, List.set_cons_succ]
    refine wpAnyH_take (i := 26) (oi := { dst := some 66, op := .binOp Go.BinOp.eql 26 (.tmp 64) (.tmp 65) 26, type := 4, pos := "law.go:58", after := #[{ on := 24, ground := .data }, { on := 25, ground := .data }, { on := 23, ground := .guard }], guard := some (23, false) }) (v := .bool true) rfl (by kernel_rfl) (by kernel_rfl) (by kernel_rfl) (fun _ _ _ h => h) (Or.inl ⟨by rfl, ?_⟩) (by assumption) ?_
    · intro _ _; go_simp
    simp only [Act.put, List.setIfInBounds_toArray, List.set_cons_zero, List.set_cons_succ]
    refine wpAnyH_take (i := 27) (oi := { dst := some 67, op := .pick (.tmp 63) (.const (.bool true)) (.tmp 66), type := 4, pos := "law.go:58", after := #[{ on := 23, ground := .data }, { on := 26, ground := .data }, { on := 20, ground := .guard }], guard := some (20, true) }) (v := ?_) rfl (by kernel_rfl) (by kernel_rfl) (by kernel_rfl) (fun _ _ _ h => h) (Or.inl ⟨by rfl, ?_⟩) (by assumption) ?_
    rotate_left
    · intro _ _; go_simp; first | done | with_reducible rfl
    simp only [Act.put, List.setIfInBounds_toArray, List.set_cons_zero, List.set_cons_succ]
    refine wpAnyH_take (i := 28) (oi := { dst := some 68, op := .pick (.tmp 60) (.tmp 67) (.const (.bool false)), type := 4, pos := "law.go:58", after := #[{ on := 20, ground := .data }, { on := 27, ground := .data }], guard := none }) (v := ?_) rfl (by kernel_rfl) (by kernel_rfl) (by kernel_rfl) (fun _ _ _ h => h) (Or.inl ⟨by rfl, ?_⟩) (by assumption) ?_
    rotate_left
    · intro _ _; go_simp; first | done | with_reducible rfl
    simp only [Act.put, List.setIfInBounds_toArray, List.set_cons_zero, List.set_cons_succ]
    refine wpAnyH_take (i := 29) (oi := { dst := some 69, op := .move (.tmp 68), type := 4, pos := "law.go:58", after := #[{ on := 28, ground := .data }, { on := 23, ground := .chain }], guard := none }) (v := ?_) rfl (by kernel_rfl) (by kernel_rfl) (by kernel_rfl) (fun _ _ _ h => h) (Or.inl ⟨by rfl, ?_⟩) (by assumption) ?_
    rotate_left
    · intro _ _; go_simp; first | done | with_reducible rfl
    simp only [Act.put, List.setIfInBounds_toArray, List.set_cons_zero, List.set_cons_succ]
    refine wpAnyH_ready (rs := [30]) (by kernel_rfl) (by simp) ?_
    refine AllReadyH.cons (o := { dst := some 70, op := .call { callee := .value (.func 7), args := #[], argTypes := #[] }, type := 4, pos := "law.go:58", after := #[{ on := 29, ground := .chain }, { on := 29, ground := .guard }], guard := some (29, true) }) rfl (fun K hK => ?_) AllReadyH.nil
    go_simp
    refine (awake_any _ (HS.out _ h10).1).mono ?_; rintro e w11 ⟨rfl, hb11⟩; have h11 : Below w8.heap.size w8 w11 := h10.trans (hb11.mono h10.size)
    go_simp
    refine hK.out _ _ (h11) (fun hHeld => ?_)
    clear hK K
    refine wpAnyH_take (i := 31) (oi := { dst := some 71, op := .pick (.tmp 69) (.tmp 70) (.const (.bool false)), type := 4, pos := "law.go:58", after := #[{ on := 29, ground := .data }, { on := 30, ground := .data }], guard := none }) (v := ?_) rfl (by kernel_rfl) (by kernel_rfl) (by kernel_rfl) (fun _ _ _ h => h) (Or.inl ⟨by rfl, ?_⟩) (by assumption) ?_
    rotate_left
    · intro _ _; go_simp; first | done | with_reducible rfl
    simp only [Act.put, List.setIfInBounds_toArray, List.set_cons_zero, List.set_cons_succ]
    refine wpAnyH_take (i := 32) (oi := { dst := some 4, op := .assign (.tmp 71), type := 4, pos := "law.go:58", after := #[{ on := 31, ground := .data }, { on := 30, ground := .chain }, { on := 0, ground := .phase }, { on := 1, ground := .phase }, { on := 2, ground := .phase }, { on := 3, ground := .phase }, { on := 4, ground := .phase }, { on := 5, ground := .phase }, { on := 6, ground := .phase }, { on := 7, ground := .phase }, { on := 8, ground := .phase }, { on := 9, ground := .phase }, { on := 10, ground := .phase }, { on := 11, ground := .phase }, { on := 12, ground := .phase }, { on := 13, ground := .phase }, { on := 14, ground := .phase }, { on := 15, ground := .phase }, { on := 16, ground := .phase }, { on := 17, ground := .phase }, { on := 18, ground := .phase }, { on := 19, ground := .phase }, { on := 20, ground := .phase }, { on := 21, ground := .phase }, { on := 22, ground := .phase }, { on := 23, ground := .phase }, { on := 24, ground := .phase }, { on := 25, ground := .phase }, { on := 26, ground := .phase }, { on := 27, ground := .phase }, { on := 28, ground := .phase }, { on := 29, ground := .phase }, { on := 30, ground := .phase }, { on := 31, ground := .phase }], guard := none }) (v := ?_) rfl (by kernel_rfl) (by kernel_rfl) (by kernel_rfl) (fun _ _ _ h => h) (Or.inl ⟨by rfl, ?_⟩) (by assumption) ?_
    rotate_left
    · intro _ _; go_simp; first | done | with_reducible rfl
    simp only [Act.put, List.setIfInBounds_toArray, List.set_cons_zero, List.set_cons_succ]
    refine wpAnyH_done (by kernel_rfl) ?_ _
    refine NoPanic.normal ?_
    have HEND : Hid (Below N w _) := HB.out.1.trans (hHeld.mono HB.out.2)
    clear hHeld u26 q1 h9 h10 h11 hb9 hb10 hb11
    go_wp2_with fail
    go_ret
    subst hN
    exact ⟨rfl, HEND.out⟩
  · have hgd := back_bad hp HBK.out
    subst hgd
    have ip := IP.out
    have iq := IQ.out
    clear HBK
    rcases not_ok hp with n0 | n0
    · have n1 : ¬ (0 : Int) ≤ p.n := by omega
      go_wp2_with fail
      refine wp_region_noPanic ?_
      refine wp_region_held_drew (S := fun w' => Below w8.heap.size w8 w') HMO.out ((Below.refl _ _).drew) (fun hHeld => ?_)
      refine wpAnyH_take (i := 0) (oi := { dst := some 40, op := .load 26 (.tmp 2), type := 26, pos := "law.go:58", after := #[], guard := none }) (v := _) rfl (by kernel_rfl) (by kernel_rfl) (by kernel_rfl) (fun _ _ _ h => h) (yieldsIf_load_mid (by rfl) _ _ rfl (N) (0) rfl (p.cs) _ (fun _ h => (HS.out _ h).2.1) (u26) rfl (ip)) (by assumption) ?_
      simp only [Act.put, List.setIfInBounds_toArray, List.set_cons_zero, List.set_cons_succ]
      refine wpAnyH_take (i := 2) (oi := { dst := some 42, op := .load 26 (.tmp 2), type := 26, pos := "law.go:58", after := #[], guard := none }) (v := _) rfl (by kernel_rfl) (by kernel_rfl) (by kernel_rfl) (fun _ _ _ h => h) (yieldsIf_load_mid (by rfl) _ _ rfl (N) (0) rfl (p.cs) _ (fun _ h => (HS.out _ h).2.1) (u26) rfl (ip)) (by assumption) ?_
      simp only [Act.put, List.setIfInBounds_toArray, List.set_cons_zero, List.set_cons_succ]
      refine wpAnyH_ready (rs := [1]) (by kernel_rfl) (by simp) ?_
      refine AllReadyH.cons (o := { dst := some 41, op := .call { callee := .value (.func 22), args := #[.tmp 40], argTypes := #[26] }, type := 9, pos := "law.go:58", after := #[{ on := 0, ground := .data }], guard := none }) rfl (fun K hK => ?_) AllReadyH.nil
      go_simp
      refine (ptext_any p _).mono ?_; rintro e w9 ⟨rfl, hb9⟩; have h9 : Below w8.heap.size w8 w9 := undrewn hb9
      go_simp
      refine hK.out _ _ (h9) (fun hHeld => ?_)
      clear hK K
      refine wpAnyH_ready (rs := [3]) (by kernel_rfl) (by simp) ?_
      refine AllReadyH.cons (o := { dst := some 43, op := .call { callee := .value (.func 23), args := #[.tmp 42], argTypes := #[26] }, type := 9, pos := "law.go:58", after := #[{ on := 2, ground := .data }, { on := 1, ground := .chain }], guard := none }) rfl (fun K hK => ?_) AllReadyH.nil
      go_simp
      refine (refptext_any p _).mono ?_; rintro e w10 ⟨rfl, hb10⟩; have h10 : Below w8.heap.size w8 w10 := h9.trans (hb10.mono h9.size)
      go_simp
      refine hK.out _ _ (h10) (fun hHeld => ?_)
      clear hK K
      refine wpAnyH_take (i := 4) (oi := { dst := some 44, op := .binOp Go.BinOp.eql 9 (.tmp 41) (.tmp 43) 9, type := 4, pos := "law.go:58", after := #[{ on := 1, ground := .data }, { on := 3, ground := .data }], guard := none }) (v := .bool true) rfl (by kernel_rfl) (by kernel_rfl) (by kernel_rfl) (fun _ _ _ h => h) (Or.inl ⟨by rfl, ?_⟩) (by assumption) ?_
      · intro _ _; go_simp
      simp only [Act.put, List.setIfInBounds_toArray, List.set_cons_zero, List.set_cons_succ]
      refine wpAnyH_take (i := 5) (oi := { dst := some 45, op := .move (.tmp 44), type := 4, pos := "law.go:58", after := #[{ on := 4, ground := .data }, { on := 3, ground := .chain }], guard := none }) (v := ?_) rfl (by kernel_rfl) (by kernel_rfl) (by kernel_rfl) (fun _ _ _ h => h) (Or.inl ⟨by rfl, ?_⟩) (by assumption) ?_
      rotate_left
      · intro _ _; go_simp; first | done | with_reducible rfl
      simp only [Act.put, List.setIfInBounds_toArray, List.set_cons_zero, List.set_cons_succ]
      refine wpAnyH_take (i := 6) (oi := { dst := some 46, op := .load 26 (.tmp 5), type := 26, pos := "law.go:58", after := #[{ on := 5, ground := .guard }], guard := some (5, true) }) (v := _) rfl (by kernel_rfl) (by kernel_rfl) (by kernel_rfl) (fun _ _ _ h => h) (yieldsIf_load_mid (by rfl) _ _ rfl (Q1) (0) rfl (q.cs) _ (fun _ h => (HS.out _ h).2.2.1) (u26) rfl (iq)) (by assumption) ?_
      simp only [Act.put, List.setIfInBounds_toArray, List.set_cons_zero, List.set_cons_succ]
      refine wpAnyH_take (i := 7) (oi := { dst := some 47, op := .load 26 (.tmp 7), type := 26, pos := "law.go:58", after := #[{ on := 5, ground := .guard }], guard := some (5, true) }) (v := _) rfl (by kernel_rfl) (by kernel_rfl) (by kernel_rfl) (fun _ _ _ h => h) (yieldsIf_load_mid (by rfl) _ _ rfl (Q2) (0) rfl (q.cs) _ (fun _ h => (HS.out _ h).2.2.2.1) (u26) rfl (iq)) (by assumption) ?_
      simp only [Act.put, List.setIfInBounds_toArray, List.set_cons_zero, List.set_cons_succ]
      refine wpAnyH_take (i := 8) (oi := { dst := some 48, op := .binOp Go.BinOp.eql 26 (.tmp 46) (.tmp 47) 26, type := 4, pos := "law.go:58", after := #[{ on := 6, ground := .data }, { on := 7, ground := .data }, { on := 5, ground := .guard }], guard := some (5, true) }) (v := .bool true) rfl (by kernel_rfl) (by kernel_rfl) (by kernel_rfl) (fun _ _ _ h => h) (Or.inl ⟨by rfl, ?_⟩) (by assumption) ?_
      · intro _ _; go_simp
      simp only [Act.put, List.setIfInBounds_toArray, List.set_cons_zero, List.set_cons_succ]
      refine wpAnyH_take (i := 9) (oi := { dst := some 49, op := .pick (.tmp 45) (.tmp 48) (.const (.bool false)), type := 4, pos := "law.go:58", after := #[{ on := 5, ground := .data }, { on := 8, ground := .data }], guard := none }) (v := ?_) rfl (by kernel_rfl) (by kernel_rfl) (by kernel_rfl) (fun _ _ _ h => h) (Or.inl ⟨by rfl, ?_⟩) (by assumption) ?_
      rotate_left
      · intro _ _; go_simp; first | done | with_reducible rfl
      simp only [Act.put, List.setIfInBounds_toArray, List.set_cons_zero, List.set_cons_succ]
      refine wpAnyH_take (i := 10) (oi := { dst := some 50, op := .move (.tmp 49), type := 4, pos := "law.go:58", after := #[{ on := 9, ground := .data }, { on := 5, ground := .chain }], guard := none }) (v := ?_) rfl (by kernel_rfl) (by kernel_rfl) (by kernel_rfl) (fun _ _ _ h => h) (Or.inl ⟨by rfl, ?_⟩) (by assumption) ?_
      rotate_left
      · intro _ _; go_simp; first | done | with_reducible rfl
      simp only [Act.put, List.setIfInBounds_toArray, List.set_cons_zero, List.set_cons_succ]
      refine wpAnyH_take (i := 11) (oi := { dst := some 51, op := .move (.tmp 6), type := 4, pos := "law.go:58", after := #[{ on := 10, ground := .guard }], guard := some (10, true) }) (v := ?_) rfl (by kernel_rfl) (by kernel_rfl) (by kernel_rfl) (fun _ _ _ h => h) (Or.inl ⟨by rfl, ?_⟩) (by assumption) ?_
      rotate_left
      · intro _ _; go_simp; first | done | with_reducible rfl
      simp only [Act.put, List.setIfInBounds_toArray, List.set_cons_zero, List.set_cons_succ]
      refine wpAnyH_take (i := 12) (oi := { dst := some 52, op := .move (.tmp 8), type := 4, pos := "law.go:58", after := #[{ on := 10, ground := .guard }], guard := some (10, true) }) (v := ?_) rfl (by kernel_rfl) (by kernel_rfl) (by kernel_rfl) (fun _ _ _ h => h) (Or.inl ⟨by rfl, ?_⟩) (by assumption) ?_
      rotate_left
      · intro _ _; go_simp; first | done | with_reducible rfl
      simp only [Act.put, List.setIfInBounds_toArray, List.set_cons_zero, List.set_cons_succ]
      refine wpAnyH_take (i := 13) (oi := { dst := some 53, op := .binOp Go.BinOp.eql 4 (.tmp 51) (.tmp 52) 4, type := 4, pos := "law.go:58", after := #[{ on := 11, ground := .data }, { on := 12, ground := .data }, { on := 10, ground := .guard }], guard := some (10, true) }) (v := .bool true) rfl (by kernel_rfl) (by kernel_rfl) (by kernel_rfl) (fun _ _ _ h => h) (Or.inl ⟨by rfl, ?_⟩) (by assumption) ?_
      · intro _ _; go_simp
      simp only [Act.put, List.setIfInBounds_toArray, List.set_cons_zero, List.set_cons_succ]
      refine wpAnyH_take (i := 14) (oi := { dst := some 54, op := .pick (.tmp 50) (.tmp 53) (.const (.bool false)), type := 4, pos := "law.go:58", after := #[{ on := 10, ground := .data }, { on := 13, ground := .data }], guard := none }) (v := ?_) rfl (by kernel_rfl) (by kernel_rfl) (by kernel_rfl) (fun _ _ _ h => h) (Or.inl ⟨by rfl, ?_⟩) (by assumption) ?_
      rotate_left
      · intro _ _; go_simp; first | done | with_reducible rfl
      simp only [Act.put, List.setIfInBounds_toArray, List.set_cons_zero, List.set_cons_succ]
      refine wpAnyH_take (i := 15) (oi := { dst := some 55, op := .move (.tmp 54), type := 4, pos := "law.go:58", after := #[{ on := 14, ground := .data }, { on := 10, ground := .chain }], guard := none }) (v := ?_) rfl (by kernel_rfl) (by kernel_rfl) (by kernel_rfl) (fun _ _ _ h => h) (Or.inl ⟨by rfl, ?_⟩) (by assumption) ?_
      rotate_left
      · intro _ _; go_simp; first | done | with_reducible rfl
      simp only [Act.put, List.setIfInBounds_toArray, List.set_cons_zero, List.set_cons_succ]
      refine wpAnyH_take (i := 16) (oi := { dst := some 56, op := .move (.tmp 10), type := 4, pos := "law.go:58", after := #[{ on := 15, ground := .guard }], guard := some (15, true) }) (v := ?_) rfl (by kernel_rfl) (by kernel_rfl) (by kernel_rfl) (fun _ _ _ h => h) (Or.inl ⟨by rfl, ?_⟩) (by assumption) ?_
      rotate_left
      · intro _ _; go_simp; first | done | with_reducible rfl
      simp only [Act.put, List.setIfInBounds_toArray, List.set_cons_zero, List.set_cons_succ]
      refine wpAnyH_take (i := 17) (oi := { dst := some 57, op := .move (.tmp 11), type := 4, pos := "law.go:58", after := #[{ on := 15, ground := .guard }], guard := some (15, true) }) (v := ?_) rfl (by kernel_rfl) (by kernel_rfl) (by kernel_rfl) (fun _ _ _ h => h) (Or.inl ⟨by rfl, ?_⟩) (by assumption) ?_
      rotate_left
      · intro _ _; go_simp; first | done | with_reducible rfl
      simp only [Act.put, List.setIfInBounds_toArray, List.set_cons_zero, List.set_cons_succ]
      refine wpAnyH_take (i := 18) (oi := { dst := some 58, op := .binOp Go.BinOp.eql 4 (.tmp 56) (.tmp 57) 4, type := 4, pos := "law.go:58", after := #[{ on := 16, ground := .data }, { on := 17, ground := .data }, { on := 15, ground := .guard }], guard := some (15, true) }) (v := .bool true) rfl (by kernel_rfl) (by kernel_rfl) (by kernel_rfl) (fun _ _ _ h => h) (Or.inl ⟨by rfl, ?_⟩) (by assumption) ?_
      · intro _ _; go_simp
      simp only [Act.put, List.setIfInBounds_toArray, List.set_cons_zero, List.set_cons_succ]
      refine wpAnyH_take (i := 19) (oi := { dst := some 59, op := .pick (.tmp 55) (.tmp 58) (.const (.bool false)), type := 4, pos := "law.go:58", after := #[{ on := 15, ground := .data }, { on := 18, ground := .data }], guard := none }) (v := ?_) rfl (by kernel_rfl) (by kernel_rfl) (by kernel_rfl) (fun _ _ _ h => h) (Or.inl ⟨by rfl, ?_⟩) (by assumption) ?_
      rotate_left
      · intro _ _; go_simp; first | done | with_reducible rfl
      simp only [Act.put, List.setIfInBounds_toArray, List.set_cons_zero, List.set_cons_succ]
      refine wpAnyH_take (i := 20) (oi := { dst := some 60, op := .move (.tmp 59), type := 4, pos := "law.go:58", after := #[{ on := 19, ground := .data }, { on := 15, ground := .chain }], guard := none }) (v := ?_) rfl (by kernel_rfl) (by kernel_rfl) (by kernel_rfl) (fun _ _ _ h => h) (Or.inl ⟨by rfl, ?_⟩) (by assumption) ?_
      rotate_left
      · intro _ _; go_simp; first | done | with_reducible rfl
      simp only [Act.put, List.setIfInBounds_toArray, List.set_cons_zero, List.set_cons_succ]
      refine wpAnyH_take (i := 21) (oi := { dst := some 61, op := .move (.tmp 11), type := 4, pos := "law.go:58", after := #[{ on := 20, ground := .guard }], guard := some (20, true) }) (v := ?_) rfl (by kernel_rfl) (by kernel_rfl) (by kernel_rfl) (fun _ _ _ h => h) (Or.inl ⟨by rfl, ?_⟩) (by assumption) ?_
      rotate_left
      · intro _ _; go_simp; first | done | with_reducible rfl
      simp only [Act.put, List.setIfInBounds_toArray, List.set_cons_zero, List.set_cons_succ]
      refine wpAnyH_take (i := 22) (oi := { dst := some 62, op := .unOp Go.UnOp.not 4 (.tmp 61), type := 4, pos := "law.go:58", after := #[{ on := 21, ground := .data }, { on := 20, ground := .guard }], guard := some (20, true) }) (v := ?_) rfl (by kernel_rfl) (by kernel_rfl) (by kernel_rfl) (fun _ _ _ h => h) (Or.inl ⟨by rfl, ?_⟩) (by assumption) ?_
      rotate_left
      · intro _ _; go_simp; first | done | with_reducible rfl
      simp only [Act.put, List.setIfInBounds_toArray, List.set_cons_zero, List.set_cons_succ]
      refine wpAnyH_take (i := 23) (oi := { dst := some 63, op := .move (.tmp 62), type := 4, pos := "law.go:58", after := #[{ on := 22, ground := .data }, { on := 20, ground := .chain }, { on := 20, ground := .guard }], guard := some (20, true) }) (v := ?_) rfl (by kernel_rfl) (by kernel_rfl) (by kernel_rfl) (fun _ _ _ h => h) (Or.inl ⟨by rfl, ?_⟩) (by assumption) ?_
      rotate_left
      · intro _ _; go_simp; first | done | with_reducible rfl
      simp only [Act.put, List.setIfInBounds_toArray, List.set_cons_zero, List.set_cons_succ]
      refine wpAnyH_take (i := 24) (oi := { dst := some 64, op := .load 26 (.tmp 9), type := 26, pos := "law.go:58", after := #[{ on := 23, ground := .guard }], guard := some (23, false) }) (v := undef) rfl (by kernel_rfl) (by kernel_rfl) (by kernel_rfl) (fun _ _ _ h => h) (Or.inr ⟨by rfl, rfl⟩) (by assumption) ?_
      simp only [Act.put, List.setIfInBounds_toArray, List.set_cons_zero, List.set_cons_succ]
      refine wpAnyH_take (i := 25) (oi := { dst := some 65, op := .load 26 (.tmp 2), type := 26, pos := "law.go:58", after := #[{ on := 23, ground := .guard }], guard := some (23, false) }) (v := undef) rfl (by kernel_rfl) (by kernel_rfl) (by kernel_rfl) (fun _ _ _ h => h) (Or.inr ⟨by rfl, rfl⟩) (by assumption) ?_
      simp only [Act.put, List.setIfInBounds_toArray, List.set_cons_zero, List.set_cons_succ]
      refine wpAnyH_take (i := 26) (oi := { dst := some 66, op := .binOp Go.BinOp.eql 26 (.tmp 64) (.tmp 65) 26, type := 4, pos := "law.go:58", after := #[{ on := 24, ground := .data }, { on := 25, ground := .data }, { on := 23, ground := .guard }], guard := some (23, false) }) (v := undef) rfl (by kernel_rfl) (by kernel_rfl) (by kernel_rfl) (fun _ _ _ h => h) (Or.inr ⟨by rfl, rfl⟩) (by assumption) ?_
      simp only [Act.put, List.setIfInBounds_toArray, List.set_cons_zero, List.set_cons_succ]
      refine wpAnyH_take (i := 27) (oi := { dst := some 67, op := .pick (.tmp 63) (.const (.bool true)) (.tmp 66), type := 4, pos := "law.go:58", after := #[{ on := 23, ground := .data }, { on := 26, ground := .data }, { on := 20, ground := .guard }], guard := some (20, true) }) (v := ?_) rfl (by kernel_rfl) (by kernel_rfl) (by kernel_rfl) (fun _ _ _ h => h) (Or.inl ⟨by rfl, ?_⟩) (by assumption) ?_
      rotate_left
      · intro _ _; go_simp; first | done | with_reducible rfl
      simp only [Act.put, List.setIfInBounds_toArray, List.set_cons_zero, List.set_cons_succ]
      refine wpAnyH_take (i := 28) (oi := { dst := some 68, op := .pick (.tmp 60) (.tmp 67) (.const (.bool false)), type := 4, pos := "law.go:58", after := #[{ on := 20, ground := .data }, { on := 27, ground := .data }], guard := none }) (v := ?_) rfl (by kernel_rfl) (by kernel_rfl) (by kernel_rfl) (fun _ _ _ h => h) (Or.inl ⟨by rfl, ?_⟩) (by assumption) ?_
      rotate_left
      · intro _ _; go_simp; first | done | with_reducible rfl
      simp only [Act.put, List.setIfInBounds_toArray, List.set_cons_zero, List.set_cons_succ]
      refine wpAnyH_take (i := 29) (oi := { dst := some 69, op := .move (.tmp 68), type := 4, pos := "law.go:58", after := #[{ on := 28, ground := .data }, { on := 23, ground := .chain }], guard := none }) (v := ?_) rfl (by kernel_rfl) (by kernel_rfl) (by kernel_rfl) (fun _ _ _ h => h) (Or.inl ⟨by rfl, ?_⟩) (by assumption) ?_
      rotate_left
      · intro _ _; go_simp; first | done | with_reducible rfl
      simp only [Act.put, List.setIfInBounds_toArray, List.set_cons_zero, List.set_cons_succ]
      refine wpAnyH_ready (rs := [30]) (by kernel_rfl) (by simp) ?_
      refine AllReadyH.cons (o := { dst := some 70, op := .call { callee := .value (.func 7), args := #[], argTypes := #[] }, type := 4, pos := "law.go:58", after := #[{ on := 29, ground := .chain }, { on := 29, ground := .guard }], guard := some (29, true) }) rfl (fun K hK => ?_) AllReadyH.nil
      go_simp
      refine (awake_any _ (HS.out _ h10).1).mono ?_; rintro e w11 ⟨rfl, hb11⟩; have h11 : Below w8.heap.size w8 w11 := h10.trans (hb11.mono h10.size)
      go_simp
      refine hK.out _ _ (h11) (fun hHeld => ?_)
      clear hK K
      refine wpAnyH_take (i := 31) (oi := { dst := some 71, op := .pick (.tmp 69) (.tmp 70) (.const (.bool false)), type := 4, pos := "law.go:58", after := #[{ on := 29, ground := .data }, { on := 30, ground := .data }], guard := none }) (v := ?_) rfl (by kernel_rfl) (by kernel_rfl) (by kernel_rfl) (fun _ _ _ h => h) (Or.inl ⟨by rfl, ?_⟩) (by assumption) ?_
      rotate_left
      · intro _ _; go_simp; first | done | with_reducible rfl
      simp only [Act.put, List.setIfInBounds_toArray, List.set_cons_zero, List.set_cons_succ]
      refine wpAnyH_take (i := 32) (oi := { dst := some 4, op := .assign (.tmp 71), type := 4, pos := "law.go:58", after := #[{ on := 31, ground := .data }, { on := 30, ground := .chain }, { on := 0, ground := .phase }, { on := 1, ground := .phase }, { on := 2, ground := .phase }, { on := 3, ground := .phase }, { on := 4, ground := .phase }, { on := 5, ground := .phase }, { on := 6, ground := .phase }, { on := 7, ground := .phase }, { on := 8, ground := .phase }, { on := 9, ground := .phase }, { on := 10, ground := .phase }, { on := 11, ground := .phase }, { on := 12, ground := .phase }, { on := 13, ground := .phase }, { on := 14, ground := .phase }, { on := 15, ground := .phase }, { on := 16, ground := .phase }, { on := 17, ground := .phase }, { on := 18, ground := .phase }, { on := 19, ground := .phase }, { on := 20, ground := .phase }, { on := 21, ground := .phase }, { on := 22, ground := .phase }, { on := 23, ground := .phase }, { on := 24, ground := .phase }, { on := 25, ground := .phase }, { on := 26, ground := .phase }, { on := 27, ground := .phase }, { on := 28, ground := .phase }, { on := 29, ground := .phase }, { on := 30, ground := .phase }, { on := 31, ground := .phase }], guard := none }) (v := ?_) rfl (by kernel_rfl) (by kernel_rfl) (by kernel_rfl) (fun _ _ _ h => h) (Or.inl ⟨by rfl, ?_⟩) (by assumption) ?_
      rotate_left
      · intro _ _; go_simp; first | done | with_reducible rfl
      simp only [Act.put, List.setIfInBounds_toArray, List.set_cons_zero, List.set_cons_succ]
      refine wpAnyH_done (by kernel_rfl) ?_ _
      refine NoPanic.normal ?_
      have HEND : Hid (Below N w _) := HB.out.1.trans (hHeld.mono HB.out.2)
      clear hHeld u26 q1 h9 h10 h11 hb9 hb10 hb11
      go_wp2_with fail
      go_ret
      subst hN
      exact ⟨rfl, HEND.out⟩
    · have n1 : (0 : Int) ≤ p.n := by omega
      have n2 : ¬ p.n ≤ (99 : Int) := by omega
      go_wp2_with fail
      refine wp_region_noPanic ?_
      refine wp_region_held_drew (S := fun w' => Below w8.heap.size w8 w') HMO.out ((Below.refl _ _).drew) (fun hHeld => ?_)
      refine wpAnyH_take (i := 0) (oi := { dst := some 40, op := .load 26 (.tmp 2), type := 26, pos := "law.go:58", after := #[], guard := none }) (v := _) rfl (by kernel_rfl) (by kernel_rfl) (by kernel_rfl) (fun _ _ _ h => h) (yieldsIf_load_mid (by rfl) _ _ rfl (N) (0) rfl (p.cs) _ (fun _ h => (HS.out _ h).2.1) (u26) rfl (ip)) (by assumption) ?_
      simp only [Act.put, List.setIfInBounds_toArray, List.set_cons_zero, List.set_cons_succ]
      refine wpAnyH_take (i := 2) (oi := { dst := some 42, op := .load 26 (.tmp 2), type := 26, pos := "law.go:58", after := #[], guard := none }) (v := _) rfl (by kernel_rfl) (by kernel_rfl) (by kernel_rfl) (fun _ _ _ h => h) (yieldsIf_load_mid (by rfl) _ _ rfl (N) (0) rfl (p.cs) _ (fun _ h => (HS.out _ h).2.1) (u26) rfl (ip)) (by assumption) ?_
      simp only [Act.put, List.setIfInBounds_toArray, List.set_cons_zero, List.set_cons_succ]
      refine wpAnyH_ready (rs := [1]) (by kernel_rfl) (by simp) ?_
      refine AllReadyH.cons (o := { dst := some 41, op := .call { callee := .value (.func 22), args := #[.tmp 40], argTypes := #[26] }, type := 9, pos := "law.go:58", after := #[{ on := 0, ground := .data }], guard := none }) rfl (fun K hK => ?_) AllReadyH.nil
      go_simp
      refine (ptext_any p _).mono ?_; rintro e w9 ⟨rfl, hb9⟩; have h9 : Below w8.heap.size w8 w9 := undrewn hb9
      go_simp
      refine hK.out _ _ (h9) (fun hHeld => ?_)
      clear hK K
      refine wpAnyH_ready (rs := [3]) (by kernel_rfl) (by simp) ?_
      refine AllReadyH.cons (o := { dst := some 43, op := .call { callee := .value (.func 23), args := #[.tmp 42], argTypes := #[26] }, type := 9, pos := "law.go:58", after := #[{ on := 2, ground := .data }, { on := 1, ground := .chain }], guard := none }) rfl (fun K hK => ?_) AllReadyH.nil
      go_simp
      refine (refptext_any p _).mono ?_; rintro e w10 ⟨rfl, hb10⟩; have h10 : Below w8.heap.size w8 w10 := h9.trans (hb10.mono h9.size)
      go_simp
      refine hK.out _ _ (h10) (fun hHeld => ?_)
      clear hK K
      refine wpAnyH_take (i := 4) (oi := { dst := some 44, op := .binOp Go.BinOp.eql 9 (.tmp 41) (.tmp 43) 9, type := 4, pos := "law.go:58", after := #[{ on := 1, ground := .data }, { on := 3, ground := .data }], guard := none }) (v := .bool true) rfl (by kernel_rfl) (by kernel_rfl) (by kernel_rfl) (fun _ _ _ h => h) (Or.inl ⟨by rfl, ?_⟩) (by assumption) ?_
      · intro _ _; go_simp
      simp only [Act.put, List.setIfInBounds_toArray, List.set_cons_zero, List.set_cons_succ]
      refine wpAnyH_take (i := 5) (oi := { dst := some 45, op := .move (.tmp 44), type := 4, pos := "law.go:58", after := #[{ on := 4, ground := .data }, { on := 3, ground := .chain }], guard := none }) (v := ?_) rfl (by kernel_rfl) (by kernel_rfl) (by kernel_rfl) (fun _ _ _ h => h) (Or.inl ⟨by rfl, ?_⟩) (by assumption) ?_
      rotate_left
      · intro _ _; go_simp; first | done | with_reducible rfl
      simp only [Act.put, List.setIfInBounds_toArray, List.set_cons_zero, List.set_cons_succ]
      refine wpAnyH_take (i := 6) (oi := { dst := some 46, op := .load 26 (.tmp 5), type := 26, pos := "law.go:58", after := #[{ on := 5, ground := .guard }], guard := some (5, true) }) (v := _) rfl (by kernel_rfl) (by kernel_rfl) (by kernel_rfl) (fun _ _ _ h => h) (yieldsIf_load_mid (by rfl) _ _ rfl (Q1) (0) rfl (q.cs) _ (fun _ h => (HS.out _ h).2.2.1) (u26) rfl (iq)) (by assumption) ?_
      simp only [Act.put, List.setIfInBounds_toArray, List.set_cons_zero, List.set_cons_succ]
      refine wpAnyH_take (i := 7) (oi := { dst := some 47, op := .load 26 (.tmp 7), type := 26, pos := "law.go:58", after := #[{ on := 5, ground := .guard }], guard := some (5, true) }) (v := _) rfl (by kernel_rfl) (by kernel_rfl) (by kernel_rfl) (fun _ _ _ h => h) (yieldsIf_load_mid (by rfl) _ _ rfl (Q2) (0) rfl (q.cs) _ (fun _ h => (HS.out _ h).2.2.2.1) (u26) rfl (iq)) (by assumption) ?_
      simp only [Act.put, List.setIfInBounds_toArray, List.set_cons_zero, List.set_cons_succ]
      refine wpAnyH_take (i := 8) (oi := { dst := some 48, op := .binOp Go.BinOp.eql 26 (.tmp 46) (.tmp 47) 26, type := 4, pos := "law.go:58", after := #[{ on := 6, ground := .data }, { on := 7, ground := .data }, { on := 5, ground := .guard }], guard := some (5, true) }) (v := .bool true) rfl (by kernel_rfl) (by kernel_rfl) (by kernel_rfl) (fun _ _ _ h => h) (Or.inl ⟨by rfl, ?_⟩) (by assumption) ?_
      · intro _ _; go_simp
      simp only [Act.put, List.setIfInBounds_toArray, List.set_cons_zero, List.set_cons_succ]
      refine wpAnyH_take (i := 9) (oi := { dst := some 49, op := .pick (.tmp 45) (.tmp 48) (.const (.bool false)), type := 4, pos := "law.go:58", after := #[{ on := 5, ground := .data }, { on := 8, ground := .data }], guard := none }) (v := ?_) rfl (by kernel_rfl) (by kernel_rfl) (by kernel_rfl) (fun _ _ _ h => h) (Or.inl ⟨by rfl, ?_⟩) (by assumption) ?_
      rotate_left
      · intro _ _; go_simp; first | done | with_reducible rfl
      simp only [Act.put, List.setIfInBounds_toArray, List.set_cons_zero, List.set_cons_succ]
      refine wpAnyH_take (i := 10) (oi := { dst := some 50, op := .move (.tmp 49), type := 4, pos := "law.go:58", after := #[{ on := 9, ground := .data }, { on := 5, ground := .chain }], guard := none }) (v := ?_) rfl (by kernel_rfl) (by kernel_rfl) (by kernel_rfl) (fun _ _ _ h => h) (Or.inl ⟨by rfl, ?_⟩) (by assumption) ?_
      rotate_left
      · intro _ _; go_simp; first | done | with_reducible rfl
      simp only [Act.put, List.setIfInBounds_toArray, List.set_cons_zero, List.set_cons_succ]
      refine wpAnyH_take (i := 11) (oi := { dst := some 51, op := .move (.tmp 6), type := 4, pos := "law.go:58", after := #[{ on := 10, ground := .guard }], guard := some (10, true) }) (v := ?_) rfl (by kernel_rfl) (by kernel_rfl) (by kernel_rfl) (fun _ _ _ h => h) (Or.inl ⟨by rfl, ?_⟩) (by assumption) ?_
      rotate_left
      · intro _ _; go_simp; first | done | with_reducible rfl
      simp only [Act.put, List.setIfInBounds_toArray, List.set_cons_zero, List.set_cons_succ]
      refine wpAnyH_take (i := 12) (oi := { dst := some 52, op := .move (.tmp 8), type := 4, pos := "law.go:58", after := #[{ on := 10, ground := .guard }], guard := some (10, true) }) (v := ?_) rfl (by kernel_rfl) (by kernel_rfl) (by kernel_rfl) (fun _ _ _ h => h) (Or.inl ⟨by rfl, ?_⟩) (by assumption) ?_
      rotate_left
      · intro _ _; go_simp; first | done | with_reducible rfl
      simp only [Act.put, List.setIfInBounds_toArray, List.set_cons_zero, List.set_cons_succ]
      refine wpAnyH_take (i := 13) (oi := { dst := some 53, op := .binOp Go.BinOp.eql 4 (.tmp 51) (.tmp 52) 4, type := 4, pos := "law.go:58", after := #[{ on := 11, ground := .data }, { on := 12, ground := .data }, { on := 10, ground := .guard }], guard := some (10, true) }) (v := .bool true) rfl (by kernel_rfl) (by kernel_rfl) (by kernel_rfl) (fun _ _ _ h => h) (Or.inl ⟨by rfl, ?_⟩) (by assumption) ?_
      · intro _ _; go_simp
      simp only [Act.put, List.setIfInBounds_toArray, List.set_cons_zero, List.set_cons_succ]
      refine wpAnyH_take (i := 14) (oi := { dst := some 54, op := .pick (.tmp 50) (.tmp 53) (.const (.bool false)), type := 4, pos := "law.go:58", after := #[{ on := 10, ground := .data }, { on := 13, ground := .data }], guard := none }) (v := ?_) rfl (by kernel_rfl) (by kernel_rfl) (by kernel_rfl) (fun _ _ _ h => h) (Or.inl ⟨by rfl, ?_⟩) (by assumption) ?_
      rotate_left
      · intro _ _; go_simp; first | done | with_reducible rfl
      simp only [Act.put, List.setIfInBounds_toArray, List.set_cons_zero, List.set_cons_succ]
      refine wpAnyH_take (i := 15) (oi := { dst := some 55, op := .move (.tmp 54), type := 4, pos := "law.go:58", after := #[{ on := 14, ground := .data }, { on := 10, ground := .chain }], guard := none }) (v := ?_) rfl (by kernel_rfl) (by kernel_rfl) (by kernel_rfl) (fun _ _ _ h => h) (Or.inl ⟨by rfl, ?_⟩) (by assumption) ?_
      rotate_left
      · intro _ _; go_simp; first | done | with_reducible rfl
      simp only [Act.put, List.setIfInBounds_toArray, List.set_cons_zero, List.set_cons_succ]
      refine wpAnyH_take (i := 16) (oi := { dst := some 56, op := .move (.tmp 10), type := 4, pos := "law.go:58", after := #[{ on := 15, ground := .guard }], guard := some (15, true) }) (v := ?_) rfl (by kernel_rfl) (by kernel_rfl) (by kernel_rfl) (fun _ _ _ h => h) (Or.inl ⟨by rfl, ?_⟩) (by assumption) ?_
      rotate_left
      · intro _ _; go_simp; first | done | with_reducible rfl
      simp only [Act.put, List.setIfInBounds_toArray, List.set_cons_zero, List.set_cons_succ]
      refine wpAnyH_take (i := 17) (oi := { dst := some 57, op := .move (.tmp 11), type := 4, pos := "law.go:58", after := #[{ on := 15, ground := .guard }], guard := some (15, true) }) (v := ?_) rfl (by kernel_rfl) (by kernel_rfl) (by kernel_rfl) (fun _ _ _ h => h) (Or.inl ⟨by rfl, ?_⟩) (by assumption) ?_
      rotate_left
      · intro _ _; go_simp; first | done | with_reducible rfl
      simp only [Act.put, List.setIfInBounds_toArray, List.set_cons_zero, List.set_cons_succ]
      refine wpAnyH_take (i := 18) (oi := { dst := some 58, op := .binOp Go.BinOp.eql 4 (.tmp 56) (.tmp 57) 4, type := 4, pos := "law.go:58", after := #[{ on := 16, ground := .data }, { on := 17, ground := .data }, { on := 15, ground := .guard }], guard := some (15, true) }) (v := .bool true) rfl (by kernel_rfl) (by kernel_rfl) (by kernel_rfl) (fun _ _ _ h => h) (Or.inl ⟨by rfl, ?_⟩) (by assumption) ?_
      · intro _ _; go_simp
      simp only [Act.put, List.setIfInBounds_toArray, List.set_cons_zero, List.set_cons_succ]
      refine wpAnyH_take (i := 19) (oi := { dst := some 59, op := .pick (.tmp 55) (.tmp 58) (.const (.bool false)), type := 4, pos := "law.go:58", after := #[{ on := 15, ground := .data }, { on := 18, ground := .data }], guard := none }) (v := ?_) rfl (by kernel_rfl) (by kernel_rfl) (by kernel_rfl) (fun _ _ _ h => h) (Or.inl ⟨by rfl, ?_⟩) (by assumption) ?_
      rotate_left
      · intro _ _; go_simp; first | done | with_reducible rfl
      simp only [Act.put, List.setIfInBounds_toArray, List.set_cons_zero, List.set_cons_succ]
      refine wpAnyH_take (i := 20) (oi := { dst := some 60, op := .move (.tmp 59), type := 4, pos := "law.go:58", after := #[{ on := 19, ground := .data }, { on := 15, ground := .chain }], guard := none }) (v := ?_) rfl (by kernel_rfl) (by kernel_rfl) (by kernel_rfl) (fun _ _ _ h => h) (Or.inl ⟨by rfl, ?_⟩) (by assumption) ?_
      rotate_left
      · intro _ _; go_simp; first | done | with_reducible rfl
      simp only [Act.put, List.setIfInBounds_toArray, List.set_cons_zero, List.set_cons_succ]
      refine wpAnyH_take (i := 21) (oi := { dst := some 61, op := .move (.tmp 11), type := 4, pos := "law.go:58", after := #[{ on := 20, ground := .guard }], guard := some (20, true) }) (v := ?_) rfl (by kernel_rfl) (by kernel_rfl) (by kernel_rfl) (fun _ _ _ h => h) (Or.inl ⟨by rfl, ?_⟩) (by assumption) ?_
      rotate_left
      · intro _ _; go_simp; first | done | with_reducible rfl
      simp only [Act.put, List.setIfInBounds_toArray, List.set_cons_zero, List.set_cons_succ]
      refine wpAnyH_take (i := 22) (oi := { dst := some 62, op := .unOp Go.UnOp.not 4 (.tmp 61), type := 4, pos := "law.go:58", after := #[{ on := 21, ground := .data }, { on := 20, ground := .guard }], guard := some (20, true) }) (v := ?_) rfl (by kernel_rfl) (by kernel_rfl) (by kernel_rfl) (fun _ _ _ h => h) (Or.inl ⟨by rfl, ?_⟩) (by assumption) ?_
      rotate_left
      · intro _ _; go_simp; first | done | with_reducible rfl
      simp only [Act.put, List.setIfInBounds_toArray, List.set_cons_zero, List.set_cons_succ]
      refine wpAnyH_take (i := 23) (oi := { dst := some 63, op := .move (.tmp 62), type := 4, pos := "law.go:58", after := #[{ on := 22, ground := .data }, { on := 20, ground := .chain }, { on := 20, ground := .guard }], guard := some (20, true) }) (v := ?_) rfl (by kernel_rfl) (by kernel_rfl) (by kernel_rfl) (fun _ _ _ h => h) (Or.inl ⟨by rfl, ?_⟩) (by assumption) ?_
      rotate_left
      · intro _ _; go_simp; first | done | with_reducible rfl
      simp only [Act.put, List.setIfInBounds_toArray, List.set_cons_zero, List.set_cons_succ]
      refine wpAnyH_take (i := 24) (oi := { dst := some 64, op := .load 26 (.tmp 9), type := 26, pos := "law.go:58", after := #[{ on := 23, ground := .guard }], guard := some (23, false) }) (v := undef) rfl (by kernel_rfl) (by kernel_rfl) (by kernel_rfl) (fun _ _ _ h => h) (Or.inr ⟨by rfl, rfl⟩) (by assumption) ?_
      simp only [Act.put, List.setIfInBounds_toArray, List.set_cons_zero, List.set_cons_succ]
      refine wpAnyH_take (i := 25) (oi := { dst := some 65, op := .load 26 (.tmp 2), type := 26, pos := "law.go:58", after := #[{ on := 23, ground := .guard }], guard := some (23, false) }) (v := undef) rfl (by kernel_rfl) (by kernel_rfl) (by kernel_rfl) (fun _ _ _ h => h) (Or.inr ⟨by rfl, rfl⟩) (by assumption) ?_
      simp only [Act.put, List.setIfInBounds_toArray, List.set_cons_zero, List.set_cons_succ]
      refine wpAnyH_take (i := 26) (oi := { dst := some 66, op := .binOp Go.BinOp.eql 26 (.tmp 64) (.tmp 65) 26, type := 4, pos := "law.go:58", after := #[{ on := 24, ground := .data }, { on := 25, ground := .data }, { on := 23, ground := .guard }], guard := some (23, false) }) (v := undef) rfl (by kernel_rfl) (by kernel_rfl) (by kernel_rfl) (fun _ _ _ h => h) (Or.inr ⟨by rfl, rfl⟩) (by assumption) ?_
      simp only [Act.put, List.setIfInBounds_toArray, List.set_cons_zero, List.set_cons_succ]
      refine wpAnyH_take (i := 27) (oi := { dst := some 67, op := .pick (.tmp 63) (.const (.bool true)) (.tmp 66), type := 4, pos := "law.go:58", after := #[{ on := 23, ground := .data }, { on := 26, ground := .data }, { on := 20, ground := .guard }], guard := some (20, true) }) (v := ?_) rfl (by kernel_rfl) (by kernel_rfl) (by kernel_rfl) (fun _ _ _ h => h) (Or.inl ⟨by rfl, ?_⟩) (by assumption) ?_
      rotate_left
      · intro _ _; go_simp; first | done | with_reducible rfl
      simp only [Act.put, List.setIfInBounds_toArray, List.set_cons_zero, List.set_cons_succ]
      refine wpAnyH_take (i := 28) (oi := { dst := some 68, op := .pick (.tmp 60) (.tmp 67) (.const (.bool false)), type := 4, pos := "law.go:58", after := #[{ on := 20, ground := .data }, { on := 27, ground := .data }], guard := none }) (v := ?_) rfl (by kernel_rfl) (by kernel_rfl) (by kernel_rfl) (fun _ _ _ h => h) (Or.inl ⟨by rfl, ?_⟩) (by assumption) ?_
      rotate_left
      · intro _ _; go_simp; first | done | with_reducible rfl
      simp only [Act.put, List.setIfInBounds_toArray, List.set_cons_zero, List.set_cons_succ]
      refine wpAnyH_take (i := 29) (oi := { dst := some 69, op := .move (.tmp 68), type := 4, pos := "law.go:58", after := #[{ on := 28, ground := .data }, { on := 23, ground := .chain }], guard := none }) (v := ?_) rfl (by kernel_rfl) (by kernel_rfl) (by kernel_rfl) (fun _ _ _ h => h) (Or.inl ⟨by rfl, ?_⟩) (by assumption) ?_
      rotate_left
      · intro _ _; go_simp; first | done | with_reducible rfl
      simp only [Act.put, List.setIfInBounds_toArray, List.set_cons_zero, List.set_cons_succ]
      refine wpAnyH_ready (rs := [30]) (by kernel_rfl) (by simp) ?_
      refine AllReadyH.cons (o := { dst := some 70, op := .call { callee := .value (.func 7), args := #[], argTypes := #[] }, type := 4, pos := "law.go:58", after := #[{ on := 29, ground := .chain }, { on := 29, ground := .guard }], guard := some (29, true) }) rfl (fun K hK => ?_) AllReadyH.nil
      go_simp
      refine (awake_any _ (HS.out _ h10).1).mono ?_; rintro e w11 ⟨rfl, hb11⟩; have h11 : Below w8.heap.size w8 w11 := h10.trans (hb11.mono h10.size)
      go_simp
      refine hK.out _ _ (h11) (fun hHeld => ?_)
      clear hK K
      refine wpAnyH_take (i := 31) (oi := { dst := some 71, op := .pick (.tmp 69) (.tmp 70) (.const (.bool false)), type := 4, pos := "law.go:58", after := #[{ on := 29, ground := .data }, { on := 30, ground := .data }], guard := none }) (v := ?_) rfl (by kernel_rfl) (by kernel_rfl) (by kernel_rfl) (fun _ _ _ h => h) (Or.inl ⟨by rfl, ?_⟩) (by assumption) ?_
      rotate_left
      · intro _ _; go_simp; first | done | with_reducible rfl
      simp only [Act.put, List.setIfInBounds_toArray, List.set_cons_zero, List.set_cons_succ]
      refine wpAnyH_take (i := 32) (oi := { dst := some 4, op := .assign (.tmp 71), type := 4, pos := "law.go:58", after := #[{ on := 31, ground := .data }, { on := 30, ground := .chain }, { on := 0, ground := .phase }, { on := 1, ground := .phase }, { on := 2, ground := .phase }, { on := 3, ground := .phase }, { on := 4, ground := .phase }, { on := 5, ground := .phase }, { on := 6, ground := .phase }, { on := 7, ground := .phase }, { on := 8, ground := .phase }, { on := 9, ground := .phase }, { on := 10, ground := .phase }, { on := 11, ground := .phase }, { on := 12, ground := .phase }, { on := 13, ground := .phase }, { on := 14, ground := .phase }, { on := 15, ground := .phase }, { on := 16, ground := .phase }, { on := 17, ground := .phase }, { on := 18, ground := .phase }, { on := 19, ground := .phase }, { on := 20, ground := .phase }, { on := 21, ground := .phase }, { on := 22, ground := .phase }, { on := 23, ground := .phase }, { on := 24, ground := .phase }, { on := 25, ground := .phase }, { on := 26, ground := .phase }, { on := 27, ground := .phase }, { on := 28, ground := .phase }, { on := 29, ground := .phase }, { on := 30, ground := .phase }, { on := 31, ground := .phase }], guard := none }) (v := ?_) rfl (by kernel_rfl) (by kernel_rfl) (by kernel_rfl) (fun _ _ _ h => h) (Or.inl ⟨by rfl, ?_⟩) (by assumption) ?_
      rotate_left
      · intro _ _; go_simp; first | done | with_reducible rfl
      simp only [Act.put, List.setIfInBounds_toArray, List.set_cons_zero, List.set_cons_succ]
      refine wpAnyH_done (by kernel_rfl) ?_ _
      refine NoPanic.normal ?_
      have HEND : Hid (Below N w _) := HB.out.1.trans (hHeld.mono HB.out.2)
      clear hHeld u26 q1 h9 h10 h11 hb9 hb10 hb11
      go_wp2_with fail
      go_ret
      subst hN
      exact ⟨rfl, HEND.out⟩
end Go.Proofs.YtlgadelcgboeoaaDoor
