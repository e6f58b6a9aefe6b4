/- point.Text and the document's own PointText. -/
import Derived.Test.YtlgadelcgboeoaaDoorTDec
namespace Go.Proofs.YtlgadelcgboeoaaDoor
open Go.ChangeShapes Go.WideShapes Go.ChangeAt Go.RowKit

theorem str_app (a b : List (BitVec 8)) : str a ++ str b = str (a ++ b) := by
  apply ext_data
  unfold str
  simp

set_option maxRecDepth 100000 in
set_option maxHeartbeats 4000000 in
theorem text_some (p : Pt) (w : World) (hp : p.ok) :
    Calls Tryd.prog 22 #[.agg p.cs.toArray] w fun e w' => e = .returned (.string (str (txt p))) ∧ Below w.heap.size w w' := by
  have HMO := follows_mixed
  obtain ⟨m, hm, hm1⟩ : ∃ m : Nat, p.n = m ∧ m < 100 := ⟨p.n.toNat, by have := hp.1; omega, by have := hp.1; have := hp.2; omega⟩
  have HT : Hid (txt p = hexT p.tx ++ [58] ++ dec2 m) := by show _ = _; rw [txt_ok hp, hm]; simp
  go_enter Tryd.func22, Tryd.ntmps22
  go_upto_region 1 with fail
  generalize hw1 : World.alloc w _ = w1
  have hA1 : Blk w1 w.heap.size p.cs := by rw [← hw1]; exact Blk.new _ _ _
  have hb1 : Below w.heap.size w w1 := by rw [← hw1]; exact (Below.refl _ _).alloc (Nat.le_refl _) _
  have hs1 : w.heap.size + 1 ≤ w1.heap.size := by rw [← hw1]; simp
  clear hw1
  generalize hN : w.heap.size = N at *
  have HX : Hid (w1.rangeAt N 0 (u8s p.tx)) := hA1.tx
  have ca := hA1.cell 32
  rw [Pt.cell_n, hm] at ca
  have HS : Hid (∀ w', Below w1.heap.size w1 w' → w'.rangeAt N 0 (u8s p.tx) ∧ w'.cell? ⟨N, 32, none⟩ = some (.int .i64 m)) := fun w' hw' => ⟨rangeAt_below HX.out hw' (Nat.le_refl _), by rw [hw'.cell (p := ⟨N, 32, none⟩) (show N < w1.heap.size by omega)]; exact ca⟩
  have HB : Hid (Below N w w1 ∧ N ≤ w1.heap.size) := ⟨hb1, by omega⟩
  clear hA1 hb1 hs1 hp HX
  have HPL : Hid (p.tx.length = 32) := p.len
  generalize p.tx = tx at *
  have u24 := Tryd.underlying24
  have i24 : (Tryd.prog.info? 24).map (·.size) = some (u8s tx).length := by rw [u8s_length, HPL.out]; kernel_rfl
  have m0 : (0 : Int) ≤ (m : Int) := by omega
  have m1 : (m : Int) < 100 := by omega
  have z1 : (str (hexT tx)).size = 64 := by rw [str_size, hexT_length, HPL.out]
  obtain ⟨s2, hs2⟩ : ∃ s, s = str (hexT tx ++ [58]) := ⟨_, rfl⟩
  obtain ⟨s3, hs3⟩ : ∃ s, s = str (dec2 m) := ⟨_, rfl⟩
  obtain ⟨s4, hs4⟩ : ∃ s, s = str (txt p) := ⟨_, rfl⟩
  have z2 : s2.size = 65 := by rw [hs2, str_size, List.length_append, hexT_length, HPL.out]; rfl
  have z3 : s3.size ≤ 2 := by rw [hs3, str_size]; unfold dec2; split <;> simp
  have z4 : str (hexT tx) ++ (⟨#[58]⟩ : ByteArray) = s2 := by rw [hs2]; exact str_app (hexT tx) [58]
  have z5 : s2 ++ s3 = s4 := by rw [hs2, hs3, hs4, HT.out]; exact str_app _ _
  have H3 : Hid (s3 = str (dec2 m)) := hs3
  have H4 : Hid (s4 = str (txt p)) := hs4
  clear hs2 hs3 hs4
  go_wp2_with fail
  refine wp_region_noPanic ?_
  refine wp_region_held_drew (S := fun w' => Below w1.heap.size w1 w') HMO.out ((Below.refl _ _).drew) (fun hHeld => ?_)
  refine wpAnyH_take (i := 0) (oi := { dst := some 11, op := .fieldAddr 26 (.tmp 1) 0, type := 0, pos := "point.go:65", after := #[], guard := none }) (v := ?_) rfl (by kernel_rfl) (by kernel_rfl) (by kernel_rfl) (fun _ _ _ h => h) (Or.inl ⟨by rfl, ?_⟩) (by assumption) ?_
  rotate_left
  · intro _ _; go_simp; first | done | with_reducible rfl
  simp only [Act.put, List.setIfInBounds_toArray, List.set_cons_zero, List.set_cons_succ]
  refine wpAnyH_take (i := 1) (oi := { dst := some 12, op := .load 24 (.tmp 11), type := 24, pos := "point.go:65", after := #[{ on := 0, ground := .data }], guard := none }) (v := _) rfl (by kernel_rfl) (by kernel_rfl) (by kernel_rfl) (fun _ _ _ h => h) (yieldsIf_load_mid (by rfl) _ _ rfl (N) (0) rfl (u8s tx) _ (fun _ h => (HS.out _ h).1) (u24) rfl (i24)) (by assumption) ?_
  simp only [Act.put, List.setIfInBounds_toArray, List.set_cons_zero, List.set_cons_succ]
  refine wpAnyH_take (i := 4) (oi := { dst := some 15, op := .fieldAddr 26 (.tmp 1) 1, type := 0, pos := "point.go:65", after := #[], guard := none }) (v := ?_) rfl (by kernel_rfl) (by kernel_rfl) (by kernel_rfl) (fun _ _ _ h => h) (Or.inl ⟨by rfl, ?_⟩) (by assumption) ?_
  rotate_left
  · intro _ _; go_simp; first | done | with_reducible rfl
  simp only [Act.put, List.setIfInBounds_toArray, List.set_cons_zero, List.set_cons_succ]
  refine wpAnyH_take (i := 5) (oi := { dst := some 16, op := .load 3 (.tmp 15), type := 3, pos := "point.go:65", after := #[{ on := 4, ground := .data }], guard := none }) (v := .int .i64 m) rfl (by kernel_rfl) (by kernel_rfl) (by kernel_rfl) (fun _ _ _ h => h) (Or.inl ⟨by rfl, ?_⟩) (by assumption) ?_
  · intro _ _; rename_i wz hz; have cz := (HS.out wz hz).2; go_simp
  simp only [Act.put, List.setIfInBounds_toArray, List.set_cons_zero, List.set_cons_succ]
  refine wpAnyH_ready (rs := [2]) (by kernel_rfl) (by simp) ?_
  refine AllReadyH.cons (o := { dst := some 13, op := .call { callee := .value (.func 34), args := #[.tmp 12], argTypes := #[24] }, type := 9, pos := "point.go:65", after := #[{ on := 1, ground := .data }], guard := none }) rfl (fun K hK => ?_) AllReadyH.nil
  go_simp
  refine (shatext_any tx _ HPL.out).mono ?_; rintro e w2 ⟨rfl, hb2⟩; have h2 : Below w1.heap.size w1 w2 := undrewn hb2
  go_simp
  refine hK.out _ _ (h2) (fun hHeld => ?_)
  clear hK K
  refine wpAnyH_take (i := 3) (oi := { dst := some 14, op := .binOp Go.BinOp.add 9 (.tmp 13) (.const (.string { data := #[58] })) 9, type := 9, pos := "point.go:65", after := #[{ on := 2, ground := .data }], guard := none }) (v := .string s2) rfl (by kernel_rfl) (by kernel_rfl) (by kernel_rfl) (fun _ _ _ h => h) (Or.inl ⟨by rfl, ?_⟩) (by assumption) ?_
  · intro _ _; go_simp
  simp only [Act.put, List.setIfInBounds_toArray, List.set_cons_zero, List.set_cons_succ]
  refine wpAnyH_ready (rs := [6]) (by kernel_rfl) (by simp) ?_
  refine AllReadyH.cons (o := { dst := some 17, op := .call { callee := .value (.func 35), args := #[.tmp 16], argTypes := #[3] }, type := 9, pos := "point.go:65", after := #[{ on := 5, ground := .data }, { on := 2, ground := .chain }], guard := none }) rfl (fun K hK => ?_) AllReadyH.nil
  go_simp
  refine (itoa_small m hm1 _).mono ?_; rw [← H3.out]; rintro e w3 ⟨rfl, rfl⟩
  go_simp
  refine hK.out _ _ (h2) (fun hHeld => ?_)
  clear hK K
  refine wpAnyH_take (i := 7) (oi := { dst := some 18, op := .binOp Go.BinOp.add 9 (.tmp 14) (.tmp 17) 9, type := 9, pos := "point.go:65", after := #[{ on := 3, ground := .data }, { on := 6, ground := .data }], guard := none }) (v := .string s4) rfl (by kernel_rfl) (by kernel_rfl) (by kernel_rfl) (fun _ _ _ h => h) (Or.inl ⟨by rfl, ?_⟩) (by assumption) ?_
  · intro _ _; go_simp; omega
  simp only [Act.put, List.setIfInBounds_toArray, List.set_cons_zero, List.set_cons_succ]
  refine wpAnyH_take (i := 8) (oi := { dst := some 2, op := .assign (.tmp 18), type := 9, pos := "point.go:65", after := #[{ on := 7, ground := .data }, { on := 6, ground := .chain }, { on := 0, ground := .phase }, { on := 1, ground := .phase }, { on := 2, ground := .phase }, { on := 3, ground := .phase }, { on := 4, ground := .phase }, { on := 5, ground := .phase }, { on := 6, ground := .phase }, { on := 7, ground := .phase }], guard := none }) (v := ?_) rfl (by kernel_rfl) (by kernel_rfl) (by kernel_rfl) (fun _ _ _ h => h) (Or.inl ⟨by rfl, ?_⟩) (by assumption) ?_
  rotate_left
  · intro _ _; go_simp; first | done | with_reducible rfl
  simp only [Act.put, List.setIfInBounds_toArray, List.set_cons_zero, List.set_cons_succ]
  refine wpAnyH_done (by kernel_rfl) ?_ _
  refine NoPanic.normal ?_
  have HEND : Hid (Below N w _) := HB.out.1.trans (hHeld.mono HB.out.2)
  clear hHeld z1 z2 z3 z4 z5 i24 u24
  go_wp2_with fail
  go_ret
  subst hN
  rw [← H4.out]
  exact ⟨rfl, HEND.out⟩

set_option maxRecDepth 100000 in
set_option maxHeartbeats 4000000 in
theorem reftext_some (p : Pt) (w : World) (hp : p.ok) :
    Calls Tryd.prog 23 #[.agg p.cs.toArray] w fun e w' => e = .returned (.string (str (txt p))) ∧ Below w.heap.size w w' := by
  have HMO := follows_mixed
  obtain ⟨m, hm, hm1⟩ : ∃ m : Nat, p.n = m ∧ m < 100 := ⟨p.n.toNat, by have := hp.1; omega, by have := hp.1; have := hp.2; omega⟩
  have HT : Hid (txt p = hexT p.tx ++ [58] ++ dec2 m) := by show _ = _; rw [txt_ok hp, hm]; simp
  go_enter Tryd.func23, Tryd.ntmps23
  go_upto_region 1 with fail
  generalize hw1 : World.alloc w _ = w1
  have hA1 : Blk w1 w.heap.size p.cs := by rw [← hw1]; exact Blk.new _ _ _
  have hb1 : Below w.heap.size w w1 := by rw [← hw1]; exact (Below.refl _ _).alloc (Nat.le_refl _) _
  have hs1 : w.heap.size + 1 ≤ w1.heap.size := by rw [← hw1]; simp
  clear hw1
  generalize hN : w.heap.size = N at *
  have HX : Hid (w1.rangeAt N 0 (u8s p.tx)) := hA1.tx
  have ca := hA1.cell 32
  rw [Pt.cell_n, hm] at ca
  have HS : Hid (∀ w', Below w1.heap.size w1 w' → w'.rangeAt N 0 (u8s p.tx) ∧ w'.cell? ⟨N, 32, none⟩ = some (.int .i64 m)) := fun w' hw' => ⟨rangeAt_below HX.out hw' (Nat.le_refl _), by rw [hw'.cell (p := ⟨N, 32, none⟩) (show N < w1.heap.size by omega)]; exact ca⟩
  have HB : Hid (Below N w w1 ∧ N ≤ w1.heap.size) := ⟨hb1, by omega⟩
  clear hA1 hb1 hs1 hp HX
  have HPL : Hid (p.tx.length = 32) := p.len
  generalize p.tx = tx at *
  have u24 := Tryd.underlying24
  have i24 : (Tryd.prog.info? 24).map (·.size) = some (u8s tx).length := by rw [u8s_length, HPL.out]; kernel_rfl
  have m0 : (0 : Int) ≤ (m : Int) := by omega
  have m1 : (m : Int) < 100 := by omega
  have z1 : (str (hexT tx)).size = 64 := by rw [str_size, hexT_length, HPL.out]
  obtain ⟨s2, hs2⟩ : ∃ s, s = str (hexT tx ++ [58]) := ⟨_, rfl⟩
  obtain ⟨s3, hs3⟩ : ∃ s, s = str (dec2 m) := ⟨_, rfl⟩
  obtain ⟨s4, hs4⟩ : ∃ s, s = str (txt p) := ⟨_, rfl⟩
  have z2 : s2.size = 65 := by rw [hs2, str_size, List.length_append, hexT_length, HPL.out]; rfl
  have z3 : s3.size ≤ 2 := by rw [hs3, str_size]; unfold dec2; split <;> simp
  have z4 : str (hexT tx) ++ (⟨#[58]⟩ : ByteArray) = s2 := by rw [hs2]; exact str_app (hexT tx) [58]
  have z5 : s2 ++ s3 = s4 := by rw [hs2, hs3, hs4, HT.out]; exact str_app _ _
  have H3 : Hid (s3 = str (dec2 m)) := hs3
  have H4 : Hid (s4 = str (txt p)) := hs4
  clear hs2 hs3 hs4
  go_wp2_with fail
  refine wp_region_noPanic ?_
  refine wp_region_held_drew (S := fun w' => Below w1.heap.size w1 w') HMO.out ((Below.refl _ _).drew) (fun hHeld => ?_)
  refine wpAnyH_take (i := 0) (oi := { dst := some 11, op := .fieldAddr 26 (.tmp 1) 0, type := 0, pos := "forms.go:346", after := #[], guard := none }) (v := ?_) rfl (by kernel_rfl) (by kernel_rfl) (by kernel_rfl) (fun _ _ _ h => h) (Or.inl ⟨by rfl, ?_⟩) (by assumption) ?_
  rotate_left
  · intro _ _; go_simp; first | done | with_reducible rfl
  simp only [Act.put, List.setIfInBounds_toArray, List.set_cons_zero, List.set_cons_succ]
  refine wpAnyH_take (i := 1) (oi := { dst := some 12, op := .load 24 (.tmp 11), type := 24, pos := "forms.go:346", after := #[{ on := 0, ground := .data }], guard := none }) (v := _) rfl (by kernel_rfl) (by kernel_rfl) (by kernel_rfl) (fun _ _ _ h => h) (yieldsIf_load_mid (by rfl) _ _ rfl (N) (0) rfl (u8s tx) _ (fun _ h => (HS.out _ h).1) (u24) rfl (i24)) (by assumption) ?_
  simp only [Act.put, List.setIfInBounds_toArray, List.set_cons_zero, List.set_cons_succ]
  refine wpAnyH_take (i := 4) (oi := { dst := some 15, op := .fieldAddr 26 (.tmp 1) 1, type := 0, pos := "forms.go:346", after := #[], guard := none }) (v := ?_) rfl (by kernel_rfl) (by kernel_rfl) (by kernel_rfl) (fun _ _ _ h => h) (Or.inl ⟨by rfl, ?_⟩) (by assumption) ?_
  rotate_left
  · intro _ _; go_simp; first | done | with_reducible rfl
  simp only [Act.put, List.setIfInBounds_toArray, List.set_cons_zero, List.set_cons_succ]
  refine wpAnyH_take (i := 5) (oi := { dst := some 16, op := .load 3 (.tmp 15), type := 3, pos := "forms.go:346", after := #[{ on := 4, ground := .data }], guard := none }) (v := .int .i64 m) rfl (by kernel_rfl) (by kernel_rfl) (by kernel_rfl) (fun _ _ _ h => h) (Or.inl ⟨by rfl, ?_⟩) (by assumption) ?_
  · intro _ _; rename_i wz hz; have cz := (HS.out wz hz).2; go_simp
  simp only [Act.put, List.setIfInBounds_toArray, List.set_cons_zero, List.set_cons_succ]
  refine wpAnyH_ready (rs := [2]) (by kernel_rfl) (by simp) ?_
  refine AllReadyH.cons (o := { dst := some 13, op := .call { callee := .value (.func 36), args := #[.tmp 12], argTypes := #[24] }, type := 9, pos := "forms.go:346", after := #[{ on := 1, ground := .data }], guard := none }) rfl (fun K hK => ?_) AllReadyH.nil
  go_simp
  refine (reftext_any tx _ HPL.out).mono ?_; rintro e w2 ⟨rfl, hb2⟩; have h2 : Below w1.heap.size w1 w2 := undrewn hb2
  go_simp
  refine hK.out _ _ (h2) (fun hHeld => ?_)
  clear hK K
  refine wpAnyH_take (i := 3) (oi := { dst := some 14, op := .binOp Go.BinOp.add 9 (.tmp 13) (.const (.string { data := #[58] })) 9, type := 9, pos := "forms.go:346", after := #[{ on := 2, ground := .data }], guard := none }) (v := .string s2) rfl (by kernel_rfl) (by kernel_rfl) (by kernel_rfl) (fun _ _ _ h => h) (Or.inl ⟨by rfl, ?_⟩) (by assumption) ?_
  · intro _ _; go_simp
  simp only [Act.put, List.setIfInBounds_toArray, List.set_cons_zero, List.set_cons_succ]
  refine wpAnyH_ready (rs := [6]) (by kernel_rfl) (by simp) ?_
  refine AllReadyH.cons (o := { dst := some 17, op := .call { callee := .value (.func 37), args := #[.tmp 16], argTypes := #[3] }, type := 9, pos := "forms.go:346", after := #[{ on := 5, ground := .data }, { on := 2, ground := .chain }], guard := none }) rfl (fun K hK => ?_) AllReadyH.nil
  go_simp
  refine (refdec_any m hm1 _).mono ?_; rw [← H3.out]; rintro e w3 ⟨rfl, hb3⟩
  go_simp
  refine hK.out _ _ (h2.trans (hb3.mono h2.size)) (fun hHeld => ?_)
  clear hK K
  refine wpAnyH_take (i := 7) (oi := { dst := some 18, op := .binOp Go.BinOp.add 9 (.tmp 14) (.tmp 17) 9, type := 9, pos := "forms.go:346", after := #[{ on := 3, ground := .data }, { on := 6, ground := .data }], guard := none }) (v := .string s4) rfl (by kernel_rfl) (by kernel_rfl) (by kernel_rfl) (fun _ _ _ h => h) (Or.inl ⟨by rfl, ?_⟩) (by assumption) ?_
  · intro _ _; go_simp; omega
  simp only [Act.put, List.setIfInBounds_toArray, List.set_cons_zero, List.set_cons_succ]
  refine wpAnyH_take (i := 8) (oi := { dst := some 2, op := .assign (.tmp 18), type := 9, pos := "forms.go:346", after := #[{ on := 7, ground := .data }, { on := 6, ground := .chain }, { on := 0, ground := .phase }, { on := 1, ground := .phase }, { on := 2, ground := .phase }, { on := 3, ground := .phase }, { on := 4, ground := .phase }, { on := 5, ground := .phase }, { on := 6, ground := .phase }, { on := 7, ground := .phase }], guard := none }) (v := ?_) rfl (by kernel_rfl) (by kernel_rfl) (by kernel_rfl) (fun _ _ _ h => h) (Or.inl ⟨by rfl, ?_⟩) (by assumption) ?_
  rotate_left
  · intro _ _; go_simp; first | done | with_reducible rfl
  simp only [Act.put, List.setIfInBounds_toArray, List.set_cons_zero, List.set_cons_succ]
  refine wpAnyH_done (by kernel_rfl) ?_ _
  refine NoPanic.normal ?_
  have HEND : Hid (Below N w _) := HB.out.1.trans (hHeld.mono HB.out.2)
  clear hHeld z1 z2 z3 z4 z5 i24 u24
  go_wp2_with fail
  go_ret
  subst hN
  rw [← H4.out]
  exact ⟨rfl, HEND.out⟩

set_option maxRecDepth 100000 in
set_option maxHeartbeats 4000000 in
theorem reftext_none (p : Pt) (w : World) (hp : p.n < 0 ∨ 99 < p.n) :
    Calls Tryd.prog 23 #[.agg p.cs.toArray] w fun e w' => e = .returned (.string ByteArray.empty) ∧ Below w.heap.size w w' := by
  go_enter Tryd.func23, Tryd.ntmps23
  go_upto_region 1 with fail
  generalize hw1 : World.alloc w _ = w1
  have hA1 : Blk w1 w.heap.size p.cs := by rw [← hw1]; exact Blk.new _ _ _
  have hb1 : Below w.heap.size w w1 := by rw [← hw1]; exact (Below.refl _ _).alloc (Nat.le_refl _) _
  clear hw1
  have ca := hA1.cell 32
  rw [Pt.cell_n] at ca
  have HB : Hid (Below w.heap.size w w1) := hb1
  clear hA1 hb1
  generalize hN : w.heap.size = N at *
  generalize p.n = z at *
  by_cases hz : z < 0
  · go_wp2_with fail
    go_ret
    subst hN
    exact ⟨rfl, HB.out⟩
  · have h1 : (99 : Int) < z := by omega
    have h2 : decide (z < 0) = false := decide_eq_false hz
    go_wp2_with fail
    go_ret
    subst hN
    exact ⟨rfl, HB.out⟩
theorem not_ok {p : Pt} (h : ¬ p.ok) : p.n < 0 ∨ 99 < p.n := by unfold Pt.ok at h; omega
theorem ptext_any (p : Pt) (w : World) :
    Calls Tryd.prog 22 #[.agg p.cs.toArray] w fun e w' => e = .returned (.string (str (txt p))) ∧ Below w.heap.size w w' := by
  by_cases h : p.ok
  · exact text_some p w h
  · rw [txt_bad h]; exact text_none p w (not_ok h)
theorem refptext_any (p : Pt) (w : World) :
    Calls Tryd.prog 23 #[.agg p.cs.toArray] w fun e w' => e = .returned (.string (str (txt p))) ∧ Below w.heap.size w w' := by
  by_cases h : p.ok
  · exact reftext_some p w h
  · rw [txt_bad h]; exact reftext_none p w (not_ok h)
end Go.Proofs.YtlgadelcgboeoaaDoor
