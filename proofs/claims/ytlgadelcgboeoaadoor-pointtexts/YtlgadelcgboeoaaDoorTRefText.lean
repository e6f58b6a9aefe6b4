/- The document's own Text. -/
import Derived.Test.YtlgadelcgboeoaaDoorTBytes
namespace Go.Proofs.YtlgadelcgboeoaaDoor
open Go.ChangeShapes Go.WideShapes Go.ChangeAt Go.RowKit

set_option maxRecDepth 100000 in
set_option maxHeartbeats 4000000 in
theorem reftext_any (h : List (BitVec 8)) (w : World) (hl : h.length = 32) :
    Calls Tryd.prog 36 #[.agg (u8s h).toArray] w fun e w' => e = .returned (.string (str (hexT h))) ∧ Below w.heap.size w w' := by
  have HMO := follows_mixed
  go_enter Tryd.func36, Tryd.ntmps36
  go_hide hQ
  go_upto_region 2 with fail
  generalize hw1 : World.alloc w _ = w1
  have hR1 : Blk w1 w.heap.size (u8s h) := by rw [← hw1]; exact Blk.mk _ _ _ rfl rfl
  have hb1 : Below w.heap.size w w1 := by rw [← hw1]; exact (Below.refl _ _).alloc (Nat.le_refl _) _
  have hs1 : w.heap.size + 1 ≤ w1.heap.size := by rw [← hw1]; simp
  clear hw1
  generalize hN : w.heap.size = N at *
  have H1 : Hid (Blk w1 N (u8s h) ∧ Below N w w1 ∧ N + 1 ≤ w1.heap.size) := ⟨hR1, hb1, hs1⟩
  have HL : Hid (h.length = 32) := hl
  clear hR1 hb1 hl hs1
  go_wp2_with fail
  go_loopw [3, 4] (fun v i wr => ∃ (k : Nat), k ≤ 32 ∧ i = .int .i64 (31 - k) ∧ Hid (Blk wr N (u8s h)) ∧ Hid (OwnB wr (N + 1) v ((h.reverse.take k).flatMap pair)) ∧ Hid (Below N w wr ∧ N + 1 ≤ wr.heap.size)) (fun _ i _ => (intOf i + 1).toNat)
  case atStart => exact ⟨0, by omega, rfl, H1.out.1, World.ownsRow_nil _ _ _ _, H1.out.2⟩
  case round =>
    obtain ⟨k, hk, rfl, HR, HO, HB⟩ := hrel
    clear H1
    by_cases hlt : k < 32
    · have e0 : (0 : Int) ≤ (k : Int) := by omega
      have e1 : (k : Int) < 32 := by omega
      have f2 : (0 : Int) ≤ 31 - (k : Int) := by omega
      have f3 : (31 : Int) - (k : Int) < 32 := by omega
      have f4 : (31 - (k : Int)).toNat = 31 - k := by omega
      have f5 : (k : Int) ≤ 31 := by omega
      have ck := HR.out.drew.cell (31 - k)
      rw [u8s_get _ (31 - k) (by rw [HL.out]; omega)] at ck
      obtain ⟨b, hb⟩ : ∃ x, x = h.getD (31 - k) 0 := ⟨_, rfl⟩
      rw [← hb] at ck
      have HB1 : Hid (b = h.getD (31 - k) 0) := hb
      clear hb
      have b1 := Y_lo b
      have b2 := Y_hi b
      obtain ⟨q1, hq1⟩ : ∃ q : Nat, Y b / 16 = q := ⟨(Y b / 16).toNat, by omega⟩
      have hq2 : q1 < 16 := by omega
      obtain ⟨r1, hr1⟩ : ∃ q : Nat, bits .and .u8 (Y b) 15 = q := ⟨_, and_15 b⟩
      have hr2 : r1 < 16 := by rw [and_15] at hr1; have := and_lt b; omega
      have hq3 : (q1 : Int) < 16 := by omega
      have hr3 : (r1 : Int) < 16 := by omega
      go_wp2_with fail
      have HS : Hid (∀ w', Below (N + 1) wr w' → w'.cell? ⟨N, 31 - k, none⟩ = some (.int .u8 (Y b))) := fun w' hw' => by rw [hw'.cell (p := ⟨N, 31 - k, none⟩) (Nat.lt_succ_self N)]; exact ck
      have hl2 : ((h.reverse.take k).flatMap pair).length ≤ 64 := by rw [pairs_length, List.length_take]; omega
      obtain ⟨x1, hx1⟩ : ∃ x, x = hx (b >>> 4) := ⟨_, rfl⟩
      obtain ⟨x2, hx2⟩ : ∃ x, x = hx (b &&& 15) := ⟨_, rfl⟩
      have hd1 : (((⟨#[48, 49, 50, 51, 52, 53, 54, 55, 56, 57, 97, 98, 99, 100, 101, 102]⟩ : ByteArray)[q1]'hq2).toNat : Int) = Y x1 := by rw [dig_at, shr_of hq1, hx1]
      have hd2 : (((⟨#[48, 49, 50, 51, 52, 53, 54, 55, 56, 57, 97, 98, 99, 100, 101, 102]⟩ : ByteArray)[r1]'hr2).toNat : Int) = Y x2 := by rw [dig_at, and_of hr1, hx2]
      have HXX : Hid (x1 = hx (b >>> 4) ∧ x2 = hx (b &&& 15)) := ⟨hx1, hx2⟩
      have HLIT : Hid (OwnB (wr.alloc (.cells #[.int .u8 (Y x1), .int .u8 (Y x2)] 5)).drew wr.heap.size (.slice (some ⟨wr.heap.size, 0, none⟩) 2 2) [x1, x2] ∧ OwnB (wr.alloc (.cells #[.int .u8 (Y x1), .int .u8 (Y x2)] 5)).drew (N + 1) u3 ((h.reverse.take k).flatMap pair) ∧ N + 1 ≤ (wr.alloc (.cells #[.int .u8 (Y x1), .int .u8 (Y x2)] 5)).drew.heap.size) := ⟨OwnB.lit wr [x1, x2] (by simp), HO.out.below ((Below.refl _ wr).alloc (Nat.le_refl _) _).drew, by have := HB.out.2; show _ ≤ (wr.alloc _).heap.size; simp; omega⟩
      clear hx1 hx2 ck
      refine wp_region_noPanic ?_
      refine wp_region_held_drew (S := fun w' => Below (N + 1) wr w') HMO.out ((Below.refl _ _).drew) (fun hHeld => ?_)
      refine wpAnyH_take (i := 0) (oi := { dst := some 9, op := .move (.tmp 3), type := 62, pos := "forms.go:183", after := #[], guard := none }) (v := ?_) rfl (by kernel_rfl) (by kernel_rfl) (by kernel_rfl) (fun _ _ _ h => h) (Or.inl ⟨by rfl, ?_⟩) (by assumption) ?_
      rotate_left
      · intro _ _; go_simp; first | done | with_reducible rfl
      simp only [Act.put, List.setIfInBounds_toArray, List.set_cons_zero, List.set_cons_succ]
      refine wpAnyH_take (i := 1) (oi := { dst := some 10, op := .move (.tmp 4), type := 3, pos := "forms.go:183", after := #[], guard := none }) (v := ?_) rfl (by kernel_rfl) (by kernel_rfl) (by kernel_rfl) (fun _ _ _ h => h) (Or.inl ⟨by rfl, ?_⟩) (by assumption) ?_
      rotate_left
      · intro _ _; go_simp; first | done | with_reducible rfl
      simp only [Act.put, List.setIfInBounds_toArray, List.set_cons_zero, List.set_cons_succ]
      refine wpAnyH_take (i := 2) (oi := { dst := some 11, op := .indexAddr 24 (.tmp 1) (.tmp 10), type := 0, pos := "forms.go:183", after := #[{ on := 1, ground := .data }], guard := none }) (v := ?_) rfl (by kernel_rfl) (by kernel_rfl) (by kernel_rfl) (fun _ _ _ h => h) (Or.inl ⟨by rfl, ?_⟩) (by assumption) ?_
      rotate_left
      · intro _ _; go_simp; first | done | with_reducible rfl
      simp only [Act.put, List.setIfInBounds_toArray, List.set_cons_zero, List.set_cons_succ]
      refine wpAnyH_take (i := 3) (oi := { dst := some 12, op := .load 5 (.tmp 11), type := 5, pos := "forms.go:183", after := #[{ on := 2, ground := .data }], guard := none }) (v := .int .u8 (Y b)) rfl (by kernel_rfl) (by kernel_rfl) (by kernel_rfl) (fun _ _ _ h => h) (Or.inl ⟨by rfl, ?_⟩) (by assumption) ?_
      · intro _ _; rename_i wz hz; have cz := HS.out wz hz; go_simp
      simp only [Act.put, List.setIfInBounds_toArray, List.set_cons_zero, List.set_cons_succ]
      refine wpAnyH_take (i := 4) (oi := { dst := some 13, op := .binOp Go.BinOp.shr 5 (.tmp 12) (.const (.int .u64 4)) 59, type := 5, pos := "forms.go:183", after := #[{ on := 3, ground := .data }], guard := none }) (v := ?_) rfl (by kernel_rfl) (by kernel_rfl) (by kernel_rfl) (fun _ _ _ h => h) (Or.inl ⟨by rfl, ?_⟩) (by assumption) ?_
      rotate_left
      · intro _ _; go_simp; first | done | with_reducible rfl
      simp only [Act.put, List.setIfInBounds_toArray, List.set_cons_zero, List.set_cons_succ]
      refine wpAnyH_take (i := 5) (oi := { dst := some 14, op := .index 9 (.const (.string { data := #[48, 49, 50, 51, 52, 53, 54, 55, 56, 57, 97, 98, 99, 100, 101, 102] })) (.tmp 13), type := 5, pos := "forms.go:183", after := #[{ on := 4, ground := .data }], guard := none }) (v := ?_) rfl (by kernel_rfl) (by kernel_rfl) (by kernel_rfl) (fun _ _ _ h => h) (Or.inl ⟨by rfl, ?_⟩) (by assumption) ?_
      rotate_left
      · intro _ _; go_simp; first | done | with_reducible rfl
      simp only [Act.put, List.setIfInBounds_toArray, List.set_cons_zero, List.set_cons_succ]
      refine wpAnyH_take (i := 6) (oi := { dst := some 15, op := .move (.tmp 4), type := 3, pos := "forms.go:183", after := #[], guard := none }) (v := ?_) rfl (by kernel_rfl) (by kernel_rfl) (by kernel_rfl) (fun _ _ _ h => h) (Or.inl ⟨by rfl, ?_⟩) (by assumption) ?_
      rotate_left
      · intro _ _; go_simp; first | done | with_reducible rfl
      simp only [Act.put, List.setIfInBounds_toArray, List.set_cons_zero, List.set_cons_succ]
      refine wpAnyH_take (i := 7) (oi := { dst := some 16, op := .indexAddr 24 (.tmp 1) (.tmp 15), type := 0, pos := "forms.go:183", after := #[{ on := 6, ground := .data }], guard := none }) (v := ?_) rfl (by kernel_rfl) (by kernel_rfl) (by kernel_rfl) (fun _ _ _ h => h) (Or.inl ⟨by rfl, ?_⟩) (by assumption) ?_
      rotate_left
      · intro _ _; go_simp; first | done | with_reducible rfl
      simp only [Act.put, List.setIfInBounds_toArray, List.set_cons_zero, List.set_cons_succ]
      refine wpAnyH_take (i := 8) (oi := { dst := some 17, op := .load 5 (.tmp 16), type := 5, pos := "forms.go:183", after := #[{ on := 7, ground := .data }], guard := none }) (v := .int .u8 (Y b)) rfl (by kernel_rfl) (by kernel_rfl) (by kernel_rfl) (fun _ _ _ h => h) (Or.inl ⟨by rfl, ?_⟩) (by assumption) ?_
      · intro _ _; rename_i wz hz; have cz := HS.out wz hz; go_simp
      simp only [Act.put, List.setIfInBounds_toArray, List.set_cons_zero, List.set_cons_succ]
      refine wpAnyH_take (i := 9) (oi := { dst := some 18, op := .binOp Go.BinOp.and 5 (.tmp 17) (.const (.int .u8 15)) 5, type := 5, pos := "forms.go:183", after := #[{ on := 8, ground := .data }], guard := none }) (v := ?_) rfl (by kernel_rfl) (by kernel_rfl) (by kernel_rfl) (fun _ _ _ h => h) (Or.inl ⟨by rfl, ?_⟩) (by assumption) ?_
      rotate_left
      · intro _ _; go_simp; first | done | with_reducible rfl
      simp only [Act.put, List.setIfInBounds_toArray, List.set_cons_zero, List.set_cons_succ]
      refine wpAnyH_take (i := 10) (oi := { dst := some 19, op := .index 9 (.const (.string { data := #[48, 49, 50, 51, 52, 53, 54, 55, 56, 57, 97, 98, 99, 100, 101, 102] })) (.tmp 18), type := 5, pos := "forms.go:183", after := #[{ on := 9, ground := .data }], guard := none }) (v := ?_) rfl (by kernel_rfl) (by kernel_rfl) (by kernel_rfl) (fun _ _ _ h => h) (Or.inl ⟨by rfl, ?_⟩) (by assumption) ?_
      rotate_left
      · intro _ _; go_simp; first | done | with_reducible rfl
      simp only [Act.put, List.setIfInBounds_toArray, List.set_cons_zero, List.set_cons_succ]
      refine wpAnyH_ready (rs := [11]) (by kernel_rfl) (by simp) ?_
      refine AllReadyH.cons (o := { dst := some 20, op := .buildSlice 62 2 #[(0, .tmp 14), (1, .tmp 19)], type := 62, pos := "forms.go:183", after := #[{ on := 5, ground := .data }, { on := 10, ground := .data }], guard := none }) rfl (fun K hK => ?_) AllReadyH.nil
      go_simp
      refine hK.out _ _ ((((Below.refl _ wr).alloc HB.out.2 _).drew)) (fun hHeld => ?_)
      clear hK K
      refine wpAnyH_ready (rs := [12]) (by kernel_rfl) (by simp) ?_
      refine AllReadyH.cons (o := { dst := some 21, op := .call { callee := .builtin Go.Builtin.append, args := #[.tmp 9, .tmp 20], argTypes := #[62, 62] }, type := 62, pos := "forms.go:183", after := #[{ on := 0, ground := .data }, { on := 11, ground := .data }], guard := none }) rfl (fun K hK => ?_) AllReadyH.nil
      refine step_append_b rfl _ _ rfl (N + 1) u3 _ rfl HLIT.out.2.1 _ [x1, x2] rfl HLIT.out.1.src (by show _ + 2 ≤ _; omega) HLIT.out.2.2 ?_; intro v2 w2 HO2 HG2
      simp only [Act.put, List.setIfInBounds_toArray, List.set_cons_zero, List.set_cons_succ]
      refine hK.out _ _ (hHeld.trans (HLIT.out.2.1.grown HG2.out HLIT.out.2.2)) (fun hHeld => ?_)
      clear hK K
      refine wpAnyH_take (i := 13) (oi := { dst := some 3, op := .assign (.tmp 21), type := 62, pos := "forms.go:183", after := #[{ on := 12, ground := .data }, { on := 12, ground := .chain }, { on := 0, ground := .phase }, { on := 1, ground := .phase }, { on := 2, ground := .phase }, { on := 3, ground := .phase }, { on := 4, ground := .phase }, { on := 5, ground := .phase }, { on := 6, ground := .phase }, { on := 7, ground := .phase }, { on := 8, ground := .phase }, { on := 9, ground := .phase }, { on := 10, ground := .phase }, { on := 11, ground := .phase }, { on := 12, ground := .phase }], guard := none }) (v := ?_) rfl (by kernel_rfl) (by kernel_rfl) (by kernel_rfl) (fun _ _ _ h => h) (Or.inl ⟨by rfl, ?_⟩) (by assumption) ?_
      rotate_left
      · intro _ _; go_simp; first | done | with_reducible rfl
      simp only [Act.put, List.setIfInBounds_toArray, List.set_cons_zero, List.set_cons_succ]
      refine wpAnyH_done (by kernel_rfl) ?_ _
      refine NoPanic.normal ?_
      have HEND : Hid (Blk w2 N (u8s h) ∧ OwnB w2 (N + 1) v2 ((h.reverse.take (k + 1)).flatMap pair) ∧ Below N w w2 ∧ N + 1 ≤ w2.heap.size) := by
        refine ⟨HR.out.below hHeld (Nat.lt_succ_self N), ?_, HB.out.1.trans (hHeld.mono (Nat.le_succ N)), Nat.le_trans HB.out.2 hHeld.size⟩
        have e := HO2.out
        rw [show (h.reverse.take k).flatMap pair ++ [x1, x2] = (h.reverse.take (k + 1)).flatMap pair by
          rw [← take_rev h k b HL.out hlt HB1.out, List.flatMap_append, HXX.out.1, HXX.out.2]; simp [pair]] at e
        exact e
      clear hHeld HO2 HG2 HLIT HO HR HB HS hd1 hd2
      go_wp2_with fail
      go_roundw
      case rel => exact ⟨k + 1, by omega, by go_num, HEND.out.1, HEND.out.2.1, HEND.out.2.2⟩
      case measure => simp [intOf]; omega
    · obtain rfl : k = 32 := by omega
      have hp : (h.reverse.take 32).flatMap pair = hexT h := by
        rw [List.take_of_length_le (by rw [List.length_reverse, HL.out]; omega)]; rfl
      rw [hp] at HO
      have c1 := HO.out.src.str
      go_wp2_with fail
      subst hQ
      go_ret
      subst hN
      exact ⟨rfl, HB.out.1⟩
end Go.Proofs.YtlgadelcgboeoaaDoor
