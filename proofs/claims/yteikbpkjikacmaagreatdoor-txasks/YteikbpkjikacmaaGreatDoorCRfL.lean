/- The document's own reader (Form): Script. -/
import Derived.Test.YteikbpkjikacmaaGreatDoorCRfK
namespace Go.Proofs.YteikbpkjikacmaaGreatDoor
open Go.ChangeShapes Go.WideShapes Go.ChangeAt Go.RowKit

theorem agr_none {α : Type} (r : RS → α × RS) (s : RS) : Agr (rMany r 0) s [] s := Agr.eq rfl
theorem agr_next {α : Type} {r : RS → α × RS} (hr : Ext r) {k : Nat} {s s1 s2 : RS} {l : List α} {v : α} (h1 : Agr (rMany r k) s l s1) (h2 : Agr r s1 v s2) : Agr (rMany r (k + 1)) s (l ++ [v]) s2 :=
  Agr.seq (r := rMany r (k + 1)) (f := fun l v => l ++ [v]) (fun _ => rfl) hr h1 h2
theorem agr_scr {s s1 s2 : RS} {z0 z1 z2 z3 z4 z5 : Int} {h : List (BitVec 8)} (hh : h.length = 32) (h1 : Agr (rMany rN 6) s [z0, z1, z2, z3, z4, z5] s1) (h2 : Agr rH s1 h s2) : Agr rS s ⟨z0, z1, z2, z3, z4, z5, h, hh⟩ s2 := by
  have := Agr.seq (r := rS) (f := fun (Z : List Int) (h : List (BitVec 8)) => if hh : h.length = 32 then (⟨Z.getD 0 0, Z.getD 1 0, Z.getD 2 0, Z.getD 3 0, Z.getD 4 0, Z.getD 5 0, h, hh⟩ : Scr) else default) (fun s => by rw [dif_pos (rH_length _)]; rfl) rH_ext h1 h2
  rwa [dif_pos hh] at this
theorem six_set (Z : List Int) (k : Nat) (n : Int) (hk : Z.length = k) (h : k < 6) : (Z.map (Value.int .i64) ++ List.replicate (6 - k) (Value.int .i64 0)).set k (.int .i64 n) = (Z ++ [n]).map (Value.int .i64) ++ List.replicate (6 - (k + 1)) (Value.int .i64 0) := by
  rw [show 6 - k = (6 - (k + 1)) + 1 by omega, List.replicate_succ, List.set_append_right _ _ (by rw [List.length_map]; omega), List.length_map, hk, Nat.sub_self, List.set_cons_zero, List.map_append, List.append_assoc]; rfl
theorem six_get (Z : List Int) (k : Nat) (hk : Z.length = k) (h : k < 6) : (Z.map (Value.int .i64) ++ List.replicate (6 - k) (Value.int .i64 0))[k]? = some (.int .i64 0) := by
  rw [List.getElem?_append_right (by rw [List.length_map]; omega), List.length_map, hk, Nat.sub_self, show 6 - k = (6 - (k + 1)) + 1 by omega, List.replicate_succ]; rfl
theorem six_of {Z : List Int} (h : Z.length = 6) : ∃ z0 z1 z2 z3 z4 z5, Z = [z0, z1, z2, z3, z4, z5] := by
  match Z, h with
  | [a, b, c, d, e, f], _ => exact ⟨a, b, c, d, e, f, rfl⟩
def FS (R N : Nat) (s : RS) (w : World) (e : Ending) (w' : World) : Prop := ∃ (c : Scr) (s' : RS), e = .returned (.agg c.cs.toArray) ∧ Agr rS s c s' ∧ Rd w' R N s' ∧ Keep R w w'
set_option maxRecDepth 100000 in
set_option maxHeartbeats 4000000 in
theorem fscript_any (R N : Nat) (s : RS) (w : World) (h : Rd w R N s) :
    Calls Tryz.prog 36 #[.pointer (some ⟨R, 0, none⟩)] w (FS R N s w) := by
  have HMO := follows_mixed
  have hRT := h.lt
  have hbs := h.base
  have H : Hid (Rd w R N s) := h
  clear h
  go_enter Tryz.func36, Tryz.ntmps36
  go_upto_region 2 with fail
  generalize hwv : World.alloc (World.alloc w _) _ = w1
  have HB0 : Hid (Blk w1 w.heap.size (default : Scr).cs) := by rw [← hwv]; exact (Blk.mk _ _ _ rfl rfl).alloc _
  have HB1 : Hid (Blk w1 (w.heap.size + 1) (List.replicate 6 (.int .i64 0))) := by rw [← hwv]; exact Blk.mk _ _ _ (by simp) rfl
  have HBL : Hid (Below w.heap.size w w1) := by rw [← hwv]; exact ((Below.refl _ _).alloc (Nat.le_refl _) _).alloc (by simp) _
  clear hwv
  have HR1 : Hid (Rd w1 R N s) := H.out.below HBL.out
  have HK1 : Hid (Keep R w w1) := Keep.of_below HBL.out
  clear HBL H
  generalize hN : w.heap.size = T at *
  have hs1 := HB1.out.lt
  go_wp2_with fail
  go_loopw [4] (fun i wr => ∃ (k : Nat) (Z : List Int) (s1 : RS), k ≤ 6 ∧ i = .int .i64 k ∧ Z.length = k ∧ T + 1 < wr.heap.size ∧ Hid (Agr (rMany rN k) s Z s1) ∧ Hid (Rd wr R N s1) ∧ Hid (Blk wr (T + 1) (Z.map (Value.int .i64) ++ List.replicate (6 - k) (Value.int .i64 0))) ∧ Hid (Blk wr T (default : Scr).cs) ∧ Hid (Keep R w wr)) (fun i _ => 6 - (intOf i).toNat)
  case atStart => exact ⟨0, [], s, by omega, rfl, rfl, hs1, agr_none rN s, HR1.out, HB1.out, HB0.out, HK1.out⟩
  case round =>
    obtain ⟨k, Z, s1, hk, rfl, hZ, hsr, HA, HR, HBA, HBT, HK⟩ := hrel
    by_cases hlt : k < 6
    · have e0 : (0 : Int) ≤ (k : Int) := by omega
      have e1 : (k : Int) < 6 := by omega
      go_wp2_with fail
      refine Calls.mono (fnum_any R N s1 wr HR.out) ?_
      rintro e w3 ⟨n, s2, rfl, _, hA3, hR3, hK3⟩
      have HA3 : Hid (Agr (rMany rN (k + 1)) s (Z ++ [n]) s2) := agr_next rN_ext HA.out hA3
      have HR3 : Hid (Rd w3 R N s2) := hR3
      have HBA3 : Hid (Blk w3 (T + 1) (Z.map (Value.int .i64) ++ List.replicate (6 - k) (Value.int .i64 0))) := HBA.out.keep hK3 (by omega)
      have HBT3 : Hid (Blk w3 T (default : Scr).cs) := HBT.out.keep hK3 (by omega)
      have HK3 : Hid (Keep R w w3) := HK.out.trans hK3
      have hs3 := HBA3.out.lt
      have d0 : w3.cell? ⟨T + 1, k, none⟩ = some (.int .i64 0) := HBA3.out.one (six_get Z k hZ hlt)
      have d1 : w3.frozen? ⟨T + 1, k, none⟩ = false := HBA3.out.frozen k
      have HB4 : Hid (Blk (w3.setCell ⟨T + 1, k, none⟩ (.int .i64 n)) (T + 1) ((Z ++ [n]).map (Value.int .i64) ++ List.replicate (6 - (k + 1)) (Value.int .i64 0))) := by
        have := HBA3.out.set k (.int .i64 n)
        rwa [six_set Z k n hZ hlt] at this
      have HKT : Hid (Keep (T + 1) w3 (w3.setCell ⟨T + 1, k, none⟩ (.int .i64 n))) := (Keep.refl _ _).setCell k _
      have HR4 : Hid (Rd (w3.setCell ⟨T + 1, k, none⟩ (.int .i64 n)) R N s2) := HR3.out.other HKT.out (by omega) (by omega)
      have HBT4 : Hid (Blk (w3.setCell ⟨T + 1, k, none⟩ (.int .i64 n)) T (default : Scr).cs) := HBT3.out.keep HKT.out (by omega)
      have HK4 : Hid (Keep R w (w3.setCell ⟨T + 1, k, none⟩ (.int .i64 n))) := HK3.out.other HKT.out (by omega)
      have hs4 := HB4.out.lt
      clear hA3 hR3 hK3 HA HR HBA HBT HK HR3 HBA3 HBT3 HK3 HKT
      go_wp2_with fail
      go_roundw
      case rel => exact ⟨k + 1, Z ++ [n], s2, by omega, by go_num, by rw [List.length_append, hZ]; rfl, hs4, HA3.out, HR4.out, HB4.out, HBT4.out, HK4.out⟩
      case measure => simp [intOf]; omega
    · obtain rfl : k = 6 := by omega
      obtain ⟨z0, z1, z2, z3, z4, z5, rfl⟩ := six_of hZ
      have HBS : Hid (∀ w', Blk w' (T + 1) [.int .i64 z0, .int .i64 z1, .int .i64 z2, .int .i64 z3, .int .i64 z4, .int .i64 z5] → w'.cell? ⟨T + 1, 0, none⟩ = some (.int .i64 z0) ∧ w'.cell? ⟨T + 1, 1, none⟩ = some (.int .i64 z1) ∧ w'.cell? ⟨T + 1, 2, none⟩ = some (.int .i64 z2) ∧ w'.cell? ⟨T + 1, 3, none⟩ = some (.int .i64 z3) ∧ w'.cell? ⟨T + 1, 4, none⟩ = some (.int .i64 z4) ∧ w'.cell? ⟨T + 1, 5, none⟩ = some (.int .i64 z5)) := fun w' h => ⟨h.one rfl, h.one rfl, h.one rfl, h.one rfl, h.one rfl, h.one rfl⟩
      have HBA' : Hid (Blk wr (T + 1) [.int .i64 z0, .int .i64 z1, .int .i64 z2, .int .i64 z3, .int .i64 z4, .int .i64 z5]) := HBA.out
      have HHASH : Hid (∀ w, Rd w R N s1 → Calls Tryz.prog 66 #[.pointer (some ⟨R, 0, none⟩)] w (FH R N s1 w)) := fun w h => fhash_any R N s1 w h
      clear HBA hZ
      go_wp2_with fail
      refine wp_region_noPanic ?_
      refine wp_region_held_drew (S := fun w' => w'.cell? ⟨T + 1, 0, none⟩ = some (.int .i64 z0) ∧ w'.cell? ⟨T + 1, 1, none⟩ = some (.int .i64 z1) ∧ w'.cell? ⟨T + 1, 2, none⟩ = some (.int .i64 z2) ∧ w'.cell? ⟨T + 1, 3, none⟩ = some (.int .i64 z3) ∧ w'.cell? ⟨T + 1, 4, none⟩ = some (.int .i64 z4) ∧ w'.cell? ⟨T + 1, 5, none⟩ = some (.int .i64 z5)) HMO.out (HBS.out _ HBA'.out.drew) (fun hHeld => ?_)
      refine wpAnyH_take (i := 0) (oi := { dst := some 13, op := .indexAddr 104 (.tmp 3) (.const (.int .i64 0)), type := 0, pos := "forms.go:281", after := #[], guard := none }) (v := ?_) rfl (by kernel_rfl) (by kernel_rfl) (by kernel_rfl) (fun _ _ _ h => h) (Or.inl ⟨by rfl, ?_⟩) (by assumption) ?_
      rotate_left
      · intro _ _; go_simp; first | done | with_reducible rfl
      simp only [Act.put, List.setIfInBounds_toArray, List.set_cons_zero, List.set_cons_succ]
      refine wpAnyH_take (i := 1) (oi := { dst := some 14, op := .load 3 (.tmp 13), type := 3, pos := "forms.go:281", after := #[{ on := 0, ground := .data }], guard := none }) (v := ?_) rfl (by kernel_rfl) (by kernel_rfl) (by kernel_rfl) (fun _ _ _ h => h) (Or.inl ⟨by rfl, ?_⟩) (by assumption) ?_
      rotate_left
      · intro _ _; go_simp; first | done | with_reducible rfl
      simp only [Act.put, List.setIfInBounds_toArray, List.set_cons_zero, List.set_cons_succ]
      refine wpAnyH_take (i := 2) (oi := { dst := some 15, op := .indexAddr 104 (.tmp 3) (.const (.int .i64 1)), type := 0, pos := "forms.go:281", after := #[], guard := none }) (v := ?_) rfl (by kernel_rfl) (by kernel_rfl) (by kernel_rfl) (fun _ _ _ h => h) (Or.inl ⟨by rfl, ?_⟩) (by assumption) ?_
      rotate_left
      · intro _ _; go_simp; first | done | with_reducible rfl
      simp only [Act.put, List.setIfInBounds_toArray, List.set_cons_zero, List.set_cons_succ]
      refine wpAnyH_take (i := 3) (oi := { dst := some 16, op := .load 3 (.tmp 15), type := 3, pos := "forms.go:281", after := #[{ on := 2, ground := .data }], guard := none }) (v := ?_) rfl (by kernel_rfl) (by kernel_rfl) (by kernel_rfl) (fun _ _ _ h => h) (Or.inl ⟨by rfl, ?_⟩) (by assumption) ?_
      rotate_left
      · intro _ _; go_simp; first | done | with_reducible rfl
      simp only [Act.put, List.setIfInBounds_toArray, List.set_cons_zero, List.set_cons_succ]
      refine wpAnyH_take (i := 4) (oi := { dst := some 17, op := .indexAddr 104 (.tmp 3) (.const (.int .i64 2)), type := 0, pos := "forms.go:281", after := #[], guard := none }) (v := ?_) rfl (by kernel_rfl) (by kernel_rfl) (by kernel_rfl) (fun _ _ _ h => h) (Or.inl ⟨by rfl, ?_⟩) (by assumption) ?_
      rotate_left
      · intro _ _; go_simp; first | done | with_reducible rfl
      simp only [Act.put, List.setIfInBounds_toArray, List.set_cons_zero, List.set_cons_succ]
      refine wpAnyH_take (i := 5) (oi := { dst := some 18, op := .load 3 (.tmp 17), type := 3, pos := "forms.go:281", after := #[{ on := 4, ground := .data }], guard := none }) (v := ?_) rfl (by kernel_rfl) (by kernel_rfl) (by kernel_rfl) (fun _ _ _ h => h) (Or.inl ⟨by rfl, ?_⟩) (by assumption) ?_
      rotate_left
      · intro _ _; go_simp; first | done | with_reducible rfl
      simp only [Act.put, List.setIfInBounds_toArray, List.set_cons_zero, List.set_cons_succ]
      refine wpAnyH_take (i := 6) (oi := { dst := some 19, op := .indexAddr 104 (.tmp 3) (.const (.int .i64 3)), type := 0, pos := "forms.go:281", after := #[], guard := none }) (v := ?_) rfl (by kernel_rfl) (by kernel_rfl) (by kernel_rfl) (fun _ _ _ h => h) (Or.inl ⟨by rfl, ?_⟩) (by assumption) ?_
      rotate_left
      · intro _ _; go_simp; first | done | with_reducible rfl
      simp only [Act.put, List.setIfInBounds_toArray, List.set_cons_zero, List.set_cons_succ]
      refine wpAnyH_take (i := 7) (oi := { dst := some 20, op := .load 3 (.tmp 19), type := 3, pos := "forms.go:281", after := #[{ on := 6, ground := .data }], guard := none }) (v := ?_) rfl (by kernel_rfl) (by kernel_rfl) (by kernel_rfl) (fun _ _ _ h => h) (Or.inl ⟨by rfl, ?_⟩) (by assumption) ?_
      rotate_left
      · intro _ _; go_simp; first | done | with_reducible rfl
      simp only [Act.put, List.setIfInBounds_toArray, List.set_cons_zero, List.set_cons_succ]
      refine wpAnyH_take (i := 8) (oi := { dst := some 21, op := .indexAddr 104 (.tmp 3) (.const (.int .i64 4)), type := 0, pos := "forms.go:281", after := #[], guard := none }) (v := ?_) rfl (by kernel_rfl) (by kernel_rfl) (by kernel_rfl) (fun _ _ _ h => h) (Or.inl ⟨by rfl, ?_⟩) (by assumption) ?_
      rotate_left
      · intro _ _; go_simp; first | done | with_reducible rfl
      simp only [Act.put, List.setIfInBounds_toArray, List.set_cons_zero, List.set_cons_succ]
      refine wpAnyH_take (i := 9) (oi := { dst := some 22, op := .load 3 (.tmp 21), type := 3, pos := "forms.go:281", after := #[{ on := 8, ground := .data }], guard := none }) (v := ?_) rfl (by kernel_rfl) (by kernel_rfl) (by kernel_rfl) (fun _ _ _ h => h) (Or.inl ⟨by rfl, ?_⟩) (by assumption) ?_
      rotate_left
      · intro _ _; go_simp; first | done | with_reducible rfl
      simp only [Act.put, List.setIfInBounds_toArray, List.set_cons_zero, List.set_cons_succ]
      refine wpAnyH_take (i := 10) (oi := { dst := some 23, op := .indexAddr 104 (.tmp 3) (.const (.int .i64 5)), type := 0, pos := "forms.go:281", after := #[], guard := none }) (v := ?_) rfl (by kernel_rfl) (by kernel_rfl) (by kernel_rfl) (fun _ _ _ h => h) (Or.inl ⟨by rfl, ?_⟩) (by assumption) ?_
      rotate_left
      · intro _ _; go_simp; first | done | with_reducible rfl
      simp only [Act.put, List.setIfInBounds_toArray, List.set_cons_zero, List.set_cons_succ]
      refine wpAnyH_take (i := 11) (oi := { dst := some 24, op := .load 3 (.tmp 23), type := 3, pos := "forms.go:281", after := #[{ on := 10, ground := .data }], guard := none }) (v := ?_) rfl (by kernel_rfl) (by kernel_rfl) (by kernel_rfl) (fun _ _ _ h => h) (Or.inl ⟨by rfl, ?_⟩) (by assumption) ?_
      rotate_left
      · intro _ _; go_simp; first | done | with_reducible rfl
      simp only [Act.put, List.setIfInBounds_toArray, List.set_cons_zero, List.set_cons_succ]
      refine wpAnyH_take (i := 12) (oi := { dst := some 25, op := .move (.tmp 0), type := 70, pos := "forms.go:281", after := #[], guard := none }) (v := ?_) rfl (by kernel_rfl) (by kernel_rfl) (by kernel_rfl) (fun _ _ _ h => h) (Or.inl ⟨by rfl, ?_⟩) (by assumption) ?_
      rotate_left
      · intro _ _; go_simp; first | done | with_reducible rfl
      simp only [Act.put, List.setIfInBounds_toArray, List.set_cons_zero, List.set_cons_succ]
      refine wpAnyH_ready (rs := [13]) (by kernel_rfl) (by simp) ?_
      refine AllReadyH.cons (o := { dst := some 26, op := .call { callee := .value (.func 66), args := #[.tmp 25], argTypes := #[70] }, type := 28, pos := "forms.go:281", after := #[{ on := 12, ground := .data }], guard := none }) rfl (fun K hK => ?_) AllReadyH.nil
      go_simp
      refine Calls.mono (HHASH.out _ (HR.out.below (Below.refl _ _).drew)) ?_; rintro e w4 ⟨x, s2, hx, rfl, hA4, hR4, hK4⟩; have HR4 : Hid (Rd w4 R N s2) := hR4; have HBA4 : Hid (Blk w4 (T + 1) _) := HBA'.out.drew.keep hK4 (by omega); have HB04 : Hid (Blk w4 T (default : Scr).cs) := HBT.out.drew.keep hK4 (by omega); have HK4 : Hid (Keep R w w4) := HK.out.drew.trans hK4; have HTH : Hid (w4.there T 0 (Scr.cs ⟨z0, z1, z2, z3, z4, z5, x, hx⟩).length) := HB04.out.there 0 _ (by rw [Scr.cs_length, Scr.cs_length]; omega); have hbp := built_scr x z0 z1 z2 z3 z4 z5 hx; have HAP : Hid (Agr rS s ⟨z0, z1, z2, z3, z4, z5, x, hx⟩ s2) := agr_scr hx HA.out hA4; obtain ⟨p, hp⟩ : ∃ p : Scr, p = ⟨z0, z1, z2, z3, z4, z5, x, hx⟩ := ⟨_, rfl⟩; rw [← hp] at HTH hbp HAP; clear hp hA4 hR4 hK4
      go_simp
      refine hK.out _ _ (HBS.out _ HBA4.out) (fun hHeld => ?_)
      clear hK K
      refine wpAnyH_take (i := 14) (oi := { dst := some 27, op := .build 54 #[(0, .tmp 14), (1, .tmp 16), (2, .tmp 18), (3, .tmp 20), (4, .tmp 22), (5, .tmp 24), (6, .tmp 26)], type := 54, pos := "forms.go:281", after := #[{ on := 1, ground := .data }, { on := 3, ground := .data }, { on := 5, ground := .data }, { on := 7, ground := .data }, { on := 9, ground := .data }, { on := 11, ground := .data }, { on := 13, ground := .data }], guard := none }) (v := .agg p.cs.toArray) rfl (by kernel_rfl) (by kernel_rfl) (by kernel_rfl) (fun _ _ _ h => h) (Or.inl ⟨by rfl, ?_⟩) (by assumption) ?_
      · intro _ _; exact exec_build 54 _ rfl _ _ hbp (by rw [Array.toList_map]; rfl) _
      simp only [Act.put, List.setIfInBounds_toArray, List.set_cons_zero, List.set_cons_succ]
      refine wpAnyH_ready (rs := [15]) (by kernel_rfl) (by simp) ?_
      refine AllReadyH.cons (o := { dst := none, op := .store 54 (.tmp 2) (.tmp 27), type := 0, pos := "forms.go:281", after := #[{ on := 14, ground := .data }, { on := 13, ground := .chain }, { on := 0, ground := .phase }, { on := 1, ground := .phase }, { on := 2, ground := .phase }, { on := 3, ground := .phase }, { on := 4, ground := .phase }, { on := 5, ground := .phase }, { on := 6, ground := .phase }, { on := 7, ground := .phase }, { on := 8, ground := .phase }, { on := 9, ground := .phase }, { on := 10, ground := .phase }, { on := 11, ground := .phase }, { on := 12, ground := .phase }, { on := 13, ground := .phase }, { on := 14, ground := .phase }], guard := none }) rfl (fun K hK => ?_) AllReadyH.nil
      refine step_store_mid rfl 54 _ _ rfl T 0 p.cs rfl rfl HTH.out (size_scr p) p.cs_mem ?_
      simp only [Act.put]
      refine hK.out _ _ (HBS.out _ (HBA4.out.keep ((Keep.refl T w4).setCells p.cs 0) (by omega))) (fun hHeld => ?_)
      clear hK K
      refine wpAnyH_done (by kernel_rfl) ?_ _
      refine NoPanic.normal ?_
      clear hHeld hbp
      have HB5 : Hid (Blk (w4.setCells T 0 p.cs) T p.cs) := by
        have := HB04.out.cellsAt p.cs 0 (by rw [Scr.cs_length, Scr.cs_length]; omega)
        rwa [splice_whole _ _ (by rw [Scr.cs_length, Scr.cs_length])] at this
      have HK5 : Hid (Keep T w4 (w4.setCells T 0 p.cs)) := (Keep.refl _ _).setCells p.cs 0
      go_wp2_with fail
      refine bodyPost_ret (v := .agg p.cs.toArray) ?_ rfl ⟨p, s2, rfl, HAP.out, HR4.out.other HK5.out (by omega) (by omega), HK4.out.other HK5.out (by omega)⟩
      obtain ⟨tt, hb⟩ := HB5.out
      exact results_cell_row Tryz.results36 _ _ T tt _ _ _ rfl hb Tryz.underlying54 rfl (by rw [List.size_toArray]; exact size_scr p)
end Go.Proofs.YteikbpkjikacmaaGreatDoor
