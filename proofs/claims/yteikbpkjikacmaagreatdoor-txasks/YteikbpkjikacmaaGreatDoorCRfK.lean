/- The document's own reader (Form): Hash, Point. -/
import Derived.Test.YteikbpkjikacmaaGreatDoorCRfJ
import Derived.Test.YteikbpkjikacmaaGreatDoorCRfF
namespace Go.Proofs.YteikbpkjikacmaaGreatDoor
open Go.ChangeShapes Go.WideShapes Go.ChangeAt Go.RowKit

def FH (R N : Nat) (s : RS) (w : World) (e : Ending) (w' : World) : Prop := ∃ (x : List (BitVec 8)) (s' : RS), x.length = 32 ∧ e = .returned (.agg (u8s x).toArray) ∧ Agr rH s x s' ∧ Rd w' R N s' ∧ Keep R w w'
set_option maxRecDepth 100000 in
set_option maxHeartbeats 4000000 in
theorem fhash_lame (R N : Nat) (s : RS) (w : World) (h : Rd w R N s) (hl : s.2 = true ∨ (s.2 = false ∧ s.1.length < 32)) :
    Calls Tryz.prog 66 #[.pointer (some ⟨R, 0, none⟩)] w (FH R N s w) := by
  have HUH : Hid (_ = _) := Tryz.underlying28
  have hRT := h.lt
  have hbs := h.base
  have H : Hid (Rd w R N s) := h
  have HA : Hid (Agr rH s zeros32 (s.1, true)) := Agr.lame (by
    rcases hl with hl | ⟨_, hl⟩
    · exact rH_ext.lame hl
    · unfold rH rT; simp only; rw [if_neg (by omega)])
  have HP : Hid (∀ e w', e = .returned (.agg (u8s zeros32).toArray) → Rd w' R N (s.1, true) → Keep R w w' → FH R N s w e w') := fun e w' h1 h2 h3 => ⟨zeros32, _, rfl, h1, HA.out, h2, h3⟩
  clear h
  go_enter Tryz.func66, Tryz.ntmps66
  go_upto_region 2 with fail
  generalize hwv : World.alloc (World.alloc w _) _ = w1
  have HB0 : Hid (Blk w1 w.heap.size (u8s zeros32)) := by rw [← hwv]; exact (Blk.mk _ _ _ rfl rfl).alloc _
  have HB1 : Hid (Blk w1 (w.heap.size + 1) (u8s zeros32)) := by rw [← hwv]; exact Blk.mk _ _ _ (by simp) rfl
  have HBL : Hid (Below w.heap.size w w1) := by rw [← hwv]; exact ((Below.refl _ _).alloc (Nat.le_refl _) _).alloc (by simp) _
  clear hwv
  have HR1 : Hid (Rd w1 R N s) := H.out.below HBL.out
  have HK1 : Hid (Keep R w w1) := Keep.of_below HBL.out
  clear HBL H
  generalize hN : w.heap.size = T at *
  obtain ⟨a, cap, hB, _, _⟩ := HR1.out.ex
  have c0 : w1.cell? ⟨R, 0, none⟩ = some (.slice a s.1.length cap) := hB.one rfl
  have c1 : w1.cell? ⟨R, 1, none⟩ = some (.bool s.2) := hB.one rfl
  have f1 : w1.frozen? ⟨R, 1, none⟩ = false := hB.frozen 1
  clear hB
  have HK2 : Hid (Keep R w1 (w1.setCell ⟨R, 1, none⟩ (.bool true))) := (Keep.refl _ _).setCell 1 _
  have HR2 : Hid (Rd (w1.setCell ⟨R, 1, none⟩ (.bool true)) R N (s.1, true)) := HR1.out.lame
  have HB02 : Hid (Blk (w1.setCell ⟨R, 1, none⟩ (.bool true)) T (u8s zeros32)) := HB0.out.keep HK2.out (by omega)
  have HB12 : Hid (Blk (w1.setCell ⟨R, 1, none⟩ (.bool true)) (T + 1) (u8s zeros32)) := HB1.out.keep HK2.out (by omega)
  have HK3 : Hid (Keep R w (w1.setCell ⟨R, 1, none⟩ (.bool true))) := HK1.out.trans HK2.out
  clear HK2 HR1 HB0 HB1 HK1
  rcases hl with hl | ⟨hl, hlt⟩
  · obtain ⟨x, b⟩ := s
    simp only at hl
    subst hl
    simp only at *
    generalize hL : x.length = L at *
    go_upto_region 4 with fail
    generalize w1.setCell ⟨R, 1, none⟩ (.bool true) = w2 at *
    obtain ⟨t4, hg4⟩ := HB02.out
    have HG4 : Hid (w2.heap[T]? = _) := hg4
    clear hg4 c0 c1 f1
    go_wp2_with (first
      | (refine wpList_load_mid rfl 28 _ rfl (T + 1) 0 rfl (u8s zeros32) _ HB12.out.whole HUH.out rfl (size_hashL zeros32 rfl) ?_)
      | (refine wpList_store_row rfl 28 _ _ rfl T (u8s zeros32).toArray rfl rfl t4 _ HG4.out (size_h zeros32 rfl) rfl (u8s_one _) ?_))
    refine bodyPost_ret (v := .agg (u8s zeros32).toArray) ?_ rfl (HP.out _ _ rfl ?_ ?_)
    · obtain ⟨tt, hb⟩ := Blk.row (ds := u8s zeros32) ⟨t4, HG4.out⟩
      exact results_cell_row Tryz.results66 _ _ T tt _ _ _ rfl hb Tryz.underlying28 rfl (size_h zeros32 rfl)
    · exact HR2.out.kept (by simp [World.setRow]) (heap_setRow w2 T R _ (by omega)) fun b hb _ => heap_setRow w2 T b _ (by omega)
    · exact HK3.out.other ((Keep.refl _ _).setRow _) (by omega)
  · obtain ⟨x, b⟩ := s
    simp only at hl hlt
    subst hl
    simp only at *
    generalize hL : x.length = L at *
    have e1 : (L : Int) < 32 := by omega
    go_upto_region 4 with fail
    generalize w1.setCell ⟨R, 1, none⟩ (.bool true) = w2 at *
    obtain ⟨t4, hg4⟩ := HB02.out
    have HG4 : Hid (w2.heap[T]? = _) := hg4
    clear hg4 c0 c1 f1
    go_wp2_with (first
      | (refine wpList_load_mid rfl 28 _ rfl (T + 1) 0 rfl (u8s zeros32) _ HB12.out.whole HUH.out rfl (size_hashL zeros32 rfl) ?_)
      | (refine wpList_store_row rfl 28 _ _ rfl T (u8s zeros32).toArray rfl rfl t4 _ HG4.out (size_h zeros32 rfl) rfl (u8s_one _) ?_))
    refine bodyPost_ret (v := .agg (u8s zeros32).toArray) ?_ rfl (HP.out _ _ rfl ?_ ?_)
    · obtain ⟨tt, hb⟩ := Blk.row (ds := u8s zeros32) ⟨t4, HG4.out⟩
      exact results_cell_row Tryz.results66 _ _ T tt _ _ _ rfl hb Tryz.underlying28 rfl (size_h zeros32 rfl)
    · exact HR2.out.kept (by simp [World.setRow]) (heap_setRow w2 T R _ (by omega)) fun b hb _ => heap_setRow w2 T b _ (by omega)
    · exact HK3.out.other ((Keep.refl _ _).setRow _) (by omega)
set_option maxRecDepth 100000 in
set_option maxHeartbeats 4000000 in
theorem fhash_some (R N : Nat) (x : List (BitVec 8)) (w : World) (h : Rd w R N (x, false)) (hx : 32 ≤ x.length) :
    Calls Tryz.prog 66 #[.pointer (some ⟨R, 0, none⟩)] w (FH R N (x, false) w) := by
  have HMO := follows_mixed
  have HUH : Hid (_ = _) := Tryz.underlying28
  have hRT := h.lt
  have hbs := h.base
  have H : Hid (Rd w R N (x, false)) := h
  obtain ⟨h, hh⟩ : ∃ h, h = x.take 32 := ⟨_, rfl⟩
  have HH : Hid (h.length = 32) := show _ = _ by rw [hh, List.length_take]; omega
  have HA : Hid (Agr rH (x, false) h (x.drop 32, false)) := Agr.eq (by
    unfold rH rT; simp only; rw [if_pos hx, if_pos (by omega), ← hh]; rfl)
  have HP : Hid (∀ e w', e = .returned (.agg (u8s h).toArray) → Rd w' R N (x.drop 32, false) → Keep R w w' → FH R N (x, false) w e w') := fun e w' h1 h2 h3 => ⟨h, _, HH.out, h1, HA.out, h2, h3⟩
  go_enter Tryz.func66, Tryz.ntmps66
  go_upto_region 2 with fail
  generalize hwv : World.alloc (World.alloc w _) _ = w1
  have HB0 : Hid (Blk w1 w.heap.size (u8s zeros32)) := by rw [← hwv]; exact (Blk.mk _ _ _ rfl rfl).alloc _
  have HB1 : Hid (Blk w1 (w.heap.size + 1) (u8s zeros32)) := by rw [← hwv]; exact Blk.mk _ _ _ (by simp) rfl
  have HBL : Hid (Below w.heap.size w w1) := by rw [← hwv]; exact ((Below.refl _ _).alloc (Nat.le_refl _) _).alloc (by simp) _
  clear hwv
  have HR1 : Hid (Rd w1 R N (x, false)) := H.out.below HBL.out
  have HK1 : Hid (Keep R w w1) := Keep.of_below HBL.out
  clear HBL H
  generalize hN : w.heap.size = T at *
  have hT1 := HB1.out.lt
  obtain ⟨a, cap, hB, hBy, hap⟩ := HR1.out.ex
  simp only at hB hBy
  have hroom := hBy.room
  have hmost : cap ≤ 9223372036854775807 := by have := hBy.most; unfold maxLen at this; omega
  have HTL : Hid (Bytes w1 (if cap = 32 then a else Option.map (fun x => x.add 32) a) (cap - 32) (x.drop 32)) := hBy.tail 32
  have HAP : Hid (∀ x : Addr, (if cap = 32 then a else Option.map (fun x => x.add 32) a) = some x → x.block ≠ R ∧ x.block < N) := fun x e => tail_apart e hap
  obtain ⟨b, o, rfl, hc⟩ := hBy.lie (by intro e; rw [e] at hx; simp at hx)
  have hbR : b ≠ R ∧ b < N := hap _ rfl
  have HBK : Hid (Blk w1 R [.slice (some ⟨b, o, none⟩) x.length cap, .bool false]) := hB
  have HSRC : Hid (∀ j v, (u8s h)[j]? = some v → w1.cell? ((⟨b, o, none⟩ : Addr).add j) = some v) := fun j v hv => by
    have hj : j < h.length := by
      rcases Nat.lt_or_ge j h.length with hl | hl
      · exact hl
      · rw [List.getElem?_eq_none (by rw [u8s_length]; exact hl)] at hv; cases hv
    have hj2 : j < 32 := by rw [HH.out] at hj; exact hj
    rw [Addr.add_mid, hc j (by omega), ← hv, u8s_get h j hj, hh, List.getD_eq_getElem?_getD, List.getD_eq_getElem?_getD, List.getElem?_take_of_lt hj2]
  have HDL : Hid (x.length - 32 = (x.drop 32).length) := show _ = _ by rw [List.length_drop]
  have c0 : w1.cell? ⟨R, 0, none⟩ = some (.slice (some ⟨b, o, none⟩) x.length cap) := HBK.out.one rfl
  have c1 : w1.cell? ⟨R, 1, none⟩ = some (.bool false) := HBK.out.one rfl
  clear hB hBy hap hc hh
  generalize hL : x.length = L at *
  have HL : Hid (x.length = L) := hL
  clear hL
  have e1 : ¬ (L : Int) < 32 := by omega
  have HMIN : Hid (Nat.min L 32 = 32) := show _ = _ from Nat.min_eq_right hx
  obtain ⟨t1, hg1⟩ := HB1.out
  have HG1 : Hid (w1.drew.heap[T + 1]? = _) := hg1
  clear hg1
  go_wp2_with fail
  clear c1
  refine wp_region_noPanic ?_
  refine wp_region_held_drew (S := fun w' => w'.cell? ⟨R, 0, none⟩ = some (.slice (some ⟨b, o, none⟩) L cap)) HMO.out (c0) (fun hHeld => ?_)
  refine wpAnyH_take (i := 0) (oi := { dst := some 20, op := .slice 28 (.tmp 3) none none none, type := 26, pos := "forms.go:264", after := #[], guard := none }) (v := ?_) rfl (by kernel_rfl) (by kernel_rfl) (by kernel_rfl) (fun _ _ _ h => h) (Or.inl ⟨by rfl, ?_⟩) (by assumption) ?_
  rotate_left
  · intro _ _; go_simp; first | done | with_reducible rfl
  simp only [Act.put, List.setIfInBounds_toArray, List.set_cons_zero, List.set_cons_succ]
  refine wpAnyH_take (i := 1) (oi := { dst := some 21, op := .move (.tmp 0), type := 70, pos := "forms.go:264", after := #[], guard := none }) (v := ?_) rfl (by kernel_rfl) (by kernel_rfl) (by kernel_rfl) (fun _ _ _ h => h) (Or.inl ⟨by rfl, ?_⟩) (by assumption) ?_
  rotate_left
  · intro _ _; go_simp; first | done | with_reducible rfl
  simp only [Act.put, List.setIfInBounds_toArray, List.set_cons_zero, List.set_cons_succ]
  refine wpAnyH_take (i := 2) (oi := { dst := some 22, op := .nilCheck (.tmp 21), type := 0, pos := "forms.go:264", after := #[{ on := 1, ground := .data }], guard := none }) (v := ?_) rfl (by kernel_rfl) (by kernel_rfl) (by kernel_rfl) (fun _ _ _ h => h) (Or.inl ⟨by rfl, ?_⟩) (by assumption) ?_
  rotate_left
  · intro _ _; go_simp; first | done | with_reducible rfl
  simp only [Act.put, List.setIfInBounds_toArray, List.set_cons_zero, List.set_cons_succ]
  refine wpAnyH_take (i := 3) (oi := { dst := some 23, op := .fieldAddr 72 (.tmp 22) 0, type := 0, pos := "forms.go:264", after := #[{ on := 2, ground := .data }], guard := none }) (v := ?_) rfl (by kernel_rfl) (by kernel_rfl) (by kernel_rfl) (fun _ _ _ h => h) (Or.inl ⟨by rfl, ?_⟩) (by assumption) ?_
  rotate_left
  · intro _ _; go_simp; first | done | with_reducible rfl
  simp only [Act.put, List.setIfInBounds_toArray, List.set_cons_zero, List.set_cons_succ]
  refine wpAnyH_take (i := 4) (oi := { dst := some 24, op := .load 26 (.tmp 23), type := 26, pos := "forms.go:264", after := #[{ on := 3, ground := .data }], guard := none }) (v := ?_) rfl (by kernel_rfl) (by kernel_rfl) (by kernel_rfl) (fun _ _ _ h => h) (Or.inl ⟨by rfl, ?_⟩) (by assumption) ?_
  rotate_left
  · intro _ _; go_simp; first | done | with_reducible rfl
  simp only [Act.put, List.setIfInBounds_toArray, List.set_cons_zero, List.set_cons_succ]
  refine wpAnyH_ready (rs := [5]) (by kernel_rfl) (by simp) ?_
  refine AllReadyH.cons (o := { dst := some 25, op := .call { callee := .builtin Go.Builtin.copy, args := #[.tmp 20, .tmp 24], argTypes := #[26, 26] }, type := 3, pos := "forms.go:264", after := #[{ on := 0, ground := .data }, { on := 4, ground := .data }], guard := none }) rfl (fun K hK => ?_) AllReadyH.nil
  refine step_copy_pos rfl (.tmp 20) (.tmp 24) 26 26 rfl 5 Tryz.underlying26 (by kernel_rfl) (T + 1) 0 32 32 ⟨b, o, none⟩ L cap rfl rfl (u8s zeros32) t1 HG1.out (u8s h) (by rw [u8s_length, HH.out, HMIN.out]) HSRC.out (by rw [u8s_length, HH.out]; simp [zeros32]) (u8s_mem h) ?_
  simp only [Act.put, List.setIfInBounds_toArray, List.set_cons_zero, List.set_cons_succ]
  refine hK.out _ _ ((HBK.out.drew.otherRow (by omega) _).one rfl) (fun hHeld => ?_)
  clear hK K
  refine wpAnyH_done (by kernel_rfl) ?_ _
  refine NoPanic.normal ?_
  rw [splice_whole (u8s zeros32) (u8s h) (by rw [u8s_length, u8s_length, HH.out]; rfl)] at *
  clear hHeld c0
  generalize hw3 : World.setRow w1.drew _ _ = w3
  have HK4 : Hid (Keep R w w3) := by rw [← hw3]; exact HK1.out.drew.other ((Keep.refl _ _).setRow _) (by omega)
  have HB04 : Hid (Blk w3 T (u8s zeros32)) := by rw [← hw3]; exact HB0.out.drew.otherRow (by omega) _
  have HB14 : Hid (Blk w3 (T + 1) (u8s h)) := by rw [← hw3]; exact HB1.out.drew.row
  have HBK3 : Hid (Blk w3 R [.slice (some ⟨b, o, none⟩) L cap, .bool false]) := by rw [← hw3]; exact HBK.out.drew.otherRow (by omega) _
  have HTL3 : Hid (Bytes w3 (if cap = 32 then some (⟨b, o, none⟩ : Addr) else Option.map (fun x : Addr => x.add 32) (some ⟨b, o, none⟩)) (cap - 32) (x.drop 32)) := by
    rw [← hw3]
    exact HTL.out.kept fun b' o' e => (heap_setRow w1.drew (T + 1) b' _ (by have := (HAP.out _ e).2; simp only at this; omega)).trans rfl
  have hs3 : N ≤ w3.heap.size := by
    have h1 := HK4.out.size
    omega
  clear hw3 HTL HBK HSRC HG1 HB0 HB1 HR1 HK1
  have d0 : w3.cell? ⟨R, 0, none⟩ = some (.slice (some ⟨b, o, none⟩) L cap) := HBK3.out.one rfl
  have d1 : w3.frozen? ⟨R, 0, none⟩ = false := HBK3.out.frozen 0
  have e2 : (32 : Int) ≤ (L : Int) := by omega
  have e3 : (32 : Int) ≤ (cap : Int) := by omega
  go_upto_region 7 with fail
  generalize hadr : (if cap = 32 then some ({ block := b, off := o } : Addr) else some { block := b, off := o + 32 }) = adr
  have hadr2 : (if cap = 32 then some (⟨b, o, none⟩ : Addr) else Option.map (fun x : Addr => x.add 32) (some ⟨b, o, none⟩)) = adr := by rw [← hadr, Option.map_some, Addr.add_mid]
  rw [hadr2] at HTL3 HAP
  clear hadr hadr2 d0 d1
  generalize hw4 : World.setCell w3 _ _ = w4
  have HBK4 : Hid (Blk w4 R [.slice adr (L - 32) (cap - 32), .bool false]) := by rw [← hw4]; exact HBK3.out.set 0 _
  have HK34 : Hid (Keep R w3 w4) := by rw [← hw4]; exact (Keep.refl _ _).setCell 0 _
  have HR4 : Hid (Rd w4 R N (x.drop 32, false)) := by
    refine ⟨Nat.le_trans hs3 HK34.out.size, adr, cap - 32, ?_, HTL3.out.kept fun b' o' e => HK34.out.block b' (Nat.lt_of_lt_of_le (HAP.out _ e).2 hs3) (HAP.out _ e).1, HAP.out⟩
    show Blk _ R [.slice adr (x.drop 32).length (cap - 32), .bool false]
    rw [← HDL.out]; exact HBK4.out
  have HK5 : Hid (Keep R w w4) := HK4.out.trans HK34.out
  have HB05 : Hid (Blk w4 T (u8s zeros32)) := HB04.out.keep HK34.out (by omega)
  have HB15 : Hid (Blk w4 (T + 1) (u8s h)) := HB14.out.keep HK34.out (by omega)
  clear hw4 HBK4 HK34 HTL3 HBK3 HB04 HB14 HK4
  obtain ⟨t4, hg4⟩ := HB05.out
  have HG4 : Hid (w4.heap[T]? = _) := hg4
  clear hg4
  go_wp2_with (first
    | (refine wpList_load_mid rfl 28 _ rfl (T + 1) 0 rfl (u8s h) _ HB15.out.whole HUH.out rfl (size_hashL h HH.out) ?_)
    | (refine wpList_store_row rfl 28 _ _ rfl T (u8s h).toArray rfl rfl t4 _ HG4.out (size_h h HH.out) (zh_size h HH.out) (u8s_one _) ?_))
  refine bodyPost_ret (v := .agg (u8s h).toArray) ?_ rfl (HP.out _ _ rfl ?_ ?_)
  · obtain ⟨tt, hb⟩ := Blk.row (ds := u8s h) ⟨t4, HG4.out⟩
    exact results_cell_row Tryz.results66 _ _ T tt _ _ _ rfl hb Tryz.underlying28 rfl (size_h h HH.out)
  · exact HR4.out.kept (by simp [World.setRow]) (heap_setRow w4 T R _ (by omega)) fun b hb _ => heap_setRow w4 T b _ (by omega)
  · exact HK5.out.other ((Keep.refl _ _).setRow _) (by omega)
theorem fhash_any (R N : Nat) (s : RS) (w : World) (h : Rd w R N s) :
    Calls Tryz.prog 66 #[.pointer (some ⟨R, 0, none⟩)] w (FH R N s w) := by
  obtain ⟨x, b⟩ := s
  cases b
  · by_cases hx : 32 ≤ x.length
    · exact fhash_some R N x w h hx
    · exact fhash_lame R N _ w h (.inr ⟨rfl, by simp only; omega⟩)
  · exact fhash_lame R N _ w h (.inl rfl)
def FP (R N : Nat) (s : RS) (w : World) (e : Ending) (w' : World) : Prop := ∃ (p : Pt) (s' : RS), e = .returned (.agg p.cs.toArray) ∧ Agr rP s p s' ∧ Rd w' R N s' ∧ Keep R w w'
theorem agr_pt {s s1 s2 : RS} {x : List (BitVec 8)} {n : Int} (hx : x.length = 32) (h1 : Agr rH s x s1) (h2 : Agr rN s1 n s2) : Agr rP s ⟨x, n, hx⟩ s2 := by
  have := Agr.seq (r := rP) (f := fun (x : List (BitVec 8)) (n : Int) => if h : x.length = 32 then (⟨x, n, h⟩ : Pt) else default) (fun s => by rw [dif_pos (rH_length s)]; rfl) rN_ext h1 h2
  rwa [dif_pos hx] at this
set_option maxRecDepth 100000 in
set_option maxHeartbeats 4000000 in
theorem fpoint_any (R N : Nat) (s : RS) (w : World) (h : Rd w R N s) :
    Calls Tryz.prog 35 #[.pointer (some ⟨R, 0, none⟩)] w (FP R N s w) := by
  have HMO := follows_mixed
  have HUH : Hid (_ = _) := Tryz.underlying28
  have hRT := h.lt
  have hbs := h.base
  have H : Hid (Rd w R N s) := h
  have HHASH : Hid (∀ w, Rd w R N s → Calls Tryz.prog 66 #[.pointer (some ⟨R, 0, none⟩)] w (FH R N s w)) := fun w h => fhash_any R N s w h
  clear h
  go_enter Tryz.func35, Tryz.ntmps35
  go_upto_region 1 with fail
  generalize hwv : World.alloc w _ = w1
  have HB0 : Hid (Blk w1 w.heap.size (default : Pt).cs) := by rw [← hwv]; exact Blk.mk _ _ _ rfl rfl
  have HBL : Hid (Below w.heap.size w w1) := by rw [← hwv]; exact (Below.refl _ _).alloc (Nat.le_refl _) _
  clear hwv
  have HR1 : Hid (Rd w1 R N s) := H.out.below HBL.out
  have HK1 : Hid (Keep R w w1) := Keep.of_below HBL.out
  clear HBL H
  generalize hN : w.heap.size = T at *
  go_wp2_with fail
  refine Calls.mono (HHASH.out _ HR1.out) ?_
  rintro e w2 ⟨x, s1, hx, rfl, hA2, hR2, hK2⟩
  have HX : Hid (x.length = 32) := hx
  have HA2 : Hid (Agr rH s x s1) := hA2
  have HB2 : Hid (Blk w2 T (default : Pt).cs) := HB0.out.keep hK2 (by omega)
  have HR2 : Hid (Rd w2 R N s1) := hR2
  have HK2 : Hid (Keep R w w2) := HK1.out.trans hK2
  have hT2 := HB2.out.lt
  clear hR2 hK2 hA2 hx HB0 HR1 HK1 HHASH
  go_upto_region 2 with (refine wpList_store_fresh rfl 28 _ _ rfl (u8s x) _ 28 rfl rfl (size_h x HX.out) (zh_size x HX.out) (u8s_one _) ?_; intro w3 HB3 Hb3)
  have HB03 : Hid (Blk w3 T (default : Pt).cs) := HB2.out.below Hb3.out hT2
  have HR3 : Hid (Rd w3 R N s1) := HR2.out.below Hb3.out
  have HK3 : Hid (Keep R w w3) := HK2.out.trans (Keep.of_below Hb3.out)
  have hs3 := HB3.out.lt
  clear HB2 HR2 HK2 Hb3
  generalize hM : w2.heap.size = M at *
  have HNUM : Hid (∀ w, Rd w R N s1 → Calls Tryz.prog 34 #[.pointer (some ⟨R, 0, none⟩)] w fun e w' => ∃ n s', e = .returned (.int .i64 n) ∧ okN n ∧ Agr rN s1 n s' ∧ Rd w' R N s' ∧ Keep R w w') := fun w h => fnum_any R N s1 w h
  have ix := size_hashL x HX.out
  refine wp_region_noPanic ?_
  refine wp_region_held_drew (S := fun w' => w'.rangeAt M 0 (u8s x)) HMO.out (HB3.out.drew.whole) (fun hHeld => ?_)
  refine wpAnyH_take (i := 0) (oi := { dst := some 6, op := .load 28 (.tmp 3), type := 28, pos := "forms.go:272", after := #[], guard := none }) (v := _) rfl (by kernel_rfl) (by kernel_rfl) (by kernel_rfl) (fun _ _ _ h => h) (yieldsIf_load_mid (by rfl) _ _ rfl (M) (0) rfl (u8s x) _ (fun _ h => h) (HUH.out) rfl (ix)) (by assumption) ?_
  simp only [Act.put, List.setIfInBounds_toArray, List.set_cons_zero, List.set_cons_succ]
  refine wpAnyH_take (i := 1) (oi := { dst := some 7, op := .move (.tmp 0), type := 70, pos := "forms.go:272", after := #[], guard := none }) (v := ?_) rfl (by kernel_rfl) (by kernel_rfl) (by kernel_rfl) (fun _ _ _ h => h) (Or.inl ⟨by rfl, ?_⟩) (by assumption) ?_
  rotate_left
  · intro _ _; go_simp; first | done | with_reducible rfl
  simp only [Act.put, List.setIfInBounds_toArray, List.set_cons_zero, List.set_cons_succ]
  refine wpAnyH_ready (rs := [2]) (by kernel_rfl) (by simp) ?_
  refine AllReadyH.cons (o := { dst := some 8, op := .call { callee := .value (.func 34), args := #[.tmp 7], argTypes := #[70] }, type := 3, pos := "forms.go:272", after := #[{ on := 1, ground := .data }], guard := none }) rfl (fun K hK => ?_) AllReadyH.nil
  go_simp
  refine Calls.mono (HNUM.out _ (HR3.out.below (Below.refl _ _).drew)) ?_; rintro e w4 ⟨n, s2, rfl, _, hA4, hR4, hK4⟩; have HA4 : Hid (Agr rN s1 n s2) := hA4; have HR4 : Hid (Rd w4 R N s2) := hR4; have HB34 : Hid (Blk w4 M (u8s x)) := HB3.out.drew.keep hK4 (by omega); have HB04 : Hid (Blk w4 T (default : Pt).cs) := HB03.out.drew.keep hK4 (by omega); have HK4 : Hid (Keep R w w4) := HK3.out.drew.trans hK4; have HTH : Hid (w4.there T 0 (Pt.cs ⟨x, n, HX.out⟩).length) := HB04.out.there 0 _ (by rw [Pt.cs_length, Pt.cs_length]; omega); have hbp := built_pt x n HX.out; have HAP : Hid (Agr rP s ⟨x, n, HX.out⟩ s2) := agr_pt HX.out HA2.out HA4.out; obtain ⟨p, hp⟩ : ∃ p : Pt, p = ⟨x, n, HX.out⟩ := ⟨_, rfl⟩; rw [← hp] at HTH hbp HAP; clear hp hA4 hR4 hK4
  go_simp
  refine hK.out _ _ (HB34.out.whole) (fun hHeld => ?_)
  clear hK K
  refine wpAnyH_take (i := 3) (oi := { dst := some 9, op := .build 30 #[(0, .tmp 6), (1, .tmp 8)], type := 30, pos := "forms.go:272", after := #[{ on := 0, ground := .data }, { on := 2, ground := .data }], guard := none }) (v := .agg p.cs.toArray) rfl (by kernel_rfl) (by kernel_rfl) (by kernel_rfl) (fun _ _ _ h => h) (Or.inl ⟨by rfl, ?_⟩) (by assumption) ?_
  · intro _ _; exact exec_build 30 _ rfl _ _ hbp (by rw [Array.toList_map]; rfl) _
  simp only [Act.put, List.setIfInBounds_toArray, List.set_cons_zero, List.set_cons_succ]
  refine wpAnyH_ready (rs := [4]) (by kernel_rfl) (by simp) ?_
  refine AllReadyH.cons (o := { dst := none, op := .store 30 (.tmp 2) (.tmp 9), type := 0, pos := "forms.go:272", after := #[{ on := 3, ground := .data }, { on := 2, ground := .chain }, { on := 0, ground := .phase }, { on := 1, ground := .phase }, { on := 2, ground := .phase }, { on := 3, ground := .phase }], guard := none }) rfl (fun K hK => ?_) AllReadyH.nil
  refine step_store_mid rfl 30 _ _ rfl T 0 p.cs rfl rfl HTH.out (size_pt p) p.cs_mem ?_
  simp only [Act.put]
  refine hK.out _ _ ((HB34.out.keep ((Keep.refl T w4).setCells p.cs 0) (by omega)).whole) (fun hHeld => ?_)
  clear hK K
  refine wpAnyH_done (by kernel_rfl) ?_ _
  refine NoPanic.normal ?_
  clear hHeld hbp ix
  have HB5 : Hid (Blk (w4.setCells T 0 p.cs) T p.cs) := by
    have := HB04.out.cellsAt p.cs 0 (by rw [Pt.cs_length, Pt.cs_length]; omega)
    rwa [splice_whole _ _ (by rw [Pt.cs_length, Pt.cs_length])] at this
  have HK5 : Hid (Keep T w4 (w4.setCells T 0 p.cs)) := (Keep.refl _ _).setCells p.cs 0
  go_wp2_with fail
  refine bodyPost_ret (v := .agg p.cs.toArray) ?_ rfl ⟨p, s2, rfl, HAP.out, HR4.out.other HK5.out (by omega) (by omega), HK4.out.other HK5.out (by omega)⟩
  obtain ⟨tt, hb⟩ := HB5.out
  exact results_cell_row Tryz.results35 _ _ T tt _ _ _ rfl hb Tryz.underlying30 rfl (size_pta p)
end Go.Proofs.YteikbpkjikacmaaGreatDoor
