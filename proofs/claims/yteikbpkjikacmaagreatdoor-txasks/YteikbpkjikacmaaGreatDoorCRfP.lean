/- The document's own Decode. -/
import Derived.Test.YteikbpkjikacmaaGreatDoorCRfO
import Derived.Test.YteikbpkjikacmaaGreatDoorCRfH
namespace Go.Proofs.YteikbpkjikacmaaGreatDoor
open Go.ChangeShapes Go.WideShapes Go.ChangeAt Go.RowKit

def FD (bs : List (BitVec 8)) (w : World) (e : Ending) (w' : World) : Prop := ∃ tv : TxV, e = .returned (.tuple #[tv.val (decT bs).1.lock, .int .i64 (decT bs).2]) ∧ TxAt w' tv (decT bs).1 ∧ Below w.heap.size w w'
def FN (R N : Nat) (s : RS) (w : World) (e : Ending) (w' : World) : Prop := ∃ n s', e = .returned (.int .i64 n) ∧ okN n ∧ Agr rN s n s' ∧ Rd w' R N s' ∧ Keep R w w'
theorem zip_nextR (I : List In) (W : List WitD) (k : Nat) (v : WitD) (hW : W.length = k) (hk : k < I.length) :
    (List.zipWith putW (I.take k) W ++ I.drop k).set k (putW ((List.zipWith putW (I.take k) W ++ I.drop k).getD k default) v) = List.zipWith putW (I.take (k + 1)) (W ++ [v]) ++ I.drop (k + 1) := by
  have hl : (List.zipWith putW (I.take k) W).length = k := by rw [List.length_zipWith, List.length_take, hW]; omega
  have hd : I.drop k = I[k] :: I.drop (k + 1) := List.drop_eq_getElem_cons hk
  have hg : (List.zipWith putW (I.take k) W ++ I.drop k).getD k default = I[k] := by
    rw [List.getD_eq_getElem?_getD, List.getElem?_append_right (by omega), hl, Nat.sub_self, hd]; rfl
  rw [hg, hd, List.set_append_right _ _ (by omega), hl, Nat.sub_self, List.set_cons_zero, List.take_succ_eq_append_getElem hk, List.zipWith_append (by rw [List.length_take, hW]; omega), List.append_assoc]
  rfl
theorem zip_len (I : List In) (W : List WitD) (k : Nat) (hW : W.length = k) (hk : k ≤ I.length) : (List.zipWith putW (I.take k) W ++ I.drop k).length = I.length := by
  rw [List.length_append, List.length_zipWith, List.length_take, List.length_drop, hW]; omega
theorem Bytes.str_ne {x y : List (BitVec 8)} (h : x ≠ y) : ((ofB x).toList == (ofB y).toList) = false := by
  rw [beq_eq_false_iff_ne]
  intro e
  rw [ByteArray.toList_eq, ByteArray.toList_eq] at e
  apply h
  rw [← strB_ofB x, ← strB_ofB y]
  unfold strB
  rw [e]
set_option maxRecDepth 100000 in
set_option maxHeartbeats 16000000 in
theorem rdecode_any (a : Option Addr) (cap : Nat) (bs : List (BitVec 8)) (w : World) (hby : Bytes w a cap bs) (hap : ∀ x : Addr, a = some x → x.block < w.heap.size) :
    Calls Tryz.prog 9 #[.slice a bs.length cap] w (FD bs w) := by
  have HMO := follows_mixed
  have HBY : Hid (Bytes w a cap bs) := hby
  have HAP : Hid (∀ x : Addr, a = some x → x.block < w.heap.size) := hap
  have hroom := hby.room
  have hmost : cap ≤ 9223372036854775807 := by have := hby.most; unfold maxLen at this; omega
  obtain ⟨L, hL⟩ : ∃ L, bs.length = L := ⟨_, rfl⟩
  have HL : Hid (bs.length = L) := hL
  rw [hL] at hroom ⊢
  have HNUM : Hid (∀ T s w, Rd w (T + 1) T s → Calls Tryz.prog 34 #[.pointer (some ⟨T + 1, 0, none⟩)] w (FN (T + 1) T s w)) := fun T s w h => fnum_any (T + 1) T s w h
  clear hby hap hL
  go_enter Tryz.func9, Tryz.ntmps9
  go_upto_region 3 with fail
  generalize hwv : World.alloc (World.alloc (World.alloc w _) _) _ = w1
  have HD1 : Hid (DSt w w1 w.heap.size (bs, false) (.slice none 0 0) [] (.slice none 0 0) [] 0) := by
    rw [← hwv]
    have hb1 : Below w.heap.size w (((w.alloc (.cells #[.slice none 0 0, .slice none 0 0, .int .i64 0] 25)).alloc (.cells #[.slice a L cap, .bool false] 72)).alloc (.cells #[.slice none 0 0, .slice none 0 0, .int .i64 0] 25)) := (((Below.refl _ _).alloc (Nat.le_refl _) _).alloc (by simp) _).alloc (by simp; omega) _
    refine ⟨⟨by simp; omega, a, cap, ?_, HBY.out.kept fun b o e => hb1.block b (HAP.out _ e), fun x e => ⟨by have := HAP.out x e; omega, HAP.out x e⟩⟩, ((Blk.mk _ _ _ rfl rfl).alloc _).alloc _, Blk.mk _ _ _ (by simp) rfl, OwnE.nil _ _, OwnE.nil _ _, fun k hk => (by cases hk), hb1, by simp⟩
    show Blk _ _ [.slice a bs.length cap, .bool false]
    rw [HL.out]
    exact (Blk.mk _ _ _ (by simp) rfl).alloc _
  clear hwv
  generalize hT : w.heap.size = T at *
  have hFD : ∀ e w', (decT bs = (noT, 2) → e = .returned (.tuple #[.agg #[.slice none 0 0, .slice none 0 0, .int .i64 0], .int .i64 2]) → Below T w w' → FD bs w e w') := fun e w' h1 h2 h3 => ⟨⟨none, 0, 0, none, 0, 0⟩, by rw [h1, h2]; rfl, by rw [h1]; exact ⟨Els.nil _, Els.nil _⟩, hT ▸ h3⟩
  have HFD : Hid (_ : Prop) := hFD
  clear hFD
  go_wp2_with fail
  refine Calls.mono (HNUM.out T _ _ HD1.out.rd) ?_
  rintro e w2 ⟨n, s1, rfl, ⟨hn0, _⟩, hA1, hR2, hK2⟩
  have HA1 : Hid (Agr rN (bs, false) n s1) := hA1
  have HD2 : Hid (DSt w w2 T s1 (.slice none 0 0) [] (.slice none 0 0) [] 0) := HD1.out.call hR2 hK2
  clear hA1 hR2 hK2 HD1
  by_cases hn : 100 < n
  · have HDEC : Hid (decT bs = (noT, 2)) := dec_great HA1.out hn
    have d0 : w2.cell? ⟨T, 0, none⟩ = some (.slice none 0 0) := HD2.out.ans.one rfl
    have d1 : w2.cell? ⟨T, 1, none⟩ = some (.slice none 0 0) := HD2.out.ans.one rfl
    have d2 : w2.cell? ⟨T, 2, none⟩ = some (.int .i64 0) := HD2.out.ans.one rfl
    have g0 : w2.frozen? ⟨T, 0, none⟩ = false := HD2.out.ans.frozen 0
    have g1 : w2.frozen? ⟨T, 1, none⟩ = false := HD2.out.ans.frozen 1
    have g2 : w2.frozen? ⟨T, 2, none⟩ = false := HD2.out.ans.frozen 2
    go_wp2_with fail
    generalize hu5 : World.setCell (World.setCell (World.setCell w2 _ _) _ _) _ _ = u5
    have HK5 : Hid (Keep T w2 u5) := by rw [← hu5]; exact (((Keep.refl _ _).setCell 0 _).setCell 1 _).setCell 2 _
    have HB5 : Hid (Blk u5 T [.slice none 0 0, .slice none 0 0, .int .i64 0]) := by rw [← hu5]; exact ((HD2.out.ans.set 0 _).set 1 _).set 2 _
    clear hu5
    have hsz := HD2.out.sz
    refine bodyPost_ret (v := .tuple #[.agg #[.slice none 0 0, .slice none 0 0, .int .i64 0], .int .i64 2]) ?_ rfl (HFD.out _ _ HDEC.out rfl (HD2.out.bel.trans (HK5.out.below (Nat.le_refl _) (by omega))))
    obtain ⟨tt, hb⟩ := HB5.out
    exact results_row_tmp Tryz.results9 _ _ T tt _ _ _ rfl hb Tryz.underlying25 rfl size_tx
  · obtain ⟨N, rfl⟩ : ∃ N : Nat, n = N := ⟨n.toNat, by omega⟩
    have hN : N ≤ 100 := by omega
    have hN2 : ¬ (100 : Int) < (N : Int) := by omega
    have HC1 : Hid (Agr (rC · 100) (bs, false) (N : Int) s1) := agr_count HA1.out (by omega)
    clear HA1 hn hn0
    go_wp2_with fail
    clear hN2
    go_loopw [7, 8] (fun i _ wr => ∃ (k : Nat) (vi : Value) (li : List In) (s2 : RS), k ≤ N ∧ i = .int .i64 k ∧ li.length = k ∧ Hid (Agr (rMany rIn k) s1 li s2) ∧ Hid (DSt w wr T s2 vi li (.slice none 0 0) [] 0)) (fun i _ _ => N - (intOf i).toNat)
    case atStart => exact ⟨0, _, [], s1, by omega, rfl, rfl, agr_none rIn s1, HD2.out⟩
    case round =>
      obtain ⟨k, vi, li, s2, hk, rfl, hli, HAI, HD⟩ := hrel
      by_cases hlt : k < N
      · have e1 : (k : Int) < (N : Int) := by omega
        go_wp2_with fail
        refine Calls.mono (fpoint_any (T + 1) T s2 wr HD.out.rd) ?_
        rintro e w3 ⟨p, s3, rfl, hA3, hR3, hK3⟩
        have HA3 : Hid (Agr rP s2 p s3) := hA3
        have HD3 : Hid (DSt w w3 T s3 vi li (.slice none 0 0) [] 0) := HD.out.call hR3 hK3
        clear hA3 hR3 hK3 HD
        go_upto_region 10 with (refine wpList_store_new rfl _ _ rfl p _ rfl rfl rfl ?_; intro w4 HP4 Hb4)
        have HD4 : Hid (DSt w w4 T s3 vi li (.slice none 0 0) [] 0) := HD3.out.below Hb4.out
        have HVM : Hid (∀ k, vi.ownBlock = some k → k < w3.heap.size) := fun k hk => (HD3.out.ins.lt k hk).2
        have hM3 := HD3.out.sz
        generalize hM : w3.heap.size = M at *
        clear HD3 Hb4
        have hc0 : w4.cell? ⟨T + 2, 0, none⟩ = some vi := HD4.out.var.one rfl
        have ix := size_pt p
        have u26 := und_pt.out
        refine wp_region_noPanic ?_
        refine wp_region_held_drew (S := fun w' => w'.rangeAt M 0 p.cs) HMO.out (HP4.out.drew.whole) (fun hHeld => ?_)
        refine wpAnyH_take (i := 0) (oi := { dst := some 32, op := .fieldAddr 25 (.tmp 5) 0, type := 0, pos := "forms.go:528", after := #[], guard := none }) (v := ?_) rfl (by kernel_rfl) (by kernel_rfl) (by kernel_rfl) (fun _ _ _ h => h) (Or.inl ⟨by rfl, ?_⟩) (by assumption) ?_
        rotate_left
        · intro _ _; go_simp; first | done | with_reducible rfl
        simp only [Act.put, List.setIfInBounds_toArray, List.set_cons_zero, List.set_cons_succ]
        refine wpAnyH_take (i := 2) (oi := { dst := some 34, op := .load 30 (.tmp 8), type := 30, pos := "forms.go:528", after := #[], guard := none }) (v := _) rfl (by kernel_rfl) (by kernel_rfl) (by kernel_rfl) (fun _ _ _ h => h) (yieldsIf_load_mid (by rfl) _ _ rfl (M) (0) rfl (p.cs) _ (fun _ h => h) (u26) rfl (ix)) (by assumption) ?_
        simp only [Act.put, List.setIfInBounds_toArray, List.set_cons_zero, List.set_cons_succ]
        refine wpAnyH_take (i := 3) (oi := { dst := some 35, op := .move (.tmp 4), type := 70, pos := "forms.go:528", after := #[], guard := none }) (v := ?_) rfl (by kernel_rfl) (by kernel_rfl) (by kernel_rfl) (fun _ _ _ h => h) (Or.inl ⟨by rfl, ?_⟩) (by assumption) ?_
        rotate_left
        · intro _ _; go_simp; first | done | with_reducible rfl
        simp only [Act.put, List.setIfInBounds_toArray, List.set_cons_zero, List.set_cons_succ]
        refine wpAnyH_ready (rs := [1, 4]) (by kernel_rfl) (by simp) ?_
        refine (AllReadyH.cons (o := { dst := some 33, op := .load 22 (.tmp 32), type := 22, pos := "forms.go:528", after := #[{ on := 0, ground := .data }], guard := none }) rfl (fun K hK => ?_) (AllReadyH.cons (o := { dst := some 36, op := .call { callee := .value (.func 34), args := #[.tmp 35], argTypes := #[70] }, type := 3, pos := "forms.go:528", after := #[{ on := 3, ground := .data }], guard := none }) rfl (fun K hK => ?_) AllReadyH.nil))
        · go_simp
          skip
          go_simp
          refine hK.out _ _ ((by assumption)) (fun hHeld => ?_)
          clear hK K
          refine wpAnyH_ready (rs := [4]) (by kernel_rfl) (by simp) ?_
          refine AllReadyH.cons (o := { dst := some 36, op := .call { callee := .value (.func 34), args := #[.tmp 35], argTypes := #[70] }, type := 3, pos := "forms.go:528", after := #[{ on := 3, ground := .data }], guard := none }) rfl (fun K hK => ?_) AllReadyH.nil
          go_simp
          refine Calls.mono (HNUM.out T s3 _ HD4.out.drew.rd) ?_; rintro e w5 ⟨m, s4, rfl, _, hA5, hR5, hK5⟩; have HD5 : Hid (DSt w w5 T s4 vi li (.slice none 0 0) [] 0) := HD4.out.drew.call hR5 hK5; have HP5 : Hid (Blk w5 M p.cs) := HP4.out.drew.keep hK5 (by omega); have hM5 := HP5.out.lt; have HAI5 : Hid (Agr (rMany rIn (k + 1)) s1 (li ++ [⟨p, m, 0, 0, ByteArray.empty⟩]) s4) := agr_next rIn_ext HAI.out (agr_in HA3.out hA5); have hbu := built_in p m; obtain ⟨x, hx⟩ : ∃ x : In, x = ⟨p, m, 0, 0, ByteArray.empty⟩ := ⟨_, rfl⟩; rw [← hx] at hbu HAI5; clear hx hA5 hR5 hK5
          go_simp
          refine hK.out _ _ (HP5.out.whole) (fun hHeld => ?_)
          clear hK K
          refine wpAnyH_take (i := 5) (oi := { dst := some 37, op := .build 52 #[(0, .tmp 34), (1, .tmp 36)], type := 52, pos := "forms.go:528", after := #[{ on := 2, ground := .data }, { on := 4, ground := .data }], guard := none }) (v := .agg x.cs.toArray) rfl (by kernel_rfl) (by kernel_rfl) (by kernel_rfl) (fun _ _ _ h => h) (Or.inl ⟨by rfl, ?_⟩) (by assumption) ?_
          · intro _ _; exact exec_build 52 _ rfl _ _ hbu (by rw [Array.toList_map]; rfl) _
          simp only [Act.put, List.setIfInBounds_toArray, List.set_cons_zero, List.set_cons_succ]
          refine wpAnyH_ready (rs := [6]) (by kernel_rfl) (by simp) ?_
          refine AllReadyH.cons (o := { dst := some 38, op := .buildSlice 22 1 #[(0, .tmp 37)], type := 22, pos := "forms.go:528", after := #[{ on := 5, ground := .data }], guard := none }) rfl (fun K hK => ?_) AllReadyH.nil
          refine step_build_one elIn rfl _ rfl x rfl ?_; intro w6 HE6 Hb6; have HD6 : Hid (DSt w w6 T s4 vi li (.slice none 0 0) [] 0) := HD5.out.below Hb6.out; have HP6 : Hid (Blk w6 M p.cs) := HP5.out.below Hb6.out hM5
          simp only [Act.put, List.setIfInBounds_toArray, List.set_cons_zero, List.set_cons_succ]
          refine hK.out _ _ (HP6.out.whole) (fun hHeld => ?_)
          clear hK K
          refine wpAnyH_ready (rs := [7]) (by kernel_rfl) (by simp) ?_
          refine AllReadyH.cons (o := { dst := some 39, op := .call { callee := .builtin Go.Builtin.append, args := #[.tmp 33, .tmp 38], argTypes := #[22, 22] }, type := 22, pos := "forms.go:528", after := #[{ on := 1, ground := .data }, { on := 6, ground := .data }, { on := 4, ground := .chain }], guard := none }) rfl (fun K hK => ?_) AllReadyH.nil
          refine step_append_e elIn rfl _ _ rfl (T + 3) vi li rfl HD6.out.ins _ 1 1 [x] rfl HE6.out (by omega) HD6.out.sz ?_; intro v7 w7 HO7 HG7 HM7; obtain ⟨a7, n7, cap7, rfl⟩ := HO7.out.any; obtain ⟨hc7, hf7⟩ := hold_cell (i := 0) HD6.out.var (fun k hk => (HD6.out.ins.lt k hk).1) (by omega) HG7.out rfl; have HP7 : Hid (Blk w7 M p.cs) := HP6.out.grown HG7.out (fun e => by have := HVM.out M e; omega)
          simp only [Act.put, List.setIfInBounds_toArray, List.set_cons_zero, List.set_cons_succ]
          refine hK.out _ _ (HP7.out.whole) (fun hHeld => ?_)
          clear hK K
          refine wpAnyH_take (i := 8) (oi := { dst := some 40, op := .fieldAddr 25 (.tmp 5) 0, type := 0, pos := "forms.go:528", after := #[{ on := 0, ground := .phase }, { on := 1, ground := .phase }, { on := 2, ground := .phase }, { on := 3, ground := .phase }, { on := 4, ground := .phase }, { on := 5, ground := .phase }, { on := 6, ground := .phase }, { on := 7, ground := .phase }], guard := none }) (v := ?_) rfl (by kernel_rfl) (by kernel_rfl) (by kernel_rfl) (fun _ _ _ h => h) (Or.inl ⟨by rfl, ?_⟩) (by assumption) ?_
          rotate_left
          · intro _ _; go_simp; first | done | with_reducible rfl
          simp only [Act.put, List.setIfInBounds_toArray, List.set_cons_zero, List.set_cons_succ]
          refine wpAnyH_ready (rs := [9]) (by kernel_rfl) (by simp) ?_
          refine AllReadyH.cons (o := { dst := none, op := .store 22 (.tmp 40) (.tmp 39), type := 0, pos := "forms.go:528", after := #[{ on := 8, ground := .data }, { on := 7, ground := .data }, { on := 7, ground := .chain }, { on := 0, ground := .phase }, { on := 1, ground := .phase }, { on := 2, ground := .phase }, { on := 3, ground := .phase }, { on := 4, ground := .phase }, { on := 5, ground := .phase }, { on := 6, ground := .phase }, { on := 7, ground := .phase }], guard := none }) rfl (fun K hK => ?_) AllReadyH.nil
          go_simp
          skip
          go_simp
          refine hK.out _ _ ((HP7.out.keep ((Keep.refl (T + 2) w7).setCell 0 _) (by omega)).whole) (fun hHeld => ?_)
          clear hK K
          refine wpAnyH_done (by kernel_rfl) ?_ _
          refine NoPanic.normal ?_
          have HD8 : Hid (DSt w (w7.setCell ⟨T + 2, 0, none⟩ (.slice a7 n7 cap7)) T s4 (.slice a7 n7 cap7) (li ++ [x]) (.slice none 0 0) [] 0) := HD6.out.addIn HO7.out HG7.out HM7.out
          clear hHeld hc7 hf7 HP7 HP6 HP5 HO7 HG7 HM7 HE6 Hb6 HD6 HD5 hbu hc0 ix u26
          generalize w7.setCell ⟨T + 2, 0, none⟩ (.slice a7 n7 cap7) = w8 at *
          go_wp2_with fail
          go_roundw
          case rel => exact ⟨k + 1, _, li ++ [x], s4, by omega, by go_num, by rw [List.length_append, hli]; rfl, HAI5.out, HD8.out⟩
          case measure => simp [intOf]; omega
        · go_simp
          refine Calls.mono (HNUM.out T s3 _ HD4.out.drew.rd) ?_; rintro e w5 ⟨m, s4, rfl, _, hA5, hR5, hK5⟩; have HD5 : Hid (DSt w w5 T s4 vi li (.slice none 0 0) [] 0) := HD4.out.drew.call hR5 hK5; have HP5 : Hid (Blk w5 M p.cs) := HP4.out.drew.keep hK5 (by omega); have hM5 := HP5.out.lt; have HAI5 : Hid (Agr (rMany rIn (k + 1)) s1 (li ++ [⟨p, m, 0, 0, ByteArray.empty⟩]) s4) := agr_next rIn_ext HAI.out (agr_in HA3.out hA5); have hbu := built_in p m; obtain ⟨x, hx⟩ : ∃ x : In, x = ⟨p, m, 0, 0, ByteArray.empty⟩ := ⟨_, rfl⟩; rw [← hx] at hbu HAI5; clear hx hA5 hR5 hK5; have hc5 : w5.cell? ⟨T + 2, 0, none⟩ = some vi := HD5.out.var.one rfl
          go_simp
          refine hK.out _ _ (HP5.out.whole) (fun hHeld => ?_)
          clear hK K
          refine wpAnyH_take (i := 5) (oi := { dst := some 37, op := .build 52 #[(0, .tmp 34), (1, .tmp 36)], type := 52, pos := "forms.go:528", after := #[{ on := 2, ground := .data }, { on := 4, ground := .data }], guard := none }) (v := .agg x.cs.toArray) rfl (by kernel_rfl) (by kernel_rfl) (by kernel_rfl) (fun _ _ _ h => h) (Or.inl ⟨by rfl, ?_⟩) (by assumption) ?_
          · intro _ _; exact exec_build 52 _ rfl _ _ hbu (by rw [Array.toList_map]; rfl) _
          simp only [Act.put, List.setIfInBounds_toArray, List.set_cons_zero, List.set_cons_succ]
          refine wpAnyH_ready (rs := [1, 6]) (by kernel_rfl) (by simp) ?_
          refine (AllReadyH.cons (o := { dst := some 33, op := .load 22 (.tmp 32), type := 22, pos := "forms.go:528", after := #[{ on := 0, ground := .data }], guard := none }) rfl (fun K hK => ?_) (AllReadyH.cons (o := { dst := some 38, op := .buildSlice 22 1 #[(0, .tmp 37)], type := 22, pos := "forms.go:528", after := #[{ on := 5, ground := .data }], guard := none }) rfl (fun K hK => ?_) AllReadyH.nil))
          · go_simp
            skip
            go_simp
            refine hK.out _ _ ((by assumption)) (fun hHeld => ?_)
            clear hK K
            refine wpAnyH_ready (rs := [6]) (by kernel_rfl) (by simp) ?_
            refine AllReadyH.cons (o := { dst := some 38, op := .buildSlice 22 1 #[(0, .tmp 37)], type := 22, pos := "forms.go:528", after := #[{ on := 5, ground := .data }], guard := none }) rfl (fun K hK => ?_) AllReadyH.nil
            refine step_build_one elIn rfl _ rfl x rfl ?_; intro w6 HE6 Hb6; have HD6 : Hid (DSt w w6 T s4 vi li (.slice none 0 0) [] 0) := HD5.out.below Hb6.out; have HP6 : Hid (Blk w6 M p.cs) := HP5.out.below Hb6.out hM5
            simp only [Act.put, List.setIfInBounds_toArray, List.set_cons_zero, List.set_cons_succ]
            refine hK.out _ _ (HP6.out.whole) (fun hHeld => ?_)
            clear hK K
            refine wpAnyH_ready (rs := [7]) (by kernel_rfl) (by simp) ?_
            refine AllReadyH.cons (o := { dst := some 39, op := .call { callee := .builtin Go.Builtin.append, args := #[.tmp 33, .tmp 38], argTypes := #[22, 22] }, type := 22, pos := "forms.go:528", after := #[{ on := 1, ground := .data }, { on := 6, ground := .data }, { on := 4, ground := .chain }], guard := none }) rfl (fun K hK => ?_) AllReadyH.nil
            refine step_append_e elIn rfl _ _ rfl (T + 3) vi li rfl HD6.out.ins _ 1 1 [x] rfl HE6.out (by omega) HD6.out.sz ?_; intro v7 w7 HO7 HG7 HM7; obtain ⟨a7, n7, cap7, rfl⟩ := HO7.out.any; obtain ⟨hc7, hf7⟩ := hold_cell (i := 0) HD6.out.var (fun k hk => (HD6.out.ins.lt k hk).1) (by omega) HG7.out rfl; have HP7 : Hid (Blk w7 M p.cs) := HP6.out.grown HG7.out (fun e => by have := HVM.out M e; omega)
            simp only [Act.put, List.setIfInBounds_toArray, List.set_cons_zero, List.set_cons_succ]
            refine hK.out _ _ (HP7.out.whole) (fun hHeld => ?_)
            clear hK K
            refine wpAnyH_take (i := 8) (oi := { dst := some 40, op := .fieldAddr 25 (.tmp 5) 0, type := 0, pos := "forms.go:528", after := #[{ on := 0, ground := .phase }, { on := 1, ground := .phase }, { on := 2, ground := .phase }, { on := 3, ground := .phase }, { on := 4, ground := .phase }, { on := 5, ground := .phase }, { on := 6, ground := .phase }, { on := 7, ground := .phase }], guard := none }) (v := ?_) rfl (by kernel_rfl) (by kernel_rfl) (by kernel_rfl) (fun _ _ _ h => h) (Or.inl ⟨by rfl, ?_⟩) (by assumption) ?_
            rotate_left
            · intro _ _; go_simp; first | done | with_reducible rfl
            simp only [Act.put, List.setIfInBounds_toArray, List.set_cons_zero, List.set_cons_succ]
            refine wpAnyH_ready (rs := [9]) (by kernel_rfl) (by simp) ?_
            refine AllReadyH.cons (o := { dst := none, op := .store 22 (.tmp 40) (.tmp 39), type := 0, pos := "forms.go:528", after := #[{ on := 8, ground := .data }, { on := 7, ground := .data }, { on := 7, ground := .chain }, { on := 0, ground := .phase }, { on := 1, ground := .phase }, { on := 2, ground := .phase }, { on := 3, ground := .phase }, { on := 4, ground := .phase }, { on := 5, ground := .phase }, { on := 6, ground := .phase }, { on := 7, ground := .phase }], guard := none }) rfl (fun K hK => ?_) AllReadyH.nil
            go_simp
            skip
            go_simp
            refine hK.out _ _ ((HP7.out.keep ((Keep.refl (T + 2) w7).setCell 0 _) (by omega)).whole) (fun hHeld => ?_)
            clear hK K
            refine wpAnyH_done (by kernel_rfl) ?_ _
            refine NoPanic.normal ?_
            have HD8 : Hid (DSt w (w7.setCell ⟨T + 2, 0, none⟩ (.slice a7 n7 cap7)) T s4 (.slice a7 n7 cap7) (li ++ [x]) (.slice none 0 0) [] 0) := HD6.out.addIn HO7.out HG7.out HM7.out
            clear hHeld hc7 hf7 HP7 HP6 HP5 HO7 HG7 HM7 HE6 Hb6 HD6 HD5 hbu hc0 ix u26
            generalize w7.setCell ⟨T + 2, 0, none⟩ (.slice a7 n7 cap7) = w8 at *
            go_wp2_with fail
            go_roundw
            case rel => exact ⟨k + 1, _, li ++ [x], s4, by omega, by go_num, by rw [List.length_append, hli]; rfl, HAI5.out, HD8.out⟩
            case measure => simp [intOf]; omega
          · refine step_build_one elIn rfl _ rfl x rfl ?_; intro w6 HE6 Hb6; have HD6 : Hid (DSt w w6 T s4 vi li (.slice none 0 0) [] 0) := HD5.out.below Hb6.out; have HP6 : Hid (Blk w6 M p.cs) := HP5.out.below Hb6.out hM5; have hc6 : w6.cell? ⟨T + 2, 0, none⟩ = some vi := HD6.out.var.one rfl
            simp only [Act.put, List.setIfInBounds_toArray, List.set_cons_zero, List.set_cons_succ]
            refine hK.out _ _ (HP6.out.whole) (fun hHeld => ?_)
            clear hK K
            refine wpAnyH_ready (rs := [1]) (by kernel_rfl) (by simp) ?_
            refine AllReadyH.cons (o := { dst := some 33, op := .load 22 (.tmp 32), type := 22, pos := "forms.go:528", after := #[{ on := 0, ground := .data }], guard := none }) rfl (fun K hK => ?_) AllReadyH.nil
            go_simp
            skip
            go_simp
            refine hK.out _ _ (HP6.out.whole) (fun hHeld => ?_)
            clear hK K
            refine wpAnyH_ready (rs := [7]) (by kernel_rfl) (by simp) ?_
            refine AllReadyH.cons (o := { dst := some 39, op := .call { callee := .builtin Go.Builtin.append, args := #[.tmp 33, .tmp 38], argTypes := #[22, 22] }, type := 22, pos := "forms.go:528", after := #[{ on := 1, ground := .data }, { on := 6, ground := .data }, { on := 4, ground := .chain }], guard := none }) rfl (fun K hK => ?_) AllReadyH.nil
            refine step_append_e elIn rfl _ _ rfl (T + 3) vi li rfl HD6.out.ins _ 1 1 [x] rfl HE6.out (by omega) HD6.out.sz ?_; intro v7 w7 HO7 HG7 HM7; obtain ⟨a7, n7, cap7, rfl⟩ := HO7.out.any; obtain ⟨hc7, hf7⟩ := hold_cell (i := 0) HD6.out.var (fun k hk => (HD6.out.ins.lt k hk).1) (by omega) HG7.out rfl; have HP7 : Hid (Blk w7 M p.cs) := HP6.out.grown HG7.out (fun e => by have := HVM.out M e; omega)
            simp only [Act.put, List.setIfInBounds_toArray, List.set_cons_zero, List.set_cons_succ]
            refine hK.out _ _ (HP7.out.whole) (fun hHeld => ?_)
            clear hK K
            refine wpAnyH_take (i := 8) (oi := { dst := some 40, op := .fieldAddr 25 (.tmp 5) 0, type := 0, pos := "forms.go:528", after := #[{ on := 0, ground := .phase }, { on := 1, ground := .phase }, { on := 2, ground := .phase }, { on := 3, ground := .phase }, { on := 4, ground := .phase }, { on := 5, ground := .phase }, { on := 6, ground := .phase }, { on := 7, ground := .phase }], guard := none }) (v := ?_) rfl (by kernel_rfl) (by kernel_rfl) (by kernel_rfl) (fun _ _ _ h => h) (Or.inl ⟨by rfl, ?_⟩) (by assumption) ?_
            rotate_left
            · intro _ _; go_simp; first | done | with_reducible rfl
            simp only [Act.put, List.setIfInBounds_toArray, List.set_cons_zero, List.set_cons_succ]
            refine wpAnyH_ready (rs := [9]) (by kernel_rfl) (by simp) ?_
            refine AllReadyH.cons (o := { dst := none, op := .store 22 (.tmp 40) (.tmp 39), type := 0, pos := "forms.go:528", after := #[{ on := 8, ground := .data }, { on := 7, ground := .data }, { on := 7, ground := .chain }, { on := 0, ground := .phase }, { on := 1, ground := .phase }, { on := 2, ground := .phase }, { on := 3, ground := .phase }, { on := 4, ground := .phase }, { on := 5, ground := .phase }, { on := 6, ground := .phase }, { on := 7, ground := .phase }], guard := none }) rfl (fun K hK => ?_) AllReadyH.nil
            go_simp
            skip
            go_simp
            refine hK.out _ _ ((HP7.out.keep ((Keep.refl (T + 2) w7).setCell 0 _) (by omega)).whole) (fun hHeld => ?_)
            clear hK K
            refine wpAnyH_done (by kernel_rfl) ?_ _
            refine NoPanic.normal ?_
            have HD8 : Hid (DSt w (w7.setCell ⟨T + 2, 0, none⟩ (.slice a7 n7 cap7)) T s4 (.slice a7 n7 cap7) (li ++ [x]) (.slice none 0 0) [] 0) := HD6.out.addIn HO7.out HG7.out HM7.out
            clear hHeld hc7 hf7 HP7 HP6 HP5 HO7 HG7 HM7 HE6 Hb6 HD6 HD5 hbu hc0 ix u26
            generalize w7.setCell ⟨T + 2, 0, none⟩ (.slice a7 n7 cap7) = w8 at *
            go_wp2_with fail
            go_roundw
            case rel => exact ⟨k + 1, _, li ++ [x], s4, by omega, by go_num, by rw [List.length_append, hli]; rfl, HAI5.out, HD8.out⟩
            case measure => simp [intOf]; omega
      · obtain rfl : k = N := by omega
        have HI : Hid (li.length = k) := hli
        clear hli
        go_wp2_with fail
        refine Calls.mono (HNUM.out T _ _ HD.out.rd) ?_
        rintro e w3 ⟨m, s3, rfl, ⟨hm0, _⟩, hA3, hR3, hK3⟩
        have HA3 : Hid (Agr rN s2 m s3) := hA3
        have HD3 : Hid (DSt w w3 T s3 vi li (.slice none 0 0) [] 0) := HD.out.call hR3 hK3
        clear hA3 hR3 hK3 HD
        by_cases hm : 100 < m
        · have HDEC : Hid (decT bs = (noT, 2)) := dec_great2 HC1.out HAI.out HA3.out hm
          have HD := HD3
          have d0 : w3.cell? ⟨T, 0, none⟩ = some (.slice none 0 0) := HD.out.ans.one rfl
          have d1 : w3.cell? ⟨T, 1, none⟩ = some (.slice none 0 0) := HD.out.ans.one rfl
          have d2 : w3.cell? ⟨T, 2, none⟩ = some (.int .i64 0) := HD.out.ans.one rfl
          have g0 : w3.frozen? ⟨T, 0, none⟩ = false := HD.out.ans.frozen 0
          have g1 : w3.frozen? ⟨T, 1, none⟩ = false := HD.out.ans.frozen 1
          have g2 : w3.frozen? ⟨T, 2, none⟩ = false := HD.out.ans.frozen 2
          go_wp2_with fail
          generalize hu5 : World.setCell (World.setCell (World.setCell w3 _ _) _ _) _ _ = u5
          have HK5 : Hid (Keep T w3 u5) := by rw [← hu5]; exact (((Keep.refl _ _).setCell 0 _).setCell 1 _).setCell 2 _
          have HB5 : Hid (Blk u5 T [.slice none 0 0, .slice none 0 0, .int .i64 0]) := by rw [← hu5]; exact ((HD.out.ans.set 0 _).set 1 _).set 2 _
          clear hu5
          have hsz := HD.out.sz
          refine bodyPost_ret (v := .tuple #[.agg #[.slice none 0 0, .slice none 0 0, .int .i64 0], .int .i64 2]) ?_ rfl (HFD.out _ _ HDEC.out rfl (HD.out.bel.trans (HK5.out.below (Nat.le_refl _) (by omega))))
          obtain ⟨tt, hb⟩ := HB5.out
          exact results_row_tmp Tryz.results9 _ _ T tt _ _ _ rfl hb Tryz.underlying25 rfl size_tx
        · obtain ⟨M, rfl⟩ : ∃ M : Nat, m = M := ⟨m.toNat, by omega⟩
          have hM : M ≤ 100 := by omega
          have hM2 : ¬ (100 : Int) < (M : Int) := by omega
          have HC3 : Hid (Agr (rC · 100) s2 (M : Int) s3) := agr_count HA3.out (by omega)
          obtain ⟨I, hI⟩ : ∃ I, I = li := ⟨_, rfl⟩
          rw [← hI] at HI HAI HD3
          clear HA3 hm hm0 hI
          go_wp2_with fail
          clear hM2
          go_loopw [10, 11] (fun i _ wr => ∃ (k : Nat) (vo : Value) (lo : List Out) (s4 : RS), k ≤ M ∧ i = .int .i64 k ∧ lo.length = k ∧ Hid (Agr (rMany rOut k) s3 lo s4) ∧ Hid (DSt w wr T s4 vi I vo lo 0)) (fun i _ _ => M - (intOf i).toNat)
          case atStart => exact ⟨0, _, [], s3, by omega, rfl, rfl, agr_none rOut s3, HD3.out⟩
          case round =>
            obtain ⟨j, vo, lo, s4, hj, rfl, hlo, HAO, HD⟩ := hrel
            by_cases hlt : j < M
            · have e1 : (j : Int) < (M : Int) := by omega
              go_wp2_with fail
              refine Calls.mono (HNUM.out T _ _ HD.out.rd) ?_
              rintro e w4 ⟨v, s5, rfl, _, hA4, hR4, hK4⟩
              have HA4 : Hid (Agr rN s4 v s5) := hA4
              have HD4 : Hid (DSt w w4 T s5 vi I vo lo 0) := HD.out.call hR4 hK4
              clear hA4 hR4 hK4 HD
              have hc0 : w4.cell? ⟨T + 2, 1, none⟩ = some vo := HD4.out.var.one rfl
              go_upto_region 18 with fail
              refine wp_region_noPanic ?_
              refine wp_region_held_drew (S := fun _ => True) HMO.out (trivial) (fun hHeld => ?_)
              refine wpAnyH_take (i := 0) (oi := { dst := some 53, op := .fieldAddr 25 (.tmp 5) 1, type := 0, pos := "forms.go:536", after := #[], guard := none }) (v := ?_) rfl (by kernel_rfl) (by kernel_rfl) (by kernel_rfl) (fun _ _ _ h => h) (Or.inl ⟨by rfl, ?_⟩) (by assumption) ?_
              rotate_left
              · intro _ _; go_simp; first | done | with_reducible rfl
              simp only [Act.put, List.setIfInBounds_toArray, List.set_cons_zero, List.set_cons_succ]
              refine wpAnyH_take (i := 2) (oi := { dst := some 55, op := .move (.tmp 11), type := 3, pos := "forms.go:536", after := #[], guard := none }) (v := ?_) rfl (by kernel_rfl) (by kernel_rfl) (by kernel_rfl) (fun _ _ _ h => h) (Or.inl ⟨by rfl, ?_⟩) (by assumption) ?_
              rotate_left
              · intro _ _; go_simp; first | done | with_reducible rfl
              simp only [Act.put, List.setIfInBounds_toArray, List.set_cons_zero, List.set_cons_succ]
              refine wpAnyH_take (i := 3) (oi := { dst := some 56, op := .move (.tmp 4), type := 70, pos := "forms.go:536", after := #[], guard := none }) (v := ?_) rfl (by kernel_rfl) (by kernel_rfl) (by kernel_rfl) (fun _ _ _ h => h) (Or.inl ⟨by rfl, ?_⟩) (by assumption) ?_
              rotate_left
              · intro _ _; go_simp; first | done | with_reducible rfl
              simp only [Act.put, List.setIfInBounds_toArray, List.set_cons_zero, List.set_cons_succ]
              refine wpAnyH_ready (rs := [1, 4]) (by kernel_rfl) (by simp) ?_
              refine (AllReadyH.cons (o := { dst := some 54, op := .load 23 (.tmp 53), type := 23, pos := "forms.go:536", after := #[{ on := 0, ground := .data }], guard := none }) rfl (fun K hK => ?_) (AllReadyH.cons (o := { dst := some 57, op := .call { callee := .value (.func 36), args := #[.tmp 56], argTypes := #[70] }, type := 54, pos := "forms.go:536", after := #[{ on := 3, ground := .data }], guard := none }) rfl (fun K hK => ?_) AllReadyH.nil))
              · go_simp
                skip
                go_simp
                refine hK.out _ _ (trivial) (fun hHeld => ?_)
                clear hK K
                refine wpAnyH_ready (rs := [4]) (by kernel_rfl) (by simp) ?_
                refine AllReadyH.cons (o := { dst := some 57, op := .call { callee := .value (.func 36), args := #[.tmp 56], argTypes := #[70] }, type := 54, pos := "forms.go:536", after := #[{ on := 3, ground := .data }], guard := none }) rfl (fun K hK => ?_) AllReadyH.nil
                go_simp
                refine Calls.mono (fscript_any (T + 1) T s5 _ HD4.out.drew.rd) ?_; rintro e w5 ⟨c, s6, rfl, hA5, hR5, hK5⟩; have HD5 : Hid (DSt w w5 T s6 vi I vo lo 0) := HD4.out.drew.call hR5 hK5; have HAO5 : Hid (Agr (rMany rOut (j + 1)) s3 (lo ++ [⟨v, c⟩]) s6) := agr_next rOut_ext HAO.out (agr_out HA4.out hA5); have hbu := built_out v c; obtain ⟨x, hx⟩ : ∃ x : Out, x = ⟨v, c⟩ := ⟨_, rfl⟩; rw [← hx] at hbu HAO5; clear hx hA5 hR5 hK5
                go_simp
                refine hK.out _ _ (trivial) (fun hHeld => ?_)
                clear hK K
                refine wpAnyH_take (i := 5) (oi := { dst := some 58, op := .build 56 #[(0, .tmp 55), (1, .tmp 57)], type := 56, pos := "forms.go:536", after := #[{ on := 2, ground := .data }, { on := 4, ground := .data }], guard := none }) (v := .agg x.cs.toArray) rfl (by kernel_rfl) (by kernel_rfl) (by kernel_rfl) (fun _ _ _ h => h) (Or.inl ⟨by rfl, ?_⟩) (by assumption) ?_
                · intro _ _; exact exec_build 56 _ rfl _ _ hbu (by rw [Array.toList_map]; rfl) _
                simp only [Act.put, List.setIfInBounds_toArray, List.set_cons_zero, List.set_cons_succ]
                refine wpAnyH_ready (rs := [6]) (by kernel_rfl) (by simp) ?_
                refine AllReadyH.cons (o := { dst := some 59, op := .buildSlice 23 1 #[(0, .tmp 58)], type := 23, pos := "forms.go:536", after := #[{ on := 5, ground := .data }], guard := none }) rfl (fun K hK => ?_) AllReadyH.nil
                refine step_build_one elOut rfl _ rfl x rfl ?_; intro w6 HE6 Hb6; have HD6 : Hid (DSt w w6 T s6 vi I vo lo 0) := HD5.out.below Hb6.out
                simp only [Act.put, List.setIfInBounds_toArray, List.set_cons_zero, List.set_cons_succ]
                refine hK.out _ _ (trivial) (fun hHeld => ?_)
                clear hK K
                refine wpAnyH_ready (rs := [7]) (by kernel_rfl) (by simp) ?_
                refine AllReadyH.cons (o := { dst := some 60, op := .call { callee := .builtin Go.Builtin.append, args := #[.tmp 54, .tmp 59], argTypes := #[23, 23] }, type := 23, pos := "forms.go:536", after := #[{ on := 1, ground := .data }, { on := 6, ground := .data }, { on := 4, ground := .chain }], guard := none }) rfl (fun K hK => ?_) AllReadyH.nil
                refine step_append_e elOut rfl _ _ rfl (T + 3) vo lo rfl HD6.out.outs _ 1 1 [x] rfl HE6.out (by omega) HD6.out.sz ?_; intro v7 w7 HO7 HG7 HM7; obtain ⟨a7, n7, cap7, rfl⟩ := HO7.out.any; obtain ⟨hc7, hf7⟩ := hold_cell (i := 1) HD6.out.var (fun k hk => (HD6.out.outs.lt k hk).1) (by omega) HG7.out rfl
                simp only [Act.put, List.setIfInBounds_toArray, List.set_cons_zero, List.set_cons_succ]
                refine hK.out _ _ (trivial) (fun hHeld => ?_)
                clear hK K
                refine wpAnyH_take (i := 8) (oi := { dst := some 61, op := .fieldAddr 25 (.tmp 5) 1, type := 0, pos := "forms.go:536", after := #[{ on := 0, ground := .phase }, { on := 1, ground := .phase }, { on := 2, ground := .phase }, { on := 3, ground := .phase }, { on := 4, ground := .phase }, { on := 5, ground := .phase }, { on := 6, ground := .phase }, { on := 7, ground := .phase }], guard := none }) (v := ?_) rfl (by kernel_rfl) (by kernel_rfl) (by kernel_rfl) (fun _ _ _ h => h) (Or.inl ⟨by rfl, ?_⟩) (by assumption) ?_
                rotate_left
                · intro _ _; go_simp; first | done | with_reducible rfl
                simp only [Act.put, List.setIfInBounds_toArray, List.set_cons_zero, List.set_cons_succ]
                refine wpAnyH_ready (rs := [9]) (by kernel_rfl) (by simp) ?_
                refine AllReadyH.cons (o := { dst := none, op := .store 23 (.tmp 61) (.tmp 60), type := 0, pos := "forms.go:536", after := #[{ on := 8, ground := .data }, { on := 7, ground := .data }, { on := 7, ground := .chain }, { on := 0, ground := .phase }, { on := 1, ground := .phase }, { on := 2, ground := .phase }, { on := 3, ground := .phase }, { on := 4, ground := .phase }, { on := 5, ground := .phase }, { on := 6, ground := .phase }, { on := 7, ground := .phase }], guard := none }) rfl (fun K hK => ?_) AllReadyH.nil
                go_simp
                skip
                go_simp
                refine hK.out _ _ (trivial) (fun hHeld => ?_)
                clear hK K
                refine wpAnyH_done (by kernel_rfl) ?_ _
                refine NoPanic.normal ?_
                have HD8 : Hid (DSt w (w7.setCell ⟨T + 2, 1, none⟩ (.slice a7 n7 cap7)) T s6 vi I (.slice a7 n7 cap7) (lo ++ [x]) 0) := HD6.out.addOut HO7.out HG7.out HM7.out
                clear hHeld hc7 hf7 HO7 HG7 HM7 HE6 Hb6 HD6 HD5 hbu hc0
                generalize w7.setCell ⟨T + 2, 1, none⟩ (.slice a7 n7 cap7) = w8 at *
                go_wp2_with fail
                go_roundw
                case rel => exact ⟨j + 1, _, lo ++ [x], s6, by omega, by go_num, by rw [List.length_append, hlo]; rfl, HAO5.out, HD8.out⟩
                case measure => simp [intOf]; omega
              · go_simp
                refine Calls.mono (fscript_any (T + 1) T s5 _ HD4.out.drew.rd) ?_; rintro e w5 ⟨c, s6, rfl, hA5, hR5, hK5⟩; have HD5 : Hid (DSt w w5 T s6 vi I vo lo 0) := HD4.out.drew.call hR5 hK5; have HAO5 : Hid (Agr (rMany rOut (j + 1)) s3 (lo ++ [⟨v, c⟩]) s6) := agr_next rOut_ext HAO.out (agr_out HA4.out hA5); have hbu := built_out v c; obtain ⟨x, hx⟩ : ∃ x : Out, x = ⟨v, c⟩ := ⟨_, rfl⟩; rw [← hx] at hbu HAO5; clear hx hA5 hR5 hK5; have hc5 : w5.cell? ⟨T + 2, 1, none⟩ = some vo := HD5.out.var.one rfl
                go_simp
                refine hK.out _ _ (trivial) (fun hHeld => ?_)
                clear hK K
                refine wpAnyH_take (i := 5) (oi := { dst := some 58, op := .build 56 #[(0, .tmp 55), (1, .tmp 57)], type := 56, pos := "forms.go:536", after := #[{ on := 2, ground := .data }, { on := 4, ground := .data }], guard := none }) (v := .agg x.cs.toArray) rfl (by kernel_rfl) (by kernel_rfl) (by kernel_rfl) (fun _ _ _ h => h) (Or.inl ⟨by rfl, ?_⟩) (by assumption) ?_
                · intro _ _; exact exec_build 56 _ rfl _ _ hbu (by rw [Array.toList_map]; rfl) _
                simp only [Act.put, List.setIfInBounds_toArray, List.set_cons_zero, List.set_cons_succ]
                refine wpAnyH_ready (rs := [1, 6]) (by kernel_rfl) (by simp) ?_
                refine (AllReadyH.cons (o := { dst := some 54, op := .load 23 (.tmp 53), type := 23, pos := "forms.go:536", after := #[{ on := 0, ground := .data }], guard := none }) rfl (fun K hK => ?_) (AllReadyH.cons (o := { dst := some 59, op := .buildSlice 23 1 #[(0, .tmp 58)], type := 23, pos := "forms.go:536", after := #[{ on := 5, ground := .data }], guard := none }) rfl (fun K hK => ?_) AllReadyH.nil))
                · go_simp
                  skip
                  go_simp
                  refine hK.out _ _ (trivial) (fun hHeld => ?_)
                  clear hK K
                  refine wpAnyH_ready (rs := [6]) (by kernel_rfl) (by simp) ?_
                  refine AllReadyH.cons (o := { dst := some 59, op := .buildSlice 23 1 #[(0, .tmp 58)], type := 23, pos := "forms.go:536", after := #[{ on := 5, ground := .data }], guard := none }) rfl (fun K hK => ?_) AllReadyH.nil
                  refine step_build_one elOut rfl _ rfl x rfl ?_; intro w6 HE6 Hb6; have HD6 : Hid (DSt w w6 T s6 vi I vo lo 0) := HD5.out.below Hb6.out
                  simp only [Act.put, List.setIfInBounds_toArray, List.set_cons_zero, List.set_cons_succ]
                  refine hK.out _ _ (trivial) (fun hHeld => ?_)
                  clear hK K
                  refine wpAnyH_ready (rs := [7]) (by kernel_rfl) (by simp) ?_
                  refine AllReadyH.cons (o := { dst := some 60, op := .call { callee := .builtin Go.Builtin.append, args := #[.tmp 54, .tmp 59], argTypes := #[23, 23] }, type := 23, pos := "forms.go:536", after := #[{ on := 1, ground := .data }, { on := 6, ground := .data }, { on := 4, ground := .chain }], guard := none }) rfl (fun K hK => ?_) AllReadyH.nil
                  refine step_append_e elOut rfl _ _ rfl (T + 3) vo lo rfl HD6.out.outs _ 1 1 [x] rfl HE6.out (by omega) HD6.out.sz ?_; intro v7 w7 HO7 HG7 HM7; obtain ⟨a7, n7, cap7, rfl⟩ := HO7.out.any; obtain ⟨hc7, hf7⟩ := hold_cell (i := 1) HD6.out.var (fun k hk => (HD6.out.outs.lt k hk).1) (by omega) HG7.out rfl
                  simp only [Act.put, List.setIfInBounds_toArray, List.set_cons_zero, List.set_cons_succ]
                  refine hK.out _ _ (trivial) (fun hHeld => ?_)
                  clear hK K
                  refine wpAnyH_take (i := 8) (oi := { dst := some 61, op := .fieldAddr 25 (.tmp 5) 1, type := 0, pos := "forms.go:536", after := #[{ on := 0, ground := .phase }, { on := 1, ground := .phase }, { on := 2, ground := .phase }, { on := 3, ground := .phase }, { on := 4, ground := .phase }, { on := 5, ground := .phase }, { on := 6, ground := .phase }, { on := 7, ground := .phase }], guard := none }) (v := ?_) rfl (by kernel_rfl) (by kernel_rfl) (by kernel_rfl) (fun _ _ _ h => h) (Or.inl ⟨by rfl, ?_⟩) (by assumption) ?_
                  rotate_left
                  · intro _ _; go_simp; first | done | with_reducible rfl
                  simp only [Act.put, List.setIfInBounds_toArray, List.set_cons_zero, List.set_cons_succ]
                  refine wpAnyH_ready (rs := [9]) (by kernel_rfl) (by simp) ?_
                  refine AllReadyH.cons (o := { dst := none, op := .store 23 (.tmp 61) (.tmp 60), type := 0, pos := "forms.go:536", after := #[{ on := 8, ground := .data }, { on := 7, ground := .data }, { on := 7, ground := .chain }, { on := 0, ground := .phase }, { on := 1, ground := .phase }, { on := 2, ground := .phase }, { on := 3, ground := .phase }, { on := 4, ground := .phase }, { on := 5, ground := .phase }, { on := 6, ground := .phase }, { on := 7, ground := .phase }], guard := none }) rfl (fun K hK => ?_) AllReadyH.nil
                  go_simp
                  skip
                  go_simp
                  refine hK.out _ _ (trivial) (fun hHeld => ?_)
                  clear hK K
                  refine wpAnyH_done (by kernel_rfl) ?_ _
                  refine NoPanic.normal ?_
                  have HD8 : Hid (DSt w (w7.setCell ⟨T + 2, 1, none⟩ (.slice a7 n7 cap7)) T s6 vi I (.slice a7 n7 cap7) (lo ++ [x]) 0) := HD6.out.addOut HO7.out HG7.out HM7.out
                  clear hHeld hc7 hf7 HO7 HG7 HM7 HE6 Hb6 HD6 HD5 hbu hc0
                  generalize w7.setCell ⟨T + 2, 1, none⟩ (.slice a7 n7 cap7) = w8 at *
                  go_wp2_with fail
                  go_roundw
                  case rel => exact ⟨j + 1, _, lo ++ [x], s6, by omega, by go_num, by rw [List.length_append, hlo]; rfl, HAO5.out, HD8.out⟩
                  case measure => simp [intOf]; omega
                · refine step_build_one elOut rfl _ rfl x rfl ?_; intro w6 HE6 Hb6; have HD6 : Hid (DSt w w6 T s6 vi I vo lo 0) := HD5.out.below Hb6.out; have hc6 : w6.cell? ⟨T + 2, 1, none⟩ = some vo := HD6.out.var.one rfl
                  simp only [Act.put, List.setIfInBounds_toArray, List.set_cons_zero, List.set_cons_succ]
                  refine hK.out _ _ (trivial) (fun hHeld => ?_)
                  clear hK K
                  refine wpAnyH_ready (rs := [1]) (by kernel_rfl) (by simp) ?_
                  refine AllReadyH.cons (o := { dst := some 54, op := .load 23 (.tmp 53), type := 23, pos := "forms.go:536", after := #[{ on := 0, ground := .data }], guard := none }) rfl (fun K hK => ?_) AllReadyH.nil
                  go_simp
                  skip
                  go_simp
                  refine hK.out _ _ (trivial) (fun hHeld => ?_)
                  clear hK K
                  refine wpAnyH_ready (rs := [7]) (by kernel_rfl) (by simp) ?_
                  refine AllReadyH.cons (o := { dst := some 60, op := .call { callee := .builtin Go.Builtin.append, args := #[.tmp 54, .tmp 59], argTypes := #[23, 23] }, type := 23, pos := "forms.go:536", after := #[{ on := 1, ground := .data }, { on := 6, ground := .data }, { on := 4, ground := .chain }], guard := none }) rfl (fun K hK => ?_) AllReadyH.nil
                  refine step_append_e elOut rfl _ _ rfl (T + 3) vo lo rfl HD6.out.outs _ 1 1 [x] rfl HE6.out (by omega) HD6.out.sz ?_; intro v7 w7 HO7 HG7 HM7; obtain ⟨a7, n7, cap7, rfl⟩ := HO7.out.any; obtain ⟨hc7, hf7⟩ := hold_cell (i := 1) HD6.out.var (fun k hk => (HD6.out.outs.lt k hk).1) (by omega) HG7.out rfl
                  simp only [Act.put, List.setIfInBounds_toArray, List.set_cons_zero, List.set_cons_succ]
                  refine hK.out _ _ (trivial) (fun hHeld => ?_)
                  clear hK K
                  refine wpAnyH_take (i := 8) (oi := { dst := some 61, op := .fieldAddr 25 (.tmp 5) 1, type := 0, pos := "forms.go:536", after := #[{ on := 0, ground := .phase }, { on := 1, ground := .phase }, { on := 2, ground := .phase }, { on := 3, ground := .phase }, { on := 4, ground := .phase }, { on := 5, ground := .phase }, { on := 6, ground := .phase }, { on := 7, ground := .phase }], guard := none }) (v := ?_) rfl (by kernel_rfl) (by kernel_rfl) (by kernel_rfl) (fun _ _ _ h => h) (Or.inl ⟨by rfl, ?_⟩) (by assumption) ?_
                  rotate_left
                  · intro _ _; go_simp; first | done | with_reducible rfl
                  simp only [Act.put, List.setIfInBounds_toArray, List.set_cons_zero, List.set_cons_succ]
                  refine wpAnyH_ready (rs := [9]) (by kernel_rfl) (by simp) ?_
                  refine AllReadyH.cons (o := { dst := none, op := .store 23 (.tmp 61) (.tmp 60), type := 0, pos := "forms.go:536", after := #[{ on := 8, ground := .data }, { on := 7, ground := .data }, { on := 7, ground := .chain }, { on := 0, ground := .phase }, { on := 1, ground := .phase }, { on := 2, ground := .phase }, { on := 3, ground := .phase }, { on := 4, ground := .phase }, { on := 5, ground := .phase }, { on := 6, ground := .phase }, { on := 7, ground := .phase }], guard := none }) rfl (fun K hK => ?_) AllReadyH.nil
                  go_simp
                  skip
                  go_simp
                  refine hK.out _ _ (trivial) (fun hHeld => ?_)
                  clear hK K
                  refine wpAnyH_done (by kernel_rfl) ?_ _
                  refine NoPanic.normal ?_
                  have HD8 : Hid (DSt w (w7.setCell ⟨T + 2, 1, none⟩ (.slice a7 n7 cap7)) T s6 vi I (.slice a7 n7 cap7) (lo ++ [x]) 0) := HD6.out.addOut HO7.out HG7.out HM7.out
                  clear hHeld hc7 hf7 HO7 HG7 HM7 HE6 Hb6 HD6 HD5 hbu hc0
                  generalize w7.setCell ⟨T + 2, 1, none⟩ (.slice a7 n7 cap7) = w8 at *
                  go_wp2_with fail
                  go_roundw
                  case rel => exact ⟨j + 1, _, lo ++ [x], s6, by omega, by go_num, by rw [List.length_append, hlo]; rfl, HAO5.out, HD8.out⟩
                  case measure => simp [intOf]; omega
            · obtain rfl : j = M := by omega
              have HO : Hid (lo.length = j) := hlo
              clear hlo
              go_wp2_with fail
              refine Calls.mono (HNUM.out T _ _ HD.out.rd) ?_
              rintro e w4 ⟨lk, s5, rfl, _, hA4, hR4, hK4⟩
              have HA4 : Hid (Agr rN s4 lk s5) := hA4
              have HD4 : Hid (DSt w w4 T s5 vi I vo lo 0) := HD.out.call hR4 hK4
              have HD5 : Hid (DSt w (w4.setCell ⟨T + 2, 2, none⟩ (.int .i64 lk)) T s5 vi I vo lo lk) := HD4.out.lockSet lk
              have c2 : w4.cell? ⟨T + 2, 2, none⟩ = some (.int .i64 0) := HD4.out.var.one rfl
              have f2 : w4.frozen? ⟨T + 2, 2, none⟩ = false := HD4.out.var.frozen 2
              clear hA4 hR4 hK4 HD HD4
              go_upto_region 20 with fail
              generalize w4.setCell ⟨T + 2, 2, none⟩ (.int .i64 lk) = w5 at *
              clear c2 f2
              go_wp2_with fail
              go_loopw [12, 13, 14] (fun i _ _ wr => ∃ (q : Nat) (W : List WitD) (s6 : RS), q ≤ k ∧ i = .int .i64 q ∧ W.length = q ∧ Hid (Agr (rMany rWit q) s5 W s6) ∧ Hid (DSt w wr T s6 vi (List.zipWith putW (I.take q) W ++ I.drop q) vo lo lk)) (fun i _ _ _ => k - (intOf i).toNat)
              case atStart => exact ⟨0, [], s5, by omega, rfl, rfl, agr_none rWit s5, HD5.out⟩
              case round =>
                obtain ⟨q, W, s6, hq, rfl, hW, HAW, HD⟩ := hrel
                by_cases hlt : q < k
                · have e0 : (0 : Int) ≤ (q : Int) := by omega
                  have e1 : (q : Int) < (k : Int) := by omega
                  have hqI : q < I.length := by rw [HI.out]; exact hlt
                  have HLZ : Hid ((List.zipWith putW (I.take q) W ++ I.drop q).length = k) := by
                    show _ = _
                    rw [zip_len I W q hW (by omega)]; exact HI.out
                  have HZN : Hid (∀ v, (List.zipWith putW (I.take q) W ++ I.drop q).set q (putW ((List.zipWith putW (I.take q) W ++ I.drop q).getD q default) v) = List.zipWith putW (I.take (q + 1)) (W ++ [v]) ++ I.drop (q + 1)) := fun v => zip_nextR I W q v hW hqI
                  generalize List.zipWith putW (I.take q) W ++ I.drop q = Z at *
                  go_wp2_with fail
                  refine Calls.mono (HNUM.out T _ _ HD.out.rd) ?_
                  rintro e w6 ⟨kd, s7, rfl, _, hA6, hR6, hK6⟩
                  have HA6 : Hid (Agr rN s6 kd s7) := hA6
                  have HD6 : Hid (DSt w w6 T s7 vi Z vo lo lk) := HD.out.call hR6 hK6
                  clear hA6 hR6 hK6 HD
                  go_wp2_with fail
                  refine Calls.mono (HNUM.out T _ _ HD6.out.rd) ?_
                  rintro e w7 ⟨ky, s8, rfl, _, hA7, hR7, hK7⟩
                  have HA7 : Hid (Agr rN s7 ky s8) := hA7
                  have HD7 : Hid (DSt w w7 T s8 vi Z vo lo lk) := HD6.out.call hR7 hK7
                  clear hA7 hR7 hK7 HD6
                  obtain ⟨g, n', cap', hvi, hn', hg⟩ := HD7.out.ins.led (by rw [HLZ.out]; omega)
                  rw [HLZ.out] at hn'
                  have hQZ : q < Z.length := by rw [HLZ.out]; exact hlt
                  have HVI : Hid (vi = .slice (some ⟨g, 0, none⟩) n' cap') := hvi
                  rw [hvi] at HD7
                  clear hvi
                  have e2 : (q : Int) < (n' : Int) := by omega
                  go_upto_region 25 with fail
                  refine wp_region_noPanic ?_
                  refine wp_region_held_drew (S := fun w' => w'.cell? ⟨T + 2, 0, none⟩ = some (.slice (some ⟨g, 0, none⟩) n' cap')) HMO.out (HD7.out.drew.var.one rfl) (fun hHeld => ?_)
                  refine wpAnyH_take (i := 0) (oi := { dst := some 74, op := .fieldAddr 25 (.tmp 5) 0, type := 0, pos := "forms.go:542", after := #[], guard := none }) (v := ?_) rfl (by kernel_rfl) (by kernel_rfl) (by kernel_rfl) (fun _ _ _ h => h) (Or.inl ⟨by rfl, ?_⟩) (by assumption) ?_
                  rotate_left
                  · intro _ _; go_simp; first | done | with_reducible rfl
                  simp only [Act.put, List.setIfInBounds_toArray, List.set_cons_zero, List.set_cons_succ]
                  refine wpAnyH_take (i := 1) (oi := { dst := some 75, op := .load 22 (.tmp 74), type := 22, pos := "forms.go:542", after := #[{ on := 0, ground := .data }], guard := none }) (v := ?_) rfl (by kernel_rfl) (by kernel_rfl) (by kernel_rfl) (fun _ _ _ h => h) (Or.inl ⟨by rfl, ?_⟩) (by assumption) ?_
                  rotate_left
                  · intro _ _; go_simp; first | done | with_reducible rfl
                  simp only [Act.put, List.setIfInBounds_toArray, List.set_cons_zero, List.set_cons_succ]
                  refine wpAnyH_take (i := 2) (oi := { dst := some 76, op := .move (.tmp 12), type := 3, pos := "forms.go:542", after := #[], guard := none }) (v := ?_) rfl (by kernel_rfl) (by kernel_rfl) (by kernel_rfl) (fun _ _ _ h => h) (Or.inl ⟨by rfl, ?_⟩) (by assumption) ?_
                  rotate_left
                  · intro _ _; go_simp; first | done | with_reducible rfl
                  simp only [Act.put, List.setIfInBounds_toArray, List.set_cons_zero, List.set_cons_succ]
                  refine wpAnyH_take (i := 3) (oi := { dst := some 77, op := .move (.tmp 13), type := 3, pos := "forms.go:542", after := #[], guard := none }) (v := ?_) rfl (by kernel_rfl) (by kernel_rfl) (by kernel_rfl) (fun _ _ _ h => h) (Or.inl ⟨by rfl, ?_⟩) (by assumption) ?_
                  rotate_left
                  · intro _ _; go_simp; first | done | with_reducible rfl
                  simp only [Act.put, List.setIfInBounds_toArray, List.set_cons_zero, List.set_cons_succ]
                  refine wpAnyH_take (i := 4) (oi := { dst := some 78, op := .move (.tmp 14), type := 3, pos := "forms.go:542", after := #[], guard := none }) (v := ?_) rfl (by kernel_rfl) (by kernel_rfl) (by kernel_rfl) (fun _ _ _ h => h) (Or.inl ⟨by rfl, ?_⟩) (by assumption) ?_
                  rotate_left
                  · intro _ _; go_simp; first | done | with_reducible rfl
                  simp only [Act.put, List.setIfInBounds_toArray, List.set_cons_zero, List.set_cons_succ]
                  refine wpAnyH_take (i := 5) (oi := { dst := some 79, op := .move (.tmp 4), type := 70, pos := "forms.go:542", after := #[], guard := none }) (v := ?_) rfl (by kernel_rfl) (by kernel_rfl) (by kernel_rfl) (fun _ _ _ h => h) (Or.inl ⟨by rfl, ?_⟩) (by assumption) ?_
                  rotate_left
                  · intro _ _; go_simp; first | done | with_reducible rfl
                  simp only [Act.put, List.setIfInBounds_toArray, List.set_cons_zero, List.set_cons_succ]
                  refine wpAnyH_ready (rs := [6]) (by kernel_rfl) (by simp) ?_
                  refine AllReadyH.cons (o := { dst := some 80, op := .call { callee := .value (.func 37), args := #[.tmp 79], argTypes := #[70] }, type := 9, pos := "forms.go:542", after := #[{ on := 5, ground := .data }], guard := none }) rfl (fun K hK => ?_) AllReadyH.nil
                  go_simp
                  refine Calls.mono (ftext_any (T + 1) T s8 _ HD7.out.drew.rd) ?_; rintro e w8 ⟨x, s9, rfl, hA8, hR8, hK8⟩; have HA8 : Hid (Agr (rMany rWit (q + 1)) s5 (W ++ [⟨kd, ky, x⟩]) s9) := agr_next rWit_ext HAW.out (agr_wit HA6.out HA7.out hA8); have HD8 : Hid (DSt w w8 T s9 (.slice (some ⟨g, 0, none⟩) n' cap') Z vo lo lk) := HD7.out.drew.call hR8 hK8; have HTH : Hid (w8.there g (q * 37 + 34) 3) := HD8.out.ins.thereAt (j := q) hQZ 34 3 (by show 34 + 3 ≤ 37; omega); have hbw := built_wit kd ky x; clear hA8 hR8 hK8
                  go_simp
                  refine hK.out _ _ (HD8.out.var.one rfl) (fun hHeld => ?_)
                  clear hK K
                  refine wpAnyH_take (i := 7) (oi := { dst := some 81, op := .build 50 #[(0, .tmp 77), (1, .tmp 78), (2, .tmp 80)], type := 50, pos := "forms.go:542", after := #[{ on := 3, ground := .data }, { on := 4, ground := .data }, { on := 6, ground := .data }], guard := none }) (v := .agg #[.int .i64 kd, .int .i64 ky, .string x]) rfl (by kernel_rfl) (by kernel_rfl) (by kernel_rfl) (fun _ _ _ h => h) (Or.inl ⟨by rfl, ?_⟩) (by assumption) ?_
                  · intro _ _; exact exec_build 50 _ rfl _ _ hbw (by rw [Array.toList_map]; rfl) _
                  simp only [Act.put, List.setIfInBounds_toArray, List.set_cons_zero, List.set_cons_succ]
                  refine wpAnyH_take (i := 8) (oi := { dst := some 82, op := .indexAddr 22 (.tmp 75) (.tmp 76), type := 0, pos := "forms.go:542", after := #[{ on := 1, ground := .data }, { on := 2, ground := .data }, { on := 0, ground := .phase }, { on := 1, ground := .phase }, { on := 2, ground := .phase }, { on := 3, ground := .phase }, { on := 4, ground := .phase }, { on := 5, ground := .phase }, { on := 6, ground := .phase }, { on := 7, ground := .phase }], guard := none }) (v := ?_) rfl (by kernel_rfl) (by kernel_rfl) (by kernel_rfl) (fun _ _ _ h => h) (Or.inl ⟨by rfl, ?_⟩) (by assumption) ?_
                  rotate_left
                  · intro _ _; go_simp; first | done | with_reducible rfl
                  simp only [Act.put, List.setIfInBounds_toArray, List.set_cons_zero, List.set_cons_succ]
                  refine wpAnyH_take (i := 9) (oi := { dst := some 83, op := .fieldAddr 52 (.tmp 82) 2, type := 0, pos := "forms.go:542", after := #[{ on := 8, ground := .data }, { on := 0, ground := .phase }, { on := 1, ground := .phase }, { on := 2, ground := .phase }, { on := 3, ground := .phase }, { on := 4, ground := .phase }, { on := 5, ground := .phase }, { on := 6, ground := .phase }, { on := 7, ground := .phase }], guard := none }) (v := ?_) rfl (by kernel_rfl) (by kernel_rfl) (by kernel_rfl) (fun _ _ _ h => h) (Or.inl ⟨by rfl, ?_⟩) (by assumption) ?_
                  rotate_left
                  · intro _ _; go_simp; first | done | with_reducible rfl
                  simp only [Act.put, List.setIfInBounds_toArray, List.set_cons_zero, List.set_cons_succ]
                  refine wpAnyH_ready (rs := [10]) (by kernel_rfl) (by simp) ?_
                  refine AllReadyH.cons (o := { dst := none, op := .store 50 (.tmp 83) (.tmp 81), type := 0, pos := "forms.go:542", after := #[{ on := 9, ground := .data }, { on := 7, ground := .data }, { on := 6, ground := .chain }, { on := 0, ground := .phase }, { on := 1, ground := .phase }, { on := 2, ground := .phase }, { on := 3, ground := .phase }, { on := 4, ground := .phase }, { on := 5, ground := .phase }, { on := 6, ground := .phase }, { on := 7, ground := .phase }], guard := none }) rfl (fun K hK => ?_) AllReadyH.nil
                  refine step_store_mid rfl 50 _ _ rfl g (q * 37 + 34) [.int .i64 kd, .int .i64 ky, .string x] rfl rfl HTH.out (by kernel_rfl) (by intro v hv; simp only [List.mem_cons, List.not_mem_nil, or_false] at hv; rcases hv with rfl | rfl | rfl <;> rfl) ?_
                  simp only [Act.put]
                  refine hK.out _ _ ((HD8.out.witSet q hQZ kd ky x).var.one rfl) (fun hHeld => ?_)
                  clear hK K
                  refine wpAnyH_done (by kernel_rfl) ?_ _
                  refine NoPanic.normal ?_
                  have HD9 : Hid (DSt w (w8.setCells g (q * 37 + 34) [.int .i64 kd, .int .i64 ky, .string x]) T s9 vi (List.zipWith putW (I.take (q + 1)) (W ++ [⟨kd, ky, x⟩]) ++ I.drop (q + 1)) vo lo lk) := by
                    have := HD8.out.witSet q hQZ kd ky x
                    rw [HZN.out] at this
                    rw [HVI.out]; exact this
                  clear hHeld hbw HTH HD8 HD7 HAW
                  generalize w8.setCells g (q * 37 + 34) [.int .i64 kd, .int .i64 ky, .string x] = w9 at *
                  go_wp2_with fail
                  go_roundw
                  case rel => exact ⟨q + 1, W ++ [(⟨kd, ky, x⟩ : WitD)], s9, by omega, by go_num, by rw [List.length_append, hW]; rfl, HA8.out, HD9.out⟩
                  case measure => simp [intOf]; omega
                · obtain rfl : q = k := by omega
                  have HZ : Hid (List.zipWith putW (I.take q) W ++ I.drop q = List.zipWith putW I W) := by
                    show _ = _
                    rw [List.take_of_length_le (by rw [HI.out]; exact Nat.le_refl _), List.drop_of_length_le (by rw [HI.out]; exact Nat.le_refl _), List.append_nil]
                  rw [HZ.out] at HD
                  have HAT : Hid (Agr rTx (bs, false) ⟨List.zipWith putW I W, lo, lk⟩ s6) := agr_tx HC1.out HAI.out HC3.out HAO.out HA4.out HAW.out
                  have HDR : Hid (decT bs = if s6.2 = false ∧ chkE ⟨List.zipWith putW I W, lo, lk⟩ = 0 ∧ encB ⟨List.zipWith putW I W, lo, lk⟩ = bs then (⟨List.zipWith putW I W, lo, lk⟩, 0) else (noT, 2)) := dec_ref HAT.out
                  clear HAT HC1 HAI HC3 HAO HA4 HAW HZ HI
                  generalize List.zipWith putW I W = LI at *
                  obtain ⟨ai, ci, rfl, hEi⟩ := HD.out.ins.els
                  obtain ⟨ao, co, rfl, hEo⟩ := HD.out.outs.els
                  have HTX : Hid (TxAt wr ⟨ai, LI.length, ci, ao, lo.length, co⟩ ⟨LI, lo, lk⟩) := ⟨hEi, hEo⟩
                  have HNW : Hid (TxNew (T + 3) ⟨ai, LI.length, ci, ao, lo.length, co⟩) := ⟨fun x e => (HD.out.ins.lt x.block (by have e' : ai = some x := e; rw [e']; rfl)).1, fun x e => (HD.out.outs.lt x.block (by have e' : ao = some x := e; rw [e']; rfl)).1⟩
                  have HENC : Hid (Calls Tryz.prog 7 #[.agg #[.slice ai LI.length ci, .slice ao lo.length co, .int .i64 lk]] wr fun e w' => ∃ v, e = .returned (.tuple #[v, .int .i64 (chkE ⟨LI, lo, lk⟩)]) ∧ OwnB w' wr.heap.size v (encB ⟨LI, lo, lk⟩) ∧ Below wr.heap.size wr w') := rencode_any ⟨ai, LI.length, ci, ao, lo.length, co⟩ ⟨LI, lo, lk⟩ wr HTX.out
                  have HGD : Hid (∀ e w', decT bs = (⟨LI, lo, lk⟩, 0) → e = .returned (.tuple #[.agg #[.slice ai LI.length ci, .slice ao lo.length co, .int .i64 lk], .int .i64 0]) → TxAt w' ⟨ai, LI.length, ci, ao, lo.length, co⟩ ⟨LI, lo, lk⟩ → Below T w w' → FD bs w e w') := fun e w' h1 h2 h3 h4 => ⟨⟨ai, LI.length, ci, ao, lo.length, co⟩, by rw [h1, h2]; rfl, by rw [h1]; exact h3, hT ▸ h4⟩
                  obtain ⟨t, ht⟩ : ∃ t : TxD, t = ⟨LI, lo, lk⟩ := ⟨_, rfl⟩
                  rw [← ht] at HTX HENC HDR HGD
                  clear hEi hEo ht HO
                  have c0 : wr.cell? ⟨T + 2, 0, none⟩ = some (.slice ai LI.length ci) := HD.out.var.one rfl
                  have c1 : wr.cell? ⟨T + 2, 1, none⟩ = some (.slice ao lo.length co) := HD.out.var.one rfl
                  have c2 : wr.cell? ⟨T + 2, 2, none⟩ = some (.int .i64 lk) := HD.out.var.one rfl
                  generalize LI.length = n1 at *
                  generalize lo.length = n2 at *
                  go_wp2_with fail
                  refine Calls.mono HENC.out ?_
                  rintro e w9 ⟨v9, rfl, hO9, hb9⟩
                  have HD9 : Hid (DSt w w9 T s6 (.slice ai n1 ci) LI (.slice ao n2 co) lo lk) := HD.out.below hb9
                  have HTX9 : Hid (TxAt w9 ⟨ai, n1, ci, ao, n2, co⟩ t) := HTX.out.below hb9
                  obtain ⟨a9, cap9, rfl, hby9⟩ := hO9.bytes
                  have st1 := hby9.str
                  have st2 : (convert 26 9 (.slice a L cap)).run Tryz.prog w9 = .ok (.string (ofB bs)) w9 := by
                    have := (HBY.out.kept fun b o e => HD9.out.bel.block b (HAP.out _ e)).str
                    rwa [HL.out] at this
                  obtain ⟨fa, fc, hfB, _, _⟩ := HD9.out.rd.ex
                  have fl : w9.cell? ⟨T + 1, 1, none⟩ = some (.bool s6.2) := hfB.one rfl
                  have c0 : w9.cell? ⟨T + 2, 0, none⟩ = some (.slice ai n1 ci) := HD9.out.var.one rfl
                  have c1 : w9.cell? ⟨T + 2, 1, none⟩ = some (.slice ao n2 co) := HD9.out.var.one rfl
                  have c2 : w9.cell? ⟨T + 2, 2, none⟩ = some (.int .i64 lk) := HD9.out.var.one rfl
                  clear hO9 hb9 hby9 hfB HD HTX HENC
                  have HD := HD9
                  clear HD9
                  obtain ⟨xs, b6⟩ := s6
                  simp only at fl HDR
                  cases b6
                  · by_cases hz : chkE t = 0
                    · by_cases he : encB t = bs
                      · have HDEC : Hid (decT bs = (t, 0)) := by show _ = _; rw [HDR.out, if_pos ⟨rfl, hz, he⟩]
                        rw [he] at st1 ⊢
                        rw [hz]
                        clear hz he
                        generalize bs.length = L9 at *
                        have hsame : ((ofB bs).toList == (ofB bs).toList) = true := by simp
                        generalize ofB bs = str at *
                        have d0 : w9.cell? ⟨T, 0, none⟩ = some (.slice none 0 0) := HD.out.ans.one rfl
                        have d1 : w9.cell? ⟨T, 1, none⟩ = some (.slice none 0 0) := HD.out.ans.one rfl
                        have d2 : w9.cell? ⟨T, 2, none⟩ = some (.int .i64 0) := HD.out.ans.one rfl
                        have g0 : w9.frozen? ⟨T, 0, none⟩ = false := HD.out.ans.frozen 0
                        have g1 : w9.frozen? ⟨T, 1, none⟩ = false := HD.out.ans.frozen 1
                        have g2 : w9.frozen? ⟨T, 2, none⟩ = false := HD.out.ans.frozen 2
                        go_wp2_with fail
                        generalize hu5 : World.setCell (World.setCell (World.setCell w9 _ _) _ _) _ _ = u5
                        have HK5 : Hid (Keep T w9 u5) := by rw [← hu5]; exact (((Keep.refl _ _).setCell 0 _).setCell 1 _).setCell 2 _
                        have HEQ : Hid (∀ b, b ≠ T → u5.heap[b]? = w9.heap[b]?) := fun b hb => by rw [← hu5, Below.heap_setCell _ _ _ b hb, Below.heap_setCell _ _ _ b hb, Below.heap_setCell _ _ _ b hb]
                        have HB5 : Hid (Blk u5 T [.slice ai n1 ci, .slice ao n2 co, .int .i64 lk]) := by rw [← hu5]; exact ((HD.out.ans.set 0 _).set 1 _).set 2 _
                        clear hu5
                        have hsz := HD.out.sz
                        refine bodyPost_ret (v := .tuple #[.agg #[.slice ai n1 ci, .slice ao n2 co, .int .i64 lk], .int .i64 0]) ?_ rfl (HGD.out _ _ HDEC.out rfl (HTX9.out.kept HNW.out fun b hb => HEQ.out b (by omega)) (HD.out.bel.trans (HK5.out.below (Nat.le_refl _) (by omega))))
                        obtain ⟨tt, hb⟩ := HB5.out
                        exact results_row_tmp Tryz.results9 _ _ T tt _ _ _ rfl hb Tryz.underlying25 rfl size_tx
                      · have HDEC : Hid (decT bs = (noT, 2)) := by show _ = _; rw [HDR.out, if_neg (fun h => he h.2.2)]
                        have hdiff := Bytes.str_ne he
                        rw [hz]
                        clear hz he
                        generalize (encB t).length = L9 at *
                        generalize ofB bs = str at *
                        generalize ofB (encB t) = str2 at *
                        have d0 : w9.cell? ⟨T, 0, none⟩ = some (.slice none 0 0) := HD.out.ans.one rfl
                        have d1 : w9.cell? ⟨T, 1, none⟩ = some (.slice none 0 0) := HD.out.ans.one rfl
                        have d2 : w9.cell? ⟨T, 2, none⟩ = some (.int .i64 0) := HD.out.ans.one rfl
                        have g0 : w9.frozen? ⟨T, 0, none⟩ = false := HD.out.ans.frozen 0
                        have g1 : w9.frozen? ⟨T, 1, none⟩ = false := HD.out.ans.frozen 1
                        have g2 : w9.frozen? ⟨T, 2, none⟩ = false := HD.out.ans.frozen 2
                        go_wp2_with fail
                        generalize hu5 : World.setCell (World.setCell (World.setCell w9 _ _) _ _) _ _ = u5
                        have HK5 : Hid (Keep T w9 u5) := by rw [← hu5]; exact (((Keep.refl _ _).setCell 0 _).setCell 1 _).setCell 2 _
                        have HB5 : Hid (Blk u5 T [.slice none 0 0, .slice none 0 0, .int .i64 0]) := by rw [← hu5]; exact ((HD.out.ans.set 0 _).set 1 _).set 2 _
                        clear hu5
                        have hsz := HD.out.sz
                        refine bodyPost_ret (v := .tuple #[.agg #[.slice none 0 0, .slice none 0 0, .int .i64 0], .int .i64 2]) ?_ rfl (HFD.out _ _ HDEC.out rfl (HD.out.bel.trans (HK5.out.below (Nat.le_refl _) (by omega))))
                        obtain ⟨tt, hb⟩ := HB5.out
                        exact results_row_tmp Tryz.results9 _ _ T tt _ _ _ rfl hb Tryz.underlying25 rfl size_tx
                    · have HDEC : Hid (decT bs = (noT, 2)) := by show _ = _; rw [HDR.out, if_neg (fun h => hz h.2.1)]
                      have hne : (chkE t != 0) = true := by simp [hz]
                      generalize chkE t = E at *
                      clear hz
                      generalize (encB t).length = L9 at *
                      have d0 : w9.cell? ⟨T, 0, none⟩ = some (.slice none 0 0) := HD.out.ans.one rfl
                      have d1 : w9.cell? ⟨T, 1, none⟩ = some (.slice none 0 0) := HD.out.ans.one rfl
                      have d2 : w9.cell? ⟨T, 2, none⟩ = some (.int .i64 0) := HD.out.ans.one rfl
                      have g0 : w9.frozen? ⟨T, 0, none⟩ = false := HD.out.ans.frozen 0
                      have g1 : w9.frozen? ⟨T, 1, none⟩ = false := HD.out.ans.frozen 1
                      have g2 : w9.frozen? ⟨T, 2, none⟩ = false := HD.out.ans.frozen 2
                      go_wp2_with fail
                      generalize hu5 : World.setCell (World.setCell (World.setCell w9 _ _) _ _) _ _ = u5
                      have HK5 : Hid (Keep T w9 u5) := by rw [← hu5]; exact (((Keep.refl _ _).setCell 0 _).setCell 1 _).setCell 2 _
                      have HB5 : Hid (Blk u5 T [.slice none 0 0, .slice none 0 0, .int .i64 0]) := by rw [← hu5]; exact ((HD.out.ans.set 0 _).set 1 _).set 2 _
                      clear hu5
                      have hsz := HD.out.sz
                      refine bodyPost_ret (v := .tuple #[.agg #[.slice none 0 0, .slice none 0 0, .int .i64 0], .int .i64 2]) ?_ rfl (HFD.out _ _ HDEC.out rfl (HD.out.bel.trans (HK5.out.below (Nat.le_refl _) (by omega))))
                      obtain ⟨tt, hb⟩ := HB5.out
                      exact results_row_tmp Tryz.results9 _ _ T tt _ _ _ rfl hb Tryz.underlying25 rfl size_tx
                  · have HDEC : Hid (decT bs = (noT, 2)) := by show _ = _; rw [HDR.out, if_neg (fun h => by cases h.1)]
                    generalize chkE t = E at *
                    generalize (encB t).length = L9 at *
                    have d0 : w9.cell? ⟨T, 0, none⟩ = some (.slice none 0 0) := HD.out.ans.one rfl
                    have d1 : w9.cell? ⟨T, 1, none⟩ = some (.slice none 0 0) := HD.out.ans.one rfl
                    have d2 : w9.cell? ⟨T, 2, none⟩ = some (.int .i64 0) := HD.out.ans.one rfl
                    have g0 : w9.frozen? ⟨T, 0, none⟩ = false := HD.out.ans.frozen 0
                    have g1 : w9.frozen? ⟨T, 1, none⟩ = false := HD.out.ans.frozen 1
                    have g2 : w9.frozen? ⟨T, 2, none⟩ = false := HD.out.ans.frozen 2
                    go_wp2_with fail
                    generalize hu5 : World.setCell (World.setCell (World.setCell w9 _ _) _ _) _ _ = u5
                    have HK5 : Hid (Keep T w9 u5) := by rw [← hu5]; exact (((Keep.refl _ _).setCell 0 _).setCell 1 _).setCell 2 _
                    have HB5 : Hid (Blk u5 T [.slice none 0 0, .slice none 0 0, .int .i64 0]) := by rw [← hu5]; exact ((HD.out.ans.set 0 _).set 1 _).set 2 _
                    clear hu5
                    have hsz := HD.out.sz
                    refine bodyPost_ret (v := .tuple #[.agg #[.slice none 0 0, .slice none 0 0, .int .i64 0], .int .i64 2]) ?_ rfl (HFD.out _ _ HDEC.out rfl (HD.out.bel.trans (HK5.out.below (Nat.le_refl _) (by omega))))
                    obtain ⟨tt, hb⟩ := HB5.out
                    exact results_row_tmp Tryz.results9 _ _ T tt _ _ _ rfl hb Tryz.underlying25 rfl size_tx
end Go.Proofs.YteikbpkjikacmaaGreatDoor
