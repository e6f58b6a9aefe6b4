/- slices.Clone of inputs and outputs, tx.Clone, block.clone. -/
import Derived.Test.YtlaifphedhaemaaGreatDoorCBkH
namespace Go.Proofs.YtlaifphedhaemaaGreatDoor
open Go.ChangeShapes Go.WideShapes Go.ChangeAt Go.RowKit

theorem OwnE.lit0 {α : Type} [El α] (T : TypeId) (w : World) : OwnE T (w.alloc (.cells #[] T)) w.heap.size (.slice (some ⟨w.heap.size, 0, none⟩) 0 0) ([] : List α) :=
  ⟨by simp [flatE_nil], .inr ⟨w.heap.size, 0, #[], rfl, Nat.le_refl _, heap_alloc_new _ _, Nat.le_refl _, Nat.zero_le _, by simp, by simp [flatE_nil]⟩⟩
set_option maxRecDepth 100000 in
set_option maxHeartbeats 1000000 in
theorem cloneIn_any (a : Option Addr) (n c : Nat) (l : List In) (w : World) (h : Els w a n c l) (hl : n ≤ 100000) :
    Calls Tryz.prog 106 #[.slice a n c] w fun e w' => ∃ v', e = .returned v' ∧ OwnE 57 w' w.heap.size v' l ∧ Below w.heap.size w w' := by
  cases a with
  | none =>
    have hc := h.bare rfl
    have hn : n = 0 := by have := h.fits; omega
    subst hc; subst hn
    have hle : l = [] := List.eq_nil_of_length_eq_zero h.len
    subst hle
    have hq : ∀ w', (binOp .eql 58 (.slice none 0 0) (.slice none 0 0)).run Tryz.prog w' = .ok (.bool true) w' := fun w' => Go.Lib.run_eql_slice_nil w' _ _ _ _ _ _ _ Tryz.underlying58
    clear h
    go_enter Tryz.func106, Tryz.ntmps106
    go_wp2_with fail
    go_ret
    exact ⟨_, rfl, OwnE.nil _ _, Below.refl _ _⟩
  | some x =>
    have HB1 : Hid (Below w.heap.size w (w.alloc (.cells #[] 57))) := (Below.refl _ _).alloc (Nat.le_refl _) _
    have HO1 : Hid (OwnE 57 (w.alloc (.cells #[] 57)) w.heap.size (.slice (some ⟨w.heap.size, 0, none⟩) 0 0) ([] : List In)) := OwnE.lit0 _ w
    have HS1 : Hid (Els (w.alloc (.cells #[] 57)) (some x) n c l) := h.below HB1.out
    clear h
    have hq : ∀ w', (binOp .eql 58 (.slice (some x) n c) (.slice none 0 0)).run Tryz.prog w' = .ok (.bool false) w' := fun w' => Go.Lib.run_eql_slice_nil w' _ _ _ _ _ _ _ Tryz.underlying58
    go_enter Tryz.func106, Tryz.ntmps106
    go_wp2_with (at_builtin; refine wpList_append_e elIn rfl _ _ rfl w.heap.size _ [] rfl HO1.out _ n c l rfl HS1.out (by simp; omega) (by simp) ?_; intro v4 w4 HO4 HG4 HM4; obtain ⟨a4, n4, cap4, rfl⟩ := HO4.out.any)
    go_ret
    refine ⟨_, rfl, ?_, ?_⟩
    · have := HO4.out
      rwa [List.nil_append] at this
    · exact HB1.out.grown HG4.out (by simp) fun k hk => by
        have hk' : some w.heap.size = some k := hk
        injection hk' with hk'
        omega
set_option maxRecDepth 100000 in
set_option maxHeartbeats 1000000 in
theorem cloneOut_any (a : Option Addr) (n c : Nat) (l : List Out) (w : World) (h : Els w a n c l) (hl : n ≤ 100000) :
    Calls Tryz.prog 107 #[.slice a n c] w fun e w' => ∃ v', e = .returned v' ∧ OwnE 67 w' w.heap.size v' l ∧ Below w.heap.size w w' := by
  cases a with
  | none =>
    have hc := h.bare rfl
    have hn : n = 0 := by have := h.fits; omega
    subst hc; subst hn
    have hle : l = [] := List.eq_nil_of_length_eq_zero h.len
    subst hle
    have hq : ∀ w', (binOp .eql 59 (.slice none 0 0) (.slice none 0 0)).run Tryz.prog w' = .ok (.bool true) w' := fun w' => Go.Lib.run_eql_slice_nil w' _ _ _ _ _ _ _ Tryz.underlying59
    clear h
    go_enter Tryz.func107, Tryz.ntmps107
    go_wp2_with fail
    go_ret
    exact ⟨_, rfl, OwnE.nil _ _, Below.refl _ _⟩
  | some x =>
    have HB1 : Hid (Below w.heap.size w (w.alloc (.cells #[] 67))) := (Below.refl _ _).alloc (Nat.le_refl _) _
    have HO1 : Hid (OwnE 67 (w.alloc (.cells #[] 67)) w.heap.size (.slice (some ⟨w.heap.size, 0, none⟩) 0 0) ([] : List Out)) := OwnE.lit0 _ w
    have HS1 : Hid (Els (w.alloc (.cells #[] 67)) (some x) n c l) := h.below HB1.out
    clear h
    have hq : ∀ w', (binOp .eql 59 (.slice (some x) n c) (.slice none 0 0)).run Tryz.prog w' = .ok (.bool false) w' := fun w' => Go.Lib.run_eql_slice_nil w' _ _ _ _ _ _ _ Tryz.underlying59
    go_enter Tryz.func107, Tryz.ntmps107
    go_wp2_with (at_builtin; refine wpList_append_e elOut rfl _ _ rfl w.heap.size _ [] rfl HO1.out _ n c l rfl HS1.out (by simp; omega) (by simp) ?_; intro v4 w4 HO4 HG4 HM4; obtain ⟨a4, n4, cap4, rfl⟩ := HO4.out.any)
    go_ret
    refine ⟨_, rfl, ?_, ?_⟩
    · have := HO4.out
      rwa [List.nil_append] at this
    · exact HB1.out.grown HG4.out (by simp) fun k hk => by
        have hk' : some w.heap.size = some k := hk
        injection hk' with hk'
        omega
theorem OwnE.parts {α : Type} [El α] {T : TypeId} {w : World} {N : Nat} {v : Value} {l : List α} (h : OwnE T w N v l) : ∃ a n c, v = .slice a n c ∧ Els w a n c l ∧ ∀ x : Addr, a = some x → N ≤ x.block := by
  obtain ⟨a, c, rfl, he⟩ := h.els
  refine ⟨a, _, c, rfl, he, fun x hx => ?_⟩
  subst hx
  exact (h.lt x.block rfl).1
set_option maxRecDepth 100000 in
set_option maxHeartbeats 4000000 in
theorem txClone_any (tv : TxV) (t : TxD) (w : World) (h : TxAt w tv t) (hn : tv.n ≤ 100000) (hm : tv.m ≤ 100000) :
    Calls Tryz.prog 77 #[tv.val t.lock] w fun e w' => ∃ tv' : TxV, e = .returned (tv'.val t.lock) ∧ TxAt w' tv' t ∧ TxNew w.heap.size tv' ∧ Below w.heap.size w w' := by
  have HMO : Hid (Tryz.prog.follows .mixedOrders = true) := show _ = _ by kernel_rfl
  have HT : Hid (TxAt w tv t) := h
  clear h
  obtain ⟨ins, outs, lock⟩ := t
  obtain ⟨a, n, c, b, m, d⟩ := tv
  unfold TxV.val
  simp only at *
  go_enter Tryz.func77, Tryz.ntmps77
  go_upto_region 1 with fail
  generalize hw1 : World.alloc (World.alloc w _) _ = w1
  have HB0 : Hid (Blk w1.drew w.heap.size [.slice a n c, .slice b m d, .int .i64 lock]) := by rw [← hw1]; exact ((Blk.mk _ _ _ rfl rfl).alloc _).drew
  have HR0 : Hid (Blk w1.drew (w.heap.size + 1) [.slice none 0 0, .slice none 0 0, .int .i64 0]) := by rw [← hw1]; exact (Blk.mk _ _ _ (by simp) rfl).drew
  have HB : Hid (Below w.heap.size w w1.drew) := by rw [← hw1]; exact (((Below.refl _ _).alloc (Nat.le_refl _) _).alloc (by simp) _).drew
  clear hw1
  generalize hN : w.heap.size = N at *
  have c0 : w1.drew.cell? ⟨N, 0, none⟩ = some (.slice a n c) := HB0.out.one rfl
  have c1 : w1.drew.cell? ⟨N, 1, none⟩ = some (.slice b m d) := HB0.out.one rfl
  have HCI : Hid (Calls Tryz.prog 106 #[.slice a n c] w1.drew fun e w' => ∃ v', e = .returned v' ∧ OwnE 57 w' w1.drew.heap.size v' ins ∧ Below w1.drew.heap.size w1.drew w') := cloneIn_any a n c ins w1.drew (HT.out.ins.below (hN ▸ HB.out)) hn
  have hR1 : N + 1 < w1.drew.heap.size := HR0.out.lt
  refine wp_region_noPanic ?_
  refine wp_region_held_drew (S := fun _ => True) HMO.out (trivial) (fun hHeld => ?_)
  refine wpAnyH_take (i := 0) (oi := { dst := some 3, op := .fieldAddr 61 (.tmp 1) 0, type := 0, pos := "tx.go:155", after := #[], guard := none }) (v := ?_) rfl (by kernel_rfl) (by kernel_rfl) (by kernel_rfl) (fun _ _ _ h => h) (Or.inl ⟨by rfl, ?_⟩) (by assumption) ?_
  rotate_left
  · intro _ _; go_simp; first | done | with_reducible rfl
  simp only [Act.put, List.setIfInBounds_toArray, List.set_cons_zero, List.set_cons_succ]
  refine wpAnyH_take (i := 3) (oi := { dst := some 6, op := .fieldAddr 61 (.tmp 1) 1, type := 0, pos := "tx.go:155", after := #[], guard := none }) (v := ?_) rfl (by kernel_rfl) (by kernel_rfl) (by kernel_rfl) (fun _ _ _ h => h) (Or.inl ⟨by rfl, ?_⟩) (by assumption) ?_
  rotate_left
  · intro _ _; go_simp; first | done | with_reducible rfl
  simp only [Act.put, List.setIfInBounds_toArray, List.set_cons_zero, List.set_cons_succ]
  refine wpAnyH_ready (rs := [1, 4]) (by kernel_rfl) (by simp) ?_
  refine (AllReadyH.cons (o := { dst := some 4, op := .load 58 (.tmp 3), type := 58, pos := "tx.go:155", after := #[{ on := 0, ground := .data }], guard := none }) rfl (fun K hK => ?_) (AllReadyH.cons (o := { dst := some 7, op := .load 59 (.tmp 6), type := 59, pos := "tx.go:155", after := #[{ on := 3, ground := .data }], guard := none }) rfl (fun K hK => ?_) AllReadyH.nil))
  · go_simp
    skip
    go_simp
    refine hK.out _ _ (trivial) (fun hHeld => ?_)
    clear hK K
    refine wpAnyH_ready (rs := [2, 4]) (by kernel_rfl) (by simp) ?_
    refine (AllReadyH.cons (o := { dst := some 5, op := .call { callee := .value (.func 106), args := #[.tmp 4], argTypes := #[58] }, type := 58, pos := "tx.go:155", after := #[{ on := 1, ground := .data }], guard := none }) rfl (fun K hK => ?_) (AllReadyH.cons (o := { dst := some 7, op := .load 59 (.tmp 6), type := 59, pos := "tx.go:155", after := #[{ on := 3, ground := .data }], guard := none }) rfl (fun K hK => ?_) AllReadyH.nil))
    · go_simp
      refine Calls.mono HCI.out ?_; rintro e w3 ⟨v3, rfl, ho3, hb3⟩; obtain ⟨a3, n3, c3, rfl, he3, hx3⟩ := ho3.parts; have HB3 : Hid (Blk w3 N [.slice a n c, .slice b m d, .int .i64 lock]) := HB0.out.below hb3 HB0.out.lt; have HR3 : Hid (Blk w3 (N + 1) [.slice none 0 0, .slice none 0 0, .int .i64 0]) := HR0.out.below hb3 HR0.out.lt; have HW3 : Hid (Below N w w3) := HB.out.trans (hb3.mono (by omega)); have HE3 : Hid (Els w3 a3 n3 c3 ins ∧ ∀ x : Addr, a3 = some x → w1.drew.heap.size ≤ x.block) := ⟨he3, hx3⟩; have d1 : w3.cell? ⟨N, 1, none⟩ = some (.slice b m d) := HB3.out.one rfl; have hs3 := hb3.size; have HCO : Hid (Calls Tryz.prog 107 #[.slice b m d] w3 fun e w' => ∃ v', e = .returned v' ∧ OwnE 67 w' w3.heap.size v' outs ∧ Below w3.heap.size w3 w') := cloneOut_any b m d outs w3 (HT.out.outs.below (hN ▸ HW3.out)) hm; clear ho3 hb3 he3 hx3
      go_simp
      refine hK.out _ _ (trivial) (fun hHeld => ?_)
      clear hK K
      refine wpAnyH_ready (rs := [4]) (by kernel_rfl) (by simp) ?_
      refine AllReadyH.cons (o := { dst := some 7, op := .load 59 (.tmp 6), type := 59, pos := "tx.go:155", after := #[{ on := 3, ground := .data }], guard := none }) rfl (fun K hK => ?_) AllReadyH.nil
      go_simp
      skip
      go_simp
      refine hK.out _ _ (trivial) (fun hHeld => ?_)
      clear hK K
      refine wpAnyH_take (i := 6) (oi := { dst := some 9, op := .fieldAddr 61 (.tmp 1) 0, type := 0, pos := "tx.go:155", after := #[{ on := 0, ground := .phase }, { on := 1, ground := .phase }, { on := 2, ground := .phase }, { on := 3, ground := .phase }, { on := 4, ground := .phase }, { on := 5, ground := .textOnly Go.Departure.lateStoresUnsure }], guard := none }) (v := ?_) rfl (by kernel_rfl) (by kernel_rfl) (by kernel_rfl) (fun _ _ _ h => h) (Or.inl ⟨by rfl, ?_⟩) (by assumption) ?_
      rotate_left
      · intro _ _; go_simp; first | done | with_reducible rfl
      simp only [Act.put, List.setIfInBounds_toArray, List.set_cons_zero, List.set_cons_succ]
      refine wpAnyH_ready (rs := [5]) (by kernel_rfl) (by simp) ?_
      refine AllReadyH.cons (o := { dst := some 8, op := .call { callee := .value (.func 107), args := #[.tmp 7], argTypes := #[59] }, type := 59, pos := "tx.go:155", after := #[{ on := 4, ground := .data }, { on := 2, ground := .chain }], guard := none }) rfl (fun K hK => ?_) AllReadyH.nil
      go_simp
      refine Calls.mono HCO.out ?_; rintro e w4 ⟨v4, rfl, ho4, hb4⟩; obtain ⟨a4, n4, c4, rfl, he4, hx4⟩ := ho4.parts; have HB4 : Hid (Blk w4 N [.slice a n c, .slice b m d, .int .i64 lock]) := HB3.out.below hb4 HB3.out.lt; have HR4 : Hid (Blk w4 (N + 1) [.slice none 0 0, .slice none 0 0, .int .i64 0]) := HR3.out.below hb4 HR3.out.lt; have HW4 : Hid (Below N w w4) := HW3.out.trans (hb4.mono (by omega)); have HE4 : Hid (Els w4 a4 n4 c4 outs ∧ ∀ x : Addr, a4 = some x → w3.heap.size ≤ x.block) := ⟨he4, hx4⟩; have HI4 : Hid (Els w4 a3 n3 c3 ins) := HE3.out.1.below hb4; have f0 : w4.cell? ⟨N, 0, none⟩ = some (.slice a n c) := HB4.out.one rfl; have g0 : w4.frozen? ⟨N, 0, none⟩ = false := HB4.out.frozen 0; have f1 : w4.cell? ⟨N, 1, none⟩ = some (.slice b m d) := HB4.out.one rfl; have g1 : w4.frozen? ⟨N, 1, none⟩ = false := HB4.out.frozen 1; have hs4 := hb4.size; clear ho4 hb4 he4 hx4
      go_simp
      refine hK.out _ _ (trivial) (fun hHeld => ?_)
      clear hK K
      refine wpAnyH_ready (rs := [7]) (by kernel_rfl) (by simp) ?_
      refine AllReadyH.cons (o := { dst := none, op := .store 58 (.tmp 9) (.tmp 5), type := 0, pos := "tx.go:155", after := #[{ on := 6, ground := .data }, { on := 2, ground := .data }, { on := 5, ground := .chain }, { on := 0, ground := .phase }, { on := 1, ground := .phase }, { on := 2, ground := .phase }, { on := 3, ground := .phase }, { on := 4, ground := .phase }, { on := 5, ground := .textOnly Go.Departure.lateStoresUnsure }], guard := none }) rfl (fun K hK => ?_) AllReadyH.nil
      go_simp
      skip
      go_simp
      refine hK.out _ _ (trivial) (fun hHeld => ?_)
      clear hK K
      refine wpAnyH_take (i := 8) (oi := { dst := some 10, op := .fieldAddr 61 (.tmp 1) 1, type := 0, pos := "tx.go:155", after := #[{ on := 0, ground := .phase }, { on := 1, ground := .phase }, { on := 2, ground := .phase }, { on := 3, ground := .phase }, { on := 4, ground := .phase }, { on := 5, ground := .phase }, { on := 6, ground := .phase }, { on := 7, ground := .phase }], guard := none }) (v := ?_) rfl (by kernel_rfl) (by kernel_rfl) (by kernel_rfl) (fun _ _ _ h => h) (Or.inl ⟨by rfl, ?_⟩) (by assumption) ?_
      rotate_left
      · intro _ _; go_simp; first | done | with_reducible rfl
      simp only [Act.put, List.setIfInBounds_toArray, List.set_cons_zero, List.set_cons_succ]
      refine wpAnyH_ready (rs := [9]) (by kernel_rfl) (by simp) ?_
      refine AllReadyH.cons (o := { dst := none, op := .store 59 (.tmp 10) (.tmp 8), type := 0, pos := "tx.go:155", after := #[{ on := 8, ground := .data }, { on := 5, ground := .data }, { on := 7, ground := .chain }, { on := 0, ground := .phase }, { on := 1, ground := .phase }, { on := 2, ground := .phase }, { on := 3, ground := .phase }, { on := 4, ground := .phase }, { on := 5, ground := .phase }, { on := 6, ground := .phase }, { on := 7, ground := .phase }], guard := none }) rfl (fun K hK => ?_) AllReadyH.nil
      go_simp
      skip
      go_simp
      refine hK.out _ _ (trivial) (fun hHeld => ?_)
      clear hK K
      refine wpAnyH_done (by kernel_rfl) ?_ _
      refine NoPanic.normal ?_
      clear hHeld f0 g0 f1 g1 d1 c0 c1 HB3 HR3 HW3 HCI HCO
      have HB5 : Hid (Blk ((w4.setCell ⟨N, 0, none⟩ (.slice a3 n3 c3)).setCell ⟨N, 1, none⟩ (.slice a4 n4 c4)) N [.slice a3 n3 c3, .slice a4 n4 c4, .int .i64 lock]) := (HB4.out.set 0 _).set 1 _
      have HR5 : Hid (Blk ((w4.setCell ⟨N, 0, none⟩ (.slice a3 n3 c3)).setCell ⟨N, 1, none⟩ (.slice a4 n4 c4)) (N + 1) [.slice none 0 0, .slice none 0 0, .int .i64 0]) := (HR4.out.other (by simp) _).other (by simp) _
      have HW5 : Hid (Below N w ((w4.setCell ⟨N, 0, none⟩ (.slice a3 n3 c3)).setCell ⟨N, 1, none⟩ (.slice a4 n4 c4))) := (HW4.out.setCell (by simp) _).setCell (by simp) _
      have HO5 : Hid (Els ((w4.setCell ⟨N, 0, none⟩ (.slice a3 n3 c3)).setCell ⟨N, 1, none⟩ (.slice a4 n4 c4)) a4 n4 c4 outs) := HE4.out.1.later fun b' o' _ e => by
        have := HE4.out.2 _ e
        simp only at this
        rw [Below.heap_setCell _ _ _ _ (by simp; omega), Below.heap_setCell _ _ _ _ (by simp; omega)]
      have HI5 : Hid (Els ((w4.setCell ⟨N, 0, none⟩ (.slice a3 n3 c3)).setCell ⟨N, 1, none⟩ (.slice a4 n4 c4)) a3 n3 c3 ins) := HI4.out.later fun b' o' _ e => by
        have := HE3.out.2 _ e
        simp only at this
        rw [Below.heap_setCell _ _ _ _ (by simp; omega), Below.heap_setCell _ _ _ _ (by simp; omega)]
      generalize (w4.setCell ⟨N, 0, none⟩ (.slice a3 n3 c3)).setCell ⟨N, 1, none⟩ (.slice a4 n4 c4) = w5 at *
      obtain ⟨Z, hZ⟩ : ∃ Z, Z = [Value.slice a3 n3 c3, .slice a4 n4 c4, .int .i64 lock] := ⟨_, rfl⟩
      rw [← hZ] at HB5
      have HZE : Hid (Z = [Value.slice a3 n3 c3, .slice a4 n4 c4, .int .i64 lock]) := hZ
      have HZS : Hid ((Tryz.prog.info? 61).map (·.size) = some Z.length ∧ (Tryz.prog.info? 61).map (·.size) = some Z.toArray.size ∧ #[Value.slice none 0 0, .slice none 0 0, .int .i64 0].size = Z.toArray.size ∧ Z.toArray.all (·.oneCell') = true) := by
        rw [hZ]; exact ⟨sizeTx ⟨⟨a3, n3, c3, a4, n4, c4⟩, ⟨[], [], lock⟩⟩, sizeTxa ⟨⟨a3, n3, c3, a4, n4, c4⟩, ⟨[], [], lock⟩⟩, rfl, TxR.cs_all ⟨⟨a3, n3, c3, a4, n4, c4⟩, ⟨[], [], lock⟩⟩⟩
      clear hZ
      have HLD : Hid (w5.rangeAt N 0 Z) := HB5.out.whole
      obtain ⟨t, ht⟩ := HR5.out
      have HT5 : Hid (w5.heap[N + 1]? = some (.cells #[Value.slice none 0 0, .slice none 0 0, .int .i64 0] t (0, 0))) := ht
      clear ht
      obtain ⟨dT, HDT, HRT⟩ := und_tx
      go_wp2_with (first
        | (refine wpList_load_mid rfl 61 _ rfl N 0 rfl Z _ HLD.out HDT.out HRT.out HZS.out.1 ?_)
        | (refine wpList_store_row rfl 61 _ _ rfl (N + 1) Z.toArray rfl rfl t _ HT5.out HZS.out.2.1 HZS.out.2.2.1 HZS.out.2.2.2 ?_))
      refine bodyPost_ret (v := .agg Z.toArray) ?_ rfl ⟨⟨a3, n3, c3, a4, n4, c4⟩, by rw [HZE.out], ⟨?_, ?_⟩, ⟨fun x hx => ?_, fun x hx => ?_⟩, ?_⟩
      · obtain ⟨t', hb⟩ := Blk.row (ds := Z) ⟨t, HT5.out⟩
        exact results_cell_row Tryz.results77 _ _ (N + 1) t' _ _ _ rfl hb Tryz.underlying61 rfl HZS.out.2.1
      · exact HI5.out.later fun b' o' _ e => by
          have := HE3.out.2 _ e
          simp only at this
          rw [heap_setRow _ _ _ _ (by omega)]
      · exact HO5.out.later fun b' o' _ e => by
          have := HE4.out.2 _ e
          simp only at this
          rw [heap_setRow _ _ _ _ (by omega)]
      · have := HE3.out.2 _ hx; omega
      · have := HE4.out.2 _ hx; omega
      · subst hN; exact below_setRow HW5.out (by omega) _
    · go_simp
      skip
      go_simp
      refine hK.out _ _ (trivial) (fun hHeld => ?_)
      clear hK K
      refine wpAnyH_ready (rs := [2]) (by kernel_rfl) (by simp) ?_
      refine AllReadyH.cons (o := { dst := some 5, op := .call { callee := .value (.func 106), args := #[.tmp 4], argTypes := #[58] }, type := 58, pos := "tx.go:155", after := #[{ on := 1, ground := .data }], guard := none }) rfl (fun K hK => ?_) AllReadyH.nil
      go_simp
      refine Calls.mono HCI.out ?_; rintro e w3 ⟨v3, rfl, ho3, hb3⟩; obtain ⟨a3, n3, c3, rfl, he3, hx3⟩ := ho3.parts; have HB3 : Hid (Blk w3 N [.slice a n c, .slice b m d, .int .i64 lock]) := HB0.out.below hb3 HB0.out.lt; have HR3 : Hid (Blk w3 (N + 1) [.slice none 0 0, .slice none 0 0, .int .i64 0]) := HR0.out.below hb3 HR0.out.lt; have HW3 : Hid (Below N w w3) := HB.out.trans (hb3.mono (by omega)); have HE3 : Hid (Els w3 a3 n3 c3 ins ∧ ∀ x : Addr, a3 = some x → w1.drew.heap.size ≤ x.block) := ⟨he3, hx3⟩; have d1 : w3.cell? ⟨N, 1, none⟩ = some (.slice b m d) := HB3.out.one rfl; have hs3 := hb3.size; have HCO : Hid (Calls Tryz.prog 107 #[.slice b m d] w3 fun e w' => ∃ v', e = .returned v' ∧ OwnE 67 w' w3.heap.size v' outs ∧ Below w3.heap.size w3 w') := cloneOut_any b m d outs w3 (HT.out.outs.below (hN ▸ HW3.out)) hm; clear ho3 hb3 he3 hx3
      go_simp
      refine hK.out _ _ (trivial) (fun hHeld => ?_)
      clear hK K
      refine wpAnyH_take (i := 6) (oi := { dst := some 9, op := .fieldAddr 61 (.tmp 1) 0, type := 0, pos := "tx.go:155", after := #[{ on := 0, ground := .phase }, { on := 1, ground := .phase }, { on := 2, ground := .phase }, { on := 3, ground := .phase }, { on := 4, ground := .phase }, { on := 5, ground := .textOnly Go.Departure.lateStoresUnsure }], guard := none }) (v := ?_) rfl (by kernel_rfl) (by kernel_rfl) (by kernel_rfl) (fun _ _ _ h => h) (Or.inl ⟨by rfl, ?_⟩) (by assumption) ?_
      rotate_left
      · intro _ _; go_simp; first | done | with_reducible rfl
      simp only [Act.put, List.setIfInBounds_toArray, List.set_cons_zero, List.set_cons_succ]
      refine wpAnyH_ready (rs := [5]) (by kernel_rfl) (by simp) ?_
      refine AllReadyH.cons (o := { dst := some 8, op := .call { callee := .value (.func 107), args := #[.tmp 7], argTypes := #[59] }, type := 59, pos := "tx.go:155", after := #[{ on := 4, ground := .data }, { on := 2, ground := .chain }], guard := none }) rfl (fun K hK => ?_) AllReadyH.nil
      go_simp
      refine Calls.mono HCO.out ?_; rintro e w4 ⟨v4, rfl, ho4, hb4⟩; obtain ⟨a4, n4, c4, rfl, he4, hx4⟩ := ho4.parts; have HB4 : Hid (Blk w4 N [.slice a n c, .slice b m d, .int .i64 lock]) := HB3.out.below hb4 HB3.out.lt; have HR4 : Hid (Blk w4 (N + 1) [.slice none 0 0, .slice none 0 0, .int .i64 0]) := HR3.out.below hb4 HR3.out.lt; have HW4 : Hid (Below N w w4) := HW3.out.trans (hb4.mono (by omega)); have HE4 : Hid (Els w4 a4 n4 c4 outs ∧ ∀ x : Addr, a4 = some x → w3.heap.size ≤ x.block) := ⟨he4, hx4⟩; have HI4 : Hid (Els w4 a3 n3 c3 ins) := HE3.out.1.below hb4; have f0 : w4.cell? ⟨N, 0, none⟩ = some (.slice a n c) := HB4.out.one rfl; have g0 : w4.frozen? ⟨N, 0, none⟩ = false := HB4.out.frozen 0; have f1 : w4.cell? ⟨N, 1, none⟩ = some (.slice b m d) := HB4.out.one rfl; have g1 : w4.frozen? ⟨N, 1, none⟩ = false := HB4.out.frozen 1; have hs4 := hb4.size; clear ho4 hb4 he4 hx4
      go_simp
      refine hK.out _ _ (trivial) (fun hHeld => ?_)
      clear hK K
      refine wpAnyH_ready (rs := [7]) (by kernel_rfl) (by simp) ?_
      refine AllReadyH.cons (o := { dst := none, op := .store 58 (.tmp 9) (.tmp 5), type := 0, pos := "tx.go:155", after := #[{ on := 6, ground := .data }, { on := 2, ground := .data }, { on := 5, ground := .chain }, { on := 0, ground := .phase }, { on := 1, ground := .phase }, { on := 2, ground := .phase }, { on := 3, ground := .phase }, { on := 4, ground := .phase }, { on := 5, ground := .textOnly Go.Departure.lateStoresUnsure }], guard := none }) rfl (fun K hK => ?_) AllReadyH.nil
      go_simp
      skip
      go_simp
      refine hK.out _ _ (trivial) (fun hHeld => ?_)
      clear hK K
      refine wpAnyH_take (i := 8) (oi := { dst := some 10, op := .fieldAddr 61 (.tmp 1) 1, type := 0, pos := "tx.go:155", after := #[{ on := 0, ground := .phase }, { on := 1, ground := .phase }, { on := 2, ground := .phase }, { on := 3, ground := .phase }, { on := 4, ground := .phase }, { on := 5, ground := .phase }, { on := 6, ground := .phase }, { on := 7, ground := .phase }], guard := none }) (v := ?_) rfl (by kernel_rfl) (by kernel_rfl) (by kernel_rfl) (fun _ _ _ h => h) (Or.inl ⟨by rfl, ?_⟩) (by assumption) ?_
      rotate_left
      · intro _ _; go_simp; first | done | with_reducible rfl
      simp only [Act.put, List.setIfInBounds_toArray, List.set_cons_zero, List.set_cons_succ]
      refine wpAnyH_ready (rs := [9]) (by kernel_rfl) (by simp) ?_
      refine AllReadyH.cons (o := { dst := none, op := .store 59 (.tmp 10) (.tmp 8), type := 0, pos := "tx.go:155", after := #[{ on := 8, ground := .data }, { on := 5, ground := .data }, { on := 7, ground := .chain }, { on := 0, ground := .phase }, { on := 1, ground := .phase }, { on := 2, ground := .phase }, { on := 3, ground := .phase }, { on := 4, ground := .phase }, { on := 5, ground := .phase }, { on := 6, ground := .phase }, { on := 7, ground := .phase }], guard := none }) rfl (fun K hK => ?_) AllReadyH.nil
      go_simp
      skip
      go_simp
      refine hK.out _ _ (trivial) (fun hHeld => ?_)
      clear hK K
      refine wpAnyH_done (by kernel_rfl) ?_ _
      refine NoPanic.normal ?_
      clear hHeld f0 g0 f1 g1 d1 c0 c1 HB3 HR3 HW3 HCI HCO
      have HB5 : Hid (Blk ((w4.setCell ⟨N, 0, none⟩ (.slice a3 n3 c3)).setCell ⟨N, 1, none⟩ (.slice a4 n4 c4)) N [.slice a3 n3 c3, .slice a4 n4 c4, .int .i64 lock]) := (HB4.out.set 0 _).set 1 _
      have HR5 : Hid (Blk ((w4.setCell ⟨N, 0, none⟩ (.slice a3 n3 c3)).setCell ⟨N, 1, none⟩ (.slice a4 n4 c4)) (N + 1) [.slice none 0 0, .slice none 0 0, .int .i64 0]) := (HR4.out.other (by simp) _).other (by simp) _
      have HW5 : Hid (Below N w ((w4.setCell ⟨N, 0, none⟩ (.slice a3 n3 c3)).setCell ⟨N, 1, none⟩ (.slice a4 n4 c4))) := (HW4.out.setCell (by simp) _).setCell (by simp) _
      have HO5 : Hid (Els ((w4.setCell ⟨N, 0, none⟩ (.slice a3 n3 c3)).setCell ⟨N, 1, none⟩ (.slice a4 n4 c4)) a4 n4 c4 outs) := HE4.out.1.later fun b' o' _ e => by
        have := HE4.out.2 _ e
        simp only at this
        rw [Below.heap_setCell _ _ _ _ (by simp; omega), Below.heap_setCell _ _ _ _ (by simp; omega)]
      have HI5 : Hid (Els ((w4.setCell ⟨N, 0, none⟩ (.slice a3 n3 c3)).setCell ⟨N, 1, none⟩ (.slice a4 n4 c4)) a3 n3 c3 ins) := HI4.out.later fun b' o' _ e => by
        have := HE3.out.2 _ e
        simp only at this
        rw [Below.heap_setCell _ _ _ _ (by simp; omega), Below.heap_setCell _ _ _ _ (by simp; omega)]
      generalize (w4.setCell ⟨N, 0, none⟩ (.slice a3 n3 c3)).setCell ⟨N, 1, none⟩ (.slice a4 n4 c4) = w5 at *
      obtain ⟨Z, hZ⟩ : ∃ Z, Z = [Value.slice a3 n3 c3, .slice a4 n4 c4, .int .i64 lock] := ⟨_, rfl⟩
      rw [← hZ] at HB5
      have HZE : Hid (Z = [Value.slice a3 n3 c3, .slice a4 n4 c4, .int .i64 lock]) := hZ
      have HZS : Hid ((Tryz.prog.info? 61).map (·.size) = some Z.length ∧ (Tryz.prog.info? 61).map (·.size) = some Z.toArray.size ∧ #[Value.slice none 0 0, .slice none 0 0, .int .i64 0].size = Z.toArray.size ∧ Z.toArray.all (·.oneCell') = true) := by
        rw [hZ]; exact ⟨sizeTx ⟨⟨a3, n3, c3, a4, n4, c4⟩, ⟨[], [], lock⟩⟩, sizeTxa ⟨⟨a3, n3, c3, a4, n4, c4⟩, ⟨[], [], lock⟩⟩, rfl, TxR.cs_all ⟨⟨a3, n3, c3, a4, n4, c4⟩, ⟨[], [], lock⟩⟩⟩
      clear hZ
      have HLD : Hid (w5.rangeAt N 0 Z) := HB5.out.whole
      obtain ⟨t, ht⟩ := HR5.out
      have HT5 : Hid (w5.heap[N + 1]? = some (.cells #[Value.slice none 0 0, .slice none 0 0, .int .i64 0] t (0, 0))) := ht
      clear ht
      obtain ⟨dT, HDT, HRT⟩ := und_tx
      go_wp2_with (first
        | (refine wpList_load_mid rfl 61 _ rfl N 0 rfl Z _ HLD.out HDT.out HRT.out HZS.out.1 ?_)
        | (refine wpList_store_row rfl 61 _ _ rfl (N + 1) Z.toArray rfl rfl t _ HT5.out HZS.out.2.1 HZS.out.2.2.1 HZS.out.2.2.2 ?_))
      refine bodyPost_ret (v := .agg Z.toArray) ?_ rfl ⟨⟨a3, n3, c3, a4, n4, c4⟩, by rw [HZE.out], ⟨?_, ?_⟩, ⟨fun x hx => ?_, fun x hx => ?_⟩, ?_⟩
      · obtain ⟨t', hb⟩ := Blk.row (ds := Z) ⟨t, HT5.out⟩
        exact results_cell_row Tryz.results77 _ _ (N + 1) t' _ _ _ rfl hb Tryz.underlying61 rfl HZS.out.2.1
      · exact HI5.out.later fun b' o' _ e => by
          have := HE3.out.2 _ e
          simp only at this
          rw [heap_setRow _ _ _ _ (by omega)]
      · exact HO5.out.later fun b' o' _ e => by
          have := HE4.out.2 _ e
          simp only at this
          rw [heap_setRow _ _ _ _ (by omega)]
      · have := HE3.out.2 _ hx; omega
      · have := HE4.out.2 _ hx; omega
      · subst hN; exact below_setRow HW5.out (by omega) _
  · go_simp
    skip
    go_simp
    refine hK.out _ _ (trivial) (fun hHeld => ?_)
    clear hK K
    refine wpAnyH_ready (rs := [1]) (by kernel_rfl) (by simp) ?_
    refine AllReadyH.cons (o := { dst := some 4, op := .load 58 (.tmp 3), type := 58, pos := "tx.go:155", after := #[{ on := 0, ground := .data }], guard := none }) rfl (fun K hK => ?_) AllReadyH.nil
    go_simp
    skip
    go_simp
    refine hK.out _ _ (trivial) (fun hHeld => ?_)
    clear hK K
    refine wpAnyH_ready (rs := [2]) (by kernel_rfl) (by simp) ?_
    refine AllReadyH.cons (o := { dst := some 5, op := .call { callee := .value (.func 106), args := #[.tmp 4], argTypes := #[58] }, type := 58, pos := "tx.go:155", after := #[{ on := 1, ground := .data }], guard := none }) rfl (fun K hK => ?_) AllReadyH.nil
    go_simp
    refine Calls.mono HCI.out ?_; rintro e w3 ⟨v3, rfl, ho3, hb3⟩; obtain ⟨a3, n3, c3, rfl, he3, hx3⟩ := ho3.parts; have HB3 : Hid (Blk w3 N [.slice a n c, .slice b m d, .int .i64 lock]) := HB0.out.below hb3 HB0.out.lt; have HR3 : Hid (Blk w3 (N + 1) [.slice none 0 0, .slice none 0 0, .int .i64 0]) := HR0.out.below hb3 HR0.out.lt; have HW3 : Hid (Below N w w3) := HB.out.trans (hb3.mono (by omega)); have HE3 : Hid (Els w3 a3 n3 c3 ins ∧ ∀ x : Addr, a3 = some x → w1.drew.heap.size ≤ x.block) := ⟨he3, hx3⟩; have d1 : w3.cell? ⟨N, 1, none⟩ = some (.slice b m d) := HB3.out.one rfl; have hs3 := hb3.size; have HCO : Hid (Calls Tryz.prog 107 #[.slice b m d] w3 fun e w' => ∃ v', e = .returned v' ∧ OwnE 67 w' w3.heap.size v' outs ∧ Below w3.heap.size w3 w') := cloneOut_any b m d outs w3 (HT.out.outs.below (hN ▸ HW3.out)) hm; clear ho3 hb3 he3 hx3
    go_simp
    refine hK.out _ _ (trivial) (fun hHeld => ?_)
    clear hK K
    refine wpAnyH_take (i := 6) (oi := { dst := some 9, op := .fieldAddr 61 (.tmp 1) 0, type := 0, pos := "tx.go:155", after := #[{ on := 0, ground := .phase }, { on := 1, ground := .phase }, { on := 2, ground := .phase }, { on := 3, ground := .phase }, { on := 4, ground := .phase }, { on := 5, ground := .textOnly Go.Departure.lateStoresUnsure }], guard := none }) (v := ?_) rfl (by kernel_rfl) (by kernel_rfl) (by kernel_rfl) (fun _ _ _ h => h) (Or.inl ⟨by rfl, ?_⟩) (by assumption) ?_
    rotate_left
    · intro _ _; go_simp; first | done | with_reducible rfl
    simp only [Act.put, List.setIfInBounds_toArray, List.set_cons_zero, List.set_cons_succ]
    refine wpAnyH_ready (rs := [5]) (by kernel_rfl) (by simp) ?_
    refine AllReadyH.cons (o := { dst := some 8, op := .call { callee := .value (.func 107), args := #[.tmp 7], argTypes := #[59] }, type := 59, pos := "tx.go:155", after := #[{ on := 4, ground := .data }, { on := 2, ground := .chain }], guard := none }) rfl (fun K hK => ?_) AllReadyH.nil
    go_simp
    refine Calls.mono HCO.out ?_; rintro e w4 ⟨v4, rfl, ho4, hb4⟩; obtain ⟨a4, n4, c4, rfl, he4, hx4⟩ := ho4.parts; have HB4 : Hid (Blk w4 N [.slice a n c, .slice b m d, .int .i64 lock]) := HB3.out.below hb4 HB3.out.lt; have HR4 : Hid (Blk w4 (N + 1) [.slice none 0 0, .slice none 0 0, .int .i64 0]) := HR3.out.below hb4 HR3.out.lt; have HW4 : Hid (Below N w w4) := HW3.out.trans (hb4.mono (by omega)); have HE4 : Hid (Els w4 a4 n4 c4 outs ∧ ∀ x : Addr, a4 = some x → w3.heap.size ≤ x.block) := ⟨he4, hx4⟩; have HI4 : Hid (Els w4 a3 n3 c3 ins) := HE3.out.1.below hb4; have f0 : w4.cell? ⟨N, 0, none⟩ = some (.slice a n c) := HB4.out.one rfl; have g0 : w4.frozen? ⟨N, 0, none⟩ = false := HB4.out.frozen 0; have f1 : w4.cell? ⟨N, 1, none⟩ = some (.slice b m d) := HB4.out.one rfl; have g1 : w4.frozen? ⟨N, 1, none⟩ = false := HB4.out.frozen 1; have hs4 := hb4.size; clear ho4 hb4 he4 hx4
    go_simp
    refine hK.out _ _ (trivial) (fun hHeld => ?_)
    clear hK K
    refine wpAnyH_ready (rs := [7]) (by kernel_rfl) (by simp) ?_
    refine AllReadyH.cons (o := { dst := none, op := .store 58 (.tmp 9) (.tmp 5), type := 0, pos := "tx.go:155", after := #[{ on := 6, ground := .data }, { on := 2, ground := .data }, { on := 5, ground := .chain }, { on := 0, ground := .phase }, { on := 1, ground := .phase }, { on := 2, ground := .phase }, { on := 3, ground := .phase }, { on := 4, ground := .phase }, { on := 5, ground := .textOnly Go.Departure.lateStoresUnsure }], guard := none }) rfl (fun K hK => ?_) AllReadyH.nil
    go_simp
    skip
    go_simp
    refine hK.out _ _ (trivial) (fun hHeld => ?_)
    clear hK K
    refine wpAnyH_take (i := 8) (oi := { dst := some 10, op := .fieldAddr 61 (.tmp 1) 1, type := 0, pos := "tx.go:155", after := #[{ on := 0, ground := .phase }, { on := 1, ground := .phase }, { on := 2, ground := .phase }, { on := 3, ground := .phase }, { on := 4, ground := .phase }, { on := 5, ground := .phase }, { on := 6, ground := .phase }, { on := 7, ground := .phase }], guard := none }) (v := ?_) rfl (by kernel_rfl) (by kernel_rfl) (by kernel_rfl) (fun _ _ _ h => h) (Or.inl ⟨by rfl, ?_⟩) (by assumption) ?_
    rotate_left
    · intro _ _; go_simp; first | done | with_reducible rfl
    simp only [Act.put, List.setIfInBounds_toArray, List.set_cons_zero, List.set_cons_succ]
    refine wpAnyH_ready (rs := [9]) (by kernel_rfl) (by simp) ?_
    refine AllReadyH.cons (o := { dst := none, op := .store 59 (.tmp 10) (.tmp 8), type := 0, pos := "tx.go:155", after := #[{ on := 8, ground := .data }, { on := 5, ground := .data }, { on := 7, ground := .chain }, { on := 0, ground := .phase }, { on := 1, ground := .phase }, { on := 2, ground := .phase }, { on := 3, ground := .phase }, { on := 4, ground := .phase }, { on := 5, ground := .phase }, { on := 6, ground := .phase }, { on := 7, ground := .phase }], guard := none }) rfl (fun K hK => ?_) AllReadyH.nil
    go_simp
    skip
    go_simp
    refine hK.out _ _ (trivial) (fun hHeld => ?_)
    clear hK K
    refine wpAnyH_done (by kernel_rfl) ?_ _
    refine NoPanic.normal ?_
    clear hHeld f0 g0 f1 g1 d1 c0 c1 HB3 HR3 HW3 HCI HCO
    have HB5 : Hid (Blk ((w4.setCell ⟨N, 0, none⟩ (.slice a3 n3 c3)).setCell ⟨N, 1, none⟩ (.slice a4 n4 c4)) N [.slice a3 n3 c3, .slice a4 n4 c4, .int .i64 lock]) := (HB4.out.set 0 _).set 1 _
    have HR5 : Hid (Blk ((w4.setCell ⟨N, 0, none⟩ (.slice a3 n3 c3)).setCell ⟨N, 1, none⟩ (.slice a4 n4 c4)) (N + 1) [.slice none 0 0, .slice none 0 0, .int .i64 0]) := (HR4.out.other (by simp) _).other (by simp) _
    have HW5 : Hid (Below N w ((w4.setCell ⟨N, 0, none⟩ (.slice a3 n3 c3)).setCell ⟨N, 1, none⟩ (.slice a4 n4 c4))) := (HW4.out.setCell (by simp) _).setCell (by simp) _
    have HO5 : Hid (Els ((w4.setCell ⟨N, 0, none⟩ (.slice a3 n3 c3)).setCell ⟨N, 1, none⟩ (.slice a4 n4 c4)) a4 n4 c4 outs) := HE4.out.1.later fun b' o' _ e => by
      have := HE4.out.2 _ e
      simp only at this
      rw [Below.heap_setCell _ _ _ _ (by simp; omega), Below.heap_setCell _ _ _ _ (by simp; omega)]
    have HI5 : Hid (Els ((w4.setCell ⟨N, 0, none⟩ (.slice a3 n3 c3)).setCell ⟨N, 1, none⟩ (.slice a4 n4 c4)) a3 n3 c3 ins) := HI4.out.later fun b' o' _ e => by
      have := HE3.out.2 _ e
      simp only at this
      rw [Below.heap_setCell _ _ _ _ (by simp; omega), Below.heap_setCell _ _ _ _ (by simp; omega)]
    generalize (w4.setCell ⟨N, 0, none⟩ (.slice a3 n3 c3)).setCell ⟨N, 1, none⟩ (.slice a4 n4 c4) = w5 at *
    obtain ⟨Z, hZ⟩ : ∃ Z, Z = [Value.slice a3 n3 c3, .slice a4 n4 c4, .int .i64 lock] := ⟨_, rfl⟩
    rw [← hZ] at HB5
    have HZE : Hid (Z = [Value.slice a3 n3 c3, .slice a4 n4 c4, .int .i64 lock]) := hZ
    have HZS : Hid ((Tryz.prog.info? 61).map (·.size) = some Z.length ∧ (Tryz.prog.info? 61).map (·.size) = some Z.toArray.size ∧ #[Value.slice none 0 0, .slice none 0 0, .int .i64 0].size = Z.toArray.size ∧ Z.toArray.all (·.oneCell') = true) := by
      rw [hZ]; exact ⟨sizeTx ⟨⟨a3, n3, c3, a4, n4, c4⟩, ⟨[], [], lock⟩⟩, sizeTxa ⟨⟨a3, n3, c3, a4, n4, c4⟩, ⟨[], [], lock⟩⟩, rfl, TxR.cs_all ⟨⟨a3, n3, c3, a4, n4, c4⟩, ⟨[], [], lock⟩⟩⟩
    clear hZ
    have HLD : Hid (w5.rangeAt N 0 Z) := HB5.out.whole
    obtain ⟨t, ht⟩ := HR5.out
    have HT5 : Hid (w5.heap[N + 1]? = some (.cells #[Value.slice none 0 0, .slice none 0 0, .int .i64 0] t (0, 0))) := ht
    clear ht
    obtain ⟨dT, HDT, HRT⟩ := und_tx
    go_wp2_with (first
      | (refine wpList_load_mid rfl 61 _ rfl N 0 rfl Z _ HLD.out HDT.out HRT.out HZS.out.1 ?_)
      | (refine wpList_store_row rfl 61 _ _ rfl (N + 1) Z.toArray rfl rfl t _ HT5.out HZS.out.2.1 HZS.out.2.2.1 HZS.out.2.2.2 ?_))
    refine bodyPost_ret (v := .agg Z.toArray) ?_ rfl ⟨⟨a3, n3, c3, a4, n4, c4⟩, by rw [HZE.out], ⟨?_, ?_⟩, ⟨fun x hx => ?_, fun x hx => ?_⟩, ?_⟩
    · obtain ⟨t', hb⟩ := Blk.row (ds := Z) ⟨t, HT5.out⟩
      exact results_cell_row Tryz.results77 _ _ (N + 1) t' _ _ _ rfl hb Tryz.underlying61 rfl HZS.out.2.1
    · exact HI5.out.later fun b' o' _ e => by
        have := HE3.out.2 _ e
        simp only at this
        rw [heap_setRow _ _ _ _ (by omega)]
    · exact HO5.out.later fun b' o' _ e => by
        have := HE4.out.2 _ e
        simp only at this
        rw [heap_setRow _ _ _ _ (by omega)]
    · have := HE3.out.2 _ hx; omega
    · have := HE4.out.2 _ hx; omega
    · subst hN; exact below_setRow HW5.out (by omega) _
end Go.Proofs.YtlaifphedhaemaaGreatDoor
