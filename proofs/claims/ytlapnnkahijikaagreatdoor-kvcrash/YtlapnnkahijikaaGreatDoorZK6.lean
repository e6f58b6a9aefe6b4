/- kv: room, fitting, packed. -/
import Derived.Test.YtlapnnkahijikaaGreatDoorZK3
import Derived.Test.YtlapnnkahijikaaGreatDoorZW3
namespace Go.Proofs.YtlapnnkahijikaaGreatDoor
open Go.ChangeShapes Go.WideShapes Go.ChangeAt Go.RowKit Go.Lib

theorem numB_zero : (numB 0).length = 1 := rfl
theorem room_len (p : Pr) (hg : p.g = false) : ((prB p).length : Int) = 1 + sizeN p.k.size + p.k.size + sizeN p.v.size + p.v.size := by
  have h1 := numB_len (p.k.size : Int)
  have h2 := numB_len (p.v.size : Int)
  unfold prB goneN
  rw [hg]
  simp only [List.length_append, strB_length, Bool.false_eq_true, if_false, numB_zero]
  omega
set_option maxRecDepth 100000 in
set_option maxHeartbeats 4000000 in
theorem room_any (p : Pr) (w : World) (hg : p.g = false) (hk : p.k.size ≤ 1000000) (hv : p.v.size ≤ 1000000) :
    Calls Tryz.prog 90 #[.agg #[.string p.k, .string p.v, .bool p.g]] w fun e w' => e = .returned (.int .i64 (prB p).length) ∧ Below w.heap.size w w' := by
  have HR : Hid (((prB p).length : Int) = 1 + sizeN p.k.size + p.k.size + sizeN p.v.size + p.v.size) := room_len p hg
  obtain ⟨h1a, h1b⟩ := sizeN_le9 (p.k.size : Int)
  obtain ⟨h2a, h2b⟩ := sizeN_le9 (p.v.size : Int)
  have HK : Hid (∀ w, Calls Tryz.prog 89 #[.int .i64 p.k.size] w fun e w' => e = .returned (.int .i64 (sizeN p.k.size)) ∧ w = w') := fun w => size_any _ w
  have HV : Hid (∀ w, Calls Tryz.prog 89 #[.int .i64 p.v.size] w fun e w' => e = .returned (.int .i64 (sizeN p.v.size)) ∧ w = w') := fun w => size_any _ w
  generalize (prB p).length = R at *
  generalize sizeN p.k.size = a at *
  generalize sizeN p.v.size = b at *
  obtain ⟨pk, pv, pg⟩ := p
  simp only at HK HV HR hk hv hg ⊢
  subst hg
  go_enter Tryz.func90, Tryz.ntmps90
  go_upto_region 1 with fail
  generalize hw1 : World.alloc w _ = w1
  have HP1 : Hid (Blk w1 w.heap.size [.string pk, .string pv, .bool false]) := by rw [← hw1]; exact Blk.mk _ _ _ rfl rfl
  have HB1 : Hid (Below w.heap.size w w1) := by rw [← hw1]; exact (Below.refl _ _).alloc (Nat.le_refl _) _
  have p0 : w1.cell? ⟨w.heap.size, 0, none⟩ = some (.string pk) := HP1.out.one rfl
  have p1 : w1.cell? ⟨w.heap.size, 1, none⟩ = some (.string pv) := HP1.out.one rfl
  clear hw1
  have HMO : Hid (Tryz.prog.follows .mixedOrders = true) := show _ = _ by kernel_rfl
  generalize hN : w.heap.size = N at *
  refine wp_region_noPanic ?_
  refine wp_region_held_drew (S := fun w' => w'.cell? ⟨N, 0, none⟩ = some (.string pk) ∧ w'.cell? ⟨N, 1, none⟩ = some (.string pv)) HMO.out (⟨HP1.out.drew.one rfl, HP1.out.drew.one rfl⟩) (fun hHeld => ?_)
  refine wpAnyH_take (i := 0) (oi := { dst := some 3, op := .fieldAddr 48 (.tmp 1) 0, type := 0, pos := "batch.go:107", after := #[], guard := none }) (v := ?_) rfl (by kernel_rfl) (by kernel_rfl) (by kernel_rfl) (fun _ _ _ h => h) (Or.inl ⟨by rfl, ?_⟩) (by assumption) ?_
  rotate_left
  · intro _ _; go_simp; first | done | with_reducible rfl
  simp only [Act.put, List.setIfInBounds_toArray, List.set_cons_zero, List.set_cons_succ]
  refine wpAnyH_take (i := 1) (oi := { dst := some 4, op := .load 9 (.tmp 3), type := 9, pos := "batch.go:107", after := #[{ on := 0, ground := .data }], guard := none }) (v := .string pk) rfl (by kernel_rfl) (by kernel_rfl) (by kernel_rfl) (fun _ _ _ h => h) (Or.inl ⟨by rfl, ?_⟩) (by assumption) ?_
  · intro _ _; rename_i wz hz; have cz := hz.1; go_simp
  simp only [Act.put, List.setIfInBounds_toArray, List.set_cons_zero, List.set_cons_succ]
  refine wpAnyH_take (i := 2) (oi := { dst := some 5, op := .call { callee := .builtin Go.Builtin.len, args := #[.tmp 4], argTypes := #[9] }, type := 3, pos := "batch.go:107", after := #[{ on := 1, ground := .data }], guard := none }) (v := ?_) rfl (by kernel_rfl) (by kernel_rfl) (by kernel_rfl) (fun _ _ _ h => h) (Or.inl ⟨by rfl, ?_⟩) (by assumption) ?_
  rotate_left
  · intro _ _; go_simp; first | done | with_reducible rfl
  simp only [Act.put, List.setIfInBounds_toArray, List.set_cons_zero, List.set_cons_succ]
  refine wpAnyH_take (i := 5) (oi := { dst := some 8, op := .fieldAddr 48 (.tmp 1) 0, type := 0, pos := "batch.go:107", after := #[], guard := none }) (v := ?_) rfl (by kernel_rfl) (by kernel_rfl) (by kernel_rfl) (fun _ _ _ h => h) (Or.inl ⟨by rfl, ?_⟩) (by assumption) ?_
  rotate_left
  · intro _ _; go_simp; first | done | with_reducible rfl
  simp only [Act.put, List.setIfInBounds_toArray, List.set_cons_zero, List.set_cons_succ]
  refine wpAnyH_take (i := 6) (oi := { dst := some 9, op := .load 9 (.tmp 8), type := 9, pos := "batch.go:107", after := #[{ on := 5, ground := .data }], guard := none }) (v := .string pk) rfl (by kernel_rfl) (by kernel_rfl) (by kernel_rfl) (fun _ _ _ h => h) (Or.inl ⟨by rfl, ?_⟩) (by assumption) ?_
  · intro _ _; rename_i wz hz; have cz := hz.1; go_simp
  simp only [Act.put, List.setIfInBounds_toArray, List.set_cons_zero, List.set_cons_succ]
  refine wpAnyH_take (i := 7) (oi := { dst := some 10, op := .call { callee := .builtin Go.Builtin.len, args := #[.tmp 9], argTypes := #[9] }, type := 3, pos := "batch.go:107", after := #[{ on := 6, ground := .data }], guard := none }) (v := ?_) rfl (by kernel_rfl) (by kernel_rfl) (by kernel_rfl) (fun _ _ _ h => h) (Or.inl ⟨by rfl, ?_⟩) (by assumption) ?_
  rotate_left
  · intro _ _; go_simp; first | done | with_reducible rfl
  simp only [Act.put, List.setIfInBounds_toArray, List.set_cons_zero, List.set_cons_succ]
  refine wpAnyH_take (i := 9) (oi := { dst := some 12, op := .fieldAddr 48 (.tmp 1) 1, type := 0, pos := "batch.go:107", after := #[], guard := none }) (v := ?_) rfl (by kernel_rfl) (by kernel_rfl) (by kernel_rfl) (fun _ _ _ h => h) (Or.inl ⟨by rfl, ?_⟩) (by assumption) ?_
  rotate_left
  · intro _ _; go_simp; first | done | with_reducible rfl
  simp only [Act.put, List.setIfInBounds_toArray, List.set_cons_zero, List.set_cons_succ]
  refine wpAnyH_take (i := 10) (oi := { dst := some 13, op := .load 9 (.tmp 12), type := 9, pos := "batch.go:107", after := #[{ on := 9, ground := .data }], guard := none }) (v := .string pv) rfl (by kernel_rfl) (by kernel_rfl) (by kernel_rfl) (fun _ _ _ h => h) (Or.inl ⟨by rfl, ?_⟩) (by assumption) ?_
  · intro _ _; rename_i wz hz; have cz := hz.2; go_simp
  simp only [Act.put, List.setIfInBounds_toArray, List.set_cons_zero, List.set_cons_succ]
  refine wpAnyH_take (i := 11) (oi := { dst := some 14, op := .call { callee := .builtin Go.Builtin.len, args := #[.tmp 13], argTypes := #[9] }, type := 3, pos := "batch.go:107", after := #[{ on := 10, ground := .data }], guard := none }) (v := ?_) rfl (by kernel_rfl) (by kernel_rfl) (by kernel_rfl) (fun _ _ _ h => h) (Or.inl ⟨by rfl, ?_⟩) (by assumption) ?_
  rotate_left
  · intro _ _; go_simp; first | done | with_reducible rfl
  simp only [Act.put, List.setIfInBounds_toArray, List.set_cons_zero, List.set_cons_succ]
  refine wpAnyH_take (i := 14) (oi := { dst := some 17, op := .fieldAddr 48 (.tmp 1) 1, type := 0, pos := "batch.go:107", after := #[], guard := none }) (v := ?_) rfl (by kernel_rfl) (by kernel_rfl) (by kernel_rfl) (fun _ _ _ h => h) (Or.inl ⟨by rfl, ?_⟩) (by assumption) ?_
  rotate_left
  · intro _ _; go_simp; first | done | with_reducible rfl
  simp only [Act.put, List.setIfInBounds_toArray, List.set_cons_zero, List.set_cons_succ]
  refine wpAnyH_take (i := 15) (oi := { dst := some 18, op := .load 9 (.tmp 17), type := 9, pos := "batch.go:107", after := #[{ on := 14, ground := .data }], guard := none }) (v := .string pv) rfl (by kernel_rfl) (by kernel_rfl) (by kernel_rfl) (fun _ _ _ h => h) (Or.inl ⟨by rfl, ?_⟩) (by assumption) ?_
  · intro _ _; rename_i wz hz; have cz := hz.2; go_simp
  simp only [Act.put, List.setIfInBounds_toArray, List.set_cons_zero, List.set_cons_succ]
  refine wpAnyH_take (i := 16) (oi := { dst := some 19, op := .call { callee := .builtin Go.Builtin.len, args := #[.tmp 18], argTypes := #[9] }, type := 3, pos := "batch.go:107", after := #[{ on := 15, ground := .data }], guard := none }) (v := ?_) rfl (by kernel_rfl) (by kernel_rfl) (by kernel_rfl) (fun _ _ _ h => h) (Or.inl ⟨by rfl, ?_⟩) (by assumption) ?_
  rotate_left
  · intro _ _; go_simp; first | done | with_reducible rfl
  simp only [Act.put, List.setIfInBounds_toArray, List.set_cons_zero, List.set_cons_succ]
  refine wpAnyH_ready (rs := [3]) (by kernel_rfl) (by simp) ?_
  refine AllReadyH.cons (o := { dst := some 6, op := .call { callee := .value (.func 89), args := #[.tmp 5], argTypes := #[3] }, type := 3, pos := "batch.go:107", after := #[{ on := 2, ground := .data }], guard := none }) rfl (fun K hK => ?_) AllReadyH.nil
  go_simp
  refine (HK.out _).mono ?_; rintro e w3 ⟨rfl, rfl⟩
  go_simp
  refine hK.out _ _ (⟨HP1.out.drew.one rfl, HP1.out.drew.one rfl⟩) (fun hHeld => ?_)
  clear hK K
  refine wpAnyH_take (i := 4) (oi := { dst := some 7, op := .binOp Go.BinOp.add 3 (.const (.int .i64 1)) (.tmp 6) 3, type := 3, pos := "batch.go:107", after := #[{ on := 3, ground := .data }], guard := none }) (v := ?_) rfl (by kernel_rfl) (by kernel_rfl) (by kernel_rfl) (fun _ _ _ h => h) (Or.inl ⟨by rfl, ?_⟩) (by assumption) ?_
  rotate_left
  · intro _ _; go_simp; first | done | with_reducible rfl
  simp only [Act.put, List.setIfInBounds_toArray, List.set_cons_zero, List.set_cons_succ]
  refine wpAnyH_take (i := 8) (oi := { dst := some 11, op := .binOp Go.BinOp.add 3 (.tmp 7) (.tmp 10) 3, type := 3, pos := "batch.go:107", after := #[{ on := 4, ground := .data }, { on := 7, ground := .data }], guard := none }) (v := ?_) rfl (by kernel_rfl) (by kernel_rfl) (by kernel_rfl) (fun _ _ _ h => h) (Or.inl ⟨by rfl, ?_⟩) (by assumption) ?_
  rotate_left
  · intro _ _; go_simp; first | done | with_reducible rfl
  simp only [Act.put, List.setIfInBounds_toArray, List.set_cons_zero, List.set_cons_succ]
  refine wpAnyH_ready (rs := [12]) (by kernel_rfl) (by simp) ?_
  refine AllReadyH.cons (o := { dst := some 15, op := .call { callee := .value (.func 89), args := #[.tmp 14], argTypes := #[3] }, type := 3, pos := "batch.go:107", after := #[{ on := 11, ground := .data }, { on := 3, ground := .chain }], guard := none }) rfl (fun K hK => ?_) AllReadyH.nil
  go_simp
  refine (HV.out _).mono ?_; rintro e w3 ⟨rfl, rfl⟩
  go_simp
  refine hK.out _ _ (⟨HP1.out.drew.one rfl, HP1.out.drew.one rfl⟩) (fun hHeld => ?_)
  clear hK K
  refine wpAnyH_take (i := 13) (oi := { dst := some 16, op := .binOp Go.BinOp.add 3 (.tmp 11) (.tmp 15) 3, type := 3, pos := "batch.go:107", after := #[{ on := 8, ground := .data }, { on := 12, ground := .data }], guard := none }) (v := ?_) rfl (by kernel_rfl) (by kernel_rfl) (by kernel_rfl) (fun _ _ _ h => h) (Or.inl ⟨by rfl, ?_⟩) (by assumption) ?_
  rotate_left
  · intro _ _; go_simp; first | done | with_reducible rfl
  simp only [Act.put, List.setIfInBounds_toArray, List.set_cons_zero, List.set_cons_succ]
  refine wpAnyH_take (i := 17) (oi := { dst := some 20, op := .binOp Go.BinOp.add 3 (.tmp 16) (.tmp 19) 3, type := 3, pos := "batch.go:107", after := #[{ on := 13, ground := .data }, { on := 16, ground := .data }], guard := none }) (v := ?_) rfl (by kernel_rfl) (by kernel_rfl) (by kernel_rfl) (fun _ _ _ h => h) (Or.inl ⟨by rfl, ?_⟩) (by assumption) ?_
  rotate_left
  · intro _ _; go_simp; first | done | with_reducible rfl
  simp only [Act.put, List.setIfInBounds_toArray, List.set_cons_zero, List.set_cons_succ]
  refine wpAnyH_take (i := 18) (oi := { dst := some 2, op := .assign (.tmp 20), type := 3, pos := "batch.go:107", after := #[{ on := 17, ground := .data }, { on := 12, ground := .chain }, { on := 0, ground := .phase }, { on := 1, ground := .phase }, { on := 2, ground := .phase }, { on := 3, ground := .phase }, { on := 4, ground := .phase }, { on := 5, ground := .phase }, { on := 6, ground := .phase }, { on := 7, ground := .phase }, { on := 8, ground := .phase }, { on := 9, ground := .phase }, { on := 10, ground := .phase }, { on := 11, ground := .phase }, { on := 12, ground := .phase }, { on := 13, ground := .phase }, { on := 14, ground := .phase }, { on := 15, ground := .phase }, { on := 16, ground := .phase }, { on := 17, ground := .phase }], guard := none }) (v := ?_) rfl (by kernel_rfl) (by kernel_rfl) (by kernel_rfl) (fun _ _ _ h => h) (Or.inl ⟨by rfl, ?_⟩) (by assumption) ?_
  rotate_left
  · intro _ _; go_simp; first | done | with_reducible rfl
  simp only [Act.put, List.setIfInBounds_toArray, List.set_cons_zero, List.set_cons_succ]
  refine wpAnyH_done (by kernel_rfl) ?_ _
  refine NoPanic.normal ?_
  clear hHeld
  go_wp2_with fail
  go_ret
  subst hN
  refine ⟨ret_int ?_, HB1.out.drew⟩
  rw [HR.out, i64_fit (n := 1 + a) (by omega) (by omega), i64_fit (n := 1 + a + pk.size) (by omega) (by omega), i64_fit (n := 1 + a + pk.size + b) (by omega) (by omega), i64_fit (n := 1 + a + pk.size + b + pv.size) (by omega) (by omega)]
theorem nat_room {l : List Pr} (k : Nat) : (3 + ((prsB (l.take k)).length : Int)) = ((3 + (prsB (l.take k)).length : Nat) : Int) := by omega
set_option maxRecDepth 100000 in
set_option maxHeartbeats 4000000 in
theorem fitting_any (a : Option Addr) (n cap : Nat) (l : List Pr) (w : World) (hl : Els w a n cap l) (hz : ∀ p ∈ l, p.k.size ≤ 1000000 ∧ p.v.size ≤ 1000000 ∧ p.g = false) (hn : n ≤ 1000) (hb : (prsB l).length ≤ 1048000) :
    Calls Tryz.prog 65 #[.slice a n cap] w fun e w' => e = .returned (.int .i64 n) ∧ Below w.heap.size w w' := by
  have HL : Hid (Els w a n cap l) := hl
  have HN : Hid (l.length = n) := hl.len
  have HZ : Hid (∀ p ∈ l, p.k.size ≤ 1000000 ∧ p.v.size ≤ 1000000 ∧ p.g = false) := hz
  have HBT : Hid (∀ k, (prsB (l.take k)).length ≤ 1048000) := fun k => Nat.le_trans (prsB_take_le l k) hb
  have hnc : n ≤ cap := hl.fits
  have hcm : cap ≤ 9223372036854775807 := by have h2 := hl.most; unfold maxLen at h2; omega
  have HSZ : Hid (∀ w, Calls Tryz.prog 89 #[.int .i64 1000] w fun e w' => e = .returned (.int .i64 3) ∧ w = w') := fun w => size_is 1000 3 w (by decide)
  have e1 : (n : Int) ≤ 1000 := by omega
  clear hl hz hb
  go_enter Tryz.func65, Tryz.ntmps65
  go_wp2_with fail
  refine wp_scope_hops 0 ?_
  go_hide hQ
  go_wp2_with fail
  refine Calls.mono (HSZ.out _) ?_
  rintro e w1 ⟨rfl, rfl⟩
  go_wp2_with fail
  go_loopw [3, 4] (fun z i wr => ∃ (k R : Nat), k ≤ n ∧ i = .int .i64 k ∧ z = .int .i64 R ∧ Hid (R = 3 + (prsB (l.take k)).length) ∧ R ≤ 1048003 ∧ Hid (Below w.heap.size w wr)) (fun _ i _ => n - (intOf i).toNat)
  case atStart => exact ⟨0, 3, by omega, rfl, rfl, by show _ = _; rw [List.take_zero]; rfl, by omega, Below.refl _ _⟩
  case round =>
    obtain ⟨k, R, hk, rfl, rfl, HR, hR, HB⟩ := hrel
    by_cases hlt : k < n
    · have e2 : (0 : Int) ≤ (k : Int) := by omega
      have e3 : (k : Int) < (n : Int) := by omega
      obtain ⟨b, o, rfl, c0, c1, c2⟩ := HL.out.pr hlt
      replace c0 := cell_below' HB.out c0
      replace c1 := cell_below' HB.out c1
      replace c2 := cell_below' HB.out c2
      have hzp := HZ.out (l.getD k default) (by rw [List.getD_eq_getElem?_getD, List.getElem?_eq_getElem (by rw [HN.out]; exact hlt)]; exact List.getElem_mem _)
      have hnx : (prsB (l.take (k + 1))).length = (prsB (l.take k)).length + (prB (l.getD k default)).length := by rw [prsB_next l k (by rw [HN.out]; exact hlt), List.length_append]
      have hbt := HBT.out (k + 1)
      obtain ⟨p, hp⟩ : ∃ p, p = l.getD k default := ⟨_, rfl⟩
      rw [← hp] at c0 c1 c2 hzp hnx
      have HRM : Hid (∀ w, Calls Tryz.prog 90 #[.agg #[.string p.k, .string p.v, .bool p.g]] w fun e w' => e = .returned (.int .i64 (prB p).length) ∧ Below w.heap.size w w') := fun w => room_any p w hzp.2.2 hzp.1 hzp.2.1
      obtain ⟨q, hq⟩ : ∃ q, q = (prB p).length := ⟨_, rfl⟩
      rw [← hq] at hnx HRM
      have HR2 : Hid (R + q = 3 + (prsB (l.take (k + 1))).length) := show _ = _ by rw [HR.out, hnx]; omega
      have hRq : R + q ≤ 1048003 := by rw [HR2.out]; omega
      obtain ⟨pk, pv, pg⟩ := p
      simp only at c0 c1 c2 HRM
      clear hzp hp hbt hnx hq
      have e4 : ¬ ((R : Int) + (q : Int) > 1048576) := by omega
      go_wp2_with fail
      refine Calls.mono (HRM.out _) ?_
      rintro e w2 ⟨rfl, hb2⟩
      have HB2 : Hid (Below w.heap.size w w2) := HB.out.trans (hb2.mono HB.out.size)
      clear hb2 HB c0 c1 c2
      go_wp2_with fail
      go_roundw
      case rel => exact ⟨k + 1, R + q, by omega, by go_num, by go_num, HR2.out, hRq, HB2.out⟩
      case measure => simp [intOf]; omega
    · obtain rfl : k = n := by omega
      have e3 : ¬ (k : Int) < (k : Int) := by omega
      go_wp2_with fail
      go_step3
      go_wp2_with fail
      subst hQ
      rw [hops_ret]
      go_ret
      exact ⟨rfl, HB.out⟩
/-- The records of all pairs. -/
def packR (T : List Pr) : List (List (BitVec 8)) := if T = [] then [] else [batB T]
theorem srcX_lit (w : World) (x : Value) (t : TypeId) : SrcX (w.alloc (.cells #[x] t)) (.slice (some ⟨w.heap.size, 0, none⟩) 1 1) [x] := by
  have hb : Blk (w.alloc (.cells #[x] t)) w.heap.size [x] := Blk.mk _ _ _ rfl rfl
  refine .inr ⟨w.heap.size, 0, 1, rfl, Nat.le_refl _, by unfold maxLen; omega, fun j y hy => ?_⟩
  rw [Nat.zero_add]
  exact hb.one hy
set_option maxRecDepth 100000 in
set_option maxHeartbeats 4000000 in
theorem packed_any (a : Option Addr) (n cap : Nat) (l : List Pr) (w : World) (hl : Els w a n cap l) (hz : ∀ p ∈ l, p.k.size ≤ 1000000 ∧ p.v.size ≤ 1000000 ∧ p.g = false) (hn : n ≤ 1000) (hb : (prsB l).length ≤ 1048000) :
    Calls Tryz.prog 37 #[.slice a n cap] w fun e w' => ∃ v, e = .returned v ∧ RowsB w' v (packR l) ∧ (∀ k, v.ownBlock = some k → w.heap.size ≤ k) ∧ Below w.heap.size w w' := by
  have HL : Hid (Els w a n cap l) := hl
  have HN : Hid (l.length = n) := hl.len
  have hnc : n ≤ cap := hl.fits
  have hcm : cap ≤ 9223372036854775807 := by have h2 := hl.most; unfold maxLen at h2; omega
  by_cases h0 : n = 0
  · have HE : Hid (packR l = []) := by
      show _ = _
      unfold packR
      rw [if_pos (List.eq_nil_of_length_eq_zero (by rw [hl.len, h0]))]
    have e0 : ¬ (n : Int) > 0 := by omega
    clear hl hz hb
    go_enter Tryz.func37, Tryz.ntmps37
    go_wp2_with fail
    refine wp_loop_rounds 1 ?_
    rw [rounds_succ]
    go_wp2_with fail
    go_ret
    refine ⟨.slice none 0 0, rfl, ?_, (fun k e => by cases e), Below.refl _ _⟩
    rw [HE.out]
    exact ⟨[], .inl ⟨rfl, rfl⟩, rfl, fun i x hx => by simp at hx⟩
  · have HE : Hid (packR l = [batB l]) := by
      show _ = _
      unfold packR
      rw [if_neg (fun e => h0 (by rw [← hl.len, e]; rfl))]
    have e0 : (n : Int) > 0 := by omega
    have HF : Hid _ := fitting_any a n cap l w hl hz hn hb
    have HW : Hid (∀ w', Below w.heap.size w w' → Calls Tryz.prog 34 #[.slice a n cap] w' fun e w'' => ∃ v, e = .returned v ∧ OwnB w'' w'.heap.size v (batB l) ∧ Below w'.heap.size w' w'') := fun w' hb' => write_any' a n cap l w' (hl.below hb') (fun p hp => ⟨(hz p hp).1, (hz p hp).2.1⟩) (by omega)
    clear hl hz hb
    obtain ⟨adr, hadr⟩ : ∃ x, (if cap = n then a else Option.map (fun x => x.add (n * 3)) a) = x := ⟨_, rfl⟩
    have e1 : (0 : Int) ≤ (n : Int) := by omega
    have e2 : (n : Int) ≤ (cap : Int) := by omega
    go_enter Tryz.func37, Tryz.ntmps37
    go_wp2_with fail
    refine wp_loop_rounds 2 ?_
    rw [rounds_succ]
    go_wp2_with fail
    refine Calls.mono HF.out ?_
    rintro e w1 ⟨rfl, hb1⟩
    have HB1 : Hid (Below w.heap.size w w1) := hb1
    clear hb1 HF
    go_wp2_with fail
    refine Calls.mono (HW.out _ HB1.out) ?_
    rintro e w2 ⟨v2, rfl, ho2, hb2⟩
    obtain ⟨a2, c2, hv2⟩ := ho2.shape
    subst hv2
    have HB2 : Hid (Below w1.heap.size w1 w2) := hb2
    have HO2 : Hid (OwnB w2 w1.heap.size (.slice a2 (batB l).length c2) (batB l)) := ho2
    generalize (batB l).length = z at *
    clear ho2 hb2 HW
    have HBA : Hid (Below w2.heap.size w2 (w2.alloc (.cells #[.slice a2 z c2] 67))) := (Below.refl _ _).alloc (Nat.le_refl _) _
    go_wp2_with (at_builtin; refine wpList_append_x rfl _ _ rfl w2.heap.size (.slice none 0 0) [] rfl (OwnX.nil _ _) _ [.slice a2 z c2] rfl (srcX_lit _ _ _) (by simp [Value.oneCell']) (by simp) (by simp) ?_; intro v3 w3 HO3 HG3 _; obtain ⟨a3, c3, hv3⟩ := HO3.out.shape; subst hv3)
    have HB3 : Hid (Below w.heap.size w w3) := ((HB1.out.trans (HB2.out.mono HB1.out.size)).trans (HBA.out.mono (by have := HB1.out.size; have := HB2.out.size; omega))).grown HG3.out (by have := HB1.out.size; have := HB2.out.size; simp; omega) fun k e => by cases e
    have HX3 : Hid (RowsB w3 (.slice a3 1 c3) [batB l]) := by
      have hbs : Bs w3 (.slice a2 z c2) (batB l) := by
        refine (HO2.out.below HBA.out).toBs.below ?_
        exact (Below.refl _ _).grown HG3.out (Nat.le_refl _) fun k e => by cases e
      refine ⟨[.slice a2 z c2], HO3.out.src, rfl, fun i x hx => ?_⟩
      match i, hx with
      | 0, hx =>
        have hx : Value.slice a2 z c2 = x := by simpa using hx
        rw [← hx]
        exact .inl hbs
    have HK3 : Hid (∀ k, (Value.slice a3 1 c3).ownBlock = some k → w.heap.size ≤ k) := fun k e => by have := (HO3.out.lt k e).1; have := HB1.out.size; have := HB2.out.size; omega
    clear HO3 HG3 HB1 HB2 HO2 HBA
    go_wp2_with fail
    rw [rounds_succ]
    go_wp2_with fail
    go_ret
    exact ⟨.slice a3 1 c3, rfl, by rw [HE.out]; exact HX3.out, HK3.out, HB3.out⟩
end Go.Proofs.YtlapnnkahijikaaGreatDoor
