/- wire.Reader: take. -/
import Derived.Test.YtlaifphedhaemaaGreatDoorCD1
namespace Go.Proofs.YtlaifphedhaemaaGreatDoor
open Go.ChangeShapes Go.WideShapes Go.ChangeAt Go.RowKit

/-- The next n bytes, and what is left behind them. -/
def rT (s : RS) (n : Int) : List (BitVec 8) × RS := if n ≤ s.1.length then (s.1.take n.toNat, (s.1.drop n.toNat, s.2)) else ([], ([], true))
theorem ret_slice {a : Option Addr} {n m cap : Nat} (h : n = m) : Ending.returned (.slice a n cap) = .returned (.slice a m cap) := by rw [h]
set_option maxRecDepth 100000 in
set_option maxHeartbeats 2000000 in
theorem take_any (R N : Nat) (s : RS) (n : Int) (w : World) (h : Rd w R N s) (hn : 0 ≤ n) (hn2 : n ≤ 4611686018427387904) :
    Calls Tryz.prog 71 #[.pointer (some ⟨R, 0, none⟩), .int .i64 n] w fun e w' => ∃ a cap, e = .returned (.slice a (rT s n).1.length cap) ∧ Bytes w' a cap (rT s n).1 ∧ (∀ x : Addr, a = some x → x.block ≠ R ∧ x.block < N) ∧ Rd w' R N (rT s n).2 ∧ Keep R w w' := by
  have hmo : Tryz.prog.follows .mixedOrders = true := by kernel_rfl
  have HMO : Hid (_ = true) := hmo
  obtain ⟨a, cap, hB, hBy, hap⟩ := h.ex
  have H : Hid (Rd w R N s) := h
  have HB : Hid (Blk w R [.slice a s.1.length cap, .bool s.2]) := hB
  have HBY : Hid (Bytes w a cap s.1) := hBy
  have HAP : Hid (∀ x : Addr, a = some x → x.block ≠ R ∧ x.block < N) := hap
  have c0 : w.cell? ⟨R, 0, none⟩ = some (.slice a s.1.length cap) := hB.one rfl
  have f0 : w.frozen? ⟨R, 0, none⟩ = false := hB.frozen 0
  have hroom := hBy.room
  have hmost : cap ≤ 9223372036854775807 := by have := hBy.most; unfold maxLen at this; omega
  clear h hB hBy hap hmo
  obtain ⟨u, rfl⟩ : ∃ u : Nat, n = (u : Int) := ⟨n.toNat, by omega⟩
  by_cases hle : u ≤ s.1.length
  · have HRN : Hid (rT s (u : Int) = (s.1.take u, (s.1.drop u, s.2))) := by
      show _ = _
      unfold rT; rw [if_pos (by omega)]; rfl
    have HDL : Hid (s.1.length - u = (s.1.drop u).length) := show _ = _ by rw [List.length_drop]
    have HTL : Hid (u = (s.1.take u).length) := show _ = _ by rw [List.length_take]; omega
    obtain ⟨adr, hadr⟩ : ∃ x, (if cap = u then a else Option.map (fun x => x.add u) a) = x := ⟨_, rfl⟩
    have HT : Hid (Bytes w adr (cap - u) (s.1.drop u)) := by rw [← hadr]; exact HBY.out.tail u
    have HAP2 : Hid (∀ x : Addr, adr = some x → x.block ≠ R ∧ x.block < N) := fun x e => tail_apart (hadr.trans e) HAP.out
    have HCUT : Hid (∀ {w : World} {a : Option Addr} {cap : Nat}, Bytes w a cap s.1 → Bytes w a cap (s.1.take u)) := fun {w a cap} h => by
      have := h.cut 0 u hle
      rw [List.drop_zero, Nat.sub_zero, Nat.sub_zero] at this
      refine ⟨this.room, this.most, fun hne => ?_⟩
      obtain ⟨b, o, e, hc⟩ := h.lie (by intro e; rw [e] at hne; simp at hne)
      refine ⟨b, o, e, fun j hj => ?_⟩
      rw [List.length_take] at hj
      rw [hc j (by omega), List.getD_eq_getElem?_getD, List.getD_eq_getElem?_getD, List.getElem?_take_of_lt (by omega)]
    generalize hL : s.1.length = L at *
    have e0 : decide ((L : Int) < (u : Int)) = false := decide_eq_false (by omega)
    have e1 : (0 : Int) ≤ (u : Int) := by omega
    have e2 : (u : Int) ≤ (L : Int) := by omega
    have e3 : (u : Int) ≤ (cap : Int) := by omega
    go_enter Tryz.func71, Tryz.ntmps71
    go_wp2_with fail
    refine wp_scope_hops 0 ?_
    go_hide hQ
    go_upto_region 3 with fail
    refine wp_region_noPanic ?_
    refine wp_region_held_drew (S := fun _ => True) HMO.out (trivial) (fun hHeld => ?_)
    refine wpAnyH_take (i := 0) (oi := { dst := some 13, op := .move (.tmp 0), type := 82, pos := "wire.go:128", after := #[{ on := 13, ground := .gcOnly Go.Departure.lateStores }], guard := none }) (v := ?_) rfl (by kernel_rfl) (by kernel_rfl) (by kernel_rfl) (fun _ _ _ h => h) (Or.inl ⟨by rfl, ?_⟩) (by assumption) ?_
    rotate_left
    · intro _ _; go_simp; first | done | with_reducible rfl
    simp only [Act.put, List.setIfInBounds_toArray, List.set_cons_zero, List.set_cons_succ]
    refine wpAnyH_take (i := 1) (oi := { dst := some 14, op := .move (.tmp 0), type := 82, pos := "wire.go:128", after := #[], guard := none }) (v := ?_) rfl (by kernel_rfl) (by kernel_rfl) (by kernel_rfl) (fun _ _ _ h => h) (Or.inl ⟨by rfl, ?_⟩) (by assumption) ?_
    rotate_left
    · intro _ _; go_simp; first | done | with_reducible rfl
    simp only [Act.put, List.setIfInBounds_toArray, List.set_cons_zero, List.set_cons_succ]
    refine wpAnyH_take (i := 2) (oi := { dst := some 15, op := .nilCheck (.tmp 14), type := 0, pos := "wire.go:128", after := #[{ on := 1, ground := .data }], guard := none }) (v := ?_) rfl (by kernel_rfl) (by kernel_rfl) (by kernel_rfl) (fun _ _ _ h => h) (Or.inl ⟨by rfl, ?_⟩) (by assumption) ?_
    rotate_left
    · intro _ _; go_simp; first | done | with_reducible rfl
    simp only [Act.put, List.setIfInBounds_toArray, List.set_cons_zero, List.set_cons_succ]
    refine wpAnyH_take (i := 3) (oi := { dst := some 16, op := .fieldAddr 118 (.tmp 15) 0, type := 0, pos := "wire.go:128", after := #[{ on := 2, ground := .data }], guard := none }) (v := ?_) rfl (by kernel_rfl) (by kernel_rfl) (by kernel_rfl) (fun _ _ _ h => h) (Or.inl ⟨by rfl, ?_⟩) (by assumption) ?_
    rotate_left
    · intro _ _; go_simp; first | done | with_reducible rfl
    simp only [Act.put, List.setIfInBounds_toArray, List.set_cons_zero, List.set_cons_succ]
    refine wpAnyH_take (i := 5) (oi := { dst := some 18, op := .move (.tmp 1), type := 3, pos := "wire.go:128", after := #[], guard := none }) (v := ?_) rfl (by kernel_rfl) (by kernel_rfl) (by kernel_rfl) (fun _ _ _ h => h) (Or.inl ⟨by rfl, ?_⟩) (by assumption) ?_
    rotate_left
    · intro _ _; go_simp; first | done | with_reducible rfl
    simp only [Act.put, List.setIfInBounds_toArray, List.set_cons_zero, List.set_cons_succ]
    refine wpAnyH_take (i := 7) (oi := { dst := some 20, op := .move (.tmp 0), type := 82, pos := "wire.go:128", after := #[], guard := none }) (v := ?_) rfl (by kernel_rfl) (by kernel_rfl) (by kernel_rfl) (fun _ _ _ h => h) (Or.inl ⟨by rfl, ?_⟩) (by assumption) ?_
    rotate_left
    · intro _ _; go_simp; first | done | with_reducible rfl
    simp only [Act.put, List.setIfInBounds_toArray, List.set_cons_zero, List.set_cons_succ]
    refine wpAnyH_take (i := 8) (oi := { dst := some 21, op := .nilCheck (.tmp 20), type := 0, pos := "wire.go:128", after := #[{ on := 7, ground := .data }], guard := none }) (v := ?_) rfl (by kernel_rfl) (by kernel_rfl) (by kernel_rfl) (fun _ _ _ h => h) (Or.inl ⟨by rfl, ?_⟩) (by assumption) ?_
    rotate_left
    · intro _ _; go_simp; first | done | with_reducible rfl
    simp only [Act.put, List.setIfInBounds_toArray, List.set_cons_zero, List.set_cons_succ]
    refine wpAnyH_take (i := 9) (oi := { dst := some 22, op := .fieldAddr 118 (.tmp 21) 0, type := 0, pos := "wire.go:128", after := #[{ on := 8, ground := .data }], guard := none }) (v := ?_) rfl (by kernel_rfl) (by kernel_rfl) (by kernel_rfl) (fun _ _ _ h => h) (Or.inl ⟨by rfl, ?_⟩) (by assumption) ?_
    rotate_left
    · intro _ _; go_simp; first | done | with_reducible rfl
    simp only [Act.put, List.setIfInBounds_toArray, List.set_cons_zero, List.set_cons_succ]
    refine wpAnyH_take (i := 11) (oi := { dst := some 24, op := .move (.tmp 1), type := 3, pos := "wire.go:128", after := #[], guard := none }) (v := ?_) rfl (by kernel_rfl) (by kernel_rfl) (by kernel_rfl) (fun _ _ _ h => h) (Or.inl ⟨by rfl, ?_⟩) (by assumption) ?_
    rotate_left
    · intro _ _; go_simp; first | done | with_reducible rfl
    simp only [Act.put, List.setIfInBounds_toArray, List.set_cons_zero, List.set_cons_succ]
    refine wpAnyH_ready (rs := [4, 10]) (by kernel_rfl) (by simp) ?_
    refine (AllReadyH.cons (o := { dst := some 17, op := .load 29 (.tmp 16), type := 29, pos := "wire.go:128", after := #[{ on := 3, ground := .data }], guard := none }) rfl (fun K hK => ?_) (AllReadyH.cons (o := { dst := some 23, op := .load 29 (.tmp 22), type := 29, pos := "wire.go:128", after := #[{ on := 9, ground := .data }], guard := none }) rfl (fun K hK => ?_) AllReadyH.nil))
    · go_simp
      skip
      go_simp
      refine hK.out _ _ (trivial) (fun hHeld => ?_)
      clear hK K
      refine wpAnyH_take (i := 6) (oi := { dst := some 19, op := .slice 29 (.tmp 17) none (some (.tmp 18)) none, type := 29, pos := "wire.go:128", after := #[{ on := 4, ground := .data }, { on := 5, ground := .data }], guard := none }) (v := ?_) rfl (by kernel_rfl) (by kernel_rfl) (by kernel_rfl) (fun _ _ _ h => h) (Or.inl ⟨by rfl, ?_⟩) (by assumption) ?_
      rotate_left
      · intro _ _; go_simp; first | done | with_reducible rfl
      simp only [Act.put, List.setIfInBounds_toArray, List.set_cons_zero, List.set_cons_succ]
      refine wpAnyH_take (i := 13) (oi := { dst := some 5, op := .assign (.tmp 19), type := 29, pos := "wire.go:128", after := #[{ on := 6, ground := .data }, { on := 0, ground := .textOnly Go.Departure.lateStores }, { on := 1, ground := .phase }, { on := 2, ground := .phase }, { on := 3, ground := .phase }, { on := 4, ground := .phase }, { on := 5, ground := .phase }, { on := 6, ground := .phase }, { on := 7, ground := .textOnly Go.Departure.lateStores }, { on := 8, ground := .textOnly Go.Departure.lateStores }, { on := 9, ground := .textOnly Go.Departure.lateStores }, { on := 10, ground := .textOnly Go.Departure.lateStores }, { on := 11, ground := .textOnly Go.Departure.lateStores }, { on := 12, ground := .textOnly Go.Departure.lateStoresUnsure }], guard := none }) (v := ?_) rfl (by kernel_rfl) (by kernel_rfl) (by kernel_rfl) (fun _ _ _ h => h) (Or.inl ⟨by rfl, ?_⟩) (by assumption) ?_
      rotate_left
      · intro _ _; go_simp; first | done | with_reducible rfl
      simp only [Act.put, List.setIfInBounds_toArray, List.set_cons_zero, List.set_cons_succ]
      refine wpAnyH_ready (rs := [10]) (by kernel_rfl) (by simp) ?_
      refine AllReadyH.cons (o := { dst := some 23, op := .load 29 (.tmp 22), type := 29, pos := "wire.go:128", after := #[{ on := 9, ground := .data }], guard := none }) rfl (fun K hK => ?_) AllReadyH.nil
      go_simp
      skip
      go_simp
      refine hK.out _ _ (trivial) (fun hHeld => ?_)
      clear hK K
      refine wpAnyH_take (i := 12) (oi := { dst := some 25, op := .slice 29 (.tmp 23) (some (.tmp 24)) none none, type := 29, pos := "wire.go:128", after := #[{ on := 10, ground := .data }, { on := 11, ground := .data }], guard := none }) (v := ?_) rfl (by kernel_rfl) (by kernel_rfl) (by kernel_rfl) (fun _ _ _ h => h) (Or.inl ⟨by rfl, ?_⟩) (by assumption) ?_
      rotate_left
      · intro _ _; go_simp; first | done | with_reducible rfl
      simp only [Act.put, List.setIfInBounds_toArray, List.set_cons_zero, List.set_cons_succ]
      refine wpAnyH_take (i := 14) (oi := { dst := some 26, op := .nilCheck (.tmp 13), type := 0, pos := "wire.go:128", after := #[{ on := 0, ground := .data }, { on := 0, ground := .phase }, { on := 1, ground := .phase }, { on := 2, ground := .phase }, { on := 3, ground := .phase }, { on := 4, ground := .phase }, { on := 5, ground := .phase }, { on := 6, ground := .phase }, { on := 7, ground := .phase }, { on := 8, ground := .phase }, { on := 9, ground := .phase }, { on := 10, ground := .phase }, { on := 11, ground := .phase }, { on := 12, ground := .phase }, { on := 13, ground := .phase }], guard := none }) (v := ?_) rfl (by kernel_rfl) (by kernel_rfl) (by kernel_rfl) (fun _ _ _ h => h) (Or.inl ⟨by rfl, ?_⟩) (by assumption) ?_
      rotate_left
      · intro _ _; go_simp; first | done | with_reducible rfl
      simp only [Act.put, List.setIfInBounds_toArray, List.set_cons_zero, List.set_cons_succ]
      refine wpAnyH_take (i := 15) (oi := { dst := some 27, op := .fieldAddr 118 (.tmp 26) 0, type := 0, pos := "wire.go:128", after := #[{ on := 14, ground := .data }, { on := 0, ground := .phase }, { on := 1, ground := .phase }, { on := 2, ground := .phase }, { on := 3, ground := .phase }, { on := 4, ground := .phase }, { on := 5, ground := .phase }, { on := 6, ground := .phase }, { on := 7, ground := .phase }, { on := 8, ground := .phase }, { on := 9, ground := .phase }, { on := 10, ground := .phase }, { on := 11, ground := .phase }, { on := 12, ground := .phase }, { on := 13, ground := .phase }], guard := none }) (v := ?_) rfl (by kernel_rfl) (by kernel_rfl) (by kernel_rfl) (fun _ _ _ h => h) (Or.inl ⟨by rfl, ?_⟩) (by assumption) ?_
      rotate_left
      · intro _ _; go_simp; first | done | with_reducible rfl
      simp only [Act.put, List.setIfInBounds_toArray, List.set_cons_zero, List.set_cons_succ]
      refine wpAnyH_ready (rs := [16]) (by kernel_rfl) (by simp) ?_
      refine AllReadyH.cons (o := { dst := none, op := .store 29 (.tmp 27) (.tmp 25), type := 0, pos := "wire.go:128", after := #[{ on := 15, ground := .data }, { on := 12, ground := .data }, { on := 13, ground := .chain }, { on := 0, ground := .phase }, { on := 1, ground := .phase }, { on := 2, ground := .phase }, { on := 3, ground := .phase }, { on := 4, ground := .phase }, { on := 5, ground := .phase }, { on := 6, ground := .phase }, { on := 7, ground := .phase }, { on := 8, ground := .phase }, { on := 9, ground := .phase }, { on := 10, ground := .phase }, { on := 11, ground := .phase }, { on := 12, ground := .phase }, { on := 13, ground := .phase }], guard := none }) rfl (fun K hK => ?_) AllReadyH.nil
      go_simp
      skip
      go_simp
      refine hK.out _ _ (trivial) (fun hHeld => ?_)
      clear hK K
      refine wpAnyH_done (by kernel_rfl) ?_ _
      refine NoPanic.normal ?_
      go_wp2_with fail
      subst hQ
      rw [hops_ret]
      go_ret
      have h1 : Blk (w.setCell ⟨R, 0, none⟩ (.slice adr (L - u) (cap - u))) R [.slice adr (L - u) (cap - u), .bool s.2] := HB.out.set 0 _
      have hsz : (w.setCell ⟨R, 0, none⟩ (.slice adr (L - u) (cap - u))).heap.size = w.heap.size := by simp [World.setCell]
      refine ⟨a, cap, ret_slice (by rw [HRN.out]; exact HTL.out), ?_, HAP.out, ?_, ((Keep.refl _ _).setCell 0 _).drew⟩
      · rw [HRN.out]
        exact (HCUT.out HBY.out).kept fun b o e => Below.heap_setCell w _ _ b (HAP.out _ e).1
      · rw [HRN.out]
        refine ⟨Nat.le_trans H.out.base (Nat.le_of_eq hsz.symm), adr, cap - u, ?_, HT.out.kept fun b o e => Below.heap_setCell w _ _ b (HAP2.out _ e).1, HAP2.out⟩
        show Blk _ R [.slice adr (s.1.drop u).length (cap - u), .bool s.2]
        rw [← HDL.out]; exact h1
    · go_simp
      skip
      go_simp
      refine hK.out _ _ (trivial) (fun hHeld => ?_)
      clear hK K
      refine wpAnyH_take (i := 12) (oi := { dst := some 25, op := .slice 29 (.tmp 23) (some (.tmp 24)) none none, type := 29, pos := "wire.go:128", after := #[{ on := 10, ground := .data }, { on := 11, ground := .data }], guard := none }) (v := ?_) rfl (by kernel_rfl) (by kernel_rfl) (by kernel_rfl) (fun _ _ _ h => h) (Or.inl ⟨by rfl, ?_⟩) (by assumption) ?_
      rotate_left
      · intro _ _; go_simp; first | done | with_reducible rfl
      simp only [Act.put, List.setIfInBounds_toArray, List.set_cons_zero, List.set_cons_succ]
      refine wpAnyH_ready (rs := [4]) (by kernel_rfl) (by simp) ?_
      refine AllReadyH.cons (o := { dst := some 17, op := .load 29 (.tmp 16), type := 29, pos := "wire.go:128", after := #[{ on := 3, ground := .data }], guard := none }) rfl (fun K hK => ?_) AllReadyH.nil
      go_simp
      skip
      go_simp
      refine hK.out _ _ (trivial) (fun hHeld => ?_)
      clear hK K
      refine wpAnyH_take (i := 6) (oi := { dst := some 19, op := .slice 29 (.tmp 17) none (some (.tmp 18)) none, type := 29, pos := "wire.go:128", after := #[{ on := 4, ground := .data }, { on := 5, ground := .data }], guard := none }) (v := ?_) rfl (by kernel_rfl) (by kernel_rfl) (by kernel_rfl) (fun _ _ _ h => h) (Or.inl ⟨by rfl, ?_⟩) (by assumption) ?_
      rotate_left
      · intro _ _; go_simp; first | done | with_reducible rfl
      simp only [Act.put, List.setIfInBounds_toArray, List.set_cons_zero, List.set_cons_succ]
      refine wpAnyH_take (i := 13) (oi := { dst := some 5, op := .assign (.tmp 19), type := 29, pos := "wire.go:128", after := #[{ on := 6, ground := .data }, { on := 0, ground := .textOnly Go.Departure.lateStores }, { on := 1, ground := .phase }, { on := 2, ground := .phase }, { on := 3, ground := .phase }, { on := 4, ground := .phase }, { on := 5, ground := .phase }, { on := 6, ground := .phase }, { on := 7, ground := .textOnly Go.Departure.lateStores }, { on := 8, ground := .textOnly Go.Departure.lateStores }, { on := 9, ground := .textOnly Go.Departure.lateStores }, { on := 10, ground := .textOnly Go.Departure.lateStores }, { on := 11, ground := .textOnly Go.Departure.lateStores }, { on := 12, ground := .textOnly Go.Departure.lateStoresUnsure }], guard := none }) (v := ?_) rfl (by kernel_rfl) (by kernel_rfl) (by kernel_rfl) (fun _ _ _ h => h) (Or.inl ⟨by rfl, ?_⟩) (by assumption) ?_
      rotate_left
      · intro _ _; go_simp; first | done | with_reducible rfl
      simp only [Act.put, List.setIfInBounds_toArray, List.set_cons_zero, List.set_cons_succ]
      refine wpAnyH_take (i := 14) (oi := { dst := some 26, op := .nilCheck (.tmp 13), type := 0, pos := "wire.go:128", after := #[{ on := 0, ground := .data }, { on := 0, ground := .phase }, { on := 1, ground := .phase }, { on := 2, ground := .phase }, { on := 3, ground := .phase }, { on := 4, ground := .phase }, { on := 5, ground := .phase }, { on := 6, ground := .phase }, { on := 7, ground := .phase }, { on := 8, ground := .phase }, { on := 9, ground := .phase }, { on := 10, ground := .phase }, { on := 11, ground := .phase }, { on := 12, ground := .phase }, { on := 13, ground := .phase }], guard := none }) (v := ?_) rfl (by kernel_rfl) (by kernel_rfl) (by kernel_rfl) (fun _ _ _ h => h) (Or.inl ⟨by rfl, ?_⟩) (by assumption) ?_
      rotate_left
      · intro _ _; go_simp; first | done | with_reducible rfl
      simp only [Act.put, List.setIfInBounds_toArray, List.set_cons_zero, List.set_cons_succ]
      refine wpAnyH_take (i := 15) (oi := { dst := some 27, op := .fieldAddr 118 (.tmp 26) 0, type := 0, pos := "wire.go:128", after := #[{ on := 14, ground := .data }, { on := 0, ground := .phase }, { on := 1, ground := .phase }, { on := 2, ground := .phase }, { on := 3, ground := .phase }, { on := 4, ground := .phase }, { on := 5, ground := .phase }, { on := 6, ground := .phase }, { on := 7, ground := .phase }, { on := 8, ground := .phase }, { on := 9, ground := .phase }, { on := 10, ground := .phase }, { on := 11, ground := .phase }, { on := 12, ground := .phase }, { on := 13, ground := .phase }], guard := none }) (v := ?_) rfl (by kernel_rfl) (by kernel_rfl) (by kernel_rfl) (fun _ _ _ h => h) (Or.inl ⟨by rfl, ?_⟩) (by assumption) ?_
      rotate_left
      · intro _ _; go_simp; first | done | with_reducible rfl
      simp only [Act.put, List.setIfInBounds_toArray, List.set_cons_zero, List.set_cons_succ]
      refine wpAnyH_ready (rs := [16]) (by kernel_rfl) (by simp) ?_
      refine AllReadyH.cons (o := { dst := none, op := .store 29 (.tmp 27) (.tmp 25), type := 0, pos := "wire.go:128", after := #[{ on := 15, ground := .data }, { on := 12, ground := .data }, { on := 13, ground := .chain }, { on := 0, ground := .phase }, { on := 1, ground := .phase }, { on := 2, ground := .phase }, { on := 3, ground := .phase }, { on := 4, ground := .phase }, { on := 5, ground := .phase }, { on := 6, ground := .phase }, { on := 7, ground := .phase }, { on := 8, ground := .phase }, { on := 9, ground := .phase }, { on := 10, ground := .phase }, { on := 11, ground := .phase }, { on := 12, ground := .phase }, { on := 13, ground := .phase }], guard := none }) rfl (fun K hK => ?_) AllReadyH.nil
      go_simp
      skip
      go_simp
      refine hK.out _ _ (trivial) (fun hHeld => ?_)
      clear hK K
      refine wpAnyH_done (by kernel_rfl) ?_ _
      refine NoPanic.normal ?_
      go_wp2_with fail
      subst hQ
      rw [hops_ret]
      go_ret
      have h1 : Blk (w.setCell ⟨R, 0, none⟩ (.slice adr (L - u) (cap - u))) R [.slice adr (L - u) (cap - u), .bool s.2] := HB.out.set 0 _
      have hsz : (w.setCell ⟨R, 0, none⟩ (.slice adr (L - u) (cap - u))).heap.size = w.heap.size := by simp [World.setCell]
      refine ⟨a, cap, ret_slice (by rw [HRN.out]; exact HTL.out), ?_, HAP.out, ?_, ((Keep.refl _ _).setCell 0 _).drew⟩
      · rw [HRN.out]
        exact (HCUT.out HBY.out).kept fun b o e => Below.heap_setCell w _ _ b (HAP.out _ e).1
      · rw [HRN.out]
        refine ⟨Nat.le_trans H.out.base (Nat.le_of_eq hsz.symm), adr, cap - u, ?_, HT.out.kept fun b o e => Below.heap_setCell w _ _ b (HAP2.out _ e).1, HAP2.out⟩
        show Blk _ R [.slice adr (s.1.drop u).length (cap - u), .bool s.2]
        rw [← HDL.out]; exact h1
  · have HRN : Hid (rT s (u : Int) = ([], ([], true))) := by
      show _ = _
      unfold rT; rw [if_neg (by omega)]
    generalize hL : s.1.length = L at *
    have e0 : decide ((L : Int) < (u : Int)) = true := decide_eq_true (by omega)
    go_enter Tryz.func71, Tryz.ntmps71
    go_wp2_with fail
    refine wp_scope_hops 1 ?_
    go_hide hQ
    go_wp2_with fail
    go_step3
    simp only [Exit.then]
    subst hQ
    rw [hops_goto]
    refine ⟨_, rfl, ?_⟩
    go_hide hQ
    go_wp2_with fail
    refine (fail_any R N s w H.out).mono ?_
    rintro e w2 ⟨rfl, hR2, hK2⟩
    go_wp2_with fail
    subst hQ
    rw [hops_ret]
    go_ret
    rw [HRN.out]
    exact ⟨none, 0, rfl, zero_bytes _, (fun x e => by cases e), hR2, hK2⟩
end Go.Proofs.YtlaifphedhaemaaGreatDoor
