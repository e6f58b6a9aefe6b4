/- block.above, block.top, block.Root. -/
import Derived.Test.YtlaifphedhaemaaGreatDoorCBkB
import Derived.Test.YtlaifphedhaemaaGreatDoorZX3
namespace Go.Proofs.YtlaifphedhaemaaGreatDoor
open Go.ChangeShapes Go.WideShapes Go.ChangeAt Go.RowKit

theorem elH : ElT H32 Tryz.prog 101 23 32 := ⟨Tryz.underlying101, Tryz.infoH, by omega, by decide, by decide⟩
theorem wpList_build_one {α : Type} [El α] {P : Program} {S T : TypeId} {by_ : Nat} {ops : Array Oper} {rest : List Oper} {o : Oper} {ac : Act} {w : World} {Q : Exit → Act → World → Prop} (H : ElT α P S T by_) (hgd : o.guard = none) (y : Operand) (ho : o.op = .buildSlice S 1 #[(0, y)]) (x : α) (hy : ac.eval y = .agg (El.cs x).toArray)
    (hK : ∀ w', Hid (Els w' (some ⟨w.heap.size, 0, none⟩) 1 1 [x]) → Hid (Below w.heap.size w w') → wpList P ops Q rest (ac.put o.dst (.slice (some ⟨w.heap.size, 0, none⟩) 1 1)) w') : wpList P ops Q (o :: rest) ac w :=
  wpList_step fun _ hK' => step_build_one H hgd y ho x hy (fun w' h1 h2 => hK' _ _ (hK w' h1 h2))
/-- The pair at place j of the next level. -/
def lvH (l : List H32) (j : Nat) : H32 := pairH (l.getD (2 * j) default) (l.getD (min (2 * j + 1) (l.length - 1)) default)
def upH (l : List H32) : List H32 := (List.range ((l.length + 1) / 2)).map (lvH l)
theorem upH_length (l : List H32) : (upH l).length = (l.length + 1) / 2 := by simp [upH]
theorem upH_take (l : List H32) (j : Nat) (h : j < (l.length + 1) / 2) : (upH l).take (j + 1) = (upH l).take j ++ [lvH l j] := by
  rw [List.take_add_one]
  congr 1
  simp [upH, h]
/-- The top of a level. -/
def topH (l : List H32) : H32 := if l.length ≤ 1 then l.getD 0 default else topH (upH l)
  termination_by l.length
  decreasing_by rw [upH_length]; omega

set_option maxRecDepth 100000 in
set_option maxHeartbeats 4000000 in
theorem above_any (a : Option Addr) (n cap : Nat) (l : List H32) (w : World) (hp : Els w a n cap l) (hK : Kw w) (hn : n ≤ 100000) :
    Calls Tryz.prog 85 #[.slice a n cap] w fun e w' => ∃ v, e = .returned v ∧ OwnE 23 w' w.heap.size v (upH l) ∧ Below w.heap.size w w' := by
  have HMO : Hid (Tryz.prog.follows .mixedOrders = true) := show _ = _ by kernel_rfl
  have HP : Hid (Els w a n cap l) := hp
  have HK : Hid (Kw w) := hK
  have HLN : Hid (l.length = n) := hp.len
  have hpos := hK.pos
  clear hp hK
  go_enter Tryz.func85, Tryz.ntmps85
  generalize hN : w.heap.size = N at *
  go_wp2_with fail
  go_loopw [3, 4] (fun v i wr => ∃ (k j : Nat), k ≤ n + 1 ∧ Hid (k = 2 * j) ∧ i = .int .i64 k ∧ Hid (OwnE 23 wr N v ((upH l).take j)) ∧ Hid (Below N w wr)) (fun _ i _ => n + 2 - (intOf i).toNat)
  case atStart => exact ⟨0, 0, by omega, rfl, rfl, OwnE.nil _ _, Below.refl _ _⟩
  case round =>
    obtain ⟨k, j, hj, HJ, rfl, HO, HB⟩ := hrel
    obtain ⟨va, vn, vc, rfl⟩ := HO.out.any
    by_cases hlt : k < n
    · have e0 : (0 : Int) ≤ (k : Int) := by omega
      have e1 : (k : Int) < (n : Int) := by omega
      obtain ⟨m, hm⟩ : ∃ m, m = min (k + 1) (n - 1) := ⟨_, rfl⟩
      have hmn : m < n := by omega
      have HE : Hid (Els wr a n cap l) := HP.out.below (hN ▸ HB.out)
      obtain ⟨b, o, rfl, hc⟩ := HE.out.at k hlt
      obtain ⟨b', o', e, hc'⟩ := HE.out.at m hmn
      injection e with e
      injection e with e2 e3
      subst e2; subst e3
      obtain ⟨b', o', e, hd⟩ := HP.out.at k hlt
      injection e with e
      injection e with e2 e3
      subst e2; subst e3
      obtain ⟨b', o', e, hd'⟩ := HP.out.at m hmn
      injection e with e
      injection e with e2 e3
      subst e2; subst e3
      obtain ⟨x, hx⟩ : ∃ x, x = l.getD k default := ⟨_, rfl⟩
      obtain ⟨y, hy⟩ : ∃ y, y = l.getD m default := ⟨_, rfl⟩
      change wr.rangeAt b (o + k * 32) (H32.cs (l.getD k default)) at hc
      change wr.rangeAt b (o + m * 32) (H32.cs (l.getD m default)) at hc'
      change w.rangeAt b (o + k * 32) (H32.cs (l.getD k default)) at hd
      change w.rangeAt b (o + m * 32) (H32.cs (l.getD m default)) at hd'
      rw [← hx] at hc hd
      rw [← hy] at hc' hd'
      have HCW : Hid (w.rangeAt b (o + k * 32) x.cs ∧ w.rangeAt b (o + m * 32) y.cs) := ⟨hd, hd'⟩
      clear hd hd'
      have HC : Hid (wr.drew.rangeAt b (o + k * 32) x.cs) := hc
      have HC' : Hid (wr.drew.rangeAt b (o + m * 32) y.cs) := hc'
      have HPR : Hid (pairH x y = lvH l j) := show _ = _ by unfold lvH; rw [hx, hy, HLN.out, ← HJ.out, ← hm]
      have HLT : Hid (((upH l).take j).length = j) := show _ = _ by rw [List.length_take, upH_length, HLN.out]; have := HJ.out; omega
      have HLU : Hid ((upH l).take (j + 1) = (upH l).take j ++ [lvH l j]) := upH_take l j (by rw [HLN.out]; have := HJ.out; omega)
      have HM : Hid (m = min (k + 1) (n - 1)) := hm
      have HOD : Hid (OwnE 23 wr.drew N (.slice va vn vc) ((upH l).take j)) := HO.out.below (Below.refl _ _).drew
      have HBD : Hid (Below N w wr.drew) := HB.out.drew
      clear hc hc' hx hy hm HO HB HE
      have HPAIR : Hid (Calls Tryz.prog 114 #[.agg x.cs.toArray, .agg y.cs.toArray] wr.drew fun e w'' => e = .returned (.agg (pairH x y).cs.toArray) ∧ Below wr.drew.heap.size wr.drew w'') := pair_any x y wr.drew (HK.out.below HBD.out hpos)
      have hNr : N ≤ wr.heap.size := by have := HBD.out.size; rw [hN] at this; exact this
      go_upto_region 5 with fail
      refine wp_region_noPanic ?_
      refine wp_region_held_drew (S := fun w' => w'.rangeAt b (o + k * 32) x.cs ∧ w'.rangeAt b (o + m * 32) y.cs) HMO.out (⟨HC.out, HC'.out⟩) (fun hHeld => ?_)
      refine wpAnyH_take (i := 0) (oi := { dst := some 11, op := .move (.tmp 3), type := 101, pos := "block.go:139", after := #[], guard := none }) (v := ?_) rfl (by kernel_rfl) (by kernel_rfl) (by kernel_rfl) (fun _ _ _ h => h) (Or.inl ⟨by rfl, ?_⟩) (by assumption) ?_
      rotate_left
      · intro _ _; go_simp; first | done | with_reducible rfl
      simp only [Act.put, List.setIfInBounds_toArray, List.set_cons_zero, List.set_cons_succ]
      refine wpAnyH_take (i := 1) (oi := { dst := some 12, op := .move (.tmp 0), type := 101, pos := "block.go:139", after := #[], guard := none }) (v := ?_) rfl (by kernel_rfl) (by kernel_rfl) (by kernel_rfl) (fun _ _ _ h => h) (Or.inl ⟨by rfl, ?_⟩) (by assumption) ?_
      rotate_left
      · intro _ _; go_simp; first | done | with_reducible rfl
      simp only [Act.put, List.setIfInBounds_toArray, List.set_cons_zero, List.set_cons_succ]
      refine wpAnyH_take (i := 2) (oi := { dst := some 13, op := .move (.tmp 4), type := 3, pos := "block.go:139", after := #[], guard := none }) (v := ?_) rfl (by kernel_rfl) (by kernel_rfl) (by kernel_rfl) (fun _ _ _ h => h) (Or.inl ⟨by rfl, ?_⟩) (by assumption) ?_
      rotate_left
      · intro _ _; go_simp; first | done | with_reducible rfl
      simp only [Act.put, List.setIfInBounds_toArray, List.set_cons_zero, List.set_cons_succ]
      refine wpAnyH_take (i := 3) (oi := { dst := some 14, op := .indexAddr 101 (.tmp 12) (.tmp 13), type := 0, pos := "block.go:139", after := #[{ on := 1, ground := .data }, { on := 2, ground := .data }], guard := none }) (v := ?_) rfl (by kernel_rfl) (by kernel_rfl) (by kernel_rfl) (fun _ _ _ h => h) (Or.inl ⟨by rfl, ?_⟩) (by assumption) ?_
      rotate_left
      · intro _ _; go_simp; first | done | with_reducible rfl
      simp only [Act.put, List.setIfInBounds_toArray, List.set_cons_zero, List.set_cons_succ]
      refine wpAnyH_take (i := 4) (oi := { dst := some 15, op := .load 23 (.tmp 14), type := 23, pos := "block.go:139", after := #[{ on := 3, ground := .data }], guard := none }) (v := _) rfl (by kernel_rfl) (by kernel_rfl) (by kernel_rfl) (fun _ _ _ h => h) (yieldsIf_load_mid (by rfl) _ _ rfl (b) (o + k * 32) rfl (x.cs) _ (fun _ h => h.1) (Tryz.underlying23) rfl (sizeH x)) (by assumption) ?_
      simp only [Act.put, List.setIfInBounds_toArray, List.set_cons_zero, List.set_cons_succ]
      refine wpAnyH_take (i := 5) (oi := { dst := some 16, op := .move (.tmp 0), type := 101, pos := "block.go:139", after := #[], guard := none }) (v := ?_) rfl (by kernel_rfl) (by kernel_rfl) (by kernel_rfl) (fun _ _ _ h => h) (Or.inl ⟨by rfl, ?_⟩) (by assumption) ?_
      rotate_left
      · intro _ _; go_simp; first | done | with_reducible rfl
      simp only [Act.put, List.setIfInBounds_toArray, List.set_cons_zero, List.set_cons_succ]
      refine wpAnyH_take (i := 6) (oi := { dst := some 17, op := .move (.tmp 4), type := 3, pos := "block.go:139", after := #[], guard := none }) (v := ?_) rfl (by kernel_rfl) (by kernel_rfl) (by kernel_rfl) (fun _ _ _ h => h) (Or.inl ⟨by rfl, ?_⟩) (by assumption) ?_
      rotate_left
      · intro _ _; go_simp; first | done | with_reducible rfl
      simp only [Act.put, List.setIfInBounds_toArray, List.set_cons_zero, List.set_cons_succ]
      refine wpAnyH_take (i := 7) (oi := { dst := some 18, op := .binOp Go.BinOp.add 3 (.tmp 17) (.const (.int .i64 1)) 3, type := 3, pos := "block.go:139", after := #[{ on := 6, ground := .data }], guard := none }) (v := ?_) rfl (by kernel_rfl) (by kernel_rfl) (by kernel_rfl) (fun _ _ _ h => h) (Or.inl ⟨by rfl, ?_⟩) (by assumption) ?_
      rotate_left
      · intro _ _; go_simp; first | done | with_reducible rfl
      simp only [Act.put, List.setIfInBounds_toArray, List.set_cons_zero, List.set_cons_succ]
      refine wpAnyH_take (i := 8) (oi := { dst := some 19, op := .move (.tmp 0), type := 101, pos := "block.go:139", after := #[], guard := none }) (v := ?_) rfl (by kernel_rfl) (by kernel_rfl) (by kernel_rfl) (fun _ _ _ h => h) (Or.inl ⟨by rfl, ?_⟩) (by assumption) ?_
      rotate_left
      · intro _ _; go_simp; first | done | with_reducible rfl
      simp only [Act.put, List.setIfInBounds_toArray, List.set_cons_zero, List.set_cons_succ]
      refine wpAnyH_take (i := 9) (oi := { dst := some 20, op := .call { callee := .builtin Go.Builtin.len, args := #[.tmp 19], argTypes := #[101] }, type := 3, pos := "block.go:139", after := #[{ on := 8, ground := .data }], guard := none }) (v := ?_) rfl (by kernel_rfl) (by kernel_rfl) (by kernel_rfl) (fun _ _ _ h => h) (Or.inl ⟨by rfl, ?_⟩) (by assumption) ?_
      rotate_left
      · intro _ _; go_simp; first | done | with_reducible rfl
      simp only [Act.put, List.setIfInBounds_toArray, List.set_cons_zero, List.set_cons_succ]
      refine wpAnyH_take (i := 10) (oi := { dst := some 21, op := .binOp Go.BinOp.sub 3 (.tmp 20) (.const (.int .i64 1)) 3, type := 3, pos := "block.go:139", after := #[{ on := 9, ground := .data }], guard := none }) (v := ?_) rfl (by kernel_rfl) (by kernel_rfl) (by kernel_rfl) (fun _ _ _ h => h) (Or.inl ⟨by rfl, ?_⟩) (by assumption) ?_
      rotate_left
      · intro _ _; go_simp; first | done | with_reducible rfl
      simp only [Act.put, List.setIfInBounds_toArray, List.set_cons_zero, List.set_cons_succ]
      refine wpAnyH_take (i := 11) (oi := { dst := some 22, op := .call { callee := .builtin Go.Builtin.min, args := #[.tmp 18, .tmp 21], argTypes := #[3, 3] }, type := 3, pos := "block.go:139", after := #[{ on := 7, ground := .data }, { on := 10, ground := .data }], guard := none }) (v := .int .i64 (m : Int)) rfl (by kernel_rfl) (by kernel_rfl) (by kernel_rfl) (fun _ _ _ h => h) (Or.inl ⟨by rfl, ?_⟩) (by assumption) ?_
      · intro _ _; go_simp; rw [i64_fit (by omega) (by omega), i64_fit (by omega) (by omega), HM.out]; omega
      simp only [Act.put, List.setIfInBounds_toArray, List.set_cons_zero, List.set_cons_succ]
      refine wpAnyH_take (i := 12) (oi := { dst := some 23, op := .indexAddr 101 (.tmp 16) (.tmp 22), type := 0, pos := "block.go:139", after := #[{ on := 5, ground := .data }, { on := 11, ground := .data }], guard := none }) (v := .pointer (some ⟨b, o + m * 32, none⟩)) rfl (by kernel_rfl) (by kernel_rfl) (by kernel_rfl) (fun _ _ _ h => h) (Or.inl ⟨by rfl, ?_⟩) (by assumption) ?_
      · intro _ _; go_simp
      simp only [Act.put, List.setIfInBounds_toArray, List.set_cons_zero, List.set_cons_succ]
      refine wpAnyH_take (i := 13) (oi := { dst := some 24, op := .load 23 (.tmp 23), type := 23, pos := "block.go:139", after := #[{ on := 12, ground := .data }], guard := none }) (v := _) rfl (by kernel_rfl) (by kernel_rfl) (by kernel_rfl) (fun _ _ _ h => h) (yieldsIf_load_mid (by rfl) _ _ rfl (b) (o + m * 32) rfl (y.cs) _ (fun _ h => h.2) (Tryz.underlying23) rfl (sizeH y)) (by assumption) ?_
      simp only [Act.put, List.setIfInBounds_toArray, List.set_cons_zero, List.set_cons_succ]
      refine wpAnyH_ready (rs := [14]) (by kernel_rfl) (by simp) ?_
      refine AllReadyH.cons (o := { dst := some 25, op := .call { callee := .value (.func 114), args := #[.tmp 15, .tmp 24], argTypes := #[23, 23] }, type := 23, pos := "block.go:139", after := #[{ on := 4, ground := .data }, { on := 13, ground := .data }], guard := none }) rfl (fun K hK => ?_) AllReadyH.nil
      go_simp
      refine Calls.mono (HPAIR.out) ?_; rintro e w2 ⟨rfl, hb2⟩; have HO2 : Hid (OwnE 23 w2 N (.slice va vn vc) ((upH l).take j)) := HOD.out.below hb2; have HB2 : Hid (Below N w w2) := HBD.out.trans (hb2.mono (by show N ≤ wr.heap.size; omega)); have hs2 := HB2.out.size; have HS2 : Hid (w2.rangeAt b (o + k * 32) x.cs ∧ w2.rangeAt b (o + m * 32) y.cs) := ⟨rangeAt_below HC.out hb2 (Nat.le_refl _), rangeAt_below HC'.out hb2 (Nat.le_refl _)⟩; clear hb2
      go_simp
      refine hK.out _ _ (HS2.out) (fun hHeld => ?_)
      clear hK K
      refine wpAnyH_ready (rs := [15]) (by kernel_rfl) (by simp) ?_
      refine AllReadyH.cons (o := { dst := some 26, op := .buildSlice 101 1 #[(0, .tmp 25)], type := 101, pos := "block.go:139", after := #[{ on := 14, ground := .data }], guard := none }) rfl (fun K hK => ?_) AllReadyH.nil
      refine step_build_one elH rfl _ rfl (pairH x y) rfl ?_; intro w3 HE3 Hb3; have HO3 : Hid (OwnE 23 w3 N (.slice va vn vc) ((upH l).take j)) := HO2.out.below Hb3.out; have hs3 := Hb3.out.size; have HB3 : Hid (Below N w w3) := HB2.out.trans (Hb3.out.mono (by omega)); have HS3 : Hid (w3.rangeAt b (o + k * 32) x.cs ∧ w3.rangeAt b (o + m * 32) y.cs) := ⟨rangeAt_below HS2.out.1 Hb3.out (Nat.le_refl _), rangeAt_below HS2.out.2 Hb3.out (Nat.le_refl _)⟩
      simp only [Act.put, List.setIfInBounds_toArray, List.set_cons_zero, List.set_cons_succ]
      refine hK.out _ _ (HS3.out) (fun hHeld => ?_)
      clear hK K
      refine wpAnyH_ready (rs := [16]) (by kernel_rfl) (by simp) ?_
      refine AllReadyH.cons (o := { dst := some 27, op := .call { callee := .builtin Go.Builtin.append, args := #[.tmp 11, .tmp 26], argTypes := #[101, 101] }, type := 101, pos := "block.go:139", after := #[{ on := 0, ground := .data }, { on := 15, ground := .data }, { on := 14, ground := .chain }], guard := none }) rfl (fun K hK => ?_) AllReadyH.nil
      refine step_append_e elH rfl _ _ rfl N (.slice va vn vc) ((upH l).take j) rfl HO3.out _ 1 1 [pairH x y] rfl HE3.out (by rw [HLT.out]; have := HJ.out; omega) (by omega) ?_; intro v4 w4 HO4 HG4 HM4; have HB4 : Hid (Below N w w4) := HB3.out.grown HG4.out (by omega) (fun q hq => (HO3.out.lt q hq).1); have HS4 : Hid (w4.rangeAt b (o + k * 32) x.cs ∧ w4.rangeAt b (o + m * 32) y.cs) := ⟨rangeAt_below HCW.out.1 HB4.out (Nat.le_of_eq hN), rangeAt_below HCW.out.2 HB4.out (Nat.le_of_eq hN)⟩; obtain ⟨a4, n4, c4, rfl⟩ := HO4.out.any
      simp only [Act.put, List.setIfInBounds_toArray, List.set_cons_zero, List.set_cons_succ]
      refine hK.out _ _ (HS4.out) (fun hHeld => ?_)
      clear hK K
      refine wpAnyH_take (i := 17) (oi := { dst := some 3, op := .assign (.tmp 27), type := 101, pos := "block.go:139", after := #[{ on := 16, ground := .data }, { on := 16, ground := .chain }, { on := 0, ground := .phase }, { on := 1, ground := .phase }, { on := 2, ground := .phase }, { on := 3, ground := .phase }, { on := 4, ground := .phase }, { on := 5, ground := .phase }, { on := 6, ground := .phase }, { on := 7, ground := .phase }, { on := 8, ground := .phase }, { on := 9, ground := .phase }, { on := 10, ground := .phase }, { on := 11, ground := .phase }, { on := 12, ground := .phase }, { on := 13, ground := .phase }, { on := 14, ground := .phase }, { on := 15, ground := .phase }, { on := 16, ground := .phase }], guard := none }) (v := ?_) rfl (by kernel_rfl) (by kernel_rfl) (by kernel_rfl) (fun _ _ _ h => h) (Or.inl ⟨by rfl, ?_⟩) (by assumption) ?_
      rotate_left
      · intro _ _; go_simp; first | done | with_reducible rfl
      simp only [Act.put, List.setIfInBounds_toArray, List.set_cons_zero, List.set_cons_succ]
      refine wpAnyH_done (by kernel_rfl) ?_ _
      refine NoPanic.normal ?_
      clear hHeld HS4 HM4 HG4 HO3 HB3 HS3 HE3 Hb3 HO2 HB2 HS2
      go_wp2_with fail
      go_roundw
      case rel => exact ⟨k + 2, j + 1, by omega, show _ = _ by rw [HJ.out]; omega, by go_num, by rw [HLU.out, ← HPR.out]; exact HO4.out, HB4.out⟩
      case measure => simp [intOf]; omega
    · have HE : Hid ((upH l).take j = upH l) := show _ = _ by
        rw [List.take_of_length_le]; rw [upH_length, HLN.out]; have := HJ.out; omega
      go_wp2_with fail
      go_ret
      subst hN
      exact ⟨_, rfl, HE.out ▸ HO.out, HB.out⟩

theorem topH_one (l : List H32) (h : l.length ≤ 1) : topH l = l.getD 0 default := by rw [topH, if_pos h]
theorem topH_up (l : List H32) (h : 1 < l.length) : topH l = topH (upH l) := by rw [topH, if_neg (by omega)]
def topJ (l : List H32) (w : World) (N : Nat) (a : Act) (wr : World) : Prop :=
  ∃ (la : Option Addr) (n c : Nat) (M : List H32), ∃ u : Nat → Value, a = ({ tmps := #[.slice la n c, u 1, .pointer (some ⟨N, 0, none⟩), u 3, u 4, u 5, u 6, u 7, u 8, u 9, u 10, u 11, u 12, u 13, u 14], defers := [] } : Act) ∧ 1 ≤ n ∧ n ≤ 100000 ∧ topH l = topH M ∧ Els wr la n c M ∧ Blk wr N (u8s zeros32) ∧ Below N w wr
theorem topJ_mk (l : List H32) (w : World) (N : Nat) {wr : World} (la : Option Addr) (n c : Nat) (M : List H32) {u1 u3 u4 u5 u6 u7 u8 u9 u10 u11 u12 u13 u14 : Value} (h : 1 ≤ n ∧ n ≤ 100000 ∧ topH l = topH M ∧ Els wr la n c M ∧ Blk wr N (u8s zeros32) ∧ Below N w wr) : topJ l w N ({ tmps := #[.slice la n c, u1, .pointer (some ⟨N, 0, none⟩), u3, u4, u5, u6, u7, u8, u9, u10, u11, u12, u13, u14], defers := [] } : Act) wr :=
  ⟨la, n, c, M, fun n => (#[undef, u1, undef, u3, u4, u5, u6, u7, u8, u9, u10, u11, u12, u13, u14] : Array Value).getD n undef, rfl, h⟩

def sliceLen : Value → Nat
  | .slice _ n _ => n
  | _ => 0
set_option maxRecDepth 100000 in
set_option maxHeartbeats 4000000 in
theorem top_any (a : Option Addr) (n cap : Nat) (l : List H32) (w : World) (hp : Els w a n cap l) (hK : Kw w) (hn : n ≤ 100000) :
    Calls Tryz.prog 56 #[.slice a n cap] w fun e w' => e = .returned (topH l).val ∧ Below w.heap.size w w' := by
  have HP : Hid (Els w a n cap l) := hp
  have HK : Hid (Kw w) := hK
  have HLN : Hid (l.length = n) := hp.len
  have hpos := hK.pos
  clear hp hK
  go_enter Tryz.func56, Tryz.ntmps56
  go_upto_region 1 with fail
  generalize hw1 : World.alloc w _ = w1
  have HZ : Hid (Blk w1 w.heap.size (u8s zeros32)) := by rw [← hw1]; exact Blk.mk _ _ _ rfl rfl
  have HB : Hid (Below w.heap.size w w1) := by rw [← hw1]; exact (Below.refl _ _).alloc (Nat.le_refl _) _
  clear hw1
  by_cases h0 : n = 0
  · subst h0
    have HE : Hid (topH l = default) := show _ = _ by
      rw [topH_one l (by rw [HLN.out]; omega), List.eq_nil_of_length_eq_zero HLN.out]; rfl
    obtain ⟨t, ht⟩ := HZ.out
    have HT : Hid (w1.heap[w.heap.size]? = some (.cells (u8s zeros32).toArray t (0, 0))) := ht
    have I28 : Hid (_ = _) := sizeHa (default : H32)
    clear ht
    refine wp_scope_hops 1 ?_
    go_hide hQ
    go_wp2_with fail
    go_step3
    subst hQ
    refine show hops _ _ _ 1 (Exit.goto 0) _ _ from ?_
    rw [hops_goto]
    refine ⟨_, rfl, ?_⟩
    go_hide hQ
    go_wp2_with (refine wpList_store_row rfl 23 _ _ rfl w.heap.size (default : H32).cs.toArray rfl rfl t (u8s zeros32).toArray HT.out I28.out rfl (default : H32).cs_all ?_)
    subst hQ
    rw [hops_ret]
    refine bodyPost_ret (v := .agg (default : H32).cs.toArray) ?_ rfl ⟨by rw [HE.out]; rfl, ?_⟩
    · obtain ⟨t', hb⟩ := Blk.row (ds := (default : H32).cs) ⟨t, HT.out⟩
      exact results_cell_row Tryz.results56 _ _ w.heap.size t' _ _ _ rfl hb Tryz.underlying23 rfl I28.out
    · exact below_setRow HB.out (Nat.le_refl _) _
  · refine wp_scope_rounds 1 (topJ l w w.heap.size) (fun a _ => sliceLen (a.tmps.getD 0 undef)) rfl ?pass ?first
    case first =>
      intro hpass
      have HPS : Hid _ := hpass
      clear hpass
      go_hide hQ
      go_wp2_with fail
      go_step3
      simp only [Exit.then]
      rename_i K hK
      refine hK _ _ ?_
      subst hQ
      exact HPS.out _ _ (topJ_mk l w _ a n cap l ⟨by omega, hn, rfl, HP.out.below HB.out, HZ.out, HB.out⟩)
    case pass =>
      intro a' wr hJ
      obtain ⟨a2, n2, c2, M, u, rfl, hn1, hn2, htop, hEls, hZ, hbel⟩ := hJ
      have HTOP : Hid (topH l = topH M) := htop
      have HEL : Hid (Els wr a2 n2 c2 M) := hEls
      have HZR : Hid (Blk wr w.heap.size (u8s zeros32)) := hZ
      have HBR : Hid (Below w.heap.size w wr) := hbel
      have HLM : Hid (M.length = n2) := hEls.len
      clear htop hEls hZ hbel HP HZ HB h0 HLN
      go_hide hQ
      by_cases hlt : 1 < n2
      · have HZL := HZR.out.lt
        have HAB : Hid (Calls Tryz.prog 85 #[.slice a2 n2 c2] wr fun e w' => ∃ v, e = .returned v ∧ OwnE 23 w' wr.heap.size v (upH M) ∧ Below wr.heap.size wr w') := above_any a2 n2 c2 M wr HEL.out (HK.out.below HBR.out hpos) hn2
        go_wp2_with fail
        refine Calls.mono HAB.out ?_
        rintro e w2 ⟨v, rfl, ho2, hb2⟩
        obtain ⟨a3, c3, rfl, he3⟩ := ho2.els
        have HE3 : Hid (Els w2 a3 (upH M).length c3 (upH M)) := he3
        have HB2 : Hid (Below wr.heap.size wr w2) := hb2
        clear ho2 he3 hb2
        obtain ⟨n3, hn3⟩ : ∃ n3, n3 = (upH M).length := ⟨_, rfl⟩
        rw [← hn3]
        have HN3 : Hid (n3 = (n2 + 1) / 2) := show _ = _ by rw [hn3, upH_length, HLM.out]
        have HE4 : Hid (Els w2 a3 n3 c3 (upH M)) := by rw [hn3]; exact HE3.out
        clear hn3 HE3
        go_wp2_with fail
        go_step3
        simp only [Exit.then]
        subst hQ
        have hn3' := HN3.out
        refine ⟨rfl, topJ_mk l w _ a3 n3 c3 (upH M) ⟨by omega, by omega, by rw [HTOP.out, topH_up M (by rw [HLM.out]; exact hlt)], HE4.out, HZR.out.below HB2.out HZL, HBR.out.trans (HB2.out.mono HBR.out.size)⟩, ?_⟩
        simp [sliceLen]; omega
      · obtain rfl : n2 = 1 := by omega
        obtain ⟨b, o, rfl, hc⟩ := HEL.out.at 0 (by omega)
        obtain ⟨x, hx⟩ : ∃ x, x = M.getD 0 default := ⟨_, rfl⟩
        change wr.rangeAt b (o + 0 * 32) (H32.cs (M.getD 0 default)) at hc
        rw [← hx, Nat.zero_mul, Nat.add_zero] at hc
        have HC : Hid (wr.rangeAt b o x.cs) := hc
        have HE : Hid (topH l = x) := show _ = _ by rw [HTOP.out, topH_one M (by rw [HLM.out]; omega), hx]
        clear hc hx
        obtain ⟨t, ht⟩ := HZR.out
        have HT : Hid (wr.heap[w.heap.size]? = some (.cells (u8s zeros32).toArray t (0, 0))) := ht
        have I28 : Hid (_ = _) := sizeHa x
        have HS28 : Hid ((u8s zeros32).toArray.size = x.cs.toArray.size) := show _ = _ by simp [H32.cs_length, zeros32]
        clear ht
        go_wp2_with (first
          | (refine wpList_load_mid rfl 23 _ rfl b o rfl x.cs _ HC.out Tryz.underlying23 rfl (sizeH x) ?_)
          | (refine wpList_store_row rfl 23 _ _ rfl w.heap.size x.cs.toArray rfl rfl t (u8s zeros32).toArray HT.out I28.out HS28.out x.cs_all ?_))
        subst hQ
        refine jump_ret ?_
        refine bodyPost_ret (v := .agg x.cs.toArray) ?_ rfl ⟨by rw [HE.out]; rfl, ?_⟩
        · obtain ⟨t', hb⟩ := Blk.row (ds := x.cs) ⟨t, HT.out⟩
          exact results_cell_row Tryz.results56 _ _ w.heap.size t' _ _ _ rfl hb Tryz.underlying23 rfl I28.out
        · exact below_setRow HBR.out (Nat.le_refl _) _

set_option maxRecDepth 100000 in
set_option maxHeartbeats 4000000 in
theorem root_any (a : Option Addr) (n cap : Nat) (l : List TxR) (w : World) (hp : TxL w a n cap l) (hK : Kw w) (hn : n ≤ 100000) :
    Calls Tryz.prog 20 #[.slice a n cap] w fun e w' => e = .returned (topH (l.map fun r => idH r.t)).val ∧ Below w.heap.size w w' := by
  have HP : Hid (TxL w a n cap l) := hp
  have HK : Hid (Kw w) := hK
  have hpos := hK.pos
  have hml : n ≤ maxLen := Nat.le_trans hp.row.fits hp.row.most
  clear hp hK
  go_enter Tryz.func20, Tryz.ntmps20
  go_wp2_with fail
  generalize hw1 : World.alloc w _ = w1
  have HZ : Hid (Blk w1 w.heap.size (u8s zeros32)) := by rw [← hw1]; exact Blk.mk _ _ _ rfl rfl
  have HB : Hid (Below w.heap.size w w1) := by rw [← hw1]; exact (Below.refl _ _).alloc (Nat.le_refl _) _
  clear hw1
  refine (ids_any a n cap l w1 (HP.out.below HB.out) (HK.out.below HB.out hpos) hn).mono ?_
  rintro e w2 ⟨g, rfl, hg, hgl, hb2⟩
  have HZ2 : Hid (Blk w2 w.heap.size (u8s zeros32)) := HZ.out.below hb2 HZ.out.lt
  have HB2 : Hid (Below w.heap.size w w2) := HB.out.trans (hb2.mono HB.out.size)
  have HE : Hid (Els w2 (some ⟨g, 0, none⟩) n n (l.map fun r => idH r.t)) := Els.of_blk hg (by rw [List.length_map]; exact HP.out.row.len) (Nat.le_refl _) hml (by rw [List.take_of_length_le]; rw [flatE_length, List.length_map, HP.out.row.len]; exact Nat.le_refl _)
  clear hg hgl hb2 HZ HB
  obtain ⟨L, hL⟩ : ∃ L, L = l.map fun r => idH r.t := ⟨_, rfl⟩
  rw [← hL] at HE
  have HLL : Hid (L = l.map fun r => idH r.t) := hL
  clear hL
  go_wp2_with fail
  refine (top_any (some ⟨g, 0, none⟩) n n L w2 HE.out (HK.out.below HB2.out hpos) hn).mono ?_
  rintro e w3 ⟨rfl, hb3⟩
  obtain ⟨x, hx⟩ : ∃ x, x = topH L := ⟨_, rfl⟩
  rw [← hx]
  have HX : Hid (x = topH L) := hx
  have HZ3 : Hid (Blk w3 w.heap.size (u8s zeros32)) := HZ2.out.below hb3 HZ2.out.lt
  have HB3 : Hid (Below w.heap.size w w3) := HB2.out.trans (hb3.mono HB2.out.size)
  clear hb3 hx HZ2 HB2 HE
  obtain ⟨t, ht⟩ := HZ3.out
  have HT : Hid (w3.heap[w.heap.size]? = some (.cells (u8s zeros32).toArray t (0, 0))) := ht
  have I28 : Hid (_ = _) := sizeHa x
  have HS28 : Hid ((u8s zeros32).toArray.size = x.cs.toArray.size) := show _ = _ by simp [H32.cs_length, zeros32]
  clear ht
  unfold H32.val
  go_wp2_with (refine wpList_store_row rfl 23 _ _ rfl w.heap.size x.cs.toArray rfl rfl t (u8s zeros32).toArray HT.out I28.out HS28.out x.cs_all ?_)
  refine bodyPost_ret (v := .agg x.cs.toArray) ?_ rfl ⟨by rw [← HLL.out, ← HX.out]; rfl, ?_⟩
  · obtain ⟨t', hb⟩ := Blk.row (ds := x.cs) ⟨t, HT.out⟩
    exact results_cell_row Tryz.results20 _ _ w.heap.size t' _ _ _ rfl hb Tryz.underlying23 rfl I28.out
  · exact below_setRow HB3.out (Nat.le_refl _) _
end Go.Proofs.YtlaifphedhaemaaGreatDoor
