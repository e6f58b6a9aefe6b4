/- coraclealike.Strings at any two rows. -/
import Derived.Test.YtlapnnkahijikaaGreatDoorZKD
namespace Go.Proofs.YtlapnnkahijikaaGreatDoor
open Go.ChangeShapes Go.WideShapes Go.ChangeAt Go.RowKit Go.Lib

theorem SrcS.at {w : World} {a : Option Addr} {n c : Nat} {l : List ByteArray} (h : SrcS w (.slice a n c) l) {k : Nat} (hk : k < l.length) : ∃ b, a = some ⟨b, 0, none⟩ ∧ w.cell? ⟨b, k, none⟩ = some (.string (l.getD k ⟨#[]⟩)) := by
  rcases h with ⟨_, rfl⟩ | ⟨b, cap, e, hc⟩
  · simp at hk
  · injection e with e _ _
    exact ⟨b, e, hc k _ (by rw [List.getD_eq_getElem?_getD, List.getElem?_eq_getElem hk]; rfl)⟩
theorem SrcS.any {w : World} {v : Value} {l : List ByteArray} (h : SrcS w v l) : ∃ a c, v = .slice a l.length c := by
  rcases h with ⟨rfl, rfl⟩ | ⟨b, cap, rfl, _⟩
  · exact ⟨_, _, rfl⟩
  · exact ⟨_, _, rfl⟩
set_option maxRecDepth 100000 in
set_option maxHeartbeats 2000000 in
theorem strings_any (v1 v2 : Value) (l m : List ByteArray) (w : World) (h1 : SrcS w v1 l) (h2 : SrcS w v2 m) (hl : l.length ≤ 1000000) (hm : m.length ≤ 1000000) :
    Calls Tryz.prog 19 #[v1, v2] w fun e w' => e = .returned (.bool (decide (l = m))) ∧ Below w.heap.size w w' := by
  have HMO : Hid (Tryz.prog.follows .mixedOrders = true) := show _ = _ by kernel_rfl
  obtain ⟨a1, c1, rfl⟩ := h1.any
  obtain ⟨a2, c2, rfl⟩ := h2.any
  obtain ⟨n, hn⟩ : ∃ n, n = l.length := ⟨_, rfl⟩
  obtain ⟨q, hq⟩ : ∃ q, q = m.length := ⟨_, rfl⟩
  rw [← hn] at h1 hl ⊢
  rw [← hq] at h2 hm ⊢
  have H1 : Hid (SrcS w (.slice a1 n c1) l) := h1
  have H2 : Hid (SrcS w (.slice a2 q c2) m) := h2
  have HN : Hid (n = l.length ∧ q = m.length) := ⟨hn, hq⟩
  clear h1 h2 hn hq
  by_cases hnq : n = q
  · subst hnq
    have en : ¬ (n : Int) ≠ (n : Int) := by omega
    go_enter Tryz.func19, Tryz.ntmps19
    go_wp2_with fail
    go_loopw [5] (fun i wr => ∃ k : Nat, k ≤ n ∧ i = .int .i64 k ∧ Hid (Below w.heap.size w wr) ∧ Hid (∀ j, j < k → l.getD j ⟨#[]⟩ = m.getD j ⟨#[]⟩)) (fun i _ => n - (intOf i).toNat)
    case atStart => exact ⟨0, Nat.zero_le _, rfl, Below.refl _ _, fun j hj => absurd hj (Nat.not_lt_zero _)⟩
    case round =>
      obtain ⟨k, hk, rfl, HB, HALL⟩ := hrel
      by_cases hlt : k < n
      · have e0 : (0 : Int) ≤ (k : Int) := by omega
        have e1 : (k : Int) < (n : Int) := by omega
        obtain ⟨b1, rfl, hx⟩ := H1.out.at (k := k) (by rw [← HN.out.1]; exact hlt)
        obtain ⟨b2, rfl, hy⟩ := H2.out.at (k := k) (by rw [← HN.out.2]; exact hlt)
        have HEQ : Hid (l.getD k ⟨#[]⟩ ≠ m.getD k ⟨#[]⟩ → decide (l = m) = false) := fun hne => decide_eq_false fun e => hne (by rw [e])
        have HX : Hid (wr.cell? ⟨b1, k, none⟩ = some (.string (l.getD k ⟨#[]⟩)) ∧ wr.cell? ⟨b2, k, none⟩ = some (.string (m.getD k ⟨#[]⟩))) := ⟨cell_below' HB.out hx, cell_below' HB.out hy⟩
        obtain ⟨x, hxx⟩ : ∃ x, x = l.getD k ⟨#[]⟩ := ⟨_, rfl⟩
        obtain ⟨y, hyy⟩ : ∃ y, y = m.getD k ⟨#[]⟩ := ⟨_, rfl⟩
        rw [← hxx, ← hyy] at HX HEQ
        have HXY : Hid (x = l.getD k ⟨#[]⟩ ∧ y = m.getD k ⟨#[]⟩) := ⟨hxx, hyy⟩
        clear hx hy hxx hyy
        by_cases hxy : x = y
        · subst hxy
          go_upto_region 6 with fail
          refine wp_region_noPanic ?_
          refine wp_region_held_drew (S := fun w' => (w'.cell? ⟨b1, k, none⟩ = some (.string x) ∧ w'.cell? ⟨b2, k, none⟩ = some (.string x)) ∧ Below w.heap.size w w') HMO.out (⟨HX.out, HB.out.drew⟩) (fun hHeld => ?_)
          refine wpAnyH_take (i := 0) (oi := { dst := some 17, op := .move (.tmp 0), type := 32, pos := "alike.go:47", after := #[], guard := none }) (v := ?_) rfl (by kernel_rfl) (by kernel_rfl) (by kernel_rfl) (fun _ _ _ h => h) (Or.inl ⟨by rfl, ?_⟩) (by assumption) ?_
          rotate_left
          · intro _ _; go_simp; first | done | with_reducible rfl
          simp only [Act.put, List.setIfInBounds_toArray, List.set_cons_zero, List.set_cons_succ]
          refine wpAnyH_take (i := 1) (oi := { dst := some 18, op := .move (.tmp 5), type := 3, pos := "alike.go:47", after := #[], guard := none }) (v := ?_) rfl (by kernel_rfl) (by kernel_rfl) (by kernel_rfl) (fun _ _ _ h => h) (Or.inl ⟨by rfl, ?_⟩) (by assumption) ?_
          rotate_left
          · intro _ _; go_simp; first | done | with_reducible rfl
          simp only [Act.put, List.setIfInBounds_toArray, List.set_cons_zero, List.set_cons_succ]
          refine wpAnyH_take (i := 2) (oi := { dst := some 19, op := .indexAddr 32 (.tmp 17) (.tmp 18), type := 0, pos := "alike.go:47", after := #[{ on := 0, ground := .data }, { on := 1, ground := .data }], guard := none }) (v := ?_) rfl (by kernel_rfl) (by kernel_rfl) (by kernel_rfl) (fun _ _ _ h => h) (Or.inl ⟨by rfl, ?_⟩) (by assumption) ?_
          rotate_left
          · intro _ _; go_simp; first | done | with_reducible rfl
          simp only [Act.put, List.setIfInBounds_toArray, List.set_cons_zero, List.set_cons_succ]
          refine wpAnyH_take (i := 3) (oi := { dst := some 20, op := .load 9 (.tmp 19), type := 9, pos := "alike.go:47", after := #[{ on := 2, ground := .data }], guard := none }) (v := .string x) rfl (by kernel_rfl) (by kernel_rfl) (by kernel_rfl) (fun _ _ _ h => h) (Or.inl ⟨by rfl, ?_⟩) (by assumption) ?_
          · intro _ _; rename_i wz hz; have cz := hz.1.1; go_simp
          simp only [Act.put, List.setIfInBounds_toArray, List.set_cons_zero, List.set_cons_succ]
          refine wpAnyH_take (i := 4) (oi := { dst := some 21, op := .move (.tmp 1), type := 32, pos := "alike.go:47", after := #[], guard := none }) (v := ?_) rfl (by kernel_rfl) (by kernel_rfl) (by kernel_rfl) (fun _ _ _ h => h) (Or.inl ⟨by rfl, ?_⟩) (by assumption) ?_
          rotate_left
          · intro _ _; go_simp; first | done | with_reducible rfl
          simp only [Act.put, List.setIfInBounds_toArray, List.set_cons_zero, List.set_cons_succ]
          refine wpAnyH_take (i := 5) (oi := { dst := some 22, op := .move (.tmp 5), type := 3, pos := "alike.go:47", after := #[], guard := none }) (v := ?_) rfl (by kernel_rfl) (by kernel_rfl) (by kernel_rfl) (fun _ _ _ h => h) (Or.inl ⟨by rfl, ?_⟩) (by assumption) ?_
          rotate_left
          · intro _ _; go_simp; first | done | with_reducible rfl
          simp only [Act.put, List.setIfInBounds_toArray, List.set_cons_zero, List.set_cons_succ]
          refine wpAnyH_take (i := 6) (oi := { dst := some 23, op := .indexAddr 32 (.tmp 21) (.tmp 22), type := 0, pos := "alike.go:47", after := #[{ on := 4, ground := .data }, { on := 5, ground := .data }], guard := none }) (v := ?_) rfl (by kernel_rfl) (by kernel_rfl) (by kernel_rfl) (fun _ _ _ h => h) (Or.inl ⟨by rfl, ?_⟩) (by assumption) ?_
          rotate_left
          · intro _ _; go_simp; first | done | with_reducible rfl
          simp only [Act.put, List.setIfInBounds_toArray, List.set_cons_zero, List.set_cons_succ]
          refine wpAnyH_take (i := 7) (oi := { dst := some 24, op := .load 9 (.tmp 23), type := 9, pos := "alike.go:47", after := #[{ on := 6, ground := .data }], guard := none }) (v := .string x) rfl (by kernel_rfl) (by kernel_rfl) (by kernel_rfl) (fun _ _ _ h => h) (Or.inl ⟨by rfl, ?_⟩) (by assumption) ?_
          · intro _ _; rename_i wz hz; have cz := hz.1.2; go_simp
          simp only [Act.put, List.setIfInBounds_toArray, List.set_cons_zero, List.set_cons_succ]
          refine wpAnyH_take (i := 8) (oi := { dst := some 25, op := .binOp Go.BinOp.neq 9 (.tmp 20) (.tmp 24) 9, type := 4, pos := "alike.go:47", after := #[{ on := 3, ground := .data }, { on := 7, ground := .data }], guard := none }) (v := .bool false) rfl (by kernel_rfl) (by kernel_rfl) (by kernel_rfl) (fun _ _ _ h => h) (Or.inl ⟨by rfl, ?_⟩) (by assumption) ?_
          · intro _ _; go_simp
          simp only [Act.put, List.setIfInBounds_toArray, List.set_cons_zero, List.set_cons_succ]
          refine wpAnyH_done (by kernel_rfl) ?_ _
          refine NoPanic.normal ?_
          go_wp2_with fail
          go_roundw
          case rel =>
            refine ⟨k + 1, by omega, by go_num, hHeld.2, fun j hj => ?_⟩
            by_cases e : j = k
            · rw [e, ← HXY.out.1, ← HXY.out.2]
            · exact HALL.out j (by omega)
          case measure => simp [intOf]; omega
        · have HF : Hid (decide (l = m) = false) := HEQ.out hxy
          have hne : (x.toList == y.toList) = false := by rw [eq_str]; exact decide_eq_false hxy
          go_upto_region 6 with fail
          refine wp_region_noPanic ?_
          refine wp_region_held_drew (S := fun w' => (w'.cell? ⟨b1, k, none⟩ = some (.string x) ∧ w'.cell? ⟨b2, k, none⟩ = some (.string y)) ∧ Below w.heap.size w w') HMO.out (⟨HX.out, HB.out.drew⟩) (fun hHeld => ?_)
          refine wpAnyH_take (i := 0) (oi := { dst := some 17, op := .move (.tmp 0), type := 32, pos := "alike.go:47", after := #[], guard := none }) (v := ?_) rfl (by kernel_rfl) (by kernel_rfl) (by kernel_rfl) (fun _ _ _ h => h) (Or.inl ⟨by rfl, ?_⟩) (by assumption) ?_
          rotate_left
          · intro _ _; go_simp; first | done | with_reducible rfl
          simp only [Act.put, List.setIfInBounds_toArray, List.set_cons_zero, List.set_cons_succ]
          refine wpAnyH_take (i := 1) (oi := { dst := some 18, op := .move (.tmp 5), type := 3, pos := "alike.go:47", after := #[], guard := none }) (v := ?_) rfl (by kernel_rfl) (by kernel_rfl) (by kernel_rfl) (fun _ _ _ h => h) (Or.inl ⟨by rfl, ?_⟩) (by assumption) ?_
          rotate_left
          · intro _ _; go_simp; first | done | with_reducible rfl
          simp only [Act.put, List.setIfInBounds_toArray, List.set_cons_zero, List.set_cons_succ]
          refine wpAnyH_take (i := 2) (oi := { dst := some 19, op := .indexAddr 32 (.tmp 17) (.tmp 18), type := 0, pos := "alike.go:47", after := #[{ on := 0, ground := .data }, { on := 1, ground := .data }], guard := none }) (v := ?_) rfl (by kernel_rfl) (by kernel_rfl) (by kernel_rfl) (fun _ _ _ h => h) (Or.inl ⟨by rfl, ?_⟩) (by assumption) ?_
          rotate_left
          · intro _ _; go_simp; first | done | with_reducible rfl
          simp only [Act.put, List.setIfInBounds_toArray, List.set_cons_zero, List.set_cons_succ]
          refine wpAnyH_take (i := 3) (oi := { dst := some 20, op := .load 9 (.tmp 19), type := 9, pos := "alike.go:47", after := #[{ on := 2, ground := .data }], guard := none }) (v := .string x) rfl (by kernel_rfl) (by kernel_rfl) (by kernel_rfl) (fun _ _ _ h => h) (Or.inl ⟨by rfl, ?_⟩) (by assumption) ?_
          · intro _ _; rename_i wz hz; have cz := hz.1.1; go_simp
          simp only [Act.put, List.setIfInBounds_toArray, List.set_cons_zero, List.set_cons_succ]
          refine wpAnyH_take (i := 4) (oi := { dst := some 21, op := .move (.tmp 1), type := 32, pos := "alike.go:47", after := #[], guard := none }) (v := ?_) rfl (by kernel_rfl) (by kernel_rfl) (by kernel_rfl) (fun _ _ _ h => h) (Or.inl ⟨by rfl, ?_⟩) (by assumption) ?_
          rotate_left
          · intro _ _; go_simp; first | done | with_reducible rfl
          simp only [Act.put, List.setIfInBounds_toArray, List.set_cons_zero, List.set_cons_succ]
          refine wpAnyH_take (i := 5) (oi := { dst := some 22, op := .move (.tmp 5), type := 3, pos := "alike.go:47", after := #[], guard := none }) (v := ?_) rfl (by kernel_rfl) (by kernel_rfl) (by kernel_rfl) (fun _ _ _ h => h) (Or.inl ⟨by rfl, ?_⟩) (by assumption) ?_
          rotate_left
          · intro _ _; go_simp; first | done | with_reducible rfl
          simp only [Act.put, List.setIfInBounds_toArray, List.set_cons_zero, List.set_cons_succ]
          refine wpAnyH_take (i := 6) (oi := { dst := some 23, op := .indexAddr 32 (.tmp 21) (.tmp 22), type := 0, pos := "alike.go:47", after := #[{ on := 4, ground := .data }, { on := 5, ground := .data }], guard := none }) (v := ?_) rfl (by kernel_rfl) (by kernel_rfl) (by kernel_rfl) (fun _ _ _ h => h) (Or.inl ⟨by rfl, ?_⟩) (by assumption) ?_
          rotate_left
          · intro _ _; go_simp; first | done | with_reducible rfl
          simp only [Act.put, List.setIfInBounds_toArray, List.set_cons_zero, List.set_cons_succ]
          refine wpAnyH_take (i := 7) (oi := { dst := some 24, op := .load 9 (.tmp 23), type := 9, pos := "alike.go:47", after := #[{ on := 6, ground := .data }], guard := none }) (v := .string y) rfl (by kernel_rfl) (by kernel_rfl) (by kernel_rfl) (fun _ _ _ h => h) (Or.inl ⟨by rfl, ?_⟩) (by assumption) ?_
          · intro _ _; rename_i wz hz; have cz := hz.1.2; go_simp
          simp only [Act.put, List.setIfInBounds_toArray, List.set_cons_zero, List.set_cons_succ]
          refine wpAnyH_take (i := 8) (oi := { dst := some 25, op := .binOp Go.BinOp.neq 9 (.tmp 20) (.tmp 24) 9, type := 4, pos := "alike.go:47", after := #[{ on := 3, ground := .data }, { on := 7, ground := .data }], guard := none }) (v := .bool true) rfl (by kernel_rfl) (by kernel_rfl) (by kernel_rfl) (fun _ _ _ h => h) (Or.inl ⟨by rfl, ?_⟩) (by assumption) ?_
          · intro _ _; go_simp
          simp only [Act.put, List.setIfInBounds_toArray, List.set_cons_zero, List.set_cons_succ]
          refine wpAnyH_done (by kernel_rfl) ?_ _
          refine NoPanic.normal ?_
          go_wp2_with fail
          go_ret
          exact ⟨ret_bool HF.out.symm, hHeld.2⟩
      · obtain rfl : k = n := by omega
        have e1 : ¬ (k : Int) < (k : Int) := by omega
        have HT : Hid (decide (l = m) = true) := decide_eq_true (by
          apply List.ext_getElem?
          intro j
          by_cases hj : j < k
          · have := HALL.out j hj
            rw [List.getD_eq_getElem?_getD, List.getD_eq_getElem?_getD, List.getElem?_eq_getElem (by rw [← HN.out.1]; exact hj), List.getElem?_eq_getElem (by rw [← HN.out.2]; exact hj)] at this
            rw [List.getElem?_eq_getElem (by rw [← HN.out.1]; exact hj), List.getElem?_eq_getElem (by rw [← HN.out.2]; exact hj)]
            exact congrArg some this
          · rw [List.getElem?_eq_none (by rw [← HN.out.1]; omega), List.getElem?_eq_none (by rw [← HN.out.2]; omega)])
        go_wp2_with fail
        go_ret
        exact ⟨ret_bool HT.out.symm, HB.out⟩
  · have HF : Hid (decide (l = m) = false) := decide_eq_false fun e => hnq (by rw [HN.out.1, HN.out.2, e])
    have en : ((n : Int) == (q : Int)) = false := beq_eq_false_iff_ne.2 (by omega)
    have en2 : ((n : Int) != (q : Int)) = true := by simpa using en
    go_enter Tryz.func19, Tryz.ntmps19
    go_wp2_with fail
    go_ret
    exact ⟨ret_bool HF.out.symm, Below.refl _ _⟩
end Go.Proofs.YtlapnnkahijikaaGreatDoor
