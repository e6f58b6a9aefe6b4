/- Conflict: tx's and the document's own. -/
import Derived.Test.YteikbpkjikacmaaGreatDoorCRfA
import Derived.Test.YteikbpkjikacmaaGreatDoorZP2
namespace Go.Proofs.YteikbpkjikacmaaGreatDoor
open Go.ChangeShapes Go.WideShapes Go.ChangeAt Go.RowKit

theorem undrewC {B : Nat} {w w' : World} (h : Below B w.drew w') : Below B w w' := ⟨h.os, h.tape, h.output, h.size, h.block⟩
/-- Do two spend the same? -/
def confT (t u : TxD) : Bool := t.ins.any fun x => decide (0 ≤ spN x.prev u.ins 0)
theorem spN_mem (p : Pt) : ∀ (l : List In) (i : Int), 0 ≤ i → (0 ≤ spN p l i ↔ p ∈ l.map In.prev)
  | [], i, h => by simp [spN]
  | x :: l, i, h => by
    unfold spN
    by_cases hx : x.prev = p
    · rw [if_pos hx]; simp [h, hx]
    · rw [if_neg hx, spN_mem p l (i + 1) (by omega)]
      simp only [List.map_cons, List.mem_cons]
      exact ⟨Or.inr, fun h => h.resolve_left fun e => hx e.symm⟩
theorem confT_filter (t u : TxD) : decide (0 < ((t.ins.map In.prev).filter fun x => decide (x ∈ u.ins.map In.prev)).length) = confT t u := by
  unfold confT
  rw [Bool.eq_iff_iff, decide_eq_true_iff, List.length_pos_iff_exists_mem, List.any_eq_true]
  constructor
  · rintro ⟨p, hp⟩
    obtain ⟨h1, h2⟩ := List.mem_filter.1 hp
    obtain ⟨x, hx, rfl⟩ := List.mem_map.1 h1
    exact ⟨x, hx, decide_eq_true ((spN_mem _ _ _ (Int.le_refl _)).2 (by simpa using h2))⟩
  · rintro ⟨x, hx, h⟩
    exact ⟨x.prev, List.mem_filter.2 ⟨List.mem_map_of_mem hx, decide_eq_true ((spN_mem _ _ _ (Int.le_refl _)).1 (of_decide_eq_true h))⟩⟩
theorem confT_false {t u : TxD} (h : ∀ j, j < t.ins.length → spN (t.ins.getD j default).prev u.ins 0 < 0) : confT t u = false := by
  unfold confT
  rw [List.any_eq_false]
  intro x hx hd
  obtain ⟨j, hj, rfl⟩ := List.getElem_of_mem hx
  have := h j hj
  rw [List.getD_eq_getElem?_getD, List.getElem?_eq_getElem hj] at this
  have h2 := of_decide_eq_true hd
  simp only [Option.getD_some] at this
  omega
theorem confT_true {t u : TxD} {j : Nat} (hj : j < t.ins.length) (h : 0 ≤ spN (t.ins.getD j default).prev u.ins 0) : confT t u = true := by
  unfold confT
  rw [List.any_eq_true]
  rw [List.getD_eq_getElem?_getD, List.getElem?_eq_getElem hj] at h
  exact ⟨_, List.getElem_mem hj, decide_eq_true h⟩
set_option maxRecDepth 100000 in
set_option maxHeartbeats 4000000 in
theorem rconflict_any (v y : TxV) (t u : TxD) (w : World) (ht : TxAt w v t) (hu : TxAt w y u) (hn : v.n ≤ 100000) (hm : y.n ≤ 100000) :
    Calls Tryz.prog 22 #[v.val t.lock, y.val u.lock] w fun e w' => e = .returned (.bool (confT t u)) ∧ Below w.heap.size w w' := by
  have HMO := follows_mixed
  have HLI : Hid (t.ins.length = v.n) := ht.ins.len
  have HIN : Hid (Els w v.a v.n v.c t.ins) := ht.ins
  have HCF : Hid (∀ j, j < t.ins.length → 0 ≤ spN (t.ins.getD j default).prev u.ins 0 → confT t u = true) := fun j h1 h2 => confT_true h1 h2
  have HCN : Hid ((∀ j, j < t.ins.length → spN (t.ins.getD j default).prev u.ins 0 < 0) → confT t u = false) := confT_false
  have HSP : Hid (∀ p w', Below w.heap.size w w' → Calls Tryz.prog 20 #[y.val u.lock, .agg p.cs.toArray] w' fun e w'' => e = .returned (.int .i64 (spN p u.ins 0)) ∧ Below w'.heap.size w' w'') := fun p w' h => rspends_any y u p w' (hu.below h) hm
  clear ht hu
  generalize confT t u = q at *
  obtain ⟨ins, outs, lock⟩ := t
  obtain ⟨a, n, c, b, m, d⟩ := v
  obtain ⟨a', n', c', b', m', d'⟩ := y
  obtain ⟨ins', outs', lock'⟩ := u
  unfold TxV.val at *
  simp only at *
  go_enter Tryz.func22, Tryz.ntmps22
  go_upto_region 1 with fail
  generalize hwv : World.alloc (World.alloc w _) _ = w1
  have HB0 : Hid (Blk w1 w.heap.size [.slice a n c, .slice b m d, .int .i64 lock]) := by rw [← hwv]; exact (Blk.mk _ _ _ rfl rfl).alloc _
  have HB1 : Hid (Blk w1 (w.heap.size + 1) [.slice a' n' c', .slice b' m' d', .int .i64 lock']) := by rw [← hwv]; exact Blk.mk _ _ _ (by simp) rfl
  have HBL : Hid (Below w.heap.size w w1) := by rw [← hwv]; exact ((Below.refl _ _).alloc (Nat.le_refl _) _).alloc (by simp) _
  clear hwv
  have HI1 : Hid (Els w1 a n c ins) := HIN.out.below HBL.out
  clear HIN
  generalize hN : w.heap.size = N at *
  have hs1 := HB1.out.lt
  go_wp2_with fail
  go_loopw [5] (fun i wr => ∃ (k : Nat), k ≤ n ∧ i = .int .i64 k ∧ Hid (∀ j, j < k → spN (ins.getD j default).prev ins' 0 < 0) ∧ Hid (Below w1.heap.size w1 wr)) (fun i _ => n - (intOf i).toNat)
  case atStart => exact ⟨0, by omega, rfl, fun j hj => absurd hj (by omega), Below.refl _ _⟩
  case round =>
    obtain ⟨k, hk, rfl, HZ, HBR⟩ := hrel
    have hszr := HBR.out.size
    have c0 : wr.cell? ⟨N, 0, none⟩ = some (.slice a n c) := (HB0.out.below HBR.out HB0.out.lt).one rfl
    by_cases hlt : k < n
    · have e0 : (0 : Int) ≤ (k : Int) := by omega
      have e1 : (k : Int) < (n : Int) := by omega
      have d0 : wr.drew.cell? ⟨N, 0, none⟩ = some (.slice a n c) := c0
      have d1 : wr.drew.cell? ⟨N + 1, 0, none⟩ = some (.slice a' n' c') := (HB1.out.below HBR.out.drew hs1).one rfl
      have d2 : wr.drew.cell? ⟨N + 1, 1, none⟩ = some (.slice b' m' d') := (HB1.out.below HBR.out.drew hs1).one rfl
      have d3 : wr.drew.cell? ⟨N + 1, 2, none⟩ = some (.int .i64 lock') := (HB1.out.below HBR.out.drew hs1).one rfl
      obtain ⟨bb, o, rfl, hc⟩ := (HI1.out.below HBR.out.drew).at k hlt
      obtain ⟨x, hx⟩ : ∃ x, x = ins.getD k default := ⟨_, rfl⟩
      change wr.drew.rangeAt bb (o + k * 37) (In.cs (ins.getD k default)) at hc
      rw [← hx] at hc
      have HX : Hid (x = ins.getD k default) := hx
      have HC : Hid (wr.drew.rangeAt bb (o + k * 37) x.prev.cs) := In.prev_at hc
      have HBD : Hid (Below w1.heap.size w1 wr.drew) := HBR.out.drew
      have hsd := HBD.out.size
      clear hc hx HBR
      go_wp2_with fail
      refine wp_region_tail 7 HMO.out (by kernel_rfl) ?_
      iterate 6 still_step
      refine still_load_mid rfl 30 _ rfl bb (o + k * 37) rfl x.prev.cs _ HC.out und_pt.out rfl (size_pt x.prev) ?_
      simp only [Act.put, List.setIfInBounds_toArray, List.set_cons_zero, List.set_cons_succ]
      refine wpStill_nil ?_
      clear c0 d0 d1 d2 d3 HC
      generalize wr.drew = wq at *
      have HCL : Hid (Calls Tryz.prog 20 #[.agg #[.slice a' n' c', .slice b' m' d', .int .i64 lock'], .agg x.prev.cs.toArray] wq fun e w'' => e = .returned (.int .i64 (spN x.prev ins' 0)) ∧ Below wq.heap.size wq w'') := HSP.out x.prev wq (HBL.out.trans (HBD.out.mono (by omega)))
      have HSV : Hid (0 ≤ spN x.prev ins' 0 ∨ spN x.prev ins' 0 < 0) := by show _ ∨ _; omega
      have HSE : Hid (spN x.prev ins' 0 = spN (ins.getD k default).prev ins' 0) := by show _ = _; rw [HX.out]
      clear HX
      generalize spN x.prev ins' 0 = z at *
      go_wp2_with fail
      refine Calls.mono HCL.out ?_
      rintro e w3 ⟨rfl, hb3⟩
      have HB3 : Hid (Below w1.heap.size w1 w3) := HBD.out.trans (hb3.mono (by omega))
      have hs3 := HB3.out.size
      clear hb3 HBD HCL
      rcases HSV.out with hz | hz
      · have HQ : Hid (q = true) := HCF.out k (by rw [HLI.out]; exact hlt) (HSE.out ▸ hz)
        go_wp2_with fail
        go_ret
        subst hN
        exact ⟨ret_bool HQ.out.symm, HBL.out.trans (HB3.out.mono (by omega))⟩
      · have hz' : ¬ (0 ≤ z) := by omega
        have HZ2 : Hid (∀ j, j < k + 1 → spN (ins.getD j default).prev ins' 0 < 0) := fun j hj => by
          by_cases e : j = k
          · subst e; rw [← HSE.out]; exact hz
          · exact HZ.out j (by omega)
        go_wp2_with fail
        go_roundw
        case rel => exact ⟨k + 1, by omega, by go_num, HZ2.out, HB3.out⟩
        case measure => simp [intOf]; omega
    · obtain rfl : k = n := by omega
      have HQ : Hid (q = false) := HCN.out fun j hj => HZ.out j (by rw [HLI.out] at hj; exact hj)
      go_wp2_with fail
      go_ret
      subst hN
      exact ⟨ret_bool HQ.out.symm, HBL.out.trans (HBR.out.mono (by omega))⟩
theorem pts_of_prevs {w : World} {g n : Nat} {l : List In} (h : Blk w g (flat (l.map In.prev))) (hl : l.length = n) (hn : n ≤ 100000) : Pts w (some ⟨g, 0, none⟩) n n (l.map In.prev) := by
  have hlen : (l.map In.prev).length = n := by rw [List.length_map]; exact hl
  exact Pts.of_blk h hlen (Nat.le_refl _) (by unfold maxLen; omega) (List.take_of_length_le (by rw [flat_length, hlen]; exact Nat.le_refl _))
set_option maxRecDepth 100000 in
set_option maxHeartbeats 4000000 in
theorem conflict_any (v y : TxV) (t u : TxD) (w : World) (ht : TxAt w v t) (hu : TxAt w y u) (hn : v.n ≤ 100000) (hm : y.n ≤ 100000) :
    Calls Tryz.prog 21 #[v.val t.lock, y.val u.lock] w fun e w' => e = .returned (.bool (confT t u)) ∧ Below w.heap.size w w' := by
  have HMO := follows_mixed
  have HLI : Hid (t.ins.length = v.n ∧ u.ins.length = y.n) := ⟨ht.ins.len, hu.ins.len⟩
  have HIN : Hid (Els w v.a v.n v.c t.ins ∧ Els w y.a y.n y.c u.ins) := ⟨ht.ins, hu.ins⟩
  have HCF : Hid (decide (0 < ((t.ins.map In.prev).filter fun x => decide (x ∈ u.ins.map In.prev)).length) = confT t u) := confT_filter t u
  clear ht hu
  generalize confT t u = q at *
  obtain ⟨ins, outs, lock⟩ := t
  obtain ⟨a, n, c, b, m, d⟩ := v
  obtain ⟨a', n', c', b', m', d'⟩ := y
  obtain ⟨ins', outs', lock'⟩ := u
  unfold TxV.val at *
  simp only at *
  go_enter Tryz.func21, Tryz.ntmps21
  go_upto_region 1 with fail
  generalize hwv : World.alloc (World.alloc w _) _ = w1
  have HB0 : Hid (Blk w1 w.heap.size [.slice a n c, .slice b m d, .int .i64 lock]) := by rw [← hwv]; exact (Blk.mk _ _ _ rfl rfl).alloc _
  have HB1 : Hid (Blk w1 (w.heap.size + 1) [.slice a' n' c', .slice b' m' d', .int .i64 lock']) := by rw [← hwv]; exact Blk.mk _ _ _ (by simp) rfl
  have HBL : Hid (Below w.heap.size w w1) := by rw [← hwv]; exact ((Below.refl _ _).alloc (Nat.le_refl _) _).alloc (by simp) _
  clear hwv
  have HI1 : Hid (Els w1 a n c ins ∧ Els w1 a' n' c' ins') := ⟨HIN.out.1.below HBL.out, HIN.out.2.below HBL.out⟩
  clear HIN
  generalize hN : w.heap.size = N at *
  have hs1 := HB1.out.lt
  have HS : Hid (∀ w', Below w1.heap.size w1 w' → w'.cell? ⟨N, 0, none⟩ = some (.slice a n c) ∧ w'.cell? ⟨N + 1, 0, none⟩ = some (.slice a' n' c')) := fun w' h => ⟨(HB0.out.below h HB0.out.lt).one rfl, (HB1.out.below h hs1).one rfl⟩
  clear HB0 HB1
  refine wp_region_noPanic ?_
  refine wp_region_held_drew (S := fun w' => w'.cell? ⟨N, 0, none⟩ = some (.slice a n c) ∧ w'.cell? ⟨N + 1, 0, none⟩ = some (.slice a' n' c')) HMO.out (HS.out _ (Below.refl _ _).drew) (fun hHeld => ?_)
  refine wpAnyH_take (i := 0) (oi := { dst := some 5, op := .fieldAddr 25 (.tmp 2) 0, type := 0, pos := "tx.go:145", after := #[], guard := none }) (v := ?_) rfl (by kernel_rfl) (by kernel_rfl) (by kernel_rfl) (fun _ _ _ h => h) (Or.inl ⟨by rfl, ?_⟩) (by assumption) ?_
  rotate_left
  · intro _ _; go_simp; first | done | with_reducible rfl
  simp only [Act.put, List.setIfInBounds_toArray, List.set_cons_zero, List.set_cons_succ]
  refine wpAnyH_take (i := 1) (oi := { dst := some 6, op := .load 22 (.tmp 5), type := 22, pos := "tx.go:145", after := #[{ on := 0, ground := .data }], guard := none }) (v := ?_) rfl (by kernel_rfl) (by kernel_rfl) (by kernel_rfl) (fun _ _ _ h => h) (Or.inl ⟨by rfl, ?_⟩) (by assumption) ?_
  rotate_left
  · intro _ _; go_simp; first | done | with_reducible rfl
  simp only [Act.put, List.setIfInBounds_toArray, List.set_cons_zero, List.set_cons_succ]
  refine wpAnyH_take (i := 3) (oi := { dst := some 8, op := .fieldAddr 25 (.tmp 3) 0, type := 0, pos := "tx.go:145", after := #[], guard := none }) (v := ?_) rfl (by kernel_rfl) (by kernel_rfl) (by kernel_rfl) (fun _ _ _ h => h) (Or.inl ⟨by rfl, ?_⟩) (by assumption) ?_
  rotate_left
  · intro _ _; go_simp; first | done | with_reducible rfl
  simp only [Act.put, List.setIfInBounds_toArray, List.set_cons_zero, List.set_cons_succ]
  refine wpAnyH_take (i := 4) (oi := { dst := some 9, op := .load 22 (.tmp 8), type := 22, pos := "tx.go:145", after := #[{ on := 3, ground := .data }], guard := none }) (v := ?_) rfl (by kernel_rfl) (by kernel_rfl) (by kernel_rfl) (fun _ _ _ h => h) (Or.inl ⟨by rfl, ?_⟩) (by assumption) ?_
  rotate_left
  · intro _ _; go_simp; first | done | with_reducible rfl
  simp only [Act.put, List.setIfInBounds_toArray, List.set_cons_zero, List.set_cons_succ]
  refine wpAnyH_ready (rs := [2]) (by kernel_rfl) (by simp) ?_
  refine AllReadyH.cons (o := { dst := some 7, op := .call { callee := .value (.func 50), args := #[.tmp 6], argTypes := #[22] }, type := 89, pos := "tx.go:145", after := #[{ on := 1, ground := .data }], guard := none }) rfl (fun K hK => ?_) AllReadyH.nil
  go_simp
  refine (prevs_any _ n c ins _ (HI1.out.1.below (Below.refl _ _).drew) hn).mono ?_; rintro e w2 ⟨g2, rfl, hB2, _, hb2⟩; have HB2 : Hid (Blk w2 g2 (flat (ins.map In.prev))) := hB2; have h2 : Below w1.heap.size w1 w2 := undrewC hb2; clear hb2 hB2
  go_simp
  refine hK.out _ _ (HS.out _ h2) (fun hHeld => ?_)
  clear hK K
  refine wpAnyH_ready (rs := [5]) (by kernel_rfl) (by simp) ?_
  refine AllReadyH.cons (o := { dst := some 10, op := .call { callee := .value (.func 50), args := #[.tmp 9], argTypes := #[22] }, type := 89, pos := "tx.go:145", after := #[{ on := 4, ground := .data }, { on := 2, ground := .chain }], guard := none }) rfl (fun K hK => ?_) AllReadyH.nil
  go_simp
  refine (prevs_any _ n' c' ins' _ (HI1.out.2.below h2) hm).mono ?_; rintro e w3 ⟨g3, rfl, hB3, _, hb3⟩; have HB3 : Hid (Blk w3 g3 (flat (ins'.map In.prev)) ∧ Blk w3 g2 (flat (ins.map In.prev))) := ⟨hB3, HB2.out.below hb3 HB2.out.lt⟩; have h3 : Below w1.heap.size w1 w3 := h2.trans (hb3.mono h2.size); clear hb3 hB3
  go_simp
  refine hK.out _ _ (HS.out _ h3) (fun hHeld => ?_)
  clear hK K
  refine wpAnyH_ready (rs := [6]) (by kernel_rfl) (by simp) ?_
  refine AllReadyH.cons (o := { dst := some 11, op := .call { callee := .value (.func 49), args := #[.tmp 7, .tmp 10], argTypes := #[89, 89] }, type := 89, pos := "tx.go:145", after := #[{ on := 2, ground := .data }, { on := 5, ground := .data }, { on := 5, ground := .chain }], guard := none }) rfl (fun K hK => ?_) AllReadyH.nil
  go_simp
  refine (both_any _ n n (ins.map In.prev) _ n' n' (ins'.map In.prev) _ (pts_of_prevs HB3.out.2 HLI.out.1 hn) (pts_of_prevs HB3.out.1 HLI.out.2 hm) hn hm).mono ?_; rintro e w4 ⟨v4, rfl, ho4, hb4⟩; obtain ⟨a4, cap4, rfl, _⟩ := ho4.pts; have h4 : Below w1.heap.size w1 w4 := h3.trans (hb4.mono h3.size); clear hb4 ho4; generalize hz : (List.filter _ _).length = z4 at HCF ⊢
  go_simp
  refine hK.out _ _ (HS.out _ h4) (fun hHeld => ?_)
  clear hK K
  refine wpAnyH_take (i := 7) (oi := { dst := some 12, op := .call { callee := .builtin Go.Builtin.len, args := #[.tmp 11], argTypes := #[89] }, type := 3, pos := "tx.go:145", after := #[{ on := 6, ground := .data }], guard := none }) (v := ?_) rfl (by kernel_rfl) (by kernel_rfl) (by kernel_rfl) (fun _ _ _ h => h) (Or.inl ⟨by rfl, ?_⟩) (by assumption) ?_
  rotate_left
  · intro _ _; go_simp; first | done | with_reducible rfl
  simp only [Act.put, List.setIfInBounds_toArray, List.set_cons_zero, List.set_cons_succ]
  refine wpAnyH_take (i := 8) (oi := { dst := some 13, op := .binOp Go.BinOp.gtr 3 (.tmp 12) (.const (.int .i64 0)) 3, type := 4, pos := "tx.go:145", after := #[{ on := 7, ground := .data }], guard := none }) (v := ?_) rfl (by kernel_rfl) (by kernel_rfl) (by kernel_rfl) (fun _ _ _ h => h) (Or.inl ⟨by rfl, ?_⟩) (by assumption) ?_
  rotate_left
  · intro _ _; go_simp; first | done | with_reducible rfl
  simp only [Act.put, List.setIfInBounds_toArray, List.set_cons_zero, List.set_cons_succ]
  refine wpAnyH_take (i := 9) (oi := { dst := some 4, op := .assign (.tmp 13), type := 4, pos := "tx.go:145", after := #[{ on := 8, ground := .data }, { on := 6, ground := .chain }, { on := 0, ground := .phase }, { on := 1, ground := .phase }, { on := 2, ground := .phase }, { on := 3, ground := .phase }, { on := 4, ground := .phase }, { on := 5, ground := .phase }, { on := 6, ground := .phase }, { on := 7, ground := .phase }, { on := 8, ground := .phase }], guard := none }) (v := ?_) rfl (by kernel_rfl) (by kernel_rfl) (by kernel_rfl) (fun _ _ _ h => h) (Or.inl ⟨by rfl, ?_⟩) (by assumption) ?_
  rotate_left
  · intro _ _; go_simp; first | done | with_reducible rfl
  simp only [Act.put, List.setIfInBounds_toArray, List.set_cons_zero, List.set_cons_succ]
  refine wpAnyH_done (by kernel_rfl) ?_ _
  refine NoPanic.normal ?_
  clear hHeld hz
  go_wp2_with fail
  go_ret
  subst hN
  refine ⟨ret_bool ?_, HBL.out.trans (h4.mono (by omega))⟩
  rw [← HCF.out]
end Go.Proofs.YteikbpkjikacmaaGreatDoor
