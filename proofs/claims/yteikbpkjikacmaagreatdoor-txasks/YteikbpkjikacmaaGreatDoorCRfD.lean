/- The document's own Same. -/
import Derived.Test.YteikbpkjikacmaaGreatDoorCRfA
namespace Go.Proofs.YteikbpkjikacmaaGreatDoor
open Go.ChangeShapes Go.WideShapes Go.ChangeAt Go.RowKit

theorem allEq_at {α : Type} [Inhabited α] (f : α → α → Bool) : ∀ l r : List α, l.length = r.length → (Go.Lib.allEq f l r = true ↔ ∀ j, j < l.length → f (l.getD j default) (r.getD j default) = true)
  | [], [], _ => by simp [Go.Lib.allEq]
  | [], _ :: _, h => by simp at h
  | _ :: _, [], h => by simp at h
  | x :: l, y :: r, h => by
    have ih := allEq_at f l r (by simpa using h)
    simp only [Go.Lib.allEq, Bool.and_eq_true, ih]
    constructor
    · rintro ⟨h1, h2⟩ j hj
      rcases j with _ | j
      · exact h1
      · exact h2 j (by simpa using hj)
    · intro h
      exact ⟨h 0 (by simp), fun j hj => h (j + 1) (by simpa using hj)⟩
set_option maxRecDepth 100000 in
set_option maxHeartbeats 8000000 in
theorem rsame_any (v y : TxV) (t u : TxD) (w : World) (ht : TxAt w v t) (hu : TxAt w y u) (hn : v.n ≤ 100000) (hm : v.m ≤ 100000) :
    Calls Tryz.prog 12 #[v.val t.lock, y.val u.lock] w fun e w' => e = .returned (.bool (sameT t u)) ∧ Below w.heap.size w w' := by
  have HMO := follows_mixed
  obtain ⟨dI, HDI, HRI⟩ := und_in
  obtain ⟨dO, HDO, HRO⟩ := und_out
  have HL : Hid (t.ins.length = v.n ∧ u.ins.length = y.n ∧ t.outs.length = v.m ∧ u.outs.length = y.m) := ⟨ht.ins.len, hu.ins.len, ht.outs.len, hu.outs.len⟩
  have HSI : Hid (¬ t.ins.length = u.ins.length → sameT t u = false) := fun h => by
    show sameT t u = false
    unfold sameT; rw [allEq_len eqI _ _ h]; simp
  have HSO : Hid (¬ t.outs.length = u.outs.length → sameT t u = false) := fun h => by
    show sameT t u = false
    unfold sameT; rw [allEq_len eqO _ _ h]; simp
  have HSL : Hid (¬ t.lock = u.lock → sameT t u = false) := fun h => by
    show sameT t u = false
    unfold sameT; rw [beq_eq_false_iff_ne.2 h]; simp
  have HNI : Hid (∀ j, t.ins.length = u.ins.length → j < t.ins.length → eqI (t.ins.getD j default) (u.ins.getD j default) = false → sameT t u = false) := fun j hl hj hf => by
    show sameT t u = false
    have : Go.Lib.allEq eqI t.ins u.ins = false := by
      cases ha : Go.Lib.allEq eqI t.ins u.ins with
      | false => rfl
      | true => have := (allEq_at eqI _ _ hl).1 ha j hj; rw [hf] at this; cases this
    unfold sameT; rw [this]; simp
  have HNO : Hid (∀ j, t.outs.length = u.outs.length → j < t.outs.length → eqO (t.outs.getD j default) (u.outs.getD j default) = false → sameT t u = false) := fun j hl hj hf => by
    show sameT t u = false
    have : Go.Lib.allEq eqO t.outs u.outs = false := by
      cases ha : Go.Lib.allEq eqO t.outs u.outs with
      | false => rfl
      | true => have := (allEq_at eqO _ _ hl).1 ha j hj; rw [hf] at this; cases this
    unfold sameT; rw [this]; simp
  have HYES : Hid (t.lock = u.lock → t.ins.length = u.ins.length → t.outs.length = u.outs.length → (∀ j, j < t.ins.length → eqI (t.ins.getD j default) (u.ins.getD j default) = true) → (∀ j, j < t.outs.length → eqO (t.outs.getD j default) (u.outs.getD j default) = true) → sameT t u = true) := fun h0 h1 h2 h3 h4 => by
    show sameT t u = true
    unfold sameT; rw [(allEq_at eqI _ _ h1).2 h3, (allEq_at eqO _ _ h2).2 h4, h0]; simp
  have HEL : Hid (Els w v.a v.n v.c t.ins ∧ Els w y.a y.n y.c u.ins ∧ Els w v.b v.m v.d t.outs ∧ Els w y.b y.m y.d u.outs) := ⟨ht.ins, hu.ins, ht.outs, hu.outs⟩
  clear ht hu
  generalize sameT t u = q at *
  obtain ⟨ins, outs, lock⟩ := t
  obtain ⟨a, n, c, b, m, d⟩ := v
  obtain ⟨a', n', c', b', m', d'⟩ := y
  obtain ⟨ins', outs', lock'⟩ := u
  unfold TxV.val at *
  simp only at *
  go_enter Tryz.func12, Tryz.ntmps12
  go_upto_region 1 with fail
  generalize hwv : World.alloc (World.alloc w _) _ = w1
  have HB0 : Hid (Blk w1 w.heap.size [.slice a n c, .slice b m d, .int .i64 lock]) := by rw [← hwv]; exact (Blk.mk _ _ _ rfl rfl).alloc _
  have HB1 : Hid (Blk w1 (w.heap.size + 1) [.slice a' n' c', .slice b' m' d', .int .i64 lock']) := by rw [← hwv]; exact Blk.mk _ _ _ (by simp) rfl
  have HBL : Hid (Below w.heap.size w w1) := by rw [← hwv]; exact ((Below.refl _ _).alloc (Nat.le_refl _) _).alloc (by simp) _
  clear hwv
  have HE1 : Hid (Els w1 a n c ins ∧ Els w1 a' n' c' ins' ∧ Els w1 b m d outs ∧ Els w1 b' m' d' outs') := ⟨HEL.out.1.below HBL.out, HEL.out.2.1.below HBL.out, HEL.out.2.2.1.below HBL.out, HEL.out.2.2.2.below HBL.out⟩
  clear HEL
  generalize hN : w.heap.size = N at *
  have hs1 := HB1.out.lt
  have HS : Hid (∀ w', Below w1.heap.size w1 w' → w'.cell? ⟨N, 0, none⟩ = some (.slice a n c) ∧ w'.cell? ⟨N + 1, 0, none⟩ = some (.slice a' n' c') ∧ w'.cell? ⟨N, 1, none⟩ = some (.slice b m d) ∧ w'.cell? ⟨N + 1, 1, none⟩ = some (.slice b' m' d') ∧ w'.cell? ⟨N, 2, none⟩ = some (.int .i64 lock) ∧ w'.cell? ⟨N + 1, 2, none⟩ = some (.int .i64 lock')) := fun w' h => ⟨(HB0.out.below h HB0.out.lt).one rfl, (HB1.out.below h hs1).one rfl, (HB0.out.below h HB0.out.lt).one rfl, (HB1.out.below h hs1).one rfl, (HB0.out.below h HB0.out.lt).one rfl, (HB1.out.below h hs1).one rfl⟩
  clear HB0 HB1
  obtain ⟨c0, c1, c2, c3, c4, c5⟩ := HS.out w1 (Below.refl _ _)
  by_cases hnn : n = n'
  · subst hnn
    by_cases hmm : m = m'
    · subst hmm
      by_cases hll : lock = lock'
      · subst hll
        have l1 : ((n : Int) != (n : Int)) = false := by simp
        have l2 : ((m : Int) != (m : Int)) = false := by simp
        have l3 : (lock != lock) = false := by simp
        go_wp2_with fail
        clear c0 c1 c2 c3 c4 c5 l1 l2 l3
        go_loopw [5] (fun i wr => ∃ (k : Nat), k ≤ n ∧ i = .int .i64 k ∧ Hid (∀ j, j < k → eqI (ins.getD j default) (ins'.getD j default) = true) ∧ Hid (Below w1.heap.size w1 wr)) (fun i _ => n - (intOf i).toNat)
        case atStart => exact ⟨0, by omega, rfl, fun j hj => absurd hj (by omega), Below.refl _ _⟩
        case round =>
          obtain ⟨k, hk, rfl, HZ, HBR⟩ := hrel
          have hszr := HBR.out.size
          have c0 : wr.cell? ⟨N, 0, none⟩ = some (.slice a n c) := (HS.out _ HBR.out).1
          by_cases hlt : k < n
          · have e0 : (0 : Int) ≤ (k : Int) := by omega
            have e1 : (k : Int) < (n : Int) := by omega
            have HBD : Hid (Below w1.heap.size w1 wr.drew) := HBR.out.drew
            have d0 : wr.drew.cell? ⟨N, 0, none⟩ = some (.slice a n c) := (HS.out _ HBD.out).1
            have d1 : wr.drew.cell? ⟨N + 1, 0, none⟩ = some (.slice a' n c') := (HS.out _ HBD.out).2.1
            obtain ⟨b1, o1, rfl, hc1⟩ := (HE1.out.1.below HBD.out).at k hlt
            obtain ⟨b2, o2, rfl, hc2⟩ := (HE1.out.2.1.below HBD.out).at k hlt
            obtain ⟨x, hx⟩ : ∃ x, x = ins.getD k default := ⟨_, rfl⟩
            obtain ⟨z, hz⟩ : ∃ z, z = ins'.getD k default := ⟨_, rfl⟩
            change wr.drew.rangeAt b1 (o1 + k * 37) (In.cs (ins.getD k default)) at hc1
            change wr.drew.rangeAt b2 (o2 + k * 37) (In.cs (ins'.getD k default)) at hc2
            rw [← hx] at hc1
            rw [← hz] at hc2
            have HC1 : Hid (wr.drew.rangeAt b1 (o1 + k * 37) x.cs) := hc1
            have HC2 : Hid (wr.drew.rangeAt b2 (o2 + k * 37) z.cs) := hc2
            have HXZ : Hid (x = ins.getD k default ∧ z = ins'.getD k default) := ⟨hx, hz⟩
            clear hc1 hc2 hx hz HBR
            have q1 : ∀ w', (binOp .neq 52 (.agg x.cs.toArray) (.agg z.cs.toArray)).run Tryz.prog w' = .ok (.bool (!eqI x z)) w' := neq_in x z
            have q2 : ∀ (op : BinOp) (u v : Operand) w', (eqGuard op 52 u v (.agg x.cs.toArray) (.agg z.cs.toArray)).run Tryz.prog w' = .ok () w' := fun op u v => guard_in op u v x z
            have q3 : ∀ w', (Op.equalIn 10000 52 (.agg x.cs.toArray) (.agg z.cs.toArray)).run Tryz.prog w' = .ok (eqI x z) w' := equalIn_in x z
            go_wp2_with fail
            refine wp_region_reads HMO.out (by kernel_rfl) ?_
            iterate 4 still_step
            refine still_load_mid rfl 52 _ rfl b1 (o1 + k * 37) rfl x.cs _ HC1.out HDI.out HRI.out (size_in x) ?_
            simp only [Act.put, List.setIfInBounds_toArray, List.set_cons_zero, List.set_cons_succ]
            iterate 4 still_step
            refine still_load_mid rfl 52 _ rfl b2 (o2 + k * 37) rfl z.cs _ HC2.out HDI.out HRI.out (size_in z) ?_
            simp only [Act.put, List.setIfInBounds_toArray, List.set_cons_zero, List.set_cons_succ]
            still_step
            refine wpStill_nil ?_
            clear q1 q2 q3 HC1 HC2 d0 d1 c0
            have HV : Hid (eqI (ins.getD k default) (ins'.getD k default) = eqI x z) := by
              show _ = _
              rw [← HXZ.out.1, ← HXZ.out.2]
            clear HXZ
            generalize eqI x z = r at HV ⊢
            cases r
            · have HQ : Hid (q = false) := HNI.out k (by have h := HL.out; omega) (by have h := HL.out; omega) HV.out
              go_wp2_with fail
              go_ret
              subst hN
              exact ⟨ret_bool HQ.out.symm, HBL.out.trans (HBD.out.mono (by omega))⟩
            · have HZ2 : Hid (∀ j, j < k + 1 → eqI (ins.getD j default) (ins'.getD j default) = true) := fun j hj => by
                by_cases e : j = k
                · subst e; exact HV.out
                · exact HZ.out j (by omega)
              go_wp2_with fail
              go_roundw
              case rel => exact ⟨k + 1, by omega, by go_num, HZ2.out, HBD.out⟩
              case measure => simp [intOf]; omega
          · obtain rfl : k = n := by omega
            go_wp2_with fail
            clear c0
            have HBS : Hid (Below w1.heap.size w1 wr) := HBR.out
            clear HBR
            go_loopw [6] (fun i wr => ∃ (k : Nat), k ≤ m ∧ i = .int .i64 k ∧ Hid (∀ j, j < k → eqO (outs.getD j default) (outs'.getD j default) = true) ∧ Hid (Below w1.heap.size w1 wr)) (fun i _ => m - (intOf i).toNat)
            case atStart => exact ⟨0, by omega, rfl, fun j hj => absurd hj (by omega), HBS.out⟩
            case round =>
              obtain ⟨i, hi, rfl, HY, HBR⟩ := hrel
              have hszr := HBR.out.size
              have c0 : wr.cell? ⟨N, 1, none⟩ = some (.slice b m d) := (HS.out _ HBR.out).2.2.1
              by_cases hlt : i < m
              · have e0 : (0 : Int) ≤ (i : Int) := by omega
                have e1 : (i : Int) < (m : Int) := by omega
                have HBD : Hid (Below w1.heap.size w1 wr.drew) := HBR.out.drew
                have d0 : wr.drew.cell? ⟨N, 1, none⟩ = some (.slice b m d) := (HS.out _ HBD.out).2.2.1
                have d1 : wr.drew.cell? ⟨N + 1, 1, none⟩ = some (.slice b' m d') := (HS.out _ HBD.out).2.2.2.1
                obtain ⟨b1, o1, rfl, hc1⟩ := (HE1.out.2.2.1.below HBD.out).at i hlt
                obtain ⟨b2, o2, rfl, hc2⟩ := (HE1.out.2.2.2.below HBD.out).at i hlt
                obtain ⟨x, hx⟩ : ∃ x, x = outs.getD i default := ⟨_, rfl⟩
                obtain ⟨z, hz⟩ : ∃ z, z = outs'.getD i default := ⟨_, rfl⟩
                change wr.drew.rangeAt b1 (o1 + i * 39) (Out.cs (outs.getD i default)) at hc1
                change wr.drew.rangeAt b2 (o2 + i * 39) (Out.cs (outs'.getD i default)) at hc2
                rw [← hx] at hc1
                rw [← hz] at hc2
                have HC1 : Hid (wr.drew.rangeAt b1 (o1 + i * 39) x.cs) := hc1
                have HC2 : Hid (wr.drew.rangeAt b2 (o2 + i * 39) z.cs) := hc2
                have HXZ : Hid (x = outs.getD i default ∧ z = outs'.getD i default) := ⟨hx, hz⟩
                clear hc1 hc2 hx hz HBR
                have q1 : ∀ w', (binOp .neq 56 (.agg x.cs.toArray) (.agg z.cs.toArray)).run Tryz.prog w' = .ok (.bool (!eqO x z)) w' := neq_out x z
                have q2 : ∀ (op : BinOp) (u v : Operand) w', (eqGuard op 56 u v (.agg x.cs.toArray) (.agg z.cs.toArray)).run Tryz.prog w' = .ok () w' := fun op u v => guard_out op u v x z
                have q3 : ∀ w', (Op.equalIn 10000 56 (.agg x.cs.toArray) (.agg z.cs.toArray)).run Tryz.prog w' = .ok (eqO x z) w' := equalIn_out x z
                go_wp2_with fail
                refine wp_region_reads HMO.out (by kernel_rfl) ?_
                iterate 4 still_step
                refine still_load_mid rfl 56 _ rfl b1 (o1 + i * 39) rfl x.cs _ HC1.out HDO.out HRO.out (size_out x) ?_
                simp only [Act.put, List.setIfInBounds_toArray, List.set_cons_zero, List.set_cons_succ]
                iterate 4 still_step
                refine still_load_mid rfl 56 _ rfl b2 (o2 + i * 39) rfl z.cs _ HC2.out HDO.out HRO.out (size_out z) ?_
                simp only [Act.put, List.setIfInBounds_toArray, List.set_cons_zero, List.set_cons_succ]
                still_step
                refine wpStill_nil ?_
                clear q1 q2 q3 HC1 HC2 d0 d1 c0
                have HV : Hid (eqO (outs.getD i default) (outs'.getD i default) = eqO x z) := by
                  show _ = _
                  rw [← HXZ.out.1, ← HXZ.out.2]
                clear HXZ
                generalize eqO x z = r at HV ⊢
                cases r
                · have HQ : Hid (q = false) := HNO.out i (by have h := HL.out; omega) (by have h := HL.out; omega) HV.out
                  go_wp2_with fail
                  go_ret
                  subst hN
                  exact ⟨ret_bool HQ.out.symm, HBL.out.trans (HBD.out.mono (by omega))⟩
                · have HZ2 : Hid (∀ j, j < i + 1 → eqO (outs.getD j default) (outs'.getD j default) = true) := fun j hj => by
                    by_cases e : j = i
                    · subst e; exact HV.out
                    · exact HY.out j (by omega)
                  go_wp2_with fail
                  go_roundw
                  case rel => exact ⟨i + 1, by omega, by go_num, HZ2.out, HBD.out⟩
                  case measure => simp [intOf]; omega
              · obtain rfl : i = m := by omega
                have HQ : Hid (q = true) := HYES.out (by first | rfl | trivial) (by have h := HL.out; omega) (by have h := HL.out; omega) (fun j hj => HZ.out j (by have h := HL.out; omega)) (fun j hj => HY.out j (by have h := HL.out; omega))
                go_wp2_with fail
                go_ret
                subst hN
                exact ⟨ret_bool HQ.out.symm, HBL.out.trans (HBR.out.mono (by omega))⟩
      · have HQ : Hid (q = false) := HSL.out hll
        have l1 : ((n : Int) != (n : Int)) = false := by simp
        have l2 : ((m : Int) != (m : Int)) = false := by simp
        have l3 : (lock != lock') = true := by simp [hll]
        go_wp2_with fail
        go_ret
        subst hN
        exact ⟨ret_bool HQ.out.symm, HBL.out⟩
    · have HQ : Hid (q = false) := HSO.out (by have h := HL.out; omega)
      have l1 : ((n : Int) != (n : Int)) = false := by simp
      have l2 : ((m : Int) != (m' : Int)) = true := by simp; omega
      go_wp2_with fail
      go_ret
      subst hN
      exact ⟨ret_bool HQ.out.symm, HBL.out⟩
  · have HQ : Hid (q = false) := HSI.out (by have h := HL.out; omega)
    have l1 : ((n : Int) != (n' : Int)) = true := by simp; omega
    go_wp2_with fail
    go_ret
    subst hN
    exact ⟨ret_bool HQ.out.symm, HBL.out⟩
end Go.Proofs.YteikbpkjikacmaaGreatDoor
