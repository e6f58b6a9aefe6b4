/- The document's own Wit, Weight, Spends, Conflict, Same. -/
import Derived.Test.YteikbpkjikacmaaGreatDoorZX3
namespace Go.Proofs.YteikbpkjikacmaaGreatDoor
open Go.ChangeShapes Go.WideShapes Go.ChangeAt Go.RowKit

set_option maxHeartbeats 1000000 in
theorem rwit_any (k : Int) (w : World) :
    Calls Tryz.prog 18 #[.int .i64 k] w fun e w' => e = .returned (.int .i64 (witN k)) ∧ w = w' := by
  by_cases h1 : k = 1
  · subst h1
    go_enter Tryz.func18, Tryz.ntmps18
    go_wp2
    go_ret
    exact ⟨rfl, rfl⟩
  by_cases h2 : k = 2
  · subst h2
    go_enter Tryz.func18, Tryz.ntmps18
    go_wp2
    go_ret
    exact ⟨rfl, rfl⟩
  by_cases h3 : k = 3
  · subst h3
    go_enter Tryz.func18, Tryz.ntmps18
    go_wp2
    go_ret
    exact ⟨rfl, rfl⟩
  by_cases h4 : k = 4
  · subst h4
    go_enter Tryz.func18, Tryz.ntmps18
    go_wp2
    go_ret
    exact ⟨rfl, rfl⟩
  have hw : witN k = 0 := by unfold witN; rw [if_neg h1, if_neg h2, if_neg h3, if_neg h4]
  rw [hw]
  have e1 : (k == 1) = false := beq_eq_false_iff_ne.2 h1
  have e2 : (k == 2) = false := beq_eq_false_iff_ne.2 h2
  have e3 : (k == 3) = false := beq_eq_false_iff_ne.2 h3
  have e4 : (k == 4) = false := beq_eq_false_iff_ne.2 h4
  clear h1 h2 h3 h4 hw
  go_enter Tryz.func18, Tryz.ntmps18
  go_wp2
  go_ret
  exact ⟨rfl, rfl⟩

set_option maxRecDepth 100000 in
set_option maxHeartbeats 4000000 in
theorem rweight_any (v : TxV) (t : TxD) (w : World) (h : TxAt w v t) (hn : v.n ≤ 100000) (hm : v.m ≤ 100000) :
    Calls Tryz.prog 16 #[v.val t.lock] w fun e w' => e = .returned (.int .i64 (weiN t)) ∧ Below w.heap.size w w' := by
  have HWN : Hid (weiN t = 4 * (10 + 41 * v.n + 34 * v.m) + witS t.ins) := show _ = _ by unfold weiN; rw [h.ins.len, h.outs.len]
  have HLI : Hid (t.ins.length = v.n) := h.ins.len
  have HIN : Hid (Els w v.a v.n v.c t.ins) := h.ins
  clear h
  obtain ⟨ins, outs, lock⟩ := t
  obtain ⟨a, n, c, b, m, d⟩ := v
  generalize weiN _ = E at *
  unfold TxV.val
  simp only at *
  go_enter Tryz.func16, Tryz.ntmps16
  go_upto_region 1 with fail
  generalize hwv : World.alloc w _ = w1
  have HB0 : Hid (Blk w1 w.heap.size [.slice a n c, .slice b m d, .int .i64 lock]) := by rw [← hwv]; exact Blk.mk _ _ _ rfl rfl
  have HBL : Hid (Below w.heap.size w w1) := by rw [← hwv]; exact (Below.refl _ _).alloc (Nat.le_refl _) _
  clear hwv
  have HI1 : Hid (Els w1 a n c ins) := HIN.out.below HBL.out
  clear HIN
  generalize hN : w.heap.size = N at *
  have c0 : w1.cell? ⟨N, 0, none⟩ = some (.slice a n c) := HB0.out.one rfl
  have c1 : w1.cell? ⟨N, 1, none⟩ = some (.slice b m d) := HB0.out.one rfl
  clear HB0
  go_wp2_with fail
  go_loop [3, 4] (fun s i => ∃ (k : Nat) (z : Int), k ≤ n ∧ s = .int .i64 z ∧ i = .int .i64 k ∧ 0 ≤ z ∧ z ≤ 30000040 + 107 * k ∧ Hid (z = 4 * (10 + 41 * (n : Int) + 34 * (m : Int)) + witS (ins.take k))) (fun _ i => n - (intOf i).toNat)
  case atStart => exact ⟨0, 4 * (10 + 41 * (n : Int) + 34 * (m : Int)), by omega, by first | rfl | (congr 1; omega), rfl, by omega, by omega, show _ = _ by simp [witS]⟩
  case round =>
    obtain ⟨k, z, hk, rfl, rfl, hz0, hz1, HZ⟩ := hrel
    by_cases hlt : k < n
    · have e0 : (0 : Int) ≤ (k : Int) := by omega
      have e1 : (k : Int) < (n : Int) := by omega
      obtain ⟨bb, o, rfl, hc⟩ := HI1.out.at k hlt
      obtain ⟨x, hx⟩ : ∃ x, x = ins.getD k default := ⟨_, rfl⟩
      change w1.rangeAt bb (o + k * 37) (In.cs (ins.getD k default)) at hc
      rw [← hx] at hc
      have HNX : Hid (witS (ins.take (k + 1)) = witS (ins.take k) + witN x.kind) := by
        show _ = _
        rw [hx]; exact witS_next ins k (by rw [HLI.out]; exact hlt)
      have c2 : w1.cell? ⟨bb, o + k * 37 + 34, none⟩ = some (.int .i64 x.kind) := hc 34 _ x.kind_at
      clear hc hx
      obtain ⟨r0, r1⟩ := witN_range x.kind
      have HWT : Hid (∀ w, Calls Tryz.prog 18 #[.int .i64 x.kind] w fun e w' => e = .returned (.int .i64 (witN x.kind)) ∧ w = w') := fun w => rwit_any x.kind w
      generalize witN x.kind = y at *
      go_wp2_with fail
      refine Calls.mono (HWT.out _) ?_
      rintro e w3 ⟨rfl, rfl⟩
      go_wp2_with fail
      go_round
      case rel => exact ⟨k + 1, z + y, by omega, rfl, by go_num, by omega, by omega, show _ = _ by rw [HNX.out]; have := HZ.out; omega⟩
      case measure => simp [intOf]; omega
    · obtain rfl : k = n := by omega
      rw [List.take_of_length_le (by rw [HLI.out]; exact Nat.le_refl _)] at HZ
      go_wp2_with fail
      go_ret
      subst hN
      exact ⟨ret_int (by rw [HWN.out]; exact HZ.out), HBL.out⟩
set_option maxRecDepth 100000 in
set_option maxHeartbeats 4000000 in
theorem rspends_any (v : TxV) (t : TxD) (p : Pt) (w : World) (h : TxAt w v t) (hn : v.n ≤ 100000) :
    Calls Tryz.prog 20 #[v.val t.lock, .agg p.cs.toArray] w fun e w' => e = .returned (.int .i64 (spN p t.ins 0)) ∧ Below w.heap.size w w' := by
  have HMO := follows_mixed
  have HLI : Hid (t.ins.length = v.n) := h.ins.len
  have HIN : Hid (Els w v.a v.n v.c t.ins) := h.ins
  clear h
  obtain ⟨ins, outs, lock⟩ := t
  obtain ⟨a, n, c, b, m, d⟩ := v
  unfold TxV.val
  simp only at *
  go_enter Tryz.func20, Tryz.ntmps20
  go_upto_region 1 with fail
  generalize hwv : World.alloc (World.alloc w _) _ = w1
  have HB0 : Hid (Blk w1 w.heap.size [.slice a n c, .slice b m d, .int .i64 lock]) := by rw [← hwv]; exact (Blk.mk _ _ _ rfl rfl).alloc _
  have HB1 : Hid (Blk w1 (w.heap.size + 1) p.cs) := by rw [← hwv]; exact Blk.mk _ _ _ (by simp) rfl
  have HBL : Hid (Below w.heap.size w w1) := by rw [← hwv]; exact ((Below.refl _ _).alloc (Nat.le_refl _) _).alloc (by simp) _
  clear hwv
  have HI1 : Hid (Els w1 a n c ins) := HIN.out.below HBL.out
  clear HIN
  generalize hN : w.heap.size = N at *
  have hs1 := HB1.out.lt
  go_wp2_with fail
  go_loopw [5] (fun i wr => ∃ (k : Nat), k ≤ n ∧ i = .int .i64 k ∧ Hid (spN p ins 0 = spN p (ins.drop k) k) ∧ Hid (Below w1.heap.size w1 wr)) (fun i _ => n - (intOf i).toNat)
  case atStart => exact ⟨0, by omega, rfl, show _ = _ by simp, Below.refl _ _⟩
  case round =>
    obtain ⟨k, hk, rfl, HZ, HBR⟩ := hrel
    have HBW : Hid (Blk wr N [.slice a n c, .slice b m d, .int .i64 lock]) := HB0.out.below HBR.out HB0.out.lt
    have c0 : wr.cell? ⟨N, 0, none⟩ = some (.slice a n c) := HBW.out.one rfl
    have hszr := HBR.out.size
    by_cases hlt : k < n
    · have e0 : (0 : Int) ≤ (k : Int) := by omega
      have e1 : (k : Int) < (n : Int) := by omega
      have d0 : wr.drew.cell? ⟨N, 0, none⟩ = some (.slice a n c) := c0
      obtain ⟨bb, o, rfl, hc⟩ := (HI1.out.below HBR.out.drew).at k hlt
      obtain ⟨x, hx⟩ : ∃ x, x = ins.getD k default := ⟨_, rfl⟩
      change wr.drew.rangeAt bb (o + k * 37) (In.cs (ins.getD k default)) at hc
      rw [← hx] at hc
      have HNX : Hid (spN p ins 0 = if x.prev = p then (k : Int) else spN p (ins.drop (k + 1)) (k + 1 : Nat)) := by
        show _ = _
        rw [hx, HZ.out]; exact spN_drop (by rw [HLI.out]; exact hlt)
      have HC : Hid (wr.drew.rangeAt bb (o + k * 37) x.prev.cs) := In.prev_at hc
      have HP : Hid (wr.drew.rangeAt (N + 1) 0 p.cs) := (HB1.out.below HBR.out.drew hs1).whole
      have HBD : Hid (Below w1.heap.size w1 wr.drew) := HBR.out.drew
      clear hc hx HBW HBR HZ
      have q1 : ∀ w', (binOp .eql 30 (.agg x.prev.cs.toArray) (.agg p.cs.toArray)).run Tryz.prog w' = .ok (.bool (decide (x.prev = p))) w' := eql_pt x.prev p
      have q2 : ∀ (op : BinOp) (u v : Operand) w', (eqGuard op 30 u v (.agg x.prev.cs.toArray) (.agg p.cs.toArray)).run Tryz.prog w' = .ok () w' := fun op u v => guard_pt op u v x.prev p
      have q3 : ∀ w', (Op.equalIn 10000 30 (.agg x.prev.cs.toArray) (.agg p.cs.toArray)).run Tryz.prog w' = .ok (decide (x.prev = p)) w' := equalIn_pt x.prev p
      go_wp2_with fail
      refine wp_region_reads HMO.out (by kernel_rfl) ?_
      iterate 5 still_step
      refine still_load_mid rfl 30 _ rfl bb (o + k * 37) rfl x.prev.cs _ HC.out und_pt.out rfl (size_pt x.prev) ?_
      simp only [Act.put, List.setIfInBounds_toArray, List.set_cons_zero, List.set_cons_succ]
      refine still_load_mid rfl 30 _ rfl (N + 1) 0 rfl p.cs _ HP.out und_pt.out rfl (size_pt p) ?_
      simp only [Act.put, List.setIfInBounds_toArray, List.set_cons_zero, List.set_cons_succ]
      still_step
      refine wpStill_nil ?_
      by_cases hxp : x.prev = p
      · have HE : Hid (spN p ins 0 = k) := show _ = _ by rw [HNX.out, if_pos hxp]
        rw [show decide (x.prev = p) = true from decide_eq_true hxp]
        clear q1 q2 q3 hxp HC HP
        go_wp2_with fail
        go_ret
        subst hN
        exact ⟨ret_int HE.out.symm, HBL.out.trans (HBD.out.mono (by omega))⟩
      · have HE : Hid (spN p ins 0 = spN p (ins.drop (k + 1)) (k + 1 : Nat)) := show _ = _ by rw [HNX.out, if_neg hxp]
        rw [show decide (x.prev = p) = false from decide_eq_false hxp]
        clear q1 q2 q3 hxp HC HP
        go_wp2_with fail
        go_roundw
        case rel => exact ⟨k + 1, by omega, by go_num, HE.out, HBD.out⟩
        case measure => simp [intOf]; omega
    · obtain rfl : k = n := by omega
      have HE : Hid (spN p ins 0 = -1) := show _ = _ by rw [HZ.out, List.drop_of_length_le (by rw [HLI.out]; exact Nat.le_refl _)]; rfl
      go_wp2_with fail
      go_ret
      subst hN
      exact ⟨ret_int HE.out.symm, HBL.out.trans (HBR.out.mono (by omega))⟩
end Go.Proofs.YteikbpkjikacmaaGreatDoor
