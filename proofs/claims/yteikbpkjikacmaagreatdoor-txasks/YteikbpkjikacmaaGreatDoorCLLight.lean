/- coraclealike.Light. -/
import Derived.Test.YteikbpkjikacmaaGreatDoorZX3
namespace Go.Proofs.YteikbpkjikacmaaGreatDoor
open Go.ChangeShapes Go.WideShapes Go.ChangeAt Go.RowKit

/-- Has it few parts, and short preimages? -/
def lightB (t : TxD) (k : Nat) : Bool := decide (t.ins.length ≤ k) && decide (t.outs.length ≤ k) && t.ins.all (fun x => decide (x.pre.size ≤ 200))
theorem light_small {t : TxD} {k : Nat} (h : lightB t k = true) : t.ins.length ≤ k ∧ t.outs.length ≤ k := by
  unfold lightB at h
  simp only [Bool.and_eq_true, decide_eq_true_eq] at h
  exact h.1
set_option maxRecDepth 100000 in
set_option maxHeartbeats 2000000 in
theorem light_big (v : TxV) (lock : Int) (k : Nat) (w : World) (hb : k < v.n ∨ k < v.m) :
    Calls Tryz.prog 4 #[v.val lock, .int .i64 k] w fun e w' => e = .returned (.bool false) ∧ Below w.heap.size w w' := by
  obtain ⟨a, n, c, b, m, d⟩ := v
  unfold TxV.val
  have HB : Hid (Below w.heap.size w (w.alloc (.cells #[.slice a n c, .slice b m d, .int .i64 lock] 25))) := (Below.refl _ _).alloc (Nat.le_refl _) _
  simp only at hb
  by_cases h1 : k < n
  all_goals
    try (have h2 : k < m := by omega)
    clear hb
    go_enter Tryz.func4, Tryz.ntmps4
    go_wp2_with fail
    go_ret
    exact ⟨rfl, HB.out⟩
set_option maxRecDepth 100000 in
set_option maxHeartbeats 4000000 in
theorem light_some (v : TxV) (t : TxD) (k : Nat) (w : World) (h : TxAt w v t) (hn : v.n ≤ k) (hm : v.m ≤ k) (hk : k ≤ 1000) :
    Calls Tryz.prog 4 #[v.val t.lock, .int .i64 k] w fun e w' => e = .returned (.bool (lightB t k)) ∧ Below w.heap.size w w' := by
  have HL : Hid (lightB t k = t.ins.all (fun x => decide (x.pre.size ≤ 200))) := by
    show _ = _
    unfold lightB; rw [h.ins.len, h.outs.len, decide_eq_true hn, decide_eq_true hm]; rfl
  have HLI : Hid (t.ins.length = v.n) := h.ins.len
  have HIN : Hid (Els w v.a v.n v.c t.ins) := h.ins
  have HBW : Hid (Below w.heap.size w (w.alloc (.cells #[.slice v.a v.n v.c, .slice v.b v.m v.d, .int .i64 t.lock] 25)) ∧ Blk (w.alloc (.cells #[.slice v.a v.n v.c, .slice v.b v.m v.d, .int .i64 t.lock] 25)) w.heap.size [.slice v.a v.n v.c, .slice v.b v.m v.d, .int .i64 t.lock]) := ⟨(Below.refl _ _).alloc (Nat.le_refl _) _, Blk.new _ _ _⟩
  clear h
  obtain ⟨ins, outs, lock⟩ := t
  obtain ⟨a, n, c, b, m, d⟩ := v
  generalize lightB _ k = E at *
  unfold TxV.val
  simp only at *
  go_enter Tryz.func4, Tryz.ntmps4
  go_upto_region 1 with fail
  generalize World.alloc w _ = w1 at *
  have HB1 : Hid (Below w.heap.size w w1) := HBW.out.1
  generalize hN : w.heap.size = N at *
  have c0 : w1.cell? ⟨N, 0, none⟩ = some (.slice a n c) := HBW.out.2.one rfl
  have c1 : w1.cell? ⟨N, 1, none⟩ = some (.slice b m d) := HBW.out.2.one rfl
  have HI1 : Hid (Els w1 a n c ins) := HIN.out.below (hN ▸ HB1.out)
  clear HBW HIN
  go_wp2_with fail
  go_loopw [5] (fun i wr => ∃ j : Nat, j ≤ n ∧ i = .int .i64 j ∧ Hid (∀ q, q < j → decide ((ins.getD q default).pre.size ≤ 200) = true) ∧ wr = w1) (fun i _ => n - (intOf i).toNat)
  case atStart => exact ⟨0, by omega, rfl, fun j hj => absurd hj (Nat.not_lt_zero _), rfl⟩
  case round =>
    obtain ⟨j, hj, rfl, HALL, rfl⟩ := hrel
    by_cases hlt : j < n
    · have e0 : (0 : Int) ≤ (j : Int) := by omega
      have e1 : (j : Int) < (n : Int) := by omega
      obtain ⟨bb, o, rfl, hc⟩ := HI1.out.at j hlt
      obtain ⟨x, hx⟩ : ∃ x, x = ins.getD j default := ⟨_, rfl⟩
      change wr.rangeAt bb (o + j * 37) (In.cs (ins.getD j default)) at hc
      rw [← hx] at hc
      have p1 : wr.cell? ⟨bb, o + j * 37 + 36, none⟩ = some (.string x.pre) := hc 36 _ x.pre_at
      have p2 : wr.cell? ⟨bb, o + j * 37 + 34 + 2, none⟩ = some (.string x.pre) := p1
      have HX : Hid (x = ins.getD j default) := hx
      clear hc hx
      by_cases hs : x.pre.size ≤ 200
      · have d1 : decide (200 < (x.pre.size : Int)) = false := decide_eq_false (by omega)
        have HS : Hid (x.pre.size ≤ 200) := hs
        clear hs
        go_wp2_with fail
        go_roundw
        case rel =>
          refine ⟨j + 1, by omega, by go_num, fun q hq => ?_, by trivial⟩
          by_cases e : q = j
          · rw [e, ← HX.out]; exact decide_eq_true HS.out
          · exact HALL.out q (by omega)
        case measure => simp [intOf]; omega
      · have d1 : decide (200 < (x.pre.size : Int)) = true := decide_eq_true (by omega)
        have HE : Hid (E = false) := by
          show _ = _
          rw [HL.out]
          exact all_false (f := fun x : In => decide (x.pre.size ≤ 200)) (d := default) (k := j) (by rw [HLI.out]; exact hlt) (by rw [← HX.out]; exact decide_eq_false hs)
        clear hs
        go_wp2_with fail
        go_ret
        subst hN
        exact ⟨ret_bool HE.out.symm, HB1.out⟩
    · obtain rfl : j = n := by omega
      have HE : Hid (E = true) := by
        show _ = _
        rw [HL.out]
        exact all_true (f := fun x : In => decide (x.pre.size ≤ 200)) (d := default) fun q hq => HALL.out q (by rw [HLI.out] at hq; exact hq)
      go_wp2_with fail
      go_ret
      subst hN
      exact ⟨ret_bool HE.out.symm, HB1.out⟩
theorem light_any (v : TxV) (t : TxD) (k : Nat) (w : World) (h : TxAt w v t) (hk : k ≤ 1000) :
    Calls Tryz.prog 4 #[v.val t.lock, .int .i64 k] w fun e w' => e = .returned (.bool (lightB t k)) ∧ Below w.heap.size w w' := by
  by_cases hb : k < v.n ∨ k < v.m
  · have : lightB t k = false := by
      cases hl : lightB t k with
      | false => rfl
      | true => have := light_small hl; rw [h.ins.len, h.outs.len] at this; omega
    rw [this]
    exact light_big v t.lock k w hb
  · exact light_some v t k w h (by omega) (by omega) hk
end Go.Proofs.YteikbpkjikacmaaGreatDoor
