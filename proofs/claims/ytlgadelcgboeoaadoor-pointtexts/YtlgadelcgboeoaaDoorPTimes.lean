/- coraclealike.Points; the document's own Times. -/
import Derived.Test.YtlgadelcgboeoaaDoorPHas
namespace Go.Proofs.YtlgadelcgboeoaaDoor
open Go.ChangeShapes Go.WideShapes Go.ChangeAt Go.RowKit

theorem ext_getD {l r : List Pt} (hl : l.length = r.length) (h : ∀ j, j < l.length → l.getD j default = r.getD j default) : l = r := by
  apply List.ext_getElem hl
  intro j h1 h2
  have := h j h1
  rw [List.getD_eq_getElem?_getD, List.getD_eq_getElem?_getD, List.getElem?_eq_getElem h1, List.getElem?_eq_getElem h2] at this
  exact this

set_option maxRecDepth 100000 in
set_option maxHeartbeats 4000000 in
theorem points_any (a : Option Addr) (n cap : Nat) (l : List Pt) (a2 : Option Addr) (m cap2 : Nat) (r : List Pt) (w : World) (hp : Pts w a n cap l) (hr : Pts w a2 m cap2 r) (hn : n ≤ 100000) (hm : m ≤ 100000) :
    Calls Tryd.prog 9 #[.slice a n cap, .slice a2 m cap2] w fun e w' => e = .returned (.bool (decide (l = r))) ∧ Below w.heap.size w w' := by
  have HU := und_pt
  have HMO := follows_mixed
  have HL : Hid (l.length = n) := hp.len
  have HR : Hid (r.length = m) := hr.len
  have HP : Hid (Pts w a n cap l) := hp
  have HPR : Hid (Pts w a2 m cap2 r) := hr
  clear hp hr
  go_enter Tryd.func9, Tryd.ntmps9
  by_cases hnm : n = m
  · subst hnm
    go_wp2_with fail
    go_loopw [5] (fun i wr => ∃ k : Nat, k ≤ n ∧ i = .int .i64 k ∧ Hid (∀ j, j < k → l.getD j default = r.getD j default) ∧ Below w.heap.size w wr) (fun i _ => n - (intOf i).toNat)
    case atStart => exact ⟨0, by omega, rfl, fun j hj => absurd hj (Nat.not_lt_zero _), Below.refl _ _⟩
    case round =>
      obtain ⟨k, hk, rfl, HE, hbk⟩ := hrel
      by_cases hlt : k < n
      · have e0 : (0 : Int) ≤ (k : Int) := by omega
        have e1 : (k : Int) < (n : Int) := by omega
        have hbd : Below w.heap.size w wr.drew := hbk.drew
        obtain ⟨b, o, rfl, hc⟩ := (HP.out.below hbd).at k hlt
        obtain ⟨b2, o2, rfl, hc2⟩ := (HPR.out.below hbd).at k hlt
        obtain ⟨x, hx⟩ : ∃ x, x = l.getD k default := ⟨_, rfl⟩
        obtain ⟨y, hy⟩ : ∃ y, y = r.getD k default := ⟨_, rfl⟩
        rw [← hx] at hc
        rw [← hy] at hc2
        have HX : Hid (x = l.getD k default) := hx
        have HY : Hid (y = r.getD k default) := hy
        have HC : Hid (wr.drew.rangeAt b (o + k * 33) x.cs) := hc
        have HC2 : Hid (wr.drew.rangeAt b2 (o2 + k * 33) y.cs) := hc2
        have HB : Hid (Below w.heap.size w wr.drew) := hbd
        clear hx hy hc hc2 hbk hbd
        have q1 : ∀ w', (binOp .neq 26 (.agg x.cs.toArray) (.agg y.cs.toArray)).run Tryd.prog w' = .ok (.bool (!decide (x = y))) w' := neq_pt x y
        have q2 : ∀ (op : BinOp) (u v : Operand) w', (eqGuard op 26 u v (.agg x.cs.toArray) (.agg y.cs.toArray)).run Tryd.prog w' = .ok () w' := fun op u v => guard_pt op u v x y
        have q3 : ∀ w', (Op.equalIn 10000 26 (.agg x.cs.toArray) (.agg y.cs.toArray)).run Tryd.prog w' = .ok (decide (x = y)) w' := equalIn_pt x y
        go_wp2_with fail
        refine wp_region_reads HMO.out (by kernel_rfl) ?_
        iterate 3 still_step
        refine still_load_mid rfl 26 _ rfl b (o + k * 33) rfl x.cs _ HC.out HU.out rfl (size_pt x) ?_
        simp only [Act.put, List.setIfInBounds_toArray, List.set_cons_zero, List.set_cons_succ]
        iterate 3 still_step
        refine still_load_mid rfl 26 _ rfl b2 (o2 + k * 33) rfl y.cs _ HC2.out HU.out rfl (size_pt y) ?_
        simp only [Act.put, List.setIfInBounds_toArray, List.set_cons_zero, List.set_cons_succ]
        still_step
        refine wpStill_nil ?_
        by_cases hxy : x = y
        · have hd : decide (x = y) = true := decide_eq_true hxy
          have HXY : Hid (x = y) := hxy
          rw [hd]
          clear q1 q2 q3 HC HC2 hd hxy
          go_wp2_with fail
          go_roundw
          case rel =>
            refine ⟨k + 1, by omega, by go_num, fun j hj => ?_, HB.out⟩
            by_cases e : j = k
            · subst e; rw [← HX.out, ← HY.out]; exact HXY.out
            · exact HE.out j (by omega)
          case measure => simp [intOf]; omega
        · have hd : decide (x = y) = false := decide_eq_false hxy
          have HRES : Hid (decide (l = r) = false) := by
            refine decide_eq_false fun e => hxy ?_
            rw [HX.out, HY.out, e]
          rw [hd]
          clear q1 q2 q3 HC HC2 hd hxy
          go_wp2_with fail
          go_ret
          exact ⟨ret_bool HRES.out.symm, HB.out⟩
      · obtain rfl : k = n := by omega
        have HRES : Hid (decide (l = r) = true) := decide_eq_true (ext_getD (by rw [HL.out, HR.out]) (by rw [HL.out]; exact HE.out))
        go_wp2_with fail
        go_ret
        exact ⟨ret_bool HRES.out.symm, hbk⟩
  · have HRES : Hid (decide (l = r) = false) := by
      refine decide_eq_false fun e => hnm ?_
      rw [← HL.out, ← HR.out, e]
    have hd : ((n : Int) == (m : Int)) = false := by simpa using (by omega : ¬ (n : Int) = (m : Int))
    go_wp2_with fail
    go_ret
    exact ⟨ret_bool HRES.out.symm, Below.refl _ _⟩

theorem count_take (l : List Pt) (p : Pt) (k : Nat) (h : k < l.length) : (l.take (k + 1)).count p = (l.take k).count p + if l.getD k default = p then 1 else 0 := by
  rw [List.take_add_one, List.getElem?_eq_getElem h, List.getD_eq_getElem?_getD, List.getElem?_eq_getElem h]
  simp only [Option.toList_some, Option.getD_some, List.count_append, List.count_singleton]
  congr 1
  by_cases e : l[k] = p <;> simp [e]

set_option maxRecDepth 100000 in
set_option maxHeartbeats 4000000 in
theorem times_any (a : Option Addr) (n cap : Nat) (l : List Pt) (p : Pt) (w : World) (hp : Pts w a n cap l) (hn : n ≤ 100000) :
    Calls Tryd.prog 17 #[.slice a n cap, .agg p.cs.toArray] w fun e w' => e = .returned (.int .i64 ((l.count p : Nat) : Int)) ∧ Below w.heap.size w w' := by
  have HU := und_pt
  have HMO := follows_mixed
  have HL : Hid (l.length = n) := hp.len
  go_enter Tryd.func17, Tryd.ntmps17
  go_upto_region 1 with fail
  generalize hw1 : World.alloc w _ = w1
  have hA1 : Blk w1 w.heap.size p.cs := by rw [← hw1]; exact Blk.new _ _ _
  have hb1 : Below w.heap.size w w1 := by rw [← hw1]; exact (Below.refl _ _).alloc (Nat.le_refl _) _
  have HP1 : Hid (Pts w1 a n cap l) := hp.below hb1
  clear hw1 hp
  generalize hN : w.heap.size = N at *
  have HA1 : Hid (Blk w1 N p.cs) := hA1
  clear hA1
  go_wp2_with fail
  go_loopw [5, 6] (fun c i wr => ∃ k t : Nat, k ≤ n ∧ c = .int .i64 t ∧ i = .int .i64 k ∧ t ≤ k ∧ Hid (t = (l.take k).count p) ∧ Hid (Blk wr N p.cs) ∧ Hid (Pts wr a n cap l) ∧ Below N w wr) (fun _ i _ => n - (intOf i).toNat)
  case atStart => exact ⟨0, 0, by omega, rfl, rfl, Nat.le_refl _, by show 0 = _; simp, HA1.out, HP1.out, hb1⟩
  case round =>
    obtain ⟨k, t, hk, rfl, rfl, htk, HE, HA, HPk, hbk⟩ := hrel
    clear HA1 hb1 HP1
    by_cases hlt : k < n
    · have e0 : (0 : Int) ≤ (k : Int) := by omega
      have e1 : (k : Int) < (n : Int) := by omega
      have hbd : Below wr.heap.size wr wr.drew := (Below.refl _ _).drew
      obtain ⟨b, o, rfl, hc⟩ := (HPk.out.below hbd).at k hlt
      obtain ⟨x, hx⟩ : ∃ x, x = l.getD k default := ⟨_, rfl⟩
      rw [← hx] at hc
      have HX : Hid (x = l.getD k default) := hx
      have HC : Hid (wr.drew.rangeAt b (o + k * 33) x.cs) := hc
      have HC2 : Hid (wr.drew.rangeAt N 0 p.cs) := HA.out.drew.whole
      have HB : Hid (Below N w wr.drew ∧ Pts wr.drew (some ⟨b, o, none⟩) n cap l ∧ Blk wr.drew N p.cs) := ⟨hbk.drew, HPk.out.below hbd, HA.out.drew⟩
      clear hx hc hbk hbd
      have q1 : ∀ w', (binOp .eql 26 (.agg x.cs.toArray) (.agg p.cs.toArray)).run Tryd.prog w' = .ok (.bool (decide (x = p))) w' := eql_pt x p
      have q2 : ∀ (op : BinOp) (u v : Operand) w', (eqGuard op 26 u v (.agg x.cs.toArray) (.agg p.cs.toArray)).run Tryd.prog w' = .ok () w' := fun op u v => guard_pt op u v x p
      have q3 : ∀ w', (Op.equalIn 10000 26 (.agg x.cs.toArray) (.agg p.cs.toArray)).run Tryd.prog w' = .ok (decide (x = p)) w' := equalIn_pt x p
      go_wp2_with fail
      refine wp_region_reads HMO.out (by kernel_rfl) ?_
      iterate 3 still_step
      refine still_load_mid rfl 26 _ rfl b (o + k * 33) rfl x.cs _ HC.out HU.out rfl (size_pt x) ?_
      simp only [Act.put, List.setIfInBounds_toArray, List.set_cons_zero, List.set_cons_succ]
      refine still_load_mid rfl 26 _ rfl N 0 rfl p.cs _ HC2.out HU.out rfl (size_pt p) ?_
      simp only [Act.put, List.setIfInBounds_toArray, List.set_cons_zero, List.set_cons_succ]
      still_step
      refine wpStill_nil ?_
      have HCT := count_take l p k (by rw [HL.out]; exact hlt)
      rw [← HX.out] at HCT
      have HCTT : Hid (_ = _) := HCT
      clear HCT
      by_cases hxy : x = p
      · have hd : decide (x = p) = true := decide_eq_true hxy
        have HXY : Hid (x = p) := hxy
        rw [hd]
        clear q1 q2 q3 HC HC2 hd hxy
        go_wp2_with fail
        go_roundw
        case rel =>
          obtain ⟨h1, h2, h3⟩ := HB.out
          refine ⟨k + 1, t + 1, by omega, by go_num, by go_num, by omega, ?_, h3, h2, h1⟩
          show t + 1 = _
          rw [HCTT.out, if_pos HXY.out, ← HE.out]
        case measure => simp [intOf]; omega
      · have hd : decide (x = p) = false := decide_eq_false hxy
        have HXY : Hid (¬ x = p) := hxy
        rw [hd]
        clear q1 q2 q3 HC HC2 hd hxy
        go_wp2_with fail
        go_roundw
        case rel =>
          obtain ⟨h1, h2, h3⟩ := HB.out
          refine ⟨k + 1, t, by omega, rfl, by go_num, by omega, ?_, h3, h2, h1⟩
          show t = _
          rw [HCTT.out, if_neg HXY.out, ← HE.out, Nat.add_zero]
        case measure => simp [intOf]; omega
    · obtain rfl : k = n := by omega
      go_wp2_with fail
      go_ret
      subst hN
      refine ⟨ret_int ?_, hbk⟩
      rw [HE.out, List.take_of_length_le (by rw [HL.out]; exact Nat.le_refl _)]
end Go.Proofs.YtlgadelcgboeoaaDoor
