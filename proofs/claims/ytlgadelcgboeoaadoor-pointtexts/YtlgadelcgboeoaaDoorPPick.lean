/- point.pick, Both, Minus: those of a row that another one has, and those that it has not. -/
import Derived.Test.YtlgadelcgboeoaaDoorPtD
namespace Go.Proofs.YtlgadelcgboeoaaDoor
open Go.ChangeShapes Go.WideShapes Go.ChangeAt Go.RowKit

theorem filter_take (l : List Pt) (f : Pt → Bool) (k : Nat) (h : k < l.length) : (l.take (k + 1)).filter f = (l.take k).filter f ++ if f (l.getD k default) then [l.getD k default] else [] := by
  rw [List.take_add_one, List.getElem?_eq_getElem h, List.getD_eq_getElem?_getD, List.getElem?_eq_getElem h]
  simp only [Option.toList_some, Option.getD_some, List.filter_append]
  congr 1
  by_cases e : f l[k] = true <;> simp [e]

set_option maxRecDepth 100000 in
set_option maxHeartbeats 4000000 in
theorem pick_any (a : Option Addr) (n cap : Nat) (l : List Pt) (a2 : Option Addr) (m cap2 : Nat) (r : List Pt) (th : Bool) (w : World) (hp : Pts w a n cap l) (hr : Pts w a2 m cap2 r) (hn : n ≤ 100000) (hm : m ≤ 100000) :
    Calls Tryd.prog 27 #[.slice a n cap, .slice a2 m cap2, .bool th] w fun e w' => ∃ v, e = .returned v ∧ Own w' w.heap.size v (l.filter fun x => decide (x ∈ r) == th) ∧ Below w.heap.size w w' := by
  have HU := und_pt
  have HL : Hid (l.length = n) := hp.len
  have HP : Hid (Pts w a n cap l) := hp
  have HPR : Hid (Pts w a2 m cap2 r) := hr
  clear hp hr
  go_enter Tryd.func27, Tryd.ntmps27
  go_wp2_with fail
  refine (sort_any a2 m cap2 r w HPR.out hm).mono ?_
  rintro e w1 ⟨a3, m3, cap3, s, rfl, hinc, hmem, hps, hm3, hb1⟩
  have HINC : Hid (Inc s) := hinc
  have HMEM : Hid (∀ x, x ∈ s ↔ x ∈ r) := hmem
  have HPS : Hid (Pts w1 a3 m3 cap3 s) := hps
  have HP1 : Hid (Pts w1 a n cap l) := HP.out.below hb1
  have HB1 : Hid (Below w.heap.size w w1) := hb1
  clear hinc hmem hps hb1 HP HPR
  generalize hM : w1.heap.size = M
  go_wp2_with fail
  go_loopw [8, 15] (fun v i wr => ∃ (k : Nat) (pl : List Pt), k ≤ n ∧ i = .int .i64 k ∧ pl.length ≤ k ∧ Hid (pl = (l.take k).filter fun x => decide (x ∈ s) == th) ∧ Hid (Own wr M v pl) ∧ Below M w1 wr) (fun _ i _ => n - (intOf i).toNat)
  case atStart => exact ⟨0, [], by omega, rfl, Nat.le_refl _, by show [] = _; simp, Own.nil _ _, Below.refl _ _⟩
  case round =>
    obtain ⟨k, pl, hk, rfl, hplk, HE, HO, hbk⟩ := hrel
    have hMw : M ≤ wr.heap.size := by have := hbk.size; omega
    by_cases hlt : k < n
    · have e0 : (0 : Int) ≤ (k : Int) := by omega
      have e1 : (k : Int) < (n : Int) := by omega
      have HPk : Hid (Pts wr a n cap l) := HP1.out.below (hM ▸ hbk)
      have HPSk : Hid (Pts wr a3 m3 cap3 s) := HPS.out.below (hM ▸ hbk)
      obtain ⟨b, o, rfl, hc⟩ := HPk.out.at k hlt
      obtain ⟨x, hx⟩ : ∃ x, x = l.getD k default := ⟨_, rfl⟩
      rw [← hx] at hc
      have HF := filter_take l (fun x => decide (x ∈ s) == th) k (by rw [HL.out]; exact hlt)
      rw [← hx, ← HE.out] at HF
      have HFF : Hid (_ = _) := HF
      have HC : Hid (wr.rangeAt b (o + k * 33) x.cs) := hc
      have HB : Hid (Below M w1 wr) := hbk
      clear hc hbk HF hx HPk
      go_upto_region 6 with (first
        | (refine wpList_load_mid rfl 26 _ rfl b (o + k * 33) rfl x.cs _ HC.out HU.out rfl (size_pt x) ?_)
        | (refine wpList_store_new rfl _ _ rfl x _ rfl rfl rfl ?_; intro w2 HB2 Hb2))
      have HB2' : Hid (Below M w1 w2) := HB.out.trans (Hb2.out.mono hMw)
      have HO2 : Hid (Own w2 M u8 pl) := HO.out.below Hb2.out
      have HPS2 : Hid (Pts w2 a3 m3 cap3 s) := HPSk.out.below Hb2.out
      clear HC HB HO HPSk
      go_wp2_with (first
        | (refine wpList_load_mid rfl 26 _ rfl wr.heap.size 0 rfl x.cs _ HB2.out.whole HU.out rfl (size_pt x) ?_)
        | fail)
      refine (rowHas_any a3 m3 cap3 s x w2 HPS2.out HINC.out (by omega)).mono ?_
      rintro e w3 ⟨rfl, hb3⟩
      have HB3 : Hid (Blk w3 wr.heap.size x.cs) := HB2.out.below hb3 HB2.out.lt
      have h2s : M ≤ w2.heap.size := by have := Hb2.out.size; omega
      have HB3' : Hid (Below M w1 w3) := HB2'.out.trans (hb3.mono h2s)
      have HO3 : Hid (Own w3 M u8 pl) := HO2.out.below hb3
      have h3s : M ≤ w3.heap.size := by have := hb3.size; omega
      clear HB2 HB2' HO2 HPS2 hb3 Hb2
      generalize hdx : decide (x ∈ s) = dx at *
      have HDX : Hid (decide (x ∈ s) = dx) := hdx
      clear hdx
      by_cases hdt : dx = th
      · subst hdt
        have HO4 : Hid (∀ o, Own (w3.alloc o) M u8 pl ∧ Below M w1 (w3.alloc o)) := fun o => ⟨HO3.out.below ((Below.refl _ _).alloc (Nat.le_refl _) _), HB3'.out.alloc h3s _⟩
        go_upto_region 8 with (first
          | (refine wpList_load_mid rfl 26 _ rfl wr.heap.size 0 rfl x.cs _ HB3.out.whole HU.out rfl (size_pt x) ?_)
          | (refine wpList_build_pts rfl 1 _ rfl [x] rfl (by omega) (by omega) [.tmp 25] rfl rfl ?_)
          | (at_builtin; refine wpList_append_pts rfl _ _ rfl M u8 pl rfl (HO4.out _).1 _ 1 1 [x] rfl (Pts.lit w3 [x] 1 rfl (by omega)) (by omega) (by simp; omega) ?_; intro v4 w4 HO5 HG5 _))
        have HBEL : Hid (Below M w1 w4) := (HO4.out _).2.trans ((HO4.out _).1.grown HG5.out (by simp; omega))
        have HF2 : Hid (pl ++ [x] = (l.take (k + 1)).filter fun x => decide (x ∈ s) == dx) := by
          show _ = _
          rw [HFF.out]; simp
        clear HO4 HG5 HFF
        go_wp2_with fail
        go_roundw
        case rel => exact ⟨k + 1, pl ++ [x], by omega, by go_num, by simp; omega, HF2.out, HO5.out, HBEL.out⟩
        case measure => simp [intOf]; omega
      · have hq : (dx == th) = false := by simpa using hdt
        have HF2 : Hid (pl = (l.take (k + 1)).filter fun x => decide (x ∈ s) == th) := by
          show _ = _
          rw [HFF.out, hq]; simp
        clear HFF
        go_wp2_with fail
        go_roundw
        case rel => exact ⟨k + 1, pl, by omega, by go_num, by omega, HF2.out, HO3.out, HB3'.out⟩
        case measure => simp [intOf]; omega
    · obtain rfl : k = n := by omega
      have HF2 : Hid (pl = l.filter fun x => decide (x ∈ r) == th) := by
        show _ = _
        rw [HE.out, List.take_of_length_le (by rw [HL.out]; exact Nat.le_refl _)]
        apply List.filter_congr
        intro x _
        rw [show decide (x ∈ s) = decide (x ∈ r) by simp [HMEM.out x]]
      go_wp2_with fail
      go_ret
      have h1 := HB1.out.size
      refine ⟨u8, rfl, ?_, HB1.out.trans (hbk.mono (by omega))⟩
      rw [← HF2.out]
      exact HO.out.less (by omega)

set_option maxRecDepth 100000 in
set_option maxHeartbeats 4000000 in
theorem both_any (a : Option Addr) (n cap : Nat) (l : List Pt) (a2 : Option Addr) (m cap2 : Nat) (r : List Pt) (w : World) (hp : Pts w a n cap l) (hr : Pts w a2 m cap2 r) (hn : n ≤ 100000) (hm : m ≤ 100000) :
    Calls Tryd.prog 12 #[.slice a n cap, .slice a2 m cap2] w fun e w' => ∃ v, e = .returned v ∧ Own w' w.heap.size v (l.filter fun x => decide (x ∈ r)) ∧ Below w.heap.size w w' := by
  have HC : Hid (∀ th, Calls Tryd.prog 27 #[.slice a n cap, .slice a2 m cap2, .bool th] w _) := fun th => pick_any a n cap l a2 m cap2 r th w hp hr hn hm
  clear hp hr
  go_enter Tryd.func12, Tryd.ntmps12
  go_wp2_with fail
  refine (HC.out true).mono ?_
  rintro e w1 ⟨v, rfl, ho, hb⟩
  have HO : Hid (Own w1 w.heap.size v _ ∧ Below w.heap.size w w1) := ⟨ho, hb⟩
  clear ho hb HC
  go_wp2_with fail
  go_ret
  refine ⟨v, rfl, ?_, HO.out.2⟩
  have := HO.out.1
  simpa using this

set_option maxRecDepth 100000 in
set_option maxHeartbeats 4000000 in
theorem minus_any (a : Option Addr) (n cap : Nat) (l : List Pt) (a2 : Option Addr) (m cap2 : Nat) (r : List Pt) (w : World) (hp : Pts w a n cap l) (hr : Pts w a2 m cap2 r) (hn : n ≤ 100000) (hm : m ≤ 100000) :
    Calls Tryd.prog 13 #[.slice a n cap, .slice a2 m cap2] w fun e w' => ∃ v, e = .returned v ∧ Own w' w.heap.size v (l.filter fun x => !decide (x ∈ r)) ∧ Below w.heap.size w w' := by
  have HC : Hid (∀ th, Calls Tryd.prog 27 #[.slice a n cap, .slice a2 m cap2, .bool th] w _) := fun th => pick_any a n cap l a2 m cap2 r th w hp hr hn hm
  clear hp hr
  go_enter Tryd.func13, Tryd.ntmps13
  go_wp2_with fail
  refine (HC.out false).mono ?_
  rintro e w1 ⟨v, rfl, ho, hb⟩
  have HO : Hid (Own w1 w.heap.size v _ ∧ Below w.heap.size w w1) := ⟨ho, hb⟩
  clear ho hb HC
  go_wp2_with fail
  go_ret
  refine ⟨v, rfl, ?_, HO.out.2⟩
  have := HO.out.1
  simpa using this
end Go.Proofs.YtlgadelcgboeoaaDoor
