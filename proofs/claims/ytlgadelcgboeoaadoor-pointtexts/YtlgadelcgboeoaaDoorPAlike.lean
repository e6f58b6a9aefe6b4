/- point.Alike: each stands in both, and as often. -/
import Derived.Test.YtlgadelcgboeoaaDoorPPick
namespace Go.Proofs.YtlgadelcgboeoaaDoor
open Go.ChangeShapes Go.WideShapes Go.ChangeAt Go.RowKit

theorem allEq_pt : ∀ l r : List Pt, Go.Lib.allEq (fun x y : Pt => decide (x = y)) l r = decide (l = r)
  | [], [] => by simp [Go.Lib.allEq]
  | [], _ :: _ => by simp [Go.Lib.allEq]
  | _ :: _, [] => by simp [Go.Lib.allEq]
  | x :: l, y :: r => by
    have := allEq_pt l r
    simp only [Go.Lib.allEq] at this ⊢
    simp [this]

theorem equal_any (g n : Nat) (l : List Pt) (g2 : Nat) (r : List Pt) (w : World) (hl : l.length = n) (hr : r.length = n) (hg : Blk w g (flat l)) (hg2 : Blk w g2 (flat r)) (hn : n ≤ 100000) :
    Calls Tryd.prog 28 #[.slice (some ⟨g, 0, none⟩) n n, .slice (some ⟨g2, 0, none⟩) n n] w fun e w' => e = .returned (.bool (decide (l = r))) ∧ Below w.heap.size w w' := by
  have hc : ∀ (b : Nat) (s : List Pt), Blk w b (flat s) → ∀ j, j < s.length → ∀ i v, (Pt.cs s[j]!)[i]? = some v → w.cell? ⟨b, 0 + j * 33 + i, none⟩ = some v := fun b s hb j hj i v hv => by
    have := hb.pt j hj i v
    rw [Nat.zero_add]
    apply this
    rw [← hv, List.getD_eq_getElem?_getD, List.getElem?_eq_getElem hj, getElem!_pos s j hj]
    rfl
  have := AnyQ.slices_Equal Tryd.equalPt 33 Tryd.isAgg26 Tryd.sizeOf26 Pt.cs Pt.cs_length (fun x y => decide (x = y)) ⟨neq_pt, fun op a b x y w => guard_pt op a b x y w⟩ g 0 n n g2 0 n n l r w (by omega) (by omega) (by omega) (by omega) (hc g l hg) (hc g2 r hg2)
  refine Calls.mono this ?_
  rintro e w' ⟨rfl, q, rfl⟩
  refine ⟨ret_bool ?_, below_drewN (Below.refl _ _) q⟩
  rw [List.take_of_length_le (by omega), List.take_of_length_le (by omega), allEq_pt]

set_option maxRecDepth 100000 in
set_option maxHeartbeats 4000000 in
theorem alike_any (a : Option Addr) (n cap : Nat) (l : List Pt) (a2 : Option Addr) (m cap2 : Nat) (r : List Pt) (w : World) (hp : Pts w a n cap l) (hr : Pts w a2 m cap2 r) (hn : n ≤ 100000) (hm : m ≤ 100000) :
    Calls Tryd.prog 14 #[.slice a n cap, .slice a2 m cap2] w fun e w' => e = .returned (.bool (decide (l.Perm r))) ∧ Below w.heap.size w w' := by
  have HP : Hid (Pts w a n cap l) := hp
  have HR : Hid (Pts w a2 m cap2 r) := hr
  clear hp hr
  go_enter Tryd.func14, Tryd.ntmps14
  by_cases hnm : n = m
  · subst hnm
    go_wp2_with fail
    refine (inOrder_any a n cap l w HP.out hn).mono ?_
    rintro e w1 ⟨g, l', rfl, hperm, hup, hB, hg, hb1⟩
    have HR1 : Hid (Pts w1 a2 n cap2 r) := HR.out.below hb1
    have H1 : Hid (l'.Perm l ∧ Up l' ∧ Blk w1 g (flat l') ∧ Below w.heap.size w w1) := ⟨hperm, hup, hB, hb1⟩
    have HLL : Hid (l.length = n) := HP.out.len
    clear hperm hup hB hg hb1 HP HR
    go_wp2_with fail
    refine (inOrder_any a2 n cap2 r w1 HR1.out hn).mono ?_
    rintro e w2 ⟨g2, r', rfl, hperm2, hup2, hB2, hg2, hb2⟩
    have HRL : Hid (r.length = n) := HR1.out.len
    have H2 : Hid (r'.Perm r ∧ Up r' ∧ Blk w2 g2 (flat r') ∧ Below w1.heap.size w1 w2) := ⟨hperm2, hup2, hB2, hb2⟩
    clear hperm2 hup2 hB2 hg2 hb2 HR1
    go_wp2_with fail
    refine (equal_any g n l' g2 r' w2 (by rw [H1.out.1.length_eq]; exact HLL.out) (by rw [H2.out.1.length_eq]; exact HRL.out) (H1.out.2.2.1.below H2.out.2.2.2 H1.out.2.2.1.lt) H2.out.2.2.1 hn).mono ?_
    rintro e w3 ⟨rfl, hb3⟩
    have HB3 : Hid (Below w.heap.size w w3) := by
      have s1 := H1.out.2.2.2
      have s2 := H2.out.2.2.2
      exact (s1.trans (s2.mono s1.size)).trans (hb3.mono (Nat.le_trans s1.size s2.size))
    have HRES : Hid (decide (l' = r') = decide (l.Perm r)) := by
      show _ = _
      have p1 := H1.out.1
      have p2 := H2.out.1
      have : l' = r' ↔ l.Perm r := ⟨fun e => p1.symm.trans (e ▸ p2), fun h => up_perm H1.out.2.1 H2.out.2.1 (p1.trans (h.trans p2.symm))⟩
      simp [this]
    clear hb3
    generalize decide (l' = r') = d at HRES ⊢
    go_wp2_with fail
    go_ret
    exact ⟨ret_bool HRES.out, HB3.out⟩
  · have hd : ((n : Int) == (m : Int)) = false := by simpa using (by omega : ¬ (n : Int) = (m : Int))
    have HRES : Hid (decide (l.Perm r) = false) := by
      refine decide_eq_false fun h => hnm ?_
      rw [← HP.out.len, ← HR.out.len, h.length_eq]
    go_wp2_with fail
    go_ret
    exact ⟨ret_bool HRES.out.symm, Below.refl _ _⟩
end Go.Proofs.YtlgadelcgboeoaaDoor
