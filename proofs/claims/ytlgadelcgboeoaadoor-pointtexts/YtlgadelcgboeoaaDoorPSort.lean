/- point.inOrder: a copy of a row of outpoints, in order, each as often as it stands there. -/
import Derived.Test.YtlgadelcgboeoaaDoorPtC
import Derived.Test.YtlgadelcgboeoaaDoorLay
import Derived.OwnWalk
namespace Go.Proofs.YtlgadelcgboeoaaDoor
open Go.ChangeShapes Go.WideShapes Go.ChangeAt Go.RowKit
open Go.Sort (flatK putRowK HoldsK mapBlock putRow putCells onCells heap_grow_old size_grow)

theorem Gr.grow {w w' : World} (h : Gr w.heap.size w w') : ∃ q os, w' = Go.Sort.grow (w.drewN q) os := by
  refine ⟨w'.drawn - w.drawn, w'.heap.extract w.heap.size w'.heap.size, ?_⟩
  have hh : w'.heap = w.heap ++ w'.heap.extract w.heap.size w'.heap.size := by
    apply Array.ext_getElem?
    intro k
    have hs := h.1.size
    rw [Array.getElem?_append]
    by_cases hk : k < w.heap.size
    · rw [if_pos hk]; exact h.1.block k hk
    · rw [if_neg hk, Array.getElem?_extract]
      by_cases hk' : k < w'.heap.size
      · rw [if_pos (by omega), show w.heap.size + (k - w.heap.size) = k by omega]
      · rw [if_neg (by omega), Array.getElem?_eq_none (by omega)]
  have hd : w.drawn + (w'.drawn - w.drawn) = w'.drawn := by have := h.2; omega
  cases w' with
  | mk heap tape drawn os output =>
    have e1 := h.1.os; have e2 := h.1.tape; have e3 := h.1.output
    simp only at e1 e2 e3 hh hd
    subst e1; subst e2; subst e3
    simp only [Go.Sort.grow, World.drewN, hd]
    rw [← hh]
theorem cmpLays (blk off size : Nat) (w : World) : CmpLays Tryd.prog 39 #[] Pt.cs 33 cmpPt blk off size w :=
  fun _ _ _ _ x y => (cmp_any x y _).mono fun _ _ ⟨he, hg⟩ => ⟨he, hg.grow⟩

theorem putCells_all (F c : Array Value) (h : c.size = F.size) : putCells id 0 F c = F := by
  apply Array.ext
  · simp [putCells, h]
  · intro i h1 h2
    have hi : i < F.size := h2
    simp [putCells, hi]
theorem heap_mapBlock_same {w : World} {g : Nat} {c : Array Value} {t : TypeId} {fr : Nat × Nat} (h : w.heap[g]? = some (.cells c t fr)) (f : Array Value → Array Value) : (mapBlock w g f).heap[g]? = some (.cells (f c) t fr) := by
  simp [mapBlock, Array.getElem?_modify, h, onCells]
theorem heap_mapBlock_other {w : World} {g k : Nat} (h : k ≠ g) (f : Array Value → Array Value) : (mapBlock w g f).heap[k]? = w.heap[k]? := by
  have h' : ¬ g = k := fun e => h e.symm
  simp [mapBlock, Array.getElem?_modify, h']
theorem Blk.sorted {w : World} {g m : Nat} {d dk : Array Pt} {os : Array Obj} (h : Blk w g (flat d.toList)) (hs : dk.size = d.size) : Blk (sortWorldK Pt.cs 33 w g 0 m dk os) g (flat dk.toList) := by
  have hl := h.lt
  obtain ⟨t, h⟩ := h
  refine ⟨t, ?_⟩
  unfold sortWorldK putRowK putRow
  rw [heap_grow_old _ _ (by simp [mapBlock, Go.Sort.ahead]; exact hl), heap_mapBlock_same (w := Go.Sort.ahead w m) (c := (flat d.toList).toArray) h, flatK_flat, putCells_all _ _ (by simp [flat_length, hs])]
theorem below_sorted {w : World} {N g m : Nat} {dk : Array Pt} {os : Array Obj} (hg : N ≤ g) (hN : N ≤ w.heap.size) : Below N w (sortWorldK Pt.cs 33 w g 0 m dk os) := by
  have hz : (mapBlock (Go.Sort.ahead w m) g (putCells id 0 (flatK Pt.cs 33 dk))).heap.size = w.heap.size := by simp [mapBlock, Go.Sort.ahead]
  refine ⟨rfl, rfl, rfl, ?_, fun k hk => ?_⟩
  · unfold sortWorldK putRowK putRow
    rw [size_grow, hz]; omega
  · unfold sortWorldK putRowK putRow
    rw [heap_grow_old _ _ (by rw [hz]; omega), heap_mapBlock_other (by omega)]; rfl
theorem Blk.holds {w : World} {g : Nat} {d : Array Pt} (h : Blk w g (flat d.toList)) : HoldsK Pt.cs 33 w g 0 d := by
  intro j hj
  rw [flatK_flat] at hj ⊢
  refine ⟨?_, h.frozen _⟩
  rw [Nat.zero_add, h.cell, getElem!_pos _ j hj]
  simp at hj ⊢
theorem Blk.made {w : World} {B g n : Nat} {e : TypeId} {k : Nat} {cs : List Value} (h : w.ownsRow B e k (.slice (some ⟨g, 0, none⟩) n n) n cs) : w.heap[g]? = some (.cells cs.toArray e (0, 0)) := by
  rcases h.2 with ⟨h, _⟩ | ⟨g', cap, cur, hv, _, hg, _, _, hs, ht⟩
  · injection h with h1 h2 h3; cases h1
  · injection hv with h1 h2 h3
    injection h1 with h1
    injection h1 with h1
    subst h1; subst h3
    rw [← ht, ← hs, show cur.size = cur.toList.length by simp, List.take_length]
    exact hg

theorem Tryd.infoPt : (Tryd.prog.info? 26).map (fun i => (i.zero, i.size, i.bytes)) = some (some (.agg (default : Pt).cs.toArray), 33, 40) := by kernel_rfl

set_option maxRecDepth 100000 in
set_option maxHeartbeats 4000000 in
theorem inOrder_any (a : Option Addr) (n cap : Nat) (l : List Pt) (w : World) (hp : Pts w a n cap l) (hn : n ≤ 100000) :
    Calls Tryd.prog 25 #[.slice a n cap] w fun e w' => ∃ g l', e = .returned (.slice (some ⟨g, 0, none⟩) n n) ∧ l'.Perm l ∧ Up l' ∧ Blk w' g (flat l') ∧ w.heap.size ≤ g ∧ Below w.heap.size w w' := by
  obtain ⟨i0, hi0, hi1, hi2, hi3⟩ := info_parts Tryd.infoPt
  have HP : Hid (Pts w a n cap l) := hp
  clear hp
  go_enter Tryd.func25, Tryd.ntmps25
  go_wp2_with (at_make; refine wpList_make_full _ rfl _ _ 22 rfl w.heap.size 26 i0 (.agg (default : Pt).cs.toArray) 33 Tryd.underlying22 hi0 hi1 hi2 .i64 .i64 _ _ n rfl rfl rfl rfl (by rw [hi3]; omega) (by unfold maxLen; omega) (Nat.le_refl _) ?_)
  intro w1 hown hgrow
  have hb1 : Below w.heap.size w w1 := (Below.refl _ w).grown hgrow (Nat.le_refl _) (by simp)
  have hg1 := Blk.made hown
  clear hown hgrow hi0 hi1 hi2 hi3
  generalize hN : w.heap.size = N at *
  have HG1 : Hid (w1.heap[N]? = _) := hg1
  have HCOPY : Hid (0 < n → ∃ x, a = some x ∧ ∀ j v, (flat l)[j]? = some v → w1.cell? (x.add j) = some v) := fun h0 => by
    have h1 := HP.out.below (hN ▸ hb1)
    obtain ⟨b, o, ha, _⟩ := h1.there h0
    exact ⟨_, ha, h1.cells ha⟩
  clear hg1
  go_wp2_with (show wpList _ _ _ [Oper.mk (some 9) _ _ _ _ _] _ _; refine wpList_copy_many rfl _ _ 22 22 rfl 26 33 Tryd.underlying22 Tryd.sizeOf26 N n n a cap rfl rfl _ 26 HG1.out (flat l) (by rw [flat_length, HP.out.len]) (by simp [madeCells]) HCOPY.out (flat_mem l) ?_)
  have hG2 : Blk (w1.setRow N (flat l).toArray) N (flat l) := Blk.row (ds := flat l) ⟨_, HG1.out⟩
  have hb2 : Below N w (w1.setRow N (flat l).toArray) := below_setRow hb1 (Nat.le_refl _) _
  generalize w1.setRow N (flat l).toArray = w2 at hG2 hb2 ⊢
  clear hb1 HG1 HCOPY
  have hln := HP.out.len
  have hsz : l.toArray.size = n := by simp [hln]
  have hcon := AnyQ.slices_SortFunc Tryd.sortPt 33 Tryd.isAgg26 Tryd.sizeOf26 Pt.cs Pt.cs_length Pt.cs_mem cmpPt swo_cmp 39 #[] N 0 n l.toArray w2 (enters_of Tryd.func39 (by kernel_rfl) rfl) (cmpLays N 0 _ w2) (Blk.holds (by simpa using hG2)) hG2.lt (by rw [hsz]; omega)
  change Calls Tryd.prog 38 _ _ _ at hcon
  rw [hsz] at hcon
  refine hcon.mono ?_
  rintro e w3 ⟨rfl, d', m, os, hperm, hsort, rfl⟩
  have hd' : d'.size = n := by rw [hperm.1, hsz]
  have hG3 := Blk.sorted (m := m) (os := os) (dk := d') (d := l.toArray) (by simpa using hG2) (by rw [hd', hsz])
  have hb3 := hb2.trans (below_sorted (w := w2) (N := N) (g := N) (m := m) (dk := d') (os := os) (Nat.le_refl _) (Nat.le_of_lt hG2.lt))
  generalize sortWorldK Pt.cs 33 w2 N 0 m d' os = w3 at hG3 hb3 ⊢
  have hup : Up d'.toList := up_of_sorted (by rw [hd']; exact hsort)
  have hpm : d'.toList.Perm l := by
    have := perm_of_permIn (d := l.toArray) (d' := d') (by rw [hsz]; exact hperm)
    simpa using this
  clear hcon hperm hsort hG2 hb2 hsz hd'
  go_wp2_with fail
  go_ret
  subst hN
  exact ⟨w.heap.size, d'.toList, rfl, hpm, hup, hG3, Nat.le_refl _, hb3⟩
end Go.Proofs.YtlgadelcgboeoaaDoor
