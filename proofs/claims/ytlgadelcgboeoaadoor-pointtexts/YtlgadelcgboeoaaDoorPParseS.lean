/- sha.Parse of a text of another length than 64 is none; strings.Cut; point.Text of an outpoint that has none; point.Parse of a text whose first part has another length. -/
import Derived.Test.YtlgadelcgboeoaaDoorPSorted
import Derived.Test.YtlgadelcgboeoaaDoorLay2
import Derived.Laws.ResultCell
namespace Go.Proofs.YtlgadelcgboeoaaDoor
open Go.ChangeShapes Go.WideShapes Go.ChangeAt Go.RowKit

def zeros32 : List (BitVec 8) := List.replicate 32 0
theorem results_row_tmp {P : Program} {fn : Func} {p u : Tmp} {ty : TypeId} (h : fn.results = #[.cell p ty, .tmp u]) (tmps : Array Value) (w : World) (g : Nat) (t : TypeId) (cs : Array Value) (fr : Nat × Nat) (d : TypeDesc)
    (hp : tmps.getD p undef = .pointer (some ⟨g, 0, none⟩)) (hg : w.heap[g]? = some (.cells cs t fr))
    (hu : P.underlying ty = some d) (hd : (match d with | .struct _ | .array _ _ => true | _ => false) = true) (hi : (P.info? ty).map (·.size) = some cs.size) :
    (results fn tmps).run P w = .ok (.tuple #[.agg cs, tmps.getD u undef]) w := by
  rw [results_cell_tmp h, hp]
  simp [asAddr, run_loadVar_row w g t ty cs fr d hg hu hd hi, Result.andThen]

set_option maxRecDepth 100000 in
set_option maxHeartbeats 4000000 in
theorem parse_short (s : ByteArray) (w : World) (hs : s.size ≠ 64) :
    Calls Tryd.prog 31 #[.string s] w fun e w' => e = .returned (.tuple #[.agg (u8s zeros32).toArray, .bool false]) ∧ Below w.heap.size w w' := by
  have e0 : ((s.size : Int) == 64) = false := by simpa using (by omega : ¬ (s.size : Int) = 64)
  have I28 : Hid ((Tryd.prog.info? 24).map (·.size) = some (u8s zeros32).toArray.size) := by
    show _ = _
    rw [show (u8s zeros32).toArray.size = 32 from rfl]; kernel_rfl
  go_enter Tryd.func31, Tryd.ntmps31
  go_wp2_with fail
  refine wp_scope_hops 1 ?_
  go_hide hQ
  go_wp2_with fail
  go_step3
  simp only [Exit.then]
  subst hQ
  rw [hops_goto]
  refine ⟨_, rfl, ?_⟩
  generalize hw1 : World.alloc (World.alloc w _) _ = w1
  have hN1 : Blk w1 w.heap.size (u8s zeros32) := by rw [← hw1]; exact (Blk.mk _ _ _ rfl rfl).alloc _
  have hb1 : Below w.heap.size w w1 := by rw [← hw1]; exact ((Below.refl _ _).alloc (Nat.le_refl _) _).alloc (by simp) _
  clear hw1
  obtain ⟨tN, hgN⟩ := hN1
  have HgN : Hid (w1.heap[w.heap.size]? = _) := hgN
  clear hgN
  go_hide hQ
  go_wp2_with (refine wpList_store_row rfl 24 _ _ rfl w.heap.size (u8s zeros32).toArray rfl rfl tN _ HgN.out I28.out rfl (u8s_one _) ?_)
  subst hQ
  rw [hops_ret]
  refine bodyPost_ret (v := .tuple #[.agg (u8s zeros32).toArray, .bool false]) ?_ rfl ⟨rfl, ?_⟩
  · obtain ⟨t, hb⟩ := Blk.row (ds := u8s zeros32) ⟨tN, HgN.out⟩
    exact results_row_tmp Tryd.results31 _ _ w.heap.size t _ _ _ rfl hb Tryd.underlying24 rfl I28.out
  · exact below_setRow hb1 (Nat.le_refl _) _

/-- The library's variable MaxLen holds a number. -/
def Mx (w : World) : Prop := ∃ m : Int, w.cell? ⟨0, 0, none⟩ = some (.int .i64 m)
theorem Mx.below {w w' : World} (h : Mx w) (hb : Below w.heap.size w w') : Mx w' := by
  obtain ⟨m, hm⟩ := h
  exact ⟨m, by rw [World.cell?_of_block (hb.block _ (World.block_lt_of_cell? w _ hm))]; exact hm⟩
theorem cut_any (s sep : ByteArray) (w : World) (hs : s.size < 4294967281) (hm : Mx w) :
    Calls Tryd.prog 30 #[.string s, .string sep] w fun e w' => e = .returned (.tuple #[.string ⟨(Go.Lib.cut s.data.toList sep.data.toList).1.toArray⟩, .string ⟨(Go.Lib.cut s.data.toList sep.data.toList).2.1.toArray⟩, .bool (Go.Lib.cut s.data.toList sep.data.toList).2.2]) ∧ Below w.heap.size w w' := by
  obtain ⟨m, hm⟩ := hm
  have h := Any.strings_Cut { Tryd.cutS with } s sep m w hs hm
  refine Calls.mono h ?_
  rintro e w' ⟨rfl, n, rfl⟩
  exact ⟨rfl, below_drewN (Below.refl _ _) n⟩

set_option maxRecDepth 100000 in
set_option maxHeartbeats 4000000 in
theorem text_none (p : Pt) (w : World) (hp : p.n < 0 ∨ 99 < p.n) :
    Calls Tryd.prog 22 #[.agg p.cs.toArray] w fun e w' => e = .returned (.string ByteArray.empty) ∧ Below w.heap.size w w' := by
  go_enter Tryd.func22, Tryd.ntmps22
  go_upto_region 1 with fail
  generalize hw1 : World.alloc w _ = w1
  have hA1 : Blk w1 w.heap.size p.cs := by rw [← hw1]; exact Blk.new _ _ _
  have hb1 : Below w.heap.size w w1 := by rw [← hw1]; exact (Below.refl _ _).alloc (Nat.le_refl _) _
  clear hw1
  have ca := hA1.cell 32
  rw [Pt.cell_n] at ca
  have HB : Hid (Below w.heap.size w w1) := hb1
  clear hA1 hb1
  generalize hN : w.heap.size = N at *
  generalize p.n = z at *
  by_cases hz : z < 0
  · go_wp2_with fail
    go_ret
    subst hN
    exact ⟨rfl, HB.out⟩
  · have h1 : (99 : Int) < z := by omega
    have h2 : decide (z < 0) = false := decide_eq_false hz
    go_wp2_with fail
    go_ret
    subst hN
    exact ⟨rfl, HB.out⟩
end Go.Proofs.YtlgadelcgboeoaaDoor
