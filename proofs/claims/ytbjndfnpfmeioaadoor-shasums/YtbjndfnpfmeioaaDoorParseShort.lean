/- sha.Parse of a text of another length than 64 is none. -/
import Derived.Test.YtbjndfnpfmeioaaDoorLess
import Derived.Laws.ResultCell
namespace Go.Proofs.YtbjndfnpfmeioaaDoor
open Go.ChangeShapes Go.WideShapes Go.ChangeAt Go.RowKit

theorem results_row_tmp {P : Program} {fn : Func} {p u : Tmp} {ty : TypeId} (h : fn.results = #[.cell p ty, .tmp u]) (tmps : Array Value) (w : World) (g : Nat) (t : TypeId) (cs : Array Value) (fr : Nat × Nat) (d : TypeDesc)
    (hp : tmps.getD p undef = .pointer (some ⟨g, 0, none⟩)) (hg : w.heap[g]? = some (.cells cs t fr))
    (hu : P.underlying ty = some d) (hd : (match d with | .struct _ | .array _ _ => true | _ => false) = true) (hi : (P.info? ty).map (·.size) = some cs.size) :
    (results fn tmps).run P w = .ok (.tuple #[.agg cs, tmps.getD u undef]) w := by
  rw [results_cell_tmp h, hp]
  simp [asAddr, run_loadVar_row w g t ty cs fr d hg hu hd hi, Result.andThen]

set_option maxRecDepth 100000 in
set_option maxHeartbeats 4000000 in
theorem parse_short (s : ByteArray) (w : World) (hs : s.size ≠ 64) :
    Calls Tryd.prog 13 #[.string s] w fun e w' => e = .returned (.tuple #[.agg (u8s zeros32).toArray, .bool false]) ∧ Below w.heap.size w w' := by
  have e0 : ((s.size : Int) == 64) = false := by simpa using (by omega : ¬ (s.size : Int) = 64)
  have I28 : Hid ((Tryd.prog.info? 28).map (·.size) = some (u8s zeros32).toArray.size) := by
    show _ = _
    rw [show (u8s zeros32).toArray.size = 32 from rfl]; kernel_rfl
  go_enter Tryd.func13, Tryd.ntmps13
  go_wp2_with fail
  refine wp_scope_hops 1 ?_
  go_hide hQ
  go_wp2_with fail
  go_step3
  simp only [Exit.then]
  subst hQ
  rw [hops_goto]
  refine ⟨_, rfl, ?_⟩
  generalize hw1 : World.alloc (World.alloc w _) _ = w1
  have hN1 : Blk w1 w.heap.size (u8s zeros32) := by rw [← hw1]; exact (Blk.mk _ _ _ rfl rfl).alloc _
  have hb1 : Below w.heap.size w w1 := by rw [← hw1]; exact ((Below.refl _ _).alloc (Nat.le_refl _) _).alloc (by simp) _
  clear hw1
  obtain ⟨tN, hgN⟩ := hN1
  have HgN : Hid (w1.heap[w.heap.size]? = _) := hgN
  clear hgN
  go_hide hQ
  go_wp2_with (refine wpList_store_row rfl 28 _ _ rfl w.heap.size (u8s zeros32).toArray rfl rfl tN _ HgN.out I28.out rfl (u8s_one _) ?_)
  subst hQ
  rw [hops_ret]
  refine bodyPost_ret (v := .tuple #[.agg (u8s zeros32).toArray, .bool false]) ?_ rfl ⟨rfl, ?_⟩
  · obtain ⟨t, hb⟩ := Blk.row (ds := u8s zeros32) ⟨tN, HgN.out⟩
    exact results_row_tmp Tryd.results13 _ _ w.heap.size t _ _ _ rfl hb Tryd.underlying28 rfl I28.out
  · exact below_setRow hb1 (Nat.le_refl _) _
end Go.Proofs.YtbjndfnpfmeioaaDoor
