/- sha.begin is the sum of which nothing has come. No conditions. -/
import Derived.Test.YtbjndfnpfmeioaaDoorAdd
import Derived.Deep.WholeRow
namespace Go.Proofs.YtbjndfnpfmeioaaDoor
open Go.ChangeShapes Go.WideShapes Go.ChangeAt Go.RowKit
def nought : St := ⟨0, 0, 0, 0, 0, 0, 0, 0⟩
def zeros64 : List (BitVec 8) := List.replicate 64 0
theorem zero_running (w : World) : (zeroValue 47).run Tryd.prog w = .ok (.agg (runCells nought zeros64 0 0).toArray) w :=
  (zero_of_info (v := .agg (runCells nought zeros64 0 0).toArray) (n := 74) (by kernel_rfl)).1 w
set_option maxRecDepth 100000 in
set_option maxHeartbeats 4000000 in
theorem begin_any (w : World) :
    Calls Tryd.prog 22 #[] w fun e w' => e = .returned (.agg (runCells start zeros64 0 0).toArray) ∧ Below w.heap.size w w' := by
  have info : (Tryd.prog.info? 47).map (·.size) = some (runCells start zeros64 0 0).toArray.size := by kernel_rfl
  have Hi : Hid (_ = _) := info
  have h1 : (runCells start zeros64 0 0).toArray.all (·.oneCell') = true := by kernel_rfl
  have H1 : Hid (_ = _) := h1
  clear info h1
  have hz := zero_running
  go_enter Tryd.func22, Tryd.ntmps22
  go_wp2_with (first
    | (refine wpList_build rfl 41 _ rfl (by kernel_rfl) ?_)
    | (refine wpList_build rfl 47 _ rfl (by kernel_rfl) ?_)
    | (refine wpList_store_row rfl 47 _ _ rfl w.heap.size (runCells start zeros64 0 0).toArray rfl (by kernel_rfl) 47 _ (heap_alloc_new _ _) Hi.out (by kernel_rfl) H1.out ?_))
  refine bodyPost_ret (v := .agg (runCells start zeros64 0 0).toArray) ?_ rfl ⟨rfl, ?_⟩
  · obtain ⟨t, hb⟩ := (Blk.new w (runCells nought zeros64 0 0).toArray 47).row (ds := runCells start zeros64 0 0)
    exact results_cell_row Tryd.results22 _ _ w.heap.size t _ _ _ rfl hb Tryd.underlying47 rfl Hi.out
  · exact below_setRow ((Below.refl _ _).alloc (Nat.le_refl _) _) (Nat.le_refl _) _
end Go.Proofs.YtbjndfnpfmeioaaDoor
