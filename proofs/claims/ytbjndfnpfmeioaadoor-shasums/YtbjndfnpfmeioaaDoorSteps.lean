/- The document's own words of the steps: a row of 64 words in new memory. No conditions. -/
import Derived.Test.YtbjndfnpfmeioaaDoorSched
import Derived.Laws.Tables
namespace Go.Proofs.YtbjndfnpfmeioaaDoor
open Go.ChangeShapes Go.WideShapes Go.ChangeAt Go.RowKit
set_option maxRecDepth 100000 in
set_option maxHeartbeats 4000000 in
theorem steps_any (w : World) :
    Calls Tryd.prog 26 #[] w fun e w' => e = .returned (.slice (some ⟨w.heap.size, 0, none⟩) 64 64) ∧ Blk w' w.heap.size (u32s Ks) ∧ Below w.heap.size w w' := by
  go_enter Tryd.func26, Tryd.ntmps26
  go_wp2
  go_ret
  exact ⟨rfl, Blk.mk _ _ _ rfl rfl, (Below.refl _ _).alloc (Nat.le_refl _) _⟩
end Go.Proofs.YtbjndfnpfmeioaaDoor
