/- wire.Read. -/
import Derived.Test.YtlaifphedhaemaaGreatDoorCD4
namespace Go.Proofs.YtlaifphedhaemaaGreatDoor
open Go.ChangeShapes Go.WideShapes Go.ChangeAt Go.RowKit

theorem ret_ptr {a b : Nat} (h : a = b) : Ending.returned (.pointer (some ⟨a, 0, none⟩)) = .returned (.pointer (some ⟨b, 0, none⟩)) := by rw [h]
set_option maxRecDepth 100000 in
set_option maxHeartbeats 2000000 in
theorem reader_any (v : Value) (bs : List (BitVec 8)) (w : World) (h : SrcB w v bs) (hl : bs.length ≤ 900000) :
    Calls Tryz.prog 36 #[v] w fun e w' => ∃ R, e = .returned (.pointer (some ⟨R, 0, none⟩)) ∧ w.heap.size ≤ R ∧ Rd w' R w'.heap.size (bs, false) ∧ Below w.heap.size w w' := by
  have HCL : Hid (Calls Tryz.prog 66 #[v] w fun e w' => ∃ v', e = .returned v' ∧ OwnB w' w.heap.size v' bs ∧ Below w.heap.size w w') := clone_any v bs w h hl
  clear h
  go_enter Tryz.func36, Tryz.ntmps36
  go_wp2_with fail
  refine Calls.mono HCL.out ?_
  rintro e w1 ⟨v', rfl, hO, hB⟩
  have HB : Hid (Below w.heap.size w w1) := hB
  obtain ⟨a, cap, rfl, hby⟩ := hO.bytes
  have HAP : Hid (∀ x : Addr, a = some x → x.block < w1.heap.size) := fun x e => (hO.lt x.block (by rw [e]; rfl)).2
  have HBY : Hid (Bytes w1 a cap bs) := hby
  have hs1 := hB.size
  clear hO hB hby
  generalize hL : bs.length = L at *
  go_wp2_with fail
  go_ret
  refine ⟨w1.heap.size, rfl, hs1, ?_, HB.out.alloc hs1 _⟩
  have hbk : Blk (w1.alloc (.cells #[.slice a L cap, .bool false] 118)) w1.heap.size [.slice a L cap, .bool false] := Blk.mk _ _ _ rfl rfl
  refine ⟨Nat.le_refl _, a, cap, by rw [hL]; exact hbk, HBY.out.kept fun b o e => Below.heap_alloc w1 _ b (HAP.out _ e), fun x e => ?_⟩
  have := HAP.out x e
  exact ⟨by omega, by simp; omega⟩
end Go.Proofs.YtlaifphedhaemaaGreatDoor
