/- Two hashes compared. -/
import Derived.Test.YtbjndfnpfmeioaaDoorKit2
import Derived.Test.YtbjndfnpfmeioaaDoorEnd
import Derived.Stop.BytesEq
namespace Go.Proofs.YtbjndfnpfmeioaaDoor
open Go.RowKit
theorem u8s_cell (l : List (BitVec 8)) : u8s l = (l.map UInt8.ofBitVec).map Extern.Stop.cell := by
  unfold u8s
  rw [List.map_map]
  apply List.map_congr_left
  intro x _
  rfl
theorem ofBitVec_beq (x y : List (BitVec 8)) : (x.map UInt8.ofBitVec == y.map UInt8.ofBitVec) = (x == y) := by
  rw [Bool.eq_iff_iff, beq_iff_eq, beq_iff_eq]
  constructor
  · intro h
    have := congrArg (List.map UInt8.toBitVec) h
    have e : UInt8.toBitVec ∘ UInt8.ofBitVec = id := rfl
    rw [List.map_map, List.map_map, e, List.map_id, List.map_id] at this
    exact this
  · intro h; rw [h]
theorem sizeOf_u8 (w : World) : (sizeOf 5).run Tryd.prog w = .ok 1 w := by
  obtain ⟨i0, hi0, _, hi2, _⟩ := info_parts Tryd.info8
  simp [sizeOf, typeInfo, hi0, hi2]
theorem equalIn_hash (x y : List (BitVec 8)) (hx : x.length = 32) (hy : y.length = 32) (w : World) :
    (Op.equalIn 10000 28 (.agg (u8s x).toArray) (.agg (u8s y).toArray)).run Tryd.prog w = .ok (x == y) w := by
  rw [u8s_cell, u8s_cell, run_equalIn_bytes w 9998 28 5 32 Tryd.underlying28 Tryd.underlying5 sizeOf_u8 _ _ (by simp [hx]) (by simp [hy]), ofBitVec_beq]
theorem eql_hash (x y : List (BitVec 8)) (hx : x.length = 32) (hy : y.length = 32) (w : World) :
    (binOp .eql 28 (.agg (u8s x).toArray) (.agg (u8s y).toArray)).run Tryd.prog w = .ok (.bool (x == y)) w := by
  rw [run_eql_struct, equalIn_hash x y hx hy]; rfl
theorem neq_hash (x y : List (BitVec 8)) (hx : x.length = 32) (hy : y.length = 32) (w : World) :
    (binOp .neq 28 (.agg (u8s x).toArray) (.agg (u8s y).toArray)).run Tryd.prog w = .ok (.bool (!(x == y))) w := by
  rw [run_neq_struct, equalIn_hash x y hx hy]; rfl
end Go.Proofs.YtbjndfnpfmeioaaDoor
