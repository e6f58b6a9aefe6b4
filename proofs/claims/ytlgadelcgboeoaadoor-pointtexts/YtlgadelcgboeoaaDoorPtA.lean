/- Outpoints as plain data: their cells; two of them compared. No conditions. -/
import Derived.Test.YtlgadelcgboeoaaDoorKit
import Derived.Test.YtlgadelcgboeoaaDoorHops
import Derived.Test.YtlgadelcgboeoaaDoorChecked
import Derived.Laws.StructEq
import Derived.Stop.BytesEq
import Derived.Deep.MidRow
namespace Go.Proofs.YtlgadelcgboeoaaDoor
open Go.RowKit

/-- An outpoint. -/
structure Pt where
  tx : List (BitVec 8)
  n : Int
  len : tx.length = 32
theorem Pt.ext {p q : Pt} (h : p.tx = q.tx) (k : p.n = q.n) : p = q := by
  cases p; cases q; cases h; cases k; rfl
instance : DecidableEq Pt := fun p q =>
  if h : p.tx = q.tx ∧ p.n = q.n then isTrue (Pt.ext h.1 h.2) else isFalse fun e => h (e ▸ ⟨rfl, rfl⟩)
instance : Inhabited Pt := ⟨⟨List.replicate 32 0, 0, rfl⟩⟩
/-- Its cells. -/
def Pt.cs (p : Pt) : List Value := u8s p.tx ++ [.int .i64 p.n]
theorem Pt.cs_length (p : Pt) : p.cs.length = 33 := by simp [Pt.cs, p.len]
theorem u8s_mem (l : List (BitVec 8)) : ∀ v ∈ u8s l, v.oneCell' = true := fun v hv => by
  obtain ⟨x, _, rfl⟩ := List.mem_map.1 hv; rfl
theorem Pt.cs_mem (p : Pt) : ∀ v ∈ p.cs, v.oneCell' = true := fun v hv => by
  rcases List.mem_append.1 hv with h | h
  · exact u8s_mem _ _ h
  · rw [List.mem_singleton.1 h]; rfl
theorem Pt.cs_all (p : Pt) : p.cs.toArray.all (·.oneCell') = true := all_oneCell_toArray p.cs_mem
theorem u8s_cell (l : List (BitVec 8)) : u8s l = (l.map UInt8.ofBitVec).map Extern.Stop.cell := by
  unfold u8s
  rw [List.map_map]
  apply List.map_congr_left
  intro x _
  rfl
theorem ofBitVec_beq (x y : List (BitVec 8)) : (x.map UInt8.ofBitVec == y.map UInt8.ofBitVec) = (x == y) := by
  rw [Bool.eq_iff_iff, beq_iff_eq, beq_iff_eq]
  constructor
  · intro h
    have := congrArg (List.map UInt8.toBitVec) h
    have e : UInt8.toBitVec ∘ UInt8.ofBitVec = id := rfl
    rw [List.map_map, List.map_map, e, List.map_id, List.map_id] at this
    exact this
  · intro h; rw [h]
theorem equalIn_hash (d : Nat) (x y : List (BitVec 8)) (hx : x.length = 32) (hy : y.length = 32) (w : World) :
    (Op.equalIn (d + 2) 24 (.agg (u8s x).toArray) (.agg (u8s y).toArray)).run Tryd.prog w = .ok (x == y) w := by
  rw [u8s_cell, u8s_cell, run_equalIn_bytes w d 24 5 32 Tryd.underlying24 Tryd.underlying5 Tryd.sizeOf5 _ _ (by simp [hx]) (by simp [hy]), ofBitVec_beq]
theorem eql_hash (x y : List (BitVec 8)) (hx : x.length = 32) (hy : y.length = 32) (w : World) :
    (binOp .eql 24 (.agg (u8s x).toArray) (.agg (u8s y).toArray)).run Tryd.prog w = .ok (.bool (x == y)) w := by
  rw [run_eql_struct, equalIn_hash 9998 x y hx hy]; rfl
theorem neq_hash (x y : List (BitVec 8)) (hx : x.length = 32) (hy : y.length = 32) (w : World) :
    (binOp .neq 24 (.agg (u8s x).toArray) (.agg (u8s y).toArray)).run Tryd.prog w = .ok (.bool (!(x == y))) w := by
  rw [run_neq_struct, equalIn_hash 9998 x y hx hy]; rfl

theorem Pt.take (p : Pt) : p.cs.take 32 = u8s p.tx := by simp [Pt.cs, p.len]
theorem part_tx (p : Pt) (w : World) : (part 24 p.cs.toArray 0).run Tryd.prog w = .ok (.agg (u8s p.tx).toArray) w := by
  have g := Tryd.isAgg24
  simp only [part, Sem.run_bind, g, Result.andThen_ok]
  simp [Tryd.sizeOf24, p.take]
theorem part_n (p : Pt) (w : World) : (part 3 p.cs.toArray 32).run Tryd.prog w = .ok (.int .i64 p.n) w := by
  have h : p.cs.toArray[32]? = some (.int .i64 p.n) := by
    simp [Pt.cs, p.len]
  have g := Tryd.isAgg3
  simp only [part, Sem.run_bind, g, Result.andThen_ok]
  simp [h]
theorem equalIn_pt (p q : Pt) (w : World) :
    (Op.equalIn 10000 26 (.agg p.cs.toArray) (.agg q.cs.toArray)).run Tryd.prog w = .ok (decide (p = q)) w := by
  have hS : Tryd.prog.underlying 26 = some (.struct (Tryd.prog.fieldsOf 26)) := by kernel_rfl
  have hp : Tryd.prog.stoodInHeld 26 = false := by kernel_rfl
  have hd : decide (p = q) = ((p.tx == q.tx) && (p.n == q.n)) := by
    rw [Bool.eq_iff_iff, decide_eq_true_iff, Bool.and_eq_true, beq_iff_eq, beq_iff_eq]
    exact ⟨fun h => h ▸ ⟨rfl, rfl⟩, fun h => Pt.ext h.1 h.2⟩
  have e1 : ∀ w, (Op.equalIn 9999 24 (.agg (u8s p.tx).toArray) (.agg (u8s q.tx).toArray)).run Tryd.prog w = .ok (p.tx == q.tx) w := fun w => equalIn_hash 9997 p.tx q.tx p.len q.len w
  have e2 : ∀ w, (Op.equalIn 9999 3 (.int .i64 p.n) (.int .i64 q.n)).run Tryd.prog w = .ok (p.n == q.n) w := fun w => run_equalIn_int (P := Tryd.prog) w 9998 3 .i64 .i64 p.n q.n Tryd.underlying3
  rw [show (10000 : Nat) = 9999 + 1 from rfl, run_equalIn_agg w 9999 26 _ _ hS hp, hd]
  simp only [Program.fieldsOf, Tryd.underlying26, Op.eqFields]
  simp only [Sem.run_bind, Sem.run_ite, part_tx, part_n, Result.andThen_ok, e1, e2]
  cases p.tx == q.tx <;> cases p.n == q.n <;> simp
theorem eql_pt (p q : Pt) (w : World) :
    (binOp .eql 26 (.agg p.cs.toArray) (.agg q.cs.toArray)).run Tryd.prog w = .ok (.bool (decide (p = q))) w := by
  rw [run_eql_struct, equalIn_pt]; rfl
theorem neq_pt (p q : Pt) (w : World) :
    (binOp .neq 26 (.agg p.cs.toArray) (.agg q.cs.toArray)).run Tryd.prog w = .ok (.bool (!decide (p = q))) w := by
  rw [run_neq_struct, equalIn_pt]; rfl
theorem guard_pt (op : BinOp) (x y : Operand) (p q : Pt) (w : World) : (eqGuard op 26 x y (.agg p.cs.toArray) (.agg q.cs.toArray)).run Tryd.prog w = .ok () w :=
  run_eqGuard_agg w op _ x y _ _ (by kernel_rfl)
theorem size_pt (p : Pt) : (Tryd.prog.info? 26).map (·.size) = some p.cs.length := by rw [p.cs_length]; kernel_rfl
theorem size_pta (p : Pt) : (Tryd.prog.info? 26).map (·.size) = some p.cs.toArray.size := by rw [List.size_toArray, p.cs_length]; kernel_rfl
end Go.Proofs.YtlgadelcgboeoaaDoor
