/- (*running).add lets one more piece come: the words and what is left over are as behind all bytes. sha.begin is the sum of which nothing has come. No conditions. (*running).end closes the sum. sha.Sum is the standard's sum of all pieces, one behind the other. -/
import Derived.Test.YtlapnnkahijikaaZS1
import Derived.Test.YtlapnnkahijikaaZS2
import Derived.Deep.RegionHeld3
import Derived.Deep.WholeRow
import Derived.OwnWalk
import Derived.Deep.CutRange
import Derived.Deep.DeepCutAuto
namespace Go.Proofs.Ytlapnnkahijikaa
open Go.ChangeShapes Go.WideShapes Go.ChangeAt Go.RowKit

/-- Block R holds a running sum: the words s, the bytes q that are not mixed in yet, n bytes in all. -/
def Run (w : World) (R : Nat) (s : St) (q : List (BitVec 8)) (n : Nat) : Prop :=
  ∃ blk : List (BitVec 8), blk.length = 64 ∧ blk.take q.length = q ∧ q.length < 64 ∧ Blk w R (runCells s blk q.length n)
/-- A slice of bytes that lie outside block R. -/
structure Src (w : World) (R : Nat) (a : Option Addr) (cap : Nat) (bs : List (BitVec 8)) : Prop where
  room : bs.length ≤ cap
  most : cap ≤ maxLen
  lie : bs ≠ [] → ∃ b off, a = some ⟨b, off, none⟩ ∧ b ≠ R ∧ ∀ j, j < bs.length → w.cell? ⟨b, off + j, none⟩ = some (.int .u8 (Y (bs.getD j 0)))

theorem slice_eq {a : Option Addr} {n n' c c' : Nat} (h : n = n') (h' : c = c') : Value.slice a n c = Value.slice a n' c' := by rw [h, h']
def lenV : Value → Nat | .slice _ n _ => n | _ => 0

def w8 (s : St) : Array Value := #[.int .u32 (U s.a), .int .u32 (U s.b), .int .u32 (U s.c), .int .u32 (U s.d), .int .u32 (U s.e), .int .u32 (U s.f), .int .u32 (U s.g), .int .u32 (U s.h)]
theorem Blk.cell8 {w : World} {R : Nat} {s : St} {blk : List (BitVec 8)} {f n : Nat} (h : Blk w R (runCells s blk f n)) :
    w.cell? ⟨R, 0, none⟩ = some (.int .u32 (U s.a)) ∧ w.cell? ⟨R, 1, none⟩ = some (.int .u32 (U s.b)) ∧ w.cell? ⟨R, 2, none⟩ = some (.int .u32 (U s.c)) ∧ w.cell? ⟨R, 3, none⟩ = some (.int .u32 (U s.d)) ∧
    w.cell? ⟨R, 4, none⟩ = some (.int .u32 (U s.e)) ∧ w.cell? ⟨R, 5, none⟩ = some (.int .u32 (U s.f)) ∧ w.cell? ⟨R, 6, none⟩ = some (.int .u32 (U s.g)) ∧ w.cell? ⟨R, 7, none⟩ = some (.int .u32 (U s.h)) :=
  ⟨h.cell 0, h.cell 1, h.cell 2, h.cell 3, h.cell 4, h.cell 5, h.cell 6, h.cell 7⟩
theorem Blk.froz {w : World} {R : Nat} {cs : List Value} (h : Blk w R cs) : ∀ i, w.frozen? ⟨R, i, none⟩ = false := h.frozen

end Go.Proofs.Ytlapnnkahijikaa
namespace Go.Proofs.Ytlapnnkahijikaa
open Go.ChangeShapes Go.WideShapes Go.ChangeAt Go.RowKit
def nought : St := ⟨0, 0, 0, 0, 0, 0, 0, 0⟩
def zeros64 : List (BitVec 8) := List.replicate 64 0
end Go.Proofs.Ytlapnnkahijikaa
namespace Go.Proofs.Ytlapnnkahijikaa
open Go.ChangeShapes Go.WideShapes Go.ChangeAt Go.RowKit

theorem Src.later {w w' : World} {R : Nat} {a : Option Addr} {cap : Nat} {bs : List (BitVec 8)} (h : Src w R a cap bs) (k : Keep R w w') : Src w' R a cap bs :=
  ⟨h.room, h.most, fun hne => by
    obtain ⟨b, off, ha, hb, hc⟩ := h.lie hne
    exact ⟨b, off, ha, hb, fun j hj => k.cell hb (hc j hj)⟩⟩
theorem Run.keep {w w' : World} {R R' : Nat} {s : St} {q : List (BitVec 8)} {n : Nat} (h : Run w R s q n) (k : Keep R' w w') (hR : R ≠ R') : Run w' R s q n := by
  obtain ⟨blk, h1, h2, h3, h4⟩ := h; exact ⟨blk, h1, h2, h3, h4.keep k hR⟩
theorem Run.below {w w' : World} {R B : Nat} {s : St} {q : List (BitVec 8)} {n : Nat} (h : Run w R s q n) (k : Below B w w') (hR : R < B) : Run w' R s q n := by
  obtain ⟨blk, h1, h2, h3, h4⟩ := h; exact ⟨blk, h1, h2, h3, h4.below k hR⟩
theorem Run.fill {w : World} {R : Nat} {s : St} {q : List (BitVec 8)} {n : Nat} (h : Run w R s q n) : w.cell? ⟨R, 72, none⟩ = some (.int .i64 (q.length : Int)) := by
  obtain ⟨blk, h1, h2, h3, h4⟩ := h; rw [h4.cell, runCells_72 s blk _ n h1]
theorem Run.total {w : World} {R : Nat} {s : St} {q : List (BitVec 8)} {n : Nat} (h : Run w R s q n) : w.cell? ⟨R, 73, none⟩ = some (.int .u64 (n : Int)) := by
  obtain ⟨blk, h1, h2, h3, h4⟩ := h; rw [h4.cell, runCells_73 s blk _ n h1]
theorem Run.lt {w : World} {R : Nat} {s : St} {q : List (BitVec 8)} {n : Nat} (h : Run w R s q n) : R < w.heap.size := by
  obtain ⟨blk, h1, h2, h3, h4⟩ := h; exact h4.lt
/-- A slice over a block of bytes that is known whole. -/
theorem Src.blk {w : World} {R b : Nat} {bs : List (BitVec 8)} (h : Blk w b (u8s bs)) (hb : b ≠ R) (hl : bs.length ≤ 1000000) : Src w R (some ⟨b, 0, none⟩) bs.length bs :=
  ⟨Nat.le_refl _, by unfold maxLen; omega, fun _ => ⟨b, 0, rfl, hb, fun j hj => by rw [Nat.zero_add, h.cell, u8s_get bs j hj]⟩⟩

def zeros32 : List (BitVec 8) := List.replicate 32 0
/-- Noughts in a row that 'make' has just laid. -/
theorem Src.made {w : World} {R B g m : Nat} (h : w.ownsRow B 5 1 (.slice (some ⟨g, 0, none⟩) m m) m (List.replicate m (.int .u8 0))) (hg : g ≠ R) (hm : m ≤ 1000000) : Src w R (some ⟨g, 0, none⟩) m (zerosN m) :=
  ⟨by rw [zerosN_length]; exact Nat.le_refl _, by unfold maxLen; omega, fun _ => ⟨g, 0, rfl, hg, fun j hj => by
    rw [zerosN_length] at hj
    have hc := World.ownsRow.cellAt h j (by omega)
    rw [Nat.zero_add, hc]
    simp [zerosN, hj, Y]⟩⟩
theorem Try.info8 : (Try.prog.info? 5).map (fun i => (i.zero, i.size, i.bytes)) = some (some (.int .u8 0), 1, 1) := by kernel_rfl

theorem Keep.other {w w' w'' : World} {R C : Nat} (h : Keep R w w') (k : Keep C w' w'') (hC : w.heap.size ≤ C) : Keep R w w'' :=
  ⟨k.os.trans h.os, k.tape.trans h.tape, k.output.trans h.output, Nat.le_trans h.size k.size, fun i hi hr => (k.block i (Nat.lt_of_lt_of_le hi h.size) (by omega)).trans (h.block i hi hr)⟩
theorem last_byte (x : BitVec 32) : U x % 256 = U x / (1 : Int) % 256 := by rw [Int.ediv_one]
theorem blk_val {w : World} {C k : Nat} {a b : Int} {cs : List Value} (h : Blk (w.setCell ⟨C, k, none⟩ (.int .u8 a)) C cs) (e : b = a) : Blk (w.setCell ⟨C, k, none⟩ (.int .u8 b)) C cs := by rw [e]; exact h
theorem keep_val {w w0 : World} {C k : Nat} {a b : Int} (h : Keep C w0 (w.setCell ⟨C, k, none⟩ (.int .u8 a))) (e : b = a) : Keep C w0 (w.setCell ⟨C, k, none⟩ (.int .u8 b)) := by rw [e]; exact h

end Go.Proofs.Ytlapnnkahijikaa
namespace Go.Proofs.Ytlapnnkahijikaa
open Go.ChangeShapes Go.WideShapes Go.ChangeAt Go.RowKit

/-- A slice of bytes that can be read in this world. -/
structure Bytes (w : World) (a : Option Addr) (cap : Nat) (bs : List (BitVec 8)) : Prop where
  room : bs.length ≤ cap
  most : cap ≤ maxLen
  lie : bs ≠ [] → ∃ b off, a = some ⟨b, off, none⟩ ∧ ∀ j, j < bs.length → w.cell? ⟨b, off + j, none⟩ = some (.int .u8 (Y (bs.getD j 0)))
theorem Bytes.src {w w' : World} {R B : Nat} {a : Option Addr} {cap : Nat} {bs : List (BitVec 8)} (h : Bytes w a cap bs) (hb : Below B w w') (hB : w.heap.size ≤ B) (hR : w.heap.size ≤ R) : Src w' R a cap bs :=
  ⟨h.room, h.most, fun hne => by
    obtain ⟨b, off, ha, hc⟩ := h.lie hne
    have hl : b < w.heap.size := World.block_lt_of_cell? w _ (hc 0 (List.length_pos_iff.2 hne))
    exact ⟨b, off, ha, by omega, fun j hj => by rw [hb.cell (p := ⟨b, off + j, none⟩) (show b < B by omega)]; exact hc j hj⟩⟩
theorem Bytes.later {w w' : World} {B : Nat} {a : Option Addr} {cap : Nat} {bs : List (BitVec 8)} (h : Bytes w a cap bs) (hb : Below B w w') (hB : w.heap.size ≤ B) : Bytes w' a cap bs :=
  ⟨h.room, h.most, fun hne => by
    obtain ⟨b, off, ha, hc⟩ := h.lie hne
    have hl : b < w.heap.size := World.block_lt_of_cell? w _ (hc 0 (List.length_pos_iff.2 hne))
    exact ⟨b, off, ha, fun j hj => by rw [hb.cell (p := ⟨b, off + j, none⟩) (show b < B by omega)]; exact hc j hj⟩⟩
/-- A row of such slices. -/
def Pieces (w : World) (a : Option Addr) (ps : List (List (BitVec 8))) : Prop :=
  ∀ i, i < ps.length → ∃ b off ai ci, a = some ⟨b, off, none⟩ ∧ w.cell? ⟨b, off + i, none⟩ = some (.slice ai (ps.getD i []).length ci) ∧ Bytes w ai ci (ps.getD i [])
theorem Pieces.later {w w' : World} {B : Nat} {a : Option Addr} {ps : List (List (BitVec 8))} (h : Pieces w a ps) (hb : Below B w w') (hB : w.heap.size ≤ B) : Pieces w' a ps := fun i hi => by
  obtain ⟨b, off, ai, ci, ha, hc, hbs⟩ := h i hi
  have hl := World.block_lt_of_cell? w _ hc
  exact ⟨b, off, ai, ci, ha, by rw [hb.cell (p := ⟨b, off + i, none⟩) (by show b < B; have : b < w.heap.size := hl; omega)]; exact hc, hbs.later hb hB⟩

theorem flat_next (ps : List (List (BitVec 8))) (k : Nat) (h : k < ps.length) : (ps.take (k + 1)).flatten = (ps.take k).flatten ++ ps.getD k [] := by
  rw [List.take_succ_eq_append_getElem h, List.flatten_append, List.getD_eq_getElem?_getD, List.getElem?_eq_getElem h]; simp
theorem flat_le (ps : List (List (BitVec 8))) (k : Nat) : (ps.take k).flatten.length ≤ ps.flatten.length := by
  have h : ps.flatten = (ps.take k).flatten ++ (ps.drop k).flatten := by rw [← List.flatten_append, List.take_append_drop]
  have h2 := congrArg List.length h
  rw [List.length_append] at h2; omega
theorem sum_end (l : List (BitVec 8)) : (mixAll (mixAll start l) (restOf l ++ padOf l.length)).bytes = sum l := by
  unfold sum; rw [closed_pad, mixAll_app start l]

end Go.Proofs.Ytlapnnkahijikaa
