/- Bytes as strings. -/
import Derived.Test.YtlgadelcgboeoaaDoorPParted
import Derived.Laws.BytesString
namespace Go.Proofs.YtlgadelcgboeoaaDoor
open Go.RowKit

/-- These bytes, as a string. -/
def str (bs : List (BitVec 8)) : ByteArray := ⟨(bs.map UInt8.ofBitVec).toArray⟩
theorem str_list (bs : List (BitVec 8)) : (str bs).toList = bs.map UInt8.ofBitVec := by
  rw [ByteArray.toList_eq]; simp [str]
theorem str_size (bs : List (BitVec 8)) : (str bs).size = bs.length := by
  show (bs.map UInt8.ofBitVec).toArray.size = _; simp
theorem ext_data {a b : ByteArray} (h : a.data.toList = b.data.toList) : a = b := by
  cases a; cases b; congr 1; exact Array.toList_inj.1 h
theorem fold_push : ∀ (ns : List Int) (s : ByteArray), (ns.foldl (fun r n => r.push (UInt8.ofNat n.toNat)) s).data.toList = s.data.toList ++ ns.map fun n => UInt8.ofNat n.toNat
  | [], s => by simp
  | n :: ns, s => by rw [List.foldl_cons, fold_push ns]; simp [ByteArray.push]
theorem byte_of (x : BitVec 8) : UInt8.ofNat (Y x).toNat = UInt8.ofBitVec x := by
  unfold Y
  rw [Int.toNat_natCast]
  apply UInt8.toNat_inj.1
  rw [UInt8.toNat_ofNat']
  exact Nat.mod_eq_of_lt x.isLt
theorem fold_str (bs : List (BitVec 8)) : ((bs.map Y).foldl (fun r n => r.push (UInt8.ofNat n.toNat)) ByteArray.empty) = str bs := by
  apply ext_data
  rw [fold_push, List.map_map]
  show [] ++ _ = (bs.map UInt8.ofBitVec).toArray.toList
  simp only [List.nil_append]
  exact List.map_congr_left fun x _ => byte_of x
theorem u8s_ints (bs : List (BitVec 8)) : u8s bs = (bs.map Y).map (Value.int .u8) := by unfold u8s; rw [List.map_map]; rfl
theorem conv_str {w : World} {b n c : Nat} {bs : List (BitVec 8)} (h : Blk w b (u8s bs)) (hn : bs.length = n) : (convert 62 9 (.slice (some ⟨b, 0, none⟩) n c)).run Tryd.prog w = .ok (.string (str bs)) w := by
  rw [run_convert_bytes_string w _ _ _ _ _ _ Tryd.underlying62 Tryd.underlying5 Tryd.underlying9]
  have hl := run_loadCells_list (P := Tryd.prog) w ⟨b, 0, none⟩ (u8s bs) (fun j v hv => by rw [Addr.add_mid, Nat.zero_add, h.cell]; exact hv)
  rw [u8s_length, hn, u8s_ints] at hl
  rw [run_bytesToString w _ n c (bs.map Y) hl, fold_str]

theorem bytesLess_eq : ∀ a b : List (BitVec 8), a.length = b.length → Op.bytesLess (a.map UInt8.ofBitVec) (b.map UInt8.ofBitVec) = lessB a b
  | [], [], _ => rfl
  | [], _ :: _, h => by simp at h
  | _ :: _, [], h => by simp at h
  | x :: a, y :: b, h => by
    have ih := bytesLess_eq a b (by simpa using h)
    rw [List.map_cons, List.map_cons, Op.bytesLess, lessB, ih]
    by_cases e : x = y
    · subst e
      rw [if_pos rfl]
      have h1 : ¬ UInt8.ofBitVec x < UInt8.ofBitVec x := by rw [UInt8.lt_iff_toNat_lt]; omega
      simp [h1]
    · rw [if_neg e]
      have h1 : (UInt8.ofBitVec x == UInt8.ofBitVec y) = false := by
        rw [beq_eq_false_iff_ne]
        intro h
        exact e (by injection h)
      rw [h1, Bool.false_and, Bool.or_false]
      congr 1
end Go.Proofs.YtlgadelcgboeoaaDoor
