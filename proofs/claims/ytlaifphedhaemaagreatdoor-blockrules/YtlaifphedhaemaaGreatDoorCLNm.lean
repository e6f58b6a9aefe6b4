/- coraclealike.Name at small numbers; coraclealike.Letters: a text of that size. -/
import Derived.Test.YtlaifphedhaemaaGreatDoorZX3
namespace Go.Proofs.YtlaifphedhaemaaGreatDoor
open Go.ChangeShapes Go.WideShapes Go.ChangeAt Go.RowKit

/-- The name of a small number. -/
def nameB (i : Nat) : List (BitVec 8) := (BitVec.ofNat 8 i :: List.replicate 30 0) ++ [1]
theorem nameB_length (i : Nat) : (nameB i).length = 32 := by simp [nameB]
theorem nameB_inj {i j : Nat} (hi : i < 256) (hj : j < 256) (h : nameB i = nameB j) : i = j := by
  unfold nameB at h
  simp only [List.cons_append] at h
  injection h with h _
  have := congrArg BitVec.toNat h
  rw [BitVec.toNat_ofNat, BitVec.toNat_ofNat, Nat.mod_eq_of_lt (by omega), Nat.mod_eq_of_lt (by omega)] at this
  exact this
/-- Its bytes behind so many rounds. -/
def nameK (i k : Nat) : List (BitVec 8) := if k = 0 then zeros32 else BitVec.ofNat 8 i :: List.replicate 31 0
theorem nameK_length (i k : Nat) : (nameK i k).length = 32 := by unfold nameK; split <;> simp [zeros32]
theorem Y_nat (i : Nat) (h : i < 256) : Y (BitVec.ofNat 8 i) = i := by
  unfold Y
  rw [BitVec.toNat_ofNat, Nat.mod_eq_of_lt (by omega)]
set_option maxRecDepth 100000 in
set_option maxHeartbeats 4000000 in
theorem name_any (i : Nat) (w : World) (hi : i < 256) :
    Calls Tryz.prog 24 #[.int .i64 i] w fun e w' => e = .returned (.agg (u8s (nameB i)).toArray) ∧ Below w.heap.size w w' := by
  have HUH : Hid (_ = _) := Tryz.underlying23
  go_enter Tryz.func24, Tryz.ntmps24
  go_upto_region 3 with fail
  generalize hwv : World.alloc (World.alloc w _) _ = w1
  have HB0 : Hid (Blk w1 w.heap.size (u8s zeros32)) := by rw [← hwv]; exact (Blk.mk _ _ _ rfl rfl).alloc _
  have HB1 : Hid (Blk w1 (w.heap.size + 1) (u8s zeros32)) := by rw [← hwv]; exact Blk.mk _ _ _ (by simp) rfl
  have HBL : Hid (Below w.heap.size w w1) := by rw [← hwv]; exact ((Below.refl _ _).alloc (Nat.le_refl _) _).alloc (by simp) _
  clear hwv
  generalize hN : w.heap.size = T at *
  go_loopw [4] (fun j wr => ∃ k : Nat, k ≤ 8 ∧ j = .int .i64 k ∧ Hid (Blk wr (T + 1) (u8s (nameK i k))) ∧ Hid (Blk wr T (u8s zeros32)) ∧ Hid (Below T w wr)) (fun j _ => 8 - (intOf j).toNat)
  case atStart => exact ⟨0, by omega, rfl, HB1.out, HB0.out, HBL.out⟩
  case round =>
    obtain ⟨k, hk, rfl, HK1, HK0, HBK⟩ := hrel
    clear HB0 HB1 HBL
    by_cases h8 : k = 8
    · subst h8
      have e8 : nameK i 8 = BitVec.ofNat 8 i :: List.replicate 31 0 := rfl
      rw [e8] at HK1
      have c1 : wr.cell? ⟨T + 1, 31, none⟩ = some (.int .u8 (Y 0)) := HK1.out.one rfl
      have f1 : wr.frozen? ⟨T + 1, 31, none⟩ = false := HK1.out.frozen 31
      generalize Y 0 = y0 at *
      obtain ⟨t0, hg0⟩ := HK0.out
      have HG0 : Hid (∀ v, (wr.setCell ⟨T + 1, 31, none⟩ v).heap[T]? = some (.cells (u8s zeros32).toArray t0 (0, 0))) := fun v => by
        rw [Below.heap_setCell wr _ v T (by show T ≠ T + 1; omega)]; exact hg0
      have HN : Hid (Blk (wr.setCell ⟨T + 1, 31, none⟩ (.int .u8 1)) (T + 1) (u8s (nameB i))) := by
        have := HK1.out.set 31 (.int .u8 1)
        exact this
      have HBE : Hid (Below T w (wr.setCell ⟨T + 1, 31, none⟩ (.int .u8 1))) := HBK.out.setCell (by show T ≤ T + 1; omega) _
      clear hg0
      go_wp2_with (first
        | (refine wpList_load_mid rfl 23 _ rfl (T + 1) 0 rfl (u8s (nameB i)) _ HN.out.whole HUH.out rfl (size_hashL (nameB i) (nameB_length i)) ?_)
        | (refine wpList_store_row rfl 23 _ _ rfl T (u8s (nameB i)).toArray rfl rfl t0 _ (HG0.out _) (size_h (nameB i) (nameB_length i)) (zh_size (nameB i) (nameB_length i)) (u8s_one _) ?_))
      refine bodyPost_ret (v := .agg (u8s (nameB i)).toArray) ?_ rfl ⟨rfl, ?_⟩
      · obtain ⟨tt, hb⟩ := Blk.row (ds := u8s (nameB i)) ⟨t0, HG0.out _⟩
        exact results_cell_row Tryz.results24 _ _ T tt _ _ _ rfl hb Tryz.underlying23 rfl (size_h (nameB i) (nameB_length i))
      · subst hN
        exact below_setRow HBE.out (Nat.le_refl _) _
    · have hk8 : k < 8 := by omega
      have c1 : wr.cell? ⟨T + 1, k, none⟩ = some (.int .u8 (Y ((nameK i k).getD k 0))) := HK1.out.one (u8s_get _ k (by rw [nameK_length]; omega))
      have f1 : wr.frozen? ⟨T + 1, k, none⟩ = false := HK1.out.frozen k
      generalize Y ((nameK i k).getD k 0) = y0 at *
      have HYI : Hid (Y (BitVec.ofNat 8 i) = i) := Y_nat i hi
      have HBE : Hid (∀ v, Below T w (wr.setCell ⟨T + 1, k, none⟩ v)) := fun v => HBK.out.setCell (by show T ≤ T + 1; omega) _
      have HZE : Hid (∀ v, Blk (wr.setCell ⟨T + 1, k, none⟩ v) T (u8s zeros32)) := fun v => HK0.out.other (by show T ≠ T + 1; omega) _
      have HSE : Hid (∀ v, Blk (wr.setCell ⟨T + 1, k, none⟩ v) (T + 1) ((u8s (nameK i k)).set k v)) := fun v => HK1.out.set k v
      obtain (rfl | rfl | rfl | rfl | rfl | rfl | rfl | rfl) : k = 0 ∨ k = 1 ∨ k = 2 ∨ k = 3 ∨ k = 4 ∨ k = 5 ∨ k = 6 ∨ k = 7 := by omega
      all_goals
        clear h8 hk8 hk HK1 HK0 HBK
        go_wp2_with fail
        go_roundw
        case measure => simp [intOf]
      case rel =>
        refine ⟨1, by omega, by go_num, ?_, HZE.out _, HBE.out _⟩
        have := HSE.out (.int .u8 (i : Int))
        rw [← HYI.out] at this ⊢
        exact this
      all_goals
        first
        | rw [show (i : Int) / 256 = 0 by omega]
        | rw [show (i : Int) / 65536 = 0 by omega]
        | rw [show (i : Int) / 16777216 = 0 by omega]
        | rw [show (i : Int) / 4294967296 = 0 by omega]
        | rw [show (i : Int) / 1099511627776 = 0 by omega]
        | rw [show (i : Int) / 281474976710656 = 0 by omega]
        | rw [show (i : Int) / 72057594037927936 = 0 by omega]
      all_goals
        first
        | exact ⟨2, by omega, by go_num, HSE.out (.int .u8 0), HZE.out _, HBE.out _⟩
        | exact ⟨3, by omega, by go_num, HSE.out (.int .u8 0), HZE.out _, HBE.out _⟩
        | exact ⟨4, by omega, by go_num, HSE.out (.int .u8 0), HZE.out _, HBE.out _⟩
        | exact ⟨5, by omega, by go_num, HSE.out (.int .u8 0), HZE.out _, HBE.out _⟩
        | exact ⟨6, by omega, by go_num, HSE.out (.int .u8 0), HZE.out _, HBE.out _⟩
        | exact ⟨7, by omega, by go_num, HSE.out (.int .u8 0), HZE.out _, HBE.out _⟩
        | exact ⟨8, by omega, by go_num, HSE.out (.int .u8 0), HZE.out _, HBE.out _⟩

theorem made_u8s (n : Nat) : (madeCells #[Value.int .u8 0] n).toList = u8s (List.replicate n 0) := by
  unfold madeCells u8s
  rw [List.map_replicate]
  apply List.ext_getElem?
  intro t
  by_cases ht : t < n
  · simp [ht, Nat.mod_one]; rfl
  · simp [ht]
end Go.Proofs.YtlaifphedhaemaaGreatDoor
