/- sha.Sum is the standard's sum of all pieces, one behind the other. -/
import Derived.Test.YtbjndfnpfmeioaaDoorEnd
namespace Go.Proofs.YtbjndfnpfmeioaaDoor
open Go.ChangeShapes Go.WideShapes Go.ChangeAt Go.RowKit

/-- A slice of bytes that can be read in this world. -/
structure Bytes (w : World) (a : Option Addr) (cap : Nat) (bs : List (BitVec 8)) : Prop where
  room : bs.length ≤ cap
  most : cap ≤ maxLen
  lie : bs ≠ [] → ∃ b off, a = some ⟨b, off, none⟩ ∧ ∀ j, j < bs.length → w.cell? ⟨b, off + j, none⟩ = some (.int .u8 (Y (bs.getD j 0)))
theorem Bytes.src {w w' : World} {R B : Nat} {a : Option Addr} {cap : Nat} {bs : List (BitVec 8)} (h : Bytes w a cap bs) (hb : Below B w w') (hB : w.heap.size ≤ B) (hR : w.heap.size ≤ R) : Src w' R a cap bs :=
  ⟨h.room, h.most, fun hne => by
    obtain ⟨b, off, ha, hc⟩ := h.lie hne
    have hl : b < w.heap.size := World.block_lt_of_cell? w _ (hc 0 (List.length_pos_iff.2 hne))
    exact ⟨b, off, ha, by omega, fun j hj => by rw [hb.cell (p := ⟨b, off + j, none⟩) (show b < B by omega)]; exact hc j hj⟩⟩
theorem Bytes.later {w w' : World} {B : Nat} {a : Option Addr} {cap : Nat} {bs : List (BitVec 8)} (h : Bytes w a cap bs) (hb : Below B w w') (hB : w.heap.size ≤ B) : Bytes w' a cap bs :=
  ⟨h.room, h.most, fun hne => by
    obtain ⟨b, off, ha, hc⟩ := h.lie hne
    have hl : b < w.heap.size := World.block_lt_of_cell? w _ (hc 0 (List.length_pos_iff.2 hne))
    exact ⟨b, off, ha, fun j hj => by rw [hb.cell (p := ⟨b, off + j, none⟩) (show b < B by omega)]; exact hc j hj⟩⟩
/-- A row of such slices. -/
def Pieces (w : World) (a : Option Addr) (ps : List (List (BitVec 8))) : Prop :=
  ∀ i, i < ps.length → ∃ b off ai ci, a = some ⟨b, off, none⟩ ∧ w.cell? ⟨b, off + i, none⟩ = some (.slice ai (ps.getD i []).length ci) ∧ Bytes w ai ci (ps.getD i [])
theorem Pieces.later {w w' : World} {B : Nat} {a : Option Addr} {ps : List (List (BitVec 8))} (h : Pieces w a ps) (hb : Below B w w') (hB : w.heap.size ≤ B) : Pieces w' a ps := fun i hi => by
  obtain ⟨b, off, ai, ci, ha, hc, hbs⟩ := h i hi
  have hl := World.block_lt_of_cell? w _ hc
  exact ⟨b, off, ai, ci, ha, by rw [hb.cell (p := ⟨b, off + i, none⟩) (by show b < B; have : b < w.heap.size := hl; omega)]; exact hc, hbs.later hb hB⟩

theorem flat_next (ps : List (List (BitVec 8))) (k : Nat) (h : k < ps.length) : (ps.take (k + 1)).flatten = (ps.take k).flatten ++ ps.getD k [] := by
  rw [List.take_succ_eq_append_getElem h, List.flatten_append, List.getD_eq_getElem?_getD, List.getElem?_eq_getElem h]; simp
theorem flat_le (ps : List (List (BitVec 8))) (k : Nat) : (ps.take k).flatten.length ≤ ps.flatten.length := by
  have h : ps.flatten = (ps.take k).flatten ++ (ps.drop k).flatten := by rw [← List.flatten_append, List.take_append_drop]
  have h2 := congrArg List.length h
  rw [List.length_append] at h2; omega
theorem sum_end (l : List (BitVec 8)) : (mixAll (mixAll start l) (restOf l ++ padOf l.length)).bytes = sum l := by
  unfold sum; rw [closed_pad, mixAll_app start l]

set_option maxRecDepth 100000 in
set_option maxHeartbeats 4000000 in
theorem sum_any (a : Option Addr) (m cap : Nat) (ps : List (List (BitVec 8))) (hm : ps.length = m) (w : World) (hK : Kw w) (hcap : m ≤ 1000000) (hp : Pieces w a ps) (hn : ps.flatten.length < 144115188075855872) :
    Calls Tryd.prog 11 #[.slice a m cap] w fun e w' => e = .returned (.agg (u8s (sum ps.flatten)).toArray) ∧ Below w.heap.size w w' := by
  have HK : Hid (Kw w) := hK
  have HP : Hid (Pieces w a ps) := hp
  have HM : Hid (ps.length = m) := hm
  have hpos := hK.pos
  have hzr := zero_running
  clear hK hp hm
  go_enter Tryd.func11, Tryd.ntmps11
  go_wp2_with fail
  generalize hw1 : World.alloc w _ = w1
  have hN1 : Blk w1 w.heap.size (u8s zeros32) := by rw [← hw1]; exact Blk.mk _ _ _ rfl rfl
  have hb1 : Below w.heap.size w w1 := by rw [← hw1]; exact (Below.refl _ _).alloc (Nat.le_refl _) _
  clear hw1
  refine (begin_any w1).mono ?_
  rintro e w2 ⟨rfl, hb2⟩
  have hN2 := hN1.below hb2 hN1.lt
  have hb02 : Below w.heap.size w w2 := hb1.trans (hb2.mono hb1.size)
  have hz2 := hN2.lt
  clear hN1 hb1 hb2
  have i47 : (Tryd.prog.info? 47).map (·.size) = some (runCells start zeros64 0 0).toArray.size := by kernel_rfl
  have I47 : Hid (_ = _) := i47
  have hsz : (runCells nought zeros64 0 0).toArray.size = (runCells start zeros64 0 0).toArray.size := by kernel_rfl
  have HSZ : Hid (_ = _) := hsz
  have hone : (runCells start zeros64 0 0).toArray.all (·.oneCell') = true := by kernel_rfl
  have HONE : Hid (_ = _) := hone
  clear i47 hsz hone
  go_wp2_with (refine wpList_store_row rfl 47 _ _ rfl w2.heap.size (runCells start zeros64 0 0).toArray rfl rfl 47 (runCells nought zeros64 0 0).toArray (heap_alloc_new _ _) I47.out HSZ.out HONE.out ?_)
  generalize hw3 : World.setRow _ _ _ = w3
  have hR3 : Blk w3 w2.heap.size (runCells start zeros64 0 0) := by rw [← hw3]; exact (Blk.new w2 _ _).row
  have hb3 : Below w2.heap.size w2 w3 := by rw [← hw3]; exact below_setRow ((Below.refl _ _).alloc (Nat.le_refl _) _) (Nat.le_refl _) _
  clear hw3
  have hN3 := hN2.below hb3 hz2
  have hb03 : Below w.heap.size w w3 := hb02.trans (hb3.mono hb02.size)
  have hrun3 : Run w3 w2.heap.size (mixAll start (ps.take 0).flatten) (restOf (ps.take 0).flatten) (ps.take 0).flatten.length := by
    rw [List.take_zero]
    show Run w3 w2.heap.size (mixAll start []) (restOf []) 0
    rw [mixAll_short _ _ (by decide), restOf_short _ (by decide)]
    exact ⟨zeros64, rfl, rfl, by decide, hR3⟩
  have hR3l := hR3.lt
  generalize hR : w2.heap.size = R at *
  clear hR3 hb3 hN2 hb02
  go_loopw [9] (fun i wr => ∃ k : Nat, k ≤ m ∧ i = .int .i64 k ∧ Run wr R (mixAll start (ps.take k).flatten) (restOf (ps.take k).flatten) (ps.take k).flatten.length ∧ Keep R w3 wr) (fun i _ => m - (intOf i).toNat)
  case atStart => exact ⟨0, Nat.zero_le _, rfl, hrun3, Keep.refl _ _⟩
  case round =>
    obtain ⟨k, hk, rfl, hrun, hkeep⟩ := hrel
    have hbr : Below w.heap.size w wr := hb03.trans (hkeep.below (by omega) hb03.size)
    by_cases hlt : k < m
    · have hkl : k < ps.length := by rw [HM.out]; exact hlt
      obtain ⟨b, off, ai, ci, rfl, hc, hbs⟩ := HP.out k hkl
      have hbl : b < w.heap.size := World.block_lt_of_cell? w _ hc
      have hcr : wr.cell? ⟨b, off + k, none⟩ = some (.slice ai (ps.getD k []).length ci) := by rw [hbr.cell (p := ⟨b, off + k, none⟩) hbl]; exact hc
      have HSRC : Hid (Src wr R ai ci (ps.getD k [])) := hbs.src hbr (Nat.le_refl _) (by omega)
      have hfl := flat_le ps (k + 1)
      rw [flat_next ps k hkl, List.length_append] at hfl
      obtain ⟨bs, hbsq⟩ : ∃ x, x = ps.getD k [] := ⟨_, rfl⟩
      rw [← hbsq] at hcr HSRC hfl
      have HBS : Hid (bs = ps.getD k []) := hbsq
      clear hbsq hc hbs
      have e0 : (0 : Int) ≤ (k : Int) := by omega
      have e1 : (k : Int) < (m : Int) := by omega
      go_wp2_with fail
      refine (add_any R _ _ _ ai ci bs wr (HK.out.below hbr hpos) (by omega) hrun HSRC.out (by omega)).mono ?_
      rintro e w5 ⟨rfl, hrun5, hk5⟩
      go_wp2_with fail
      go_roundw
      case rel =>
        refine ⟨k + 1, by omega, by go_num, ?_, hkeep.trans hk5⟩
        rw [flat_next ps k hkl, ← HBS.out, mixAll_app, restOf_app, List.length_append]
        exact hrun5
      case measure => simp [intOf]; omega
    · obtain rfl : k = m := by omega
      have e1 : ¬ (k : Int) < (k : Int) := by omega
      rw [← HM.out, List.take_length] at hrun
      have hNr := hN3.keep hkeep (by omega)
      go_wp2_with fail
      refine (end_any R _ _ _ wr (HK.out.below hbr hpos) (by omega) hrun hn (restOf_length _)).mono ?_
      rintro e w6 ⟨rfl, hk6⟩
      rw [sum_end]
      have hN6 := hNr.keep hk6 (by omega)
      have hb6 : Below w.heap.size w w6 := hbr.trans (hk6.below (by omega) hbr.size)
      have i28 : (Tryd.prog.info? 28).map (·.size) = some (u8s (sum ps.flatten)).toArray.size := by
        rw [show (u8s (sum ps.flatten)).toArray.size = 32 by simp [sum_length]]; kernel_rfl
      have I28 : Hid (_ = _) := i28
      have hsz : (u8s zeros32).toArray.size = (u8s (sum ps.flatten)).toArray.size := by simp [sum_length, zeros32]
      have HS28 : Hid (_ = _) := hsz
      obtain ⟨tN, hgN⟩ := hN6
      have HgN : Hid (w6.heap[w.heap.size]? = _) := hgN
      clear i28 hsz hgN
      go_wp2_with (refine wpList_store_row rfl 28 _ _ rfl w.heap.size (u8s (sum ps.flatten)).toArray rfl rfl tN _ HgN.out I28.out HS28.out (u8s_one _) ?_)
      refine bodyPost_ret (v := .agg (u8s (sum ps.flatten)).toArray) ?_ rfl ⟨rfl, ?_⟩
      · obtain ⟨t, hb⟩ := Blk.row (ds := u8s (sum ps.flatten)) ⟨tN, HgN.out⟩
        exact results_cell_row Tryd.results11 _ _ w.heap.size t _ _ _ rfl hb Tryd.underlying28 rfl I28.out
      · exact below_setRow hb6 (Nat.le_refl _) _
end Go.Proofs.YtbjndfnpfmeioaaDoor
