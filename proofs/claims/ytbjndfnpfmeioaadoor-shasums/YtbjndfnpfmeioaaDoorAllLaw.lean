/- ShaAll answers true at every number and byte. -/
import Derived.Test.YtbjndfnpfmeioaaDoorAwake
import Derived.Test.YtbjndfnpfmeioaaDoorRefTwice
import Derived.Test.YtbjndfnpfmeioaaDoorApart
import Derived.Test.YtbjndfnpfmeioaaDoorHashEq
import Derived.Deep.RegionHeld3
namespace Go.Proofs.YtbjndfnpfmeioaaDoor
open Go.ChangeShapes Go.WideShapes Go.ChangeAt Go.RowKit

theorem rep_more {α : Type} (k : Nat) (x : α) : List.replicate k x ++ [x] = List.replicate (k + 1) x := by rw [List.replicate_succ']
/-- A part of a block of bytes that is known whole. -/
theorem Bytes.part {w : World} {b m cap : Nat} {bs : List (BitVec 8)} (h : Blk w b (u8s bs)) (hm : m ≤ bs.length) (hc : bs.length = cap) (hl : cap ≤ 1000000) : Bytes w (some ⟨b, 0, none⟩) cap (bs.take m) :=
  ⟨by rw [List.length_take]; omega, by unfold maxLen; omega, fun _ => ⟨b, 0, rfl, fun j hj => by
    rw [List.length_take] at hj
    rw [Nat.zero_add, h.cell, u8s_get bs j (by omega), List.getD_eq_getElem?_getD, List.getD_eq_getElem?_getD, List.getElem?_take_of_lt (by omega)]⟩⟩
/-- One piece. -/
theorem Pieces.single {w : World} {p n cap : Nat} {a : Option Addr} {bs : List (BitVec 8)} (hp : Blk w p [.slice a n cap]) (h : Bytes w a cap bs) (hn : bs.length = n) : Pieces w (some ⟨p, 0, none⟩) [bs] := by
  intro i hi
  obtain rfl : i = 0 := by simpa using hi
  exact ⟨p, 0, a, cap, rfl, by rw [hp.cell]; show some _ = some _; rw [← hn]; rfl, h⟩

theorem two_x (w : World) (a b : Obj) : ((w.alloc a).alloc b).heap[w.heap.size]? = some a := by
  rw [heap_alloc_old (h := by simp)]; exact heap_alloc_new _ _
theorem two_y (w : World) (a b : Obj) (cs : Array Value) : (((w.alloc a).alloc b).setRow w.heap.size cs).heap[w.heap.size + 1]? = some b := by
  rw [heap_setRow _ _ _ _ (by omega)]; exact heap_alloc2_new _ _ _
theorem refsum_is (a : Option Addr) (n cap : Nat) (bs s : List (BitVec 8)) (w : World) (hb : Bytes w a cap bs) (hl : bs.length = n) (hs : s = sum bs) (hn : n < 144115188075855872) :
    Calls Tryd.prog 9 #[.slice a n cap] w fun e w' => e = .returned (.agg (u8s s).toArray) ∧ Below w.heap.size w w' := by
  subst hl; subst hs; exact refsum_any a cap bs w hb hn

set_option maxRecDepth 100000 in
set_option maxHeartbeats 4000000 in
theorem all_out (n : Int) (x : Int) (w : World) (hK : Kw w) (hn : n < 0 ∨ 260 < n) :
    Calls Tryd.prog 4 #[.int .i64 n, .int .u8 x] w fun e w' => e = .returned (.bool true) ∧ Below w.heap.size w w' := by
  have HK : Hid (Kw w) := hK
  clear hK
  rcases hn with hn | hn
  · go_enter Tryd.func4, Tryd.ntmps4
    go_wp2_with (go_at_call 7; refine (awake_any _ HK.out).mono ?_; rintro e w1 ⟨rfl, hb1⟩)
    go_ret
    exact ⟨rfl, hb1⟩
  · have h0 : decide (n < 0) = false := by rw [decide_eq_false_iff_not]; omega
    go_enter Tryd.func4, Tryd.ntmps4
    go_wp2_with (go_at_call 7; refine (awake_any _ HK.out).mono ?_; rintro e w1 ⟨rfl, hb1⟩)
    go_ret
    exact ⟨rfl, hb1⟩

set_option maxRecDepth 100000 in
set_option maxHeartbeats 4000000 in
theorem all_in (m : Nat) (x : BitVec 8) (w : World) (hK : Kw w) (hm : m ≤ 260) :
    Calls Tryd.prog 4 #[.int .i64 (m : Int), .int .u8 (Y x)] w fun e w' => e = .returned (.bool true) ∧ Below w.heap.size w w' := by
  have HK : Hid (Kw w) := hK
  have hpos := hK.pos
  clear hK
  have h0 : decide ((m : Int) < 0) = false := by rw [decide_eq_false_iff_not]; omega
  have h1 : decide ((260 : Int) < (m : Int)) = false := by rw [decide_eq_false_iff_not]; omega
  have h2 : (0 : Int) ≤ (m : Int) := by omega
  have h3 : (m : Int) ≤ 260 := by omega
  obtain ⟨i0, hi0, hi1, hi2, hi3⟩ := info_parts Tryd.info8
  go_enter Tryd.func4, Tryd.ntmps4
  go_wp2_with (at_make; refine wpList_make_full _ rfl _ _ 22 rfl w.heap.size 5 i0 (.int .u8 0) 1 Tryd.underlying22 hi0 hi1 hi2 .i64 .i64 _ _ (m + 1) rfl rfl (by omega) (by omega) (by rw [hi3]; omega) (by unfold maxLen; omega) (Nat.le_refl _) ?_)
  intro w1 hown hgrow
  have hb1 : Below w.heap.size w w1 := (Below.refl _ w).grown hgrow (Nat.le_refl _) (by simp)
  rw [toList_madeCells_one] at hown
  have hB1 : Blk w1 w.heap.size (u8s (List.replicate (m + 1) 0)) := by
    have := Blk.made hown
    rw [u8s, List.map_replicate]; exact this
  clear hown hgrow hi0 hi1 hi2 hi3
  generalize hB : w.heap.size = B at *
  go_wp2_with fail
  go_loopw [6] (fun i wr => ∃ k : Nat, k ≤ m + 1 ∧ i = .int .i64 k ∧ Blk wr B (u8s (List.replicate k x ++ List.replicate (m + 1 - k) 0)) ∧ Below B w wr) (fun i _ => m + 1 - (intOf i).toNat)
  case atStart => exact ⟨0, by omega, rfl, hB1, hb1⟩
  case round =>
    obtain ⟨k, hk, rfl, hBk, hbk⟩ := hrel
    clear hB1 hb1
    by_cases hlt : k < m + 1
    · have hset := hBk.set k (.int .u8 (Y x))
      rw [u8s_set, fill_set _ _ _ (m + 1) k (by simp) hlt, rep_more] at hset
      have HSET : Hid (Blk _ _ _) := hset
      have HBEL : Hid (Below B w (wr.setCell ⟨B, k, none⟩ (.int .u8 (Y x)))) := hbk.setCell (Nat.le_refl _) _
      have ck := hBk.cell k
      rw [u8s_get _ k (by simp; omega)] at ck
      generalize Y ((List.replicate k x ++ List.replicate (m + 1 - k) 0).getD k 0) = y0 at ck
      have fk := hBk.frozen k
      have k0 : (0 : Int) ≤ (k : Int) := by omega
      have k1 : (k : Int) < (m : Int) + 1 := by omega
      clear hset hBk hbk
      go_wp2_with fail
      exact ⟨⟨k + 1, by omega, by go_num, HSET.out, HBEL.out⟩, by simp [intOf]; omega⟩
    · obtain rfl : k = m + 1 := by omega
      rw [Nat.sub_self, List.replicate_zero, List.append_nil] at hBk
      have hwr : B < wr.heap.size := hBk.lt
      have e1 : (m : Int) ≤ (m : Int) + 1 := by omega
      clear hlt hk
      go_wp2_with fail
      generalize hw2 : World.alloc wr _ = w2
      have hP2 : Blk w2 wr.heap.size [.slice (some ⟨B, 0, none⟩) m (m + 1)] := by rw [← hw2]; exact Blk.mk _ _ _ rfl rfl
      have hb2 : Below wr.heap.size wr w2 := by rw [← hw2]; exact (Below.refl _ _).alloc (Nat.le_refl _) _
      clear hw2
      have hB2 := hBk.below hb2 hwr
      have hb02 : Below B w w2 := hbk.trans (hb2.mono (by omega))
      have hby2 : Bytes w2 (some ⟨B, 0, none⟩) (m + 1) (List.replicate m x) := by
        have := Bytes.part (m := m) hB2 (by simp) (List.length_replicate) (by omega)
        rw [List.take_replicate, Nat.min_eq_left (by omega)] at this; exact this
      refine (sum_any (some ⟨wr.heap.size, 0, none⟩) 1 1 [List.replicate m x] rfl w2 (HK.out.below hb02 (by omega)) (by omega) (Pieces.single hP2 hby2 (by simp)) (by simp; omega)).mono ?_
      rintro e w3 ⟨rfl, hb3⟩
      rw [show [List.replicate m x].flatten = List.replicate m x by simp]
      have hB3 := hB2.below hb3 hB2.lt
      have hb03 : Below B w w3 := hb02.trans (hb3.mono (Nat.le_of_lt hB2.lt))
      obtain ⟨sx, hsx⟩ : ∃ y, y = sum (List.replicate m x) := ⟨_, rfl⟩
      rw [← hsx]
      have HSX : Hid (sx = sum (List.replicate m x)) := hsx
      clear hsx hP2 hb2 hby2 hB2 hb02 hb3 hBk hbk
      go_wp2_with fail
      generalize hw4 : World.alloc w3 _ = w4
      have hP4 : Blk w4 w3.heap.size [.slice (some ⟨B, 0, none⟩) (m + 1) (m + 1)] := by rw [← hw4]; exact Blk.mk _ _ _ rfl rfl
      have hb4 : Below w3.heap.size w3 w4 := by rw [← hw4]; exact (Below.refl _ _).alloc (Nat.le_refl _) _
      clear hw4
      have hB4 := hB3.below hb4 hB3.lt
      have hb04 : Below B w w4 := hb03.trans (hb4.mono (Nat.le_of_lt hB3.lt))
      have hby4 : Bytes w4 (some ⟨B, 0, none⟩) (m + 1) (List.replicate (m + 1) x) := by
        have := Bytes.part (m := m + 1) hB4 (by simp) (List.length_replicate) (by omega)
        rw [List.take_replicate, Nat.min_eq_left (by omega)] at this; exact this
      refine (sum_any (some ⟨w3.heap.size, 0, none⟩) 1 1 [List.replicate (m + 1) x] rfl w4 (HK.out.below hb04 (by omega)) (by omega) (Pieces.single hP4 hby4 (by simp)) (by simp; omega)).mono ?_
      rintro e w5 ⟨rfl, hb5⟩
      rw [show [List.replicate (m + 1) x].flatten = List.replicate (m + 1) x by simp]
      have hB5 := hB4.below hb5 hB4.lt
      have hb05 : Below B w w5 := hb04.trans (hb5.mono (Nat.le_of_lt hB4.lt))
      obtain ⟨sy, hsy⟩ : ∃ y, y = sum (List.replicate (m + 1) x) := ⟨_, rfl⟩
      rw [← hsy]
      have HSY : Hid (sy = sum (List.replicate (m + 1) x)) := hsy
      have hlx : sx.length = 32 := by rw [HSX.out]; exact sum_length _
      have hly : sy.length = 32 := by rw [hsy]; exact sum_length _
      have HLX : Hid (sx.length = 32) := hlx
      have HLY : Hid (sy.length = 32) := hly
      have IX : Hid ((Tryd.prog.info? 28).map (·.size) = some (u8s sx).toArray.size) := by
        show _ = _
        rw [show (u8s sx).toArray.size = 32 by simp [hlx]]; kernel_rfl
      have IY : Hid ((Tryd.prog.info? 28).map (·.size) = some (u8s sy).toArray.size) := by
        show _ = _
        rw [show (u8s sy).toArray.size = 32 by simp [hly]]; kernel_rfl
      have ZX : Hid ((u8s zeros32).toArray.size = (u8s sx).toArray.size) := by show _ = _; simp [hlx, zeros32]
      have ZY : Hid ((u8s zeros32).toArray.size = (u8s sy).toArray.size) := by show _ = _; simp [hly, zeros32]
      clear hsy hP4 hb4 hby4 hB4 hb04 hb5 hB3 hb03 hlx hly
      go_upto_region 9 with (first
        | (refine wpList_store_row rfl 28 _ _ rfl w5.heap.size (u8s sx).toArray rfl rfl 28 (u8s zeros32).toArray (two_x _ _ _) IX.out ZX.out (u8s_one _) ?_)
        | (refine wpList_store_row rfl 28 _ _ rfl (w5.heap.size + 1) (u8s sy).toArray rfl rfl 28 (u8s zeros32).toArray (two_y _ _ _ _) IY.out ZY.out (u8s_one _) ?_))
      generalize hw6 : World.setRow (World.setRow _ _ _) _ _ = w6
      have hz5 : B < w5.heap.size := hB5.lt
      have hX6 : Blk w6 w5.heap.size (u8s sx) := by rw [← hw6]; exact (((Blk.new w5 _ _).alloc _).row).otherRow (by omega) _
      have hY6 : Blk w6 (w5.heap.size + 1) (u8s sy) := by rw [← hw6]; exact ((Blk.mk (w5.alloc _) _ _ (by simp) rfl : Blk _ (w5.heap.size + 1) (u8s zeros32)).otherRow (by omega) _).row
      have hb6 : Below w5.heap.size w5 w6 := by rw [← hw6]; exact below_setRow (below_setRow (((Below.refl _ _).alloc (Nat.le_refl _) _).alloc (by simp) _) (Nat.le_refl _) _) (by omega) _
      clear hw6
      have hB6 := hB5.below hb6 hz5
      have hb06 : Below B w w6 := hb05.trans (hb6.mono (by omega))
      have HSK : Hid (∀ w', Below w6.heap.size w6 w' → w'.rangeAt w5.heap.size 0 (u8s sx) ∧ w'.rangeAt (w5.heap.size + 1) 0 (u8s sy)) := fun w' hw' =>
        ⟨fun j v hv => by rw [Nat.zero_add]; exact ((hX6.below hw' hX6.lt).cell j).trans hv, fun j v hv => by rw [Nat.zero_add]; exact ((hY6.below hw' hY6.lt).cell j).trans hv⟩
      have HBY : Hid (∀ w', Below w6.heap.size w6 w' → Bytes w' (some ⟨B, 0, none⟩) (m + 1) (List.replicate m x) ∧ Bytes w' (some ⟨B, 0, none⟩) (m + 1) (List.replicate (m + 1) x) ∧ Kw w') := fun w' hw' => by
        have h7 := hB6.below hw' hB6.lt
        have h8 := Bytes.part (m := m) h7 (by simp) (List.length_replicate) (by omega)
        have h9 := Bytes.part (m := m + 1) h7 (by simp) (List.length_replicate) (by omega)
        rw [List.take_replicate, Nat.min_eq_left (by omega)] at h8 h9
        exact ⟨h8, h9, HK.out.below (hb06.trans (hw'.mono (Nat.le_of_lt hB6.lt))) (by omega)⟩
      have hne : (sx == sy) = false := by
        have := sums_apart m hm x
        rw [← HSX.out, ← HSY.out] at this
        simpa using this
      have q1 : ∀ w' : World, (binOp .eql 28 (.agg (u8s sx).toArray) (.agg (u8s sx).toArray)).run Tryd.prog w' = .ok (.bool true) w' := fun w' => by rw [eql_hash sx sx HLX.out HLX.out]; simp
      have q2 : ∀ w' : World, (binOp .eql 28 (.agg (u8s sy).toArray) (.agg (u8s sy).toArray)).run Tryd.prog w' = .ok (.bool true) w' := fun w' => by rw [eql_hash sy sy HLY.out HLY.out]; simp
      have q3 : ∀ w' : World, (binOp .neq 28 (.agg (u8s sx).toArray) (.agg (u8s sy).toArray)).run Tryd.prog w' = .ok (.bool true) w' := fun w' => by rw [neq_hash sx sy HLX.out HLY.out, hne]; rfl
      have q4 : ∀ w' : World, (Op.equalIn 10000 28 (.agg (u8s sx).toArray) (.agg (u8s sx).toArray)).run Tryd.prog w' = .ok true w' := fun w' => by rw [equalIn_hash sx sx HLX.out HLX.out]; simp
      have q5 : ∀ w' : World, (Op.equalIn 10000 28 (.agg (u8s sy).toArray) (.agg (u8s sy).toArray)).run Tryd.prog w' = .ok true w' := fun w' => by rw [equalIn_hash sy sy HLY.out HLY.out]; simp
      have q6 : ∀ w' : World, (Op.equalIn 10000 28 (.agg (u8s sx).toArray) (.agg (u8s sy).toArray)).run Tryd.prog w' = .ok false w' := fun w' => by rw [equalIn_hash sx sy HLX.out HLY.out, hne]
      clear hne hX6 hY6 hb6 hB5 hb05 hB6 IX IY ZX ZY
      have u28 := Tryd.underlying28
      have ix : (Tryd.prog.info? 28).map (·.size) = some (u8s sx).length := by rw [u8s_length, HLX.out]; kernel_rfl
      have iy : (Tryd.prog.info? 28).map (·.size) = some (u8s sy).length := by rw [u8s_length, HLY.out]; kernel_rfl
      have lx : (u8s sx).length = 32 := by rw [u8s_length, HLX.out]
      have ly : (u8s sy).length = 32 := by rw [u8s_length, HLY.out]
      have ox := u8s_mem sx
      have oy := u8s_mem sy
      have hmo : Tryd.prog.follows .mixedOrders = true := by kernel_rfl
      have HMO : Hid (_ = true) := hmo
      clear hmo
      refine wp_region_noPanic ?_
      refine wp_region_held_drew (S := fun w' => w'.rangeAt w5.heap.size 0 (u8s sx) ∧ w'.rangeAt (w5.heap.size + 1) 0 (u8s sy)) HMO.out (HSK.out _ (Below.refl _ _).drew) (fun hHeld => ?_)
      refine wpAnyH_take (i := 0) (oi := { dst := some 37, op := .load 28 (.tmp 7), type := 28, pos := "law.go:46", after := #[], guard := none }) (v := _) rfl (by kernel_rfl) (by kernel_rfl) (by kernel_rfl) (fun _ _ _ h => h) (yieldsIf_load_mid (by rfl) _ _ rfl (w5.heap.size) (0) rfl (u8s sx) _ (fun _ h => h.1) (u28) rfl (ix)) (by assumption) ?_
      simp only [Act.put, List.setIfInBounds_toArray, List.set_cons_zero, List.set_cons_succ]
      refine wpAnyH_take (i := 1) (oi := { dst := some 38, op := .move (.tmp 5), type := 22, pos := "law.go:46", after := #[], guard := none }) (v := ?_) rfl (by kernel_rfl) (by kernel_rfl) (by kernel_rfl) (fun _ _ _ h => h) (Or.inl ⟨by rfl, ?_⟩) (by assumption) ?_
      rotate_left
      · intro _ _; go_simp; first | done | with_reducible rfl
      simp only [Act.put, List.setIfInBounds_toArray, List.set_cons_zero, List.set_cons_succ]
      refine wpAnyH_take (i := 2) (oi := { dst := some 39, op := .move (.tmp 0), type := 3, pos := "law.go:46", after := #[], guard := none }) (v := ?_) rfl (by kernel_rfl) (by kernel_rfl) (by kernel_rfl) (fun _ _ _ h => h) (Or.inl ⟨by rfl, ?_⟩) (by assumption) ?_
      rotate_left
      · intro _ _; go_simp; first | done | with_reducible rfl
      simp only [Act.put, List.setIfInBounds_toArray, List.set_cons_zero, List.set_cons_succ]
      refine wpAnyH_take (i := 3) (oi := { dst := some 40, op := .slice 22 (.tmp 38) none (some (.tmp 39)) none, type := 22, pos := "law.go:46", after := #[{ on := 1, ground := .data }, { on := 2, ground := .data }], guard := none }) (v := ?_) rfl (by kernel_rfl) (by kernel_rfl) (by kernel_rfl) (fun _ _ _ h => h) (Or.inl ⟨by rfl, ?_⟩) (by assumption) ?_
      rotate_left
      · intro _ _; go_simp; first | done | with_reducible rfl
      simp only [Act.put, List.setIfInBounds_toArray, List.set_cons_zero, List.set_cons_succ]
      refine wpAnyH_ready (rs := [4]) (by kernel_rfl) (by simp) ?_
      refine AllReadyH.cons (o := { dst := some 41, op := .call { callee := .value (.func 9), args := #[.tmp 40], argTypes := #[22] }, type := 28, pos := "law.go:46", after := #[{ on := 3, ground := .data }], guard := none }) rfl (fun K hK => ?_) AllReadyH.nil
      go_simp
      refine (refsum_is _ m (m + 1) (List.replicate m x) sx _ (HBY.out _ (Below.refl _ _).drew).1 (by simp) HSX.out (by omega)).mono ?_; rintro e w7 ⟨rfl, hb7⟩; have h07 : Below w6.heap.size w6 w7 := below_undrew hb7
      go_simp
      refine hK.out _ _ (HSK.out _ h07) (fun hHeld => ?_)
      clear hK K
      refine wpAnyH_take (i := 5) (oi := { dst := some 42, op := .binOp Go.BinOp.eql 28 (.tmp 37) (.tmp 41) 28, type := 4, pos := "law.go:46", after := #[{ on := 0, ground := .data }, { on := 4, ground := .data }], guard := none }) (v := ?_) rfl (by kernel_rfl) (by kernel_rfl) (by kernel_rfl) (fun _ _ _ h => h) (Or.inl ⟨by rfl, ?_⟩) (by assumption) ?_
      rotate_left
      · intro _ _; go_simp; first | done | with_reducible rfl
      simp only [Act.put, List.setIfInBounds_toArray, List.set_cons_zero, List.set_cons_succ]
      refine wpAnyH_take (i := 6) (oi := { dst := some 43, op := .move (.tmp 42), type := 4, pos := "law.go:46", after := #[{ on := 5, ground := .data }, { on := 4, ground := .chain }], guard := none }) (v := ?_) rfl (by kernel_rfl) (by kernel_rfl) (by kernel_rfl) (fun _ _ _ h => h) (Or.inl ⟨by rfl, ?_⟩) (by assumption) ?_
      rotate_left
      · intro _ _; go_simp; first | done | with_reducible rfl
      simp only [Act.put, List.setIfInBounds_toArray, List.set_cons_zero, List.set_cons_succ]
      refine wpAnyH_take (i := 7) (oi := { dst := some 44, op := .load 28 (.tmp 8), type := 28, pos := "law.go:46", after := #[{ on := 6, ground := .guard }], guard := some (6, true) }) (v := _) rfl (by kernel_rfl) (by kernel_rfl) (by kernel_rfl) (fun _ _ _ h => h) (yieldsIf_load_mid (by rfl) _ _ rfl (w5.heap.size + 1) (0) rfl (u8s sy) _ (fun _ h => h.2) (u28) rfl (iy)) (by assumption) ?_
      simp only [Act.put, List.setIfInBounds_toArray, List.set_cons_zero, List.set_cons_succ]
      refine wpAnyH_take (i := 8) (oi := { dst := some 45, op := .move (.tmp 5), type := 22, pos := "law.go:46", after := #[{ on := 6, ground := .guard }], guard := some (6, true) }) (v := ?_) rfl (by kernel_rfl) (by kernel_rfl) (by kernel_rfl) (fun _ _ _ h => h) (Or.inl ⟨by rfl, ?_⟩) (by assumption) ?_
      rotate_left
      · intro _ _; go_simp; first | done | with_reducible rfl
      simp only [Act.put, List.setIfInBounds_toArray, List.set_cons_zero, List.set_cons_succ]
      refine wpAnyH_ready (rs := [9]) (by kernel_rfl) (by simp) ?_
      refine AllReadyH.cons (o := { dst := some 46, op := .call { callee := .value (.func 9), args := #[.tmp 45], argTypes := #[22] }, type := 28, pos := "law.go:46", after := #[{ on := 8, ground := .data }, { on := 6, ground := .chain }, { on := 6, ground := .guard }], guard := some (6, true) }) rfl (fun K hK => ?_) AllReadyH.nil
      go_simp
      refine (refsum_is _ (m + 1) (m + 1) (List.replicate (m + 1) x) sy _ (HBY.out _ h07).2.1 (by simp) HSY.out (by omega)).mono ?_; rintro e w8 ⟨rfl, hb8⟩; have h08 : Below w6.heap.size w6 w8 := h07.trans (hb8.mono h07.size)
      go_simp
      refine hK.out _ _ (HSK.out _ h08) (fun hHeld => ?_)
      clear hK K
      refine wpAnyH_take (i := 10) (oi := { dst := some 47, op := .binOp Go.BinOp.eql 28 (.tmp 44) (.tmp 46) 28, type := 4, pos := "law.go:46", after := #[{ on := 7, ground := .data }, { on := 9, ground := .data }, { on := 6, ground := .guard }], guard := some (6, true) }) (v := ?_) rfl (by kernel_rfl) (by kernel_rfl) (by kernel_rfl) (fun _ _ _ h => h) (Or.inl ⟨by rfl, ?_⟩) (by assumption) ?_
      rotate_left
      · intro _ _; go_simp; first | done | with_reducible rfl
      simp only [Act.put, List.setIfInBounds_toArray, List.set_cons_zero, List.set_cons_succ]
      refine wpAnyH_take (i := 11) (oi := { dst := some 48, op := .pick (.tmp 43) (.tmp 47) (.const (.bool false)), type := 4, pos := "law.go:46", after := #[{ on := 6, ground := .data }, { on := 10, ground := .data }], guard := none }) (v := ?_) rfl (by kernel_rfl) (by kernel_rfl) (by kernel_rfl) (fun _ _ _ h => h) (Or.inl ⟨by rfl, ?_⟩) (by assumption) ?_
      rotate_left
      · intro _ _; go_simp; first | done | with_reducible rfl
      simp only [Act.put, List.setIfInBounds_toArray, List.set_cons_zero, List.set_cons_succ]
      refine wpAnyH_take (i := 12) (oi := { dst := some 49, op := .move (.tmp 48), type := 4, pos := "law.go:46", after := #[{ on := 11, ground := .data }, { on := 9, ground := .chain }], guard := none }) (v := ?_) rfl (by kernel_rfl) (by kernel_rfl) (by kernel_rfl) (fun _ _ _ h => h) (Or.inl ⟨by rfl, ?_⟩) (by assumption) ?_
      rotate_left
      · intro _ _; go_simp; first | done | with_reducible rfl
      simp only [Act.put, List.setIfInBounds_toArray, List.set_cons_zero, List.set_cons_succ]
      refine wpAnyH_take (i := 13) (oi := { dst := some 50, op := .load 28 (.tmp 7), type := 28, pos := "law.go:46", after := #[{ on := 12, ground := .guard }], guard := some (12, true) }) (v := _) rfl (by kernel_rfl) (by kernel_rfl) (by kernel_rfl) (fun _ _ _ h => h) (yieldsIf_load_mid (by rfl) _ _ rfl (w5.heap.size) (0) rfl (u8s sx) _ (fun _ h => h.1) (u28) rfl (ix)) (by assumption) ?_
      simp only [Act.put, List.setIfInBounds_toArray, List.set_cons_zero, List.set_cons_succ]
      refine wpAnyH_take (i := 14) (oi := { dst := some 51, op := .load 28 (.tmp 8), type := 28, pos := "law.go:46", after := #[{ on := 12, ground := .guard }], guard := some (12, true) }) (v := _) rfl (by kernel_rfl) (by kernel_rfl) (by kernel_rfl) (fun _ _ _ h => h) (yieldsIf_load_mid (by rfl) _ _ rfl (w5.heap.size + 1) (0) rfl (u8s sy) _ (fun _ h => h.2) (u28) rfl (iy)) (by assumption) ?_
      simp only [Act.put, List.setIfInBounds_toArray, List.set_cons_zero, List.set_cons_succ]
      refine wpAnyH_take (i := 15) (oi := { dst := some 52, op := .binOp Go.BinOp.neq 28 (.tmp 50) (.tmp 51) 28, type := 4, pos := "law.go:46", after := #[{ on := 13, ground := .data }, { on := 14, ground := .data }, { on := 12, ground := .guard }], guard := some (12, true) }) (v := ?_) rfl (by kernel_rfl) (by kernel_rfl) (by kernel_rfl) (fun _ _ _ h => h) (Or.inl ⟨by rfl, ?_⟩) (by assumption) ?_
      rotate_left
      · intro _ _; go_simp; first | done | with_reducible rfl
      simp only [Act.put, List.setIfInBounds_toArray, List.set_cons_zero, List.set_cons_succ]
      refine wpAnyH_take (i := 16) (oi := { dst := some 53, op := .pick (.tmp 49) (.tmp 52) (.const (.bool false)), type := 4, pos := "law.go:46", after := #[{ on := 12, ground := .data }, { on := 15, ground := .data }], guard := none }) (v := ?_) rfl (by kernel_rfl) (by kernel_rfl) (by kernel_rfl) (fun _ _ _ h => h) (Or.inl ⟨by rfl, ?_⟩) (by assumption) ?_
      rotate_left
      · intro _ _; go_simp; first | done | with_reducible rfl
      simp only [Act.put, List.setIfInBounds_toArray, List.set_cons_zero, List.set_cons_succ]
      refine wpAnyH_take (i := 17) (oi := { dst := some 54, op := .move (.tmp 53), type := 4, pos := "law.go:46", after := #[{ on := 16, ground := .data }, { on := 12, ground := .chain }], guard := none }) (v := ?_) rfl (by kernel_rfl) (by kernel_rfl) (by kernel_rfl) (fun _ _ _ h => h) (Or.inl ⟨by rfl, ?_⟩) (by assumption) ?_
      rotate_left
      · intro _ _; go_simp; first | done | with_reducible rfl
      simp only [Act.put, List.setIfInBounds_toArray, List.set_cons_zero, List.set_cons_succ]
      refine wpAnyH_ready (rs := [18]) (by kernel_rfl) (by simp) ?_
      refine AllReadyH.cons (o := { dst := some 55, op := .call { callee := .value (.func 7), args := #[], argTypes := #[] }, type := 4, pos := "law.go:46", after := #[{ on := 17, ground := .chain }, { on := 17, ground := .guard }], guard := some (17, true) }) rfl (fun K hK => ?_) AllReadyH.nil
      go_simp
      refine (awake_any _ (HBY.out _ h08).2.2).mono ?_; rintro e w9 ⟨rfl, hb9⟩; have h09 : Below w6.heap.size w6 w9 := h08.trans (hb9.mono h08.size)
      go_simp
      refine hK.out _ _ (HSK.out _ h09) (fun hHeld => ?_)
      clear hK K
      refine wpAnyH_take (i := 19) (oi := { dst := some 56, op := .pick (.tmp 54) (.tmp 55) (.const (.bool false)), type := 4, pos := "law.go:46", after := #[{ on := 17, ground := .data }, { on := 18, ground := .data }], guard := none }) (v := ?_) rfl (by kernel_rfl) (by kernel_rfl) (by kernel_rfl) (fun _ _ _ h => h) (Or.inl ⟨by rfl, ?_⟩) (by assumption) ?_
      rotate_left
      · intro _ _; go_simp; first | done | with_reducible rfl
      simp only [Act.put, List.setIfInBounds_toArray, List.set_cons_zero, List.set_cons_succ]
      refine wpAnyH_take (i := 20) (oi := { dst := some 4, op := .assign (.tmp 56), type := 4, pos := "law.go:46", after := #[{ on := 19, ground := .data }, { on := 18, ground := .chain }, { on := 0, ground := .phase }, { on := 1, ground := .phase }, { on := 2, ground := .phase }, { on := 3, ground := .phase }, { on := 4, ground := .phase }, { on := 5, ground := .phase }, { on := 6, ground := .phase }, { on := 7, ground := .phase }, { on := 8, ground := .phase }, { on := 9, ground := .phase }, { on := 10, ground := .phase }, { on := 11, ground := .phase }, { on := 12, ground := .phase }, { on := 13, ground := .phase }, { on := 14, ground := .phase }, { on := 15, ground := .phase }, { on := 16, ground := .phase }, { on := 17, ground := .phase }, { on := 18, ground := .phase }, { on := 19, ground := .phase }], guard := none }) (v := ?_) rfl (by kernel_rfl) (by kernel_rfl) (by kernel_rfl) (fun _ _ _ h => h) (Or.inl ⟨by rfl, ?_⟩) (by assumption) ?_
      rotate_left
      · intro _ _; go_simp; first | done | with_reducible rfl
      simp only [Act.put, List.setIfInBounds_toArray, List.set_cons_zero, List.set_cons_succ]
      refine wpAnyH_done (by kernel_rfl) ?_ _
      refine NoPanic.normal ?_
      go_wp2_with fail
      go_ret
      subst hB
      exact ⟨rfl, hb06.trans (h09.mono hb06.size)⟩
end Go.Proofs.YtbjndfnpfmeioaaDoor
