/- ShaSums answers true at every slice of bytes and every list of cuts. -/
import Derived.Test.YtbjndfnpfmeioaaDoorSumsKit
import Derived.Maps.AppendAt
namespace Go.Proofs.YtbjndfnpfmeioaaDoor
open Go.ChangeShapes Go.WideShapes Go.ChangeAt Go.RowKit

set_option maxRecDepth 100000 in
set_option maxHeartbeats 4000000 in
theorem sums_out (a : Option Addr) (n cap : Nat) (a1 : Option Addr) (n1 cap1 : Nat) (w : World) (hK : Kw w) (hn : 1000 < n ∨ 20 < n1) :
    Calls Tryd.prog 3 #[.slice a n cap, .slice a1 n1 cap1] w fun e w' => e = .returned (.bool true) ∧ Below w.heap.size w w' := by
  have HK : Hid (Kw w) := hK
  clear hK
  by_cases h : 1000 < n
  · have h1 : (1000 : Int) < (n : Int) := by omega
    go_enter Tryd.func3, Tryd.ntmps3
    go_wp2_with (go_at_call 7; refine (awake_any _ HK.out).mono ?_; rintro e w1 ⟨rfl, hb1⟩)
    go_ret
    exact ⟨rfl, hb1⟩
  · have h1 : decide ((1000 : Int) < (n : Int)) = false := by rw [decide_eq_false_iff_not]; omega
    have h2 : (20 : Int) < (n1 : Int) := by omega
    go_enter Tryd.func3, Tryd.ntmps3
    go_wp2_with (go_at_call 7; refine (awake_any _ HK.out).mono ?_; rintro e w1 ⟨rfl, hb1⟩)
    go_ret
    exact ⟨rfl, hb1⟩

set_option maxRecDepth 100000 in
set_option maxHeartbeats 4000000 in
theorem sums_in (a : Option Addr) (n cap : Nat) (bs : List (BitVec 8)) (a1 : Option Addr) (n1 cap1 : Nat) (cs : List Int) (w : World) (hK : Kw w) (hl : bs.length = n) (hb : Bytes w a cap bs) (hcl : cs.length = n1) (hc : Nums w a1 cs) (hn : n ≤ 1000) (hn1 : n1 ≤ 20) :
    Calls Tryd.prog 3 #[.slice a n cap, .slice a1 n1 cap1] w fun e w' => e = .returned (.bool true) ∧ Below w.heap.size w w' := by
  have HK : Hid (Kw w) := hK
  have HB : Hid (Bytes w a cap bs) := hb
  have HC : Hid (Nums w a1 cs) := hc
  have HL : Hid (bs.length = n) := hl
  have HCL : Hid (cs.length = n1) := hcl
  have hpos := hK.pos
  have hroom : n ≤ cap := by rw [← hl]; exact hb.room
  have hmost := hb.most
  unfold maxLen at hmost
  clear hK hb hc hl hcl
  have d0 : decide ((1000 : Int) < (n : Int)) = false := by rw [decide_eq_false_iff_not]; omega
  have d1 : decide ((20 : Int) < (n1 : Int)) = false := by rw [decide_eq_false_iff_not]; omega
  obtain ⟨i0, hi0, hi1, hi2, hi3⟩ := info_parts Tryd.info22
  go_enter Tryd.func3, Tryd.ntmps3
  go_wp2_with fail
  generalize hN : w.heap.size = N at *
  go_loopw [5, 6, 7] (fun v atv i wr => ∃ (k p : Nat) (ps : List (List (BitVec 8))) (xs : List Value), k ≤ n1 ∧ i = .int .i64 k ∧ atv = .int .i64 p ∧ p ≤ n ∧ Hid (Cut w bs ps xs k p) ∧ wr.ownsRow N 22 1 v k xs ∧ Below N w wr) (fun _ _ i _ => n1 - (intOf i).toNat)
  case atStart => exact ⟨0, 0, [], [], by omega, rfl, rfl, by omega, Cut.start w bs, World.ownsRow_nil _ _ _ _, by rw [← hN]; exact Below.refl _ _⟩
  case round =>
    obtain ⟨k, p, ps, xs, hk, rfl, rfl, hp, HCut, hown, hbel⟩ := hrel
    have p0 : (0 : Int) ≤ (p : Int) := by omega
    have p1 : (p : Int) ≤ (n : Int) := by omega
    have p2 : (n : Int) ≤ 1000 := by omega
    by_cases hlt : k < n1
    · obtain ⟨b1, off1, rfl, hcell⟩ := HC.out k (by rw [HCL.out]; exact hlt)
      have hb1N : b1 < N := by rw [← hN]; exact World.block_lt_of_cell? w _ hcell
      have ck : wr.cell? ⟨b1, off1 + k, none⟩ = some (.int .i64 (cs.getD k 0)) := by rw [hbel.cell (p := ⟨b1, off1 + k, none⟩) hb1N]; exact hcell
      obtain ⟨c, hc⟩ : ∃ c, c = cs.getD k 0 := ⟨_, rfl⟩
      rw [← hc] at ck
      clear hc hcell
      obtain ⟨r, hr⟩ : ∃ r : Nat, (r : Int) = c % ((n : Int) - (p : Int) + 1) := ⟨(c % ((n : Int) - (p : Int) + 1)).toNat, by have := Int.emod_nonneg c (show (n : Int) - (p : Int) + 1 ≠ 0 by omega); omega⟩
      have hrn : p + r ≤ n := by have := Int.emod_lt_of_pos c (show 0 < (n : Int) - (p : Int) + 1 by omega); omega
      have HRD : Hid (∀ wx, Calls Tryd.prog 8 #[.int .i64 c, .int .i64 ((n : Int) - (p : Int) + 1)] wx fun e w' => e = .returned (.int .i64 (r : Int)) ∧ wx = w') := by
        intro wx
        rw [hr]
        exact round_any c _ wx (by omega) (by omega)
      clear hr
      have k0 : (0 : Int) ≤ (k : Int) := by omega
      have k1 : (k : Int) < (n1 : Int) := by omega
      have r0 : (0 : Int) ≤ (r : Int) := by omega
      have r1 : (p : Int) + (r : Int) ≤ (n : Int) := by omega
      have r2 : ((p : Int) + (r : Int)).toNat = p + r := by omega
      have r3 : (p : Int) + (r : Int) ≤ (cap : Int) := by omega
      obtain ⟨adr, hadr⟩ : ∃ x, (if cap = p then a else Option.map (fun x => x.add p) a) = x := ⟨_, rfl⟩
      go_wp2_with fail
      refine (HRD.out _).mono ?_
      rintro e w' ⟨rfl, rfl⟩
      go_upto_region 10 with (at_builtin; refine wpList_append_own _ rfl _ _ 25 rfl N 22 i0 (.slice none 0 0) 1 24 Tryd.underlying25 hi0 hi1 hi2 hi3 rfl (by decide) _ _ _ rfl (hown.alloc _) ⟨wr.heap.size, 0, none⟩ 1 1 [.slice adr r (cap - p)] rfl rfl ?d1 ?d2 ?d3 ?d4 ?d5 ?_)
      case d1 => exact cell_one_new _ _ _
      case d2 => intro u hu; simp at hu; subst hu; rfl
      case d3 => unfold maxLen; omega
      case d4 => omega
      case d5 => have := hbel.size; simp; omega
      intro v2 w2 hown2 hgrow2 _
      have hbel2 : Below N w w2 := own_more hown hN.symm hbel _ hgrow2
      have HCut2 : Hid (Cut w bs (ps ++ [(bs.drop p).take (p + r - p)]) (xs ++ [.slice adr r (cap - p)]) (k + 1) (p + r)) := by
        have := HCut.out.next HB.out (p + r) (by omega) (by rw [HL.out]; exact hrn)
        rw [hadr, Nat.add_sub_cancel_left] at this
        rw [Nat.add_sub_cancel_left]; exact this
      clear hgrow2 hown hbel hadr HCut
      go_wp2_with fail
      go_roundw
      case rel =>
        exact ⟨k + 1, p + r, _, _, by omega, by go_num, by go_num, hrn, HCut2, hown2, hbel2⟩
      case measure => simp [intOf]; omega
    · obtain rfl : k = n1 := by omega
      obtain ⟨adr, hadr⟩ : ∃ x, (if cap = p then a else Option.map (fun x => x.add p) a) = x := ⟨_, rfl⟩
      go_upto_region 12 with (at_builtin; refine wpList_append_own _ rfl _ _ 25 rfl N 22 i0 (.slice none 0 0) 1 24 Tryd.underlying25 hi0 hi1 hi2 hi3 rfl (by decide) _ _ _ rfl (hown.alloc _) ⟨wr.heap.size, 0, none⟩ 1 1 [.slice adr (n - p) (cap - p)] rfl rfl ?d1 ?d2 ?d3 ?d4 ?d5 ?_)
      case d1 => exact cell_one_new _ _ _
      case d2 => intro u hu; simp at hu; subst hu; rfl
      case d3 => unfold maxLen; omega
      case d4 => omega
      case d5 => have := hbel.size; simp; omega
      intro v2 w2 hown2 hgrow2 _
      have hbel2 : Below N w w2 := own_more hown hN.symm hbel _ hgrow2
      obtain ⟨ps2, hps2⟩ : ∃ x, x = ps ++ [(bs.drop p).take (n - p)] := ⟨_, rfl⟩
      obtain ⟨xs2, hxs2⟩ : ∃ x, x = xs ++ [Value.slice adr (n - p) (cap - p)] := ⟨_, rfl⟩
      have HCut2 : Hid (Cut w bs ps2 xs2 (k + 1) n) := by
        have := HCut.out.next HB.out n hp (by rw [HL.out]; exact Nat.le_refl _)
        rw [hadr, ← hps2, ← hxs2] at this; exact this
      rw [← hxs2] at hown2
      have HFL : Hid (ps2.flatten = bs) := by
        have := HCut2.out.flat
        rw [← HL.out, List.take_length] at this; exact this
      clear hgrow2 hown hbel hadr HCut hps2 hxs2 hi0 hi1 hi2 hi3
      obtain ⟨hxl, (⟨_, h0⟩ | ⟨g, capg, cur, hv, hNg, hg, hkc, _, _, htake⟩)⟩ := hown2
      · omega
      have hcellg : ∀ j, j < k + 1 → w2.cell? ⟨g, j, none⟩ = xs2[j]? := fun j hj => by
        rw [cell_of_row w2 g j _ _ _ hg, ← htake, Nat.mul_one, List.getElem?_take_of_lt hj]; simp
      have hw2 : N ≤ w2.heap.size := by have := hbel2.size; omega
      have HPC : Hid (∀ w', Below w2.heap.size w2 w' → Pieces w' (some ⟨g, 0, none⟩) ps2) := fun w' hw' => by
        have hgl : g < w2.heap.size := (Array.getElem?_eq_some_iff.1 hg).1
        refine HCut2.out.pieces (by rw [hN]; exact hbel2.trans (hw'.mono hw2)) fun j hj => ?_
        rw [hw'.cell (p := ⟨g, j, none⟩) hgl]; exact hcellg j hj
      rw [hv]
      have HPL : Hid (ps2.length = k + 1) := HCut2.out.lp
      clear hv hg hcellg htake hxl HCut2 hlt
      go_wp2_with fail
      have HBY : Hid (∀ w', Below w2.heap.size w2 w' → Bytes w' a cap bs ∧ Kw w') := fun w' hw' => by
        have h1 : Below N w w' := hbel2.trans (hw'.mono hw2)
        exact ⟨HB.out.later h1 (by omega), HK.out.below h1 (by omega)⟩
      have HN : Hid (n < 144115188075855872 ∧ ps2.flatten.length < 144115188075855872) := ⟨by omega, by rw [HFL.out, HL.out]; omega⟩
      obtain ⟨want, hwant⟩ : ∃ x, x = sum bs := ⟨_, rfl⟩
      have HW : Hid (want = sum bs) := hwant
      have HW2 : Hid (want = sum ps2.flatten) := by rw [HFL.out]; exact hwant
      obtain ⟨tw, htw⟩ : ∃ x, x = sum want := ⟨_, rfl⟩
      have HT : Hid (tw = sum want) := htw
      have HT2 : Hid (tw = sum (sum ps2.flatten)) := by rw [← HW2.out]; exact htw
      have HT3 : Hid (tw = sum (sum bs)) := by rw [← HW.out]; exact htw
      have HLW : Hid (want.length = 32) := by show want.length = 32; rw [hwant]; exact sum_length _
      have HLT : Hid (tw.length = 32) := by show tw.length = 32; rw [htw]; exact sum_length _
      have HLB : Hid (bs.length = n) := HL.out
      clear hwant htw HFL HB HK HL HC HCL
      have IW : Hid ((Tryd.prog.info? 28).map (·.size) = some (u8s want).toArray.size) := by
        show _ = _
        rw [show (u8s want).toArray.size = 32 by simp [HLW.out]]; kernel_rfl
      have IT : Hid ((Tryd.prog.info? 28).map (·.size) = some (u8s tw).toArray.size) := by
        show _ = _
        rw [show (u8s tw).toArray.size = 32 by simp [HLT.out]]; kernel_rfl
      have ZW : Hid ((u8s zeros32).toArray.size = (u8s want).toArray.size) := by show _ = _; simp [HLW.out, zeros32]
      have ZT : Hid ((u8s zeros32).toArray.size = (u8s tw).toArray.size) := by show _ = _; simp [HLT.out, zeros32]
      refine (refsum_is a n cap bs want w2 (HBY.out _ (Below.refl _ _)).1 HLB.out HW.out HN.out.1).mono ?_
      rintro e w3 ⟨rfl, hb3⟩
      go_upto_region 13 with (refine wpList_store_row rfl 28 _ _ rfl w3.heap.size (u8s want).toArray rfl rfl 28 (u8s zeros32).toArray (heap_alloc_new _ _) IW.out ZW.out (u8s_one _) ?_)
      generalize hw4 : World.setRow _ _ _ = w4
      have hW4 : Blk w4 w3.heap.size (u8s want) := by rw [← hw4]; exact (Blk.new w3 _ _).row
      have hb4 : Below w3.heap.size w3 w4 := by rw [← hw4]; exact below_setRow ((Below.refl _ _).alloc (Nat.le_refl _) _) (Nat.le_refl _) _
      clear hw4
      have hb24 : Below w2.heap.size w2 w4 := hb3.trans (hb4.mono hb3.size)
      go_wp2_with fail
      refine (twice_is (some ⟨g, 0, none⟩) (k + 1) capg ps2 tw HPL.out w4 (HBY.out _ hb24).2 (by omega) (HPC.out _ hb24) HT2.out HN.out.2).mono ?_
      rintro e w5 ⟨rfl, hb5⟩
      have hW5 := hW4.below hb5 hW4.lt
      have hb25 : Below w2.heap.size w2 w5 := hb24.trans (hb5.mono hb24.size)
      have hz5 : w3.heap.size < w5.heap.size := hW5.lt
      go_upto_region 14 with (refine wpList_store_row rfl 28 _ _ rfl w5.heap.size (u8s tw).toArray rfl rfl 28 (u8s zeros32).toArray (heap_alloc_new _ _) IT.out ZT.out (u8s_one _) ?_)
      generalize hw6 : World.setRow _ _ _ = w6
      have hT6 : Blk w6 w5.heap.size (u8s tw) := by rw [← hw6]; exact (Blk.new w5 _ _).row
      have hb6 : Below w5.heap.size w5 w6 := by rw [← hw6]; exact below_setRow ((Below.refl _ _).alloc (Nat.le_refl _) _) (Nat.le_refl _) _
      clear hw6
      have hW6 := hW5.below hb6 hz5
      have hb26 : Below w2.heap.size w2 w6 := hb25.trans (hb6.mono hb25.size)
      generalize hHW : w3.heap.size = HWb at *
      generalize hHT : w5.heap.size = HTb at *
      clear hb3 hb4 hb24 hW4 hb5 hW5 hb25 hb6 hHW hHT
      have HSK : Hid (∀ w', Below w6.heap.size w6 w' → w'.rangeAt HWb 0 (u8s want) ∧ w'.rangeAt HTb 0 (u8s tw)) := fun w' hw' =>
        ⟨fun j v hv => by rw [Nat.zero_add]; exact ((hW6.below hw' hW6.lt).cell j).trans hv, fun j v hv => by rw [Nat.zero_add]; exact ((hT6.below hw' hT6.lt).cell j).trans hv⟩
      have HPK : Hid (∀ w', Below w6.heap.size w6 w' → Pieces w' (some ⟨g, 0, none⟩) ps2 ∧ Bytes w' a cap bs ∧ Kw w' ∧ Bytes w' (some ⟨HWb, 0, none⟩) 32 want) := fun w' hw' => by
        have h2 : Below w2.heap.size w2 w' := hb26.trans (hw'.mono hb26.size)
        have h3 := Bytes.blk (hW6.below hw' hW6.lt) (by rw [HLW.out]; omega)
        rw [HLW.out] at h3
        exact ⟨HPC.out _ h2, (HBY.out _ h2).1, (HBY.out _ h2).2, h3⟩
      have q1 : ∀ w' : World, (binOp .eql 28 (.agg (u8s want).toArray) (.agg (u8s want).toArray)).run Tryd.prog w' = .ok (.bool true) w' := fun w' => by rw [eql_hash want want HLW.out HLW.out]; simp
      have q2 : ∀ w' : World, (binOp .eql 28 (.agg (u8s tw).toArray) (.agg (u8s tw).toArray)).run Tryd.prog w' = .ok (.bool true) w' := fun w' => by rw [eql_hash tw tw HLT.out HLT.out]; simp
      have q4 : ∀ w' : World, (Op.equalIn 10000 28 (.agg (u8s want).toArray) (.agg (u8s want).toArray)).run Tryd.prog w' = .ok true w' := fun w' => by rw [equalIn_hash want want HLW.out HLW.out]; simp
      have q5 : ∀ w' : World, (Op.equalIn 10000 28 (.agg (u8s tw).toArray) (.agg (u8s tw).toArray)).run Tryd.prog w' = .ok true w' := fun w' => by rw [equalIn_hash tw tw HLT.out HLT.out]; simp
      have hbfin : Below N w w6 := hbel2.trans (hb26.mono hw2)
      clear hW6 hT6 IW IT ZW ZT hb26 HPC HBY
      have u28 := Tryd.underlying28
      have iw : (Tryd.prog.info? 28).map (·.size) = some (u8s want).length := by rw [u8s_length, HLW.out]; kernel_rfl
      have it : (Tryd.prog.info? 28).map (·.size) = some (u8s tw).length := by rw [u8s_length, HLT.out]; kernel_rfl
      have hmo : Tryd.prog.follows .mixedOrders = true := by kernel_rfl
      have HMO : Hid (_ = true) := hmo
      clear hmo
      refine wp_region_noPanic ?_
      refine wp_region_held_drew (S := fun w' => w'.rangeAt HWb 0 (u8s want) ∧ w'.rangeAt HTb 0 (u8s tw)) HMO.out (HSK.out _ (Below.refl _ _).drew) (fun hHeld => ?_)
      refine wpAnyH_take (i := 0) (oi := { dst := some 56, op := .move (.tmp 5), type := 25, pos := "law.go:33", after := #[], guard := none }) (v := ?_) rfl (by kernel_rfl) (by kernel_rfl) (by kernel_rfl) (fun _ _ _ h => h) (Or.inl ⟨by rfl, ?_⟩) (by assumption) ?_
      rotate_left
      · intro _ _; go_simp; first | done | with_reducible rfl
      simp only [Act.put, List.setIfInBounds_toArray, List.set_cons_zero, List.set_cons_succ]
      refine wpAnyH_take (i := 2) (oi := { dst := some 58, op := .load 28 (.tmp 9), type := 28, pos := "law.go:33", after := #[], guard := none }) (v := _) rfl (by kernel_rfl) (by kernel_rfl) (by kernel_rfl) (fun _ _ _ h => h) (yieldsIf_load_mid (by rfl) _ _ rfl (HWb) (0) rfl (u8s want) _ (fun _ h => h.1) (u28) rfl (iw)) (by assumption) ?_
      simp only [Act.put, List.setIfInBounds_toArray, List.set_cons_zero, List.set_cons_succ]
      refine wpAnyH_ready (rs := [1]) (by kernel_rfl) (by simp) ?_
      refine AllReadyH.cons (o := { dst := some 57, op := .call { callee := .value (.func 11), args := #[.tmp 56], argTypes := #[25] }, type := 28, pos := "law.go:33", after := #[{ on := 0, ground := .data }], guard := none }) rfl (fun K hK => ?_) AllReadyH.nil
      go_simp
      refine (sum_is (some ⟨g, 0, none⟩) (k + 1) capg ps2 want HPL.out _ (HPK.out _ (Below.refl _ _).drew).2.2.1 (by omega) (HPK.out _ (Below.refl _ _).drew).1 HW2.out HN.out.2).mono ?_; rintro e w7 ⟨rfl, hb7⟩; have h07 : Below w6.heap.size w6 w7 := below_undrew hb7
      go_simp
      refine hK.out _ _ (HSK.out _ h07) (fun hHeld => ?_)
      clear hK K
      refine wpAnyH_take (i := 3) (oi := { dst := some 59, op := .binOp Go.BinOp.eql 28 (.tmp 57) (.tmp 58) 28, type := 4, pos := "law.go:33", after := #[{ on := 1, ground := .data }, { on := 2, ground := .data }], guard := none }) (v := ?_) rfl (by kernel_rfl) (by kernel_rfl) (by kernel_rfl) (fun _ _ _ h => h) (Or.inl ⟨by rfl, ?_⟩) (by assumption) ?_
      rotate_left
      · intro _ _; go_simp; first | done | with_reducible rfl
      simp only [Act.put, List.setIfInBounds_toArray, List.set_cons_zero, List.set_cons_succ]
      refine wpAnyH_take (i := 4) (oi := { dst := some 60, op := .move (.tmp 59), type := 4, pos := "law.go:33", after := #[{ on := 3, ground := .data }, { on := 1, ground := .chain }], guard := none }) (v := ?_) rfl (by kernel_rfl) (by kernel_rfl) (by kernel_rfl) (fun _ _ _ h => h) (Or.inl ⟨by rfl, ?_⟩) (by assumption) ?_
      rotate_left
      · intro _ _; go_simp; first | done | with_reducible rfl
      simp only [Act.put, List.setIfInBounds_toArray, List.set_cons_zero, List.set_cons_succ]
      refine wpAnyH_take (i := 5) (oi := { dst := some 61, op := .load 28 (.tmp 10), type := 28, pos := "law.go:33", after := #[{ on := 4, ground := .guard }], guard := some (4, true) }) (v := _) rfl (by kernel_rfl) (by kernel_rfl) (by kernel_rfl) (fun _ _ _ h => h) (yieldsIf_load_mid (by rfl) _ _ rfl (HTb) (0) rfl (u8s tw) _ (fun _ h => h.2) (u28) rfl (it)) (by assumption) ?_
      simp only [Act.put, List.setIfInBounds_toArray, List.set_cons_zero, List.set_cons_succ]
      refine wpAnyH_take (i := 6) (oi := { dst := some 62, op := .slice 28 (.tmp 9) none none none, type := 22, pos := "law.go:33", after := #[{ on := 4, ground := .guard }], guard := some (4, true) }) (v := ?_) rfl (by kernel_rfl) (by kernel_rfl) (by kernel_rfl) (fun _ _ _ h => h) (Or.inl ⟨by rfl, ?_⟩) (by assumption) ?_
      rotate_left
      · intro _ _; go_simp; first | done | with_reducible rfl
      simp only [Act.put, List.setIfInBounds_toArray, List.set_cons_zero, List.set_cons_succ]
      refine wpAnyH_ready (rs := [7]) (by kernel_rfl) (by simp) ?_
      refine AllReadyH.cons (o := { dst := some 63, op := .buildSlice 25 1 #[(0, .tmp 62)], type := 25, pos := "law.go:33", after := #[{ on := 6, ground := .data }, { on := 4, ground := .guard }], guard := some (4, true) }) rfl (fun K hK => ?_) AllReadyH.nil
      go_simp
      refine hK.out _ _ (HSK.out _ (h07.alloc h07.size _)) (fun hHeld => ?_)
      clear hK K
      refine wpAnyH_ready (rs := [8]) (by kernel_rfl) (by simp) ?_
      refine AllReadyH.cons (o := { dst := some 64, op := .call { callee := .value (.func 11), args := #[.tmp 63], argTypes := #[25] }, type := 28, pos := "law.go:33", after := #[{ on := 7, ground := .data }, { on := 4, ground := .chain }, { on := 4, ground := .guard }], guard := some (4, true) }) rfl (fun K hK => ?_) AllReadyH.nil
      go_simp
      generalize hw8 : World.alloc w7 _ = w8; have hP8 : Blk w8 w7.heap.size [.slice (some ⟨HWb, 0, none⟩) 32 32] := (by rw [← hw8]; exact Blk.mk _ _ _ rfl rfl); have h08 : Below w6.heap.size w6 w8 := (by rw [← hw8]; exact h07.alloc h07.size _); refine (sum_is (some ⟨w7.heap.size, 0, none⟩) 1 1 [want] tw rfl _ (HPK.out _ h08).2.2.1 (by omega) (Pieces.single hP8 (HPK.out _ h08).2.2.2 HLW.out) (by rw [show [want].flatten = want by simp]; exact HT.out) (by simp [HLW.out])).mono ?_; rintro e w9 ⟨rfl, hb9⟩; have h09 : Below w6.heap.size w6 w9 := h08.trans (hb9.mono h08.size)
      go_simp
      refine hK.out _ _ (HSK.out _ h09) (fun hHeld => ?_)
      clear hK K
      refine wpAnyH_take (i := 9) (oi := { dst := some 65, op := .binOp Go.BinOp.eql 28 (.tmp 61) (.tmp 64) 28, type := 4, pos := "law.go:33", after := #[{ on := 5, ground := .data }, { on := 8, ground := .data }, { on := 4, ground := .guard }], guard := some (4, true) }) (v := ?_) rfl (by kernel_rfl) (by kernel_rfl) (by kernel_rfl) (fun _ _ _ h => h) (Or.inl ⟨by rfl, ?_⟩) (by assumption) ?_
      rotate_left
      · intro _ _; go_simp; first | done | with_reducible rfl
      simp only [Act.put, List.setIfInBounds_toArray, List.set_cons_zero, List.set_cons_succ]
      refine wpAnyH_take (i := 10) (oi := { dst := some 66, op := .pick (.tmp 60) (.tmp 65) (.const (.bool false)), type := 4, pos := "law.go:33", after := #[{ on := 4, ground := .data }, { on := 9, ground := .data }], guard := none }) (v := ?_) rfl (by kernel_rfl) (by kernel_rfl) (by kernel_rfl) (fun _ _ _ h => h) (Or.inl ⟨by rfl, ?_⟩) (by assumption) ?_
      rotate_left
      · intro _ _; go_simp; first | done | with_reducible rfl
      simp only [Act.put, List.setIfInBounds_toArray, List.set_cons_zero, List.set_cons_succ]
      refine wpAnyH_take (i := 11) (oi := { dst := some 67, op := .move (.tmp 66), type := 4, pos := "law.go:33", after := #[{ on := 10, ground := .data }, { on := 8, ground := .chain }], guard := none }) (v := ?_) rfl (by kernel_rfl) (by kernel_rfl) (by kernel_rfl) (fun _ _ _ h => h) (Or.inl ⟨by rfl, ?_⟩) (by assumption) ?_
      rotate_left
      · intro _ _; go_simp; first | done | with_reducible rfl
      simp only [Act.put, List.setIfInBounds_toArray, List.set_cons_zero, List.set_cons_succ]
      refine wpAnyH_take (i := 12) (oi := { dst := some 68, op := .load 28 (.tmp 10), type := 28, pos := "law.go:33", after := #[{ on := 11, ground := .guard }], guard := some (11, true) }) (v := _) rfl (by kernel_rfl) (by kernel_rfl) (by kernel_rfl) (fun _ _ _ h => h) (yieldsIf_load_mid (by rfl) _ _ rfl (HTb) (0) rfl (u8s tw) _ (fun _ h => h.2) (u28) rfl (it)) (by assumption) ?_
      simp only [Act.put, List.setIfInBounds_toArray, List.set_cons_zero, List.set_cons_succ]
      refine wpAnyH_take (i := 13) (oi := { dst := some 69, op := .move (.tmp 0), type := 22, pos := "law.go:33", after := #[{ on := 11, ground := .guard }], guard := some (11, true) }) (v := ?_) rfl (by kernel_rfl) (by kernel_rfl) (by kernel_rfl) (fun _ _ _ h => h) (Or.inl ⟨by rfl, ?_⟩) (by assumption) ?_
      rotate_left
      · intro _ _; go_simp; first | done | with_reducible rfl
      simp only [Act.put, List.setIfInBounds_toArray, List.set_cons_zero, List.set_cons_succ]
      refine wpAnyH_ready (rs := [14]) (by kernel_rfl) (by simp) ?_
      refine AllReadyH.cons (o := { dst := some 70, op := .call { callee := .value (.func 12), args := #[.tmp 69], argTypes := #[22] }, type := 28, pos := "law.go:33", after := #[{ on := 13, ground := .data }, { on := 11, ground := .chain }, { on := 11, ground := .guard }], guard := some (11, true) }) rfl (fun K hK => ?_) AllReadyH.nil
      go_simp
      refine (reftwice_is a n cap bs tw _ (HPK.out _ h09).2.1 HLB.out HT3.out HN.out.1).mono ?_; rintro e w10 ⟨rfl, hb10⟩; have h10 : Below w6.heap.size w6 w10 := h09.trans (hb10.mono h09.size)
      go_simp
      refine hK.out _ _ (HSK.out _ h10) (fun hHeld => ?_)
      clear hK K
      refine wpAnyH_take (i := 15) (oi := { dst := some 71, op := .binOp Go.BinOp.eql 28 (.tmp 68) (.tmp 70) 28, type := 4, pos := "law.go:33", after := #[{ on := 12, ground := .data }, { on := 14, ground := .data }, { on := 11, ground := .guard }], guard := some (11, true) }) (v := ?_) rfl (by kernel_rfl) (by kernel_rfl) (by kernel_rfl) (fun _ _ _ h => h) (Or.inl ⟨by rfl, ?_⟩) (by assumption) ?_
      rotate_left
      · intro _ _; go_simp; first | done | with_reducible rfl
      simp only [Act.put, List.setIfInBounds_toArray, List.set_cons_zero, List.set_cons_succ]
      refine wpAnyH_take (i := 16) (oi := { dst := some 72, op := .pick (.tmp 67) (.tmp 71) (.const (.bool false)), type := 4, pos := "law.go:33", after := #[{ on := 11, ground := .data }, { on := 15, ground := .data }], guard := none }) (v := ?_) rfl (by kernel_rfl) (by kernel_rfl) (by kernel_rfl) (fun _ _ _ h => h) (Or.inl ⟨by rfl, ?_⟩) (by assumption) ?_
      rotate_left
      · intro _ _; go_simp; first | done | with_reducible rfl
      simp only [Act.put, List.setIfInBounds_toArray, List.set_cons_zero, List.set_cons_succ]
      refine wpAnyH_take (i := 17) (oi := { dst := some 73, op := .move (.tmp 72), type := 4, pos := "law.go:33", after := #[{ on := 16, ground := .data }, { on := 14, ground := .chain }], guard := none }) (v := ?_) rfl (by kernel_rfl) (by kernel_rfl) (by kernel_rfl) (fun _ _ _ h => h) (Or.inl ⟨by rfl, ?_⟩) (by assumption) ?_
      rotate_left
      · intro _ _; go_simp; first | done | with_reducible rfl
      simp only [Act.put, List.setIfInBounds_toArray, List.set_cons_zero, List.set_cons_succ]
      refine wpAnyH_ready (rs := [18]) (by kernel_rfl) (by simp) ?_
      refine AllReadyH.cons (o := { dst := some 74, op := .call { callee := .value (.func 7), args := #[], argTypes := #[] }, type := 4, pos := "law.go:33", after := #[{ on := 17, ground := .chain }, { on := 17, ground := .guard }], guard := some (17, true) }) rfl (fun K hK => ?_) AllReadyH.nil
      go_simp
      refine (awake_any _ (HPK.out _ h10).2.2.1).mono ?_; rintro e w11 ⟨rfl, hb11⟩; have h11 : Below w6.heap.size w6 w11 := h10.trans (hb11.mono h10.size)
      go_simp
      refine hK.out _ _ (HSK.out _ h11) (fun hHeld => ?_)
      clear hK K
      refine wpAnyH_take (i := 19) (oi := { dst := some 75, op := .pick (.tmp 73) (.tmp 74) (.const (.bool false)), type := 4, pos := "law.go:33", after := #[{ on := 17, ground := .data }, { on := 18, ground := .data }], guard := none }) (v := ?_) rfl (by kernel_rfl) (by kernel_rfl) (by kernel_rfl) (fun _ _ _ h => h) (Or.inl ⟨by rfl, ?_⟩) (by assumption) ?_
      rotate_left
      · intro _ _; go_simp; first | done | with_reducible rfl
      simp only [Act.put, List.setIfInBounds_toArray, List.set_cons_zero, List.set_cons_succ]
      refine wpAnyH_take (i := 20) (oi := { dst := some 4, op := .assign (.tmp 75), type := 4, pos := "law.go:33", after := #[{ on := 19, ground := .data }, { on := 18, ground := .chain }, { on := 0, ground := .phase }, { on := 1, ground := .phase }, { on := 2, ground := .phase }, { on := 3, ground := .phase }, { on := 4, ground := .phase }, { on := 5, ground := .phase }, { on := 6, ground := .phase }, { on := 7, ground := .phase }, { on := 8, ground := .phase }, { on := 9, ground := .phase }, { on := 10, ground := .phase }, { on := 11, ground := .phase }, { on := 12, ground := .phase }, { on := 13, ground := .phase }, { on := 14, ground := .phase }, { on := 15, ground := .phase }, { on := 16, ground := .phase }, { on := 17, ground := .phase }, { on := 18, ground := .phase }, { on := 19, ground := .phase }], guard := none }) (v := ?_) rfl (by kernel_rfl) (by kernel_rfl) (by kernel_rfl) (fun _ _ _ h => h) (Or.inl ⟨by rfl, ?_⟩) (by assumption) ?_
      rotate_left
      · intro _ _; go_simp; first | done | with_reducible rfl
      simp only [Act.put, List.setIfInBounds_toArray, List.set_cons_zero, List.set_cons_succ]
      refine wpAnyH_done (by kernel_rfl) ?_ _
      refine NoPanic.normal ?_
      go_wp2_with fail
      go_ret
      subst hN
      exact ⟨rfl, hbfin.trans (h11.mono hbfin.size)⟩
end Go.Proofs.YtbjndfnpfmeioaaDoor
