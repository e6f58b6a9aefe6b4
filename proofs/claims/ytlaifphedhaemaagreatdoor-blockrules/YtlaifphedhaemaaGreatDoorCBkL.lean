/- block.writeHead, block.ID. -/
import Derived.Test.YtlaifphedhaemaaGreatDoorCBkK
namespace Go.Proofs.YtlaifphedhaemaaGreatDoor
open Go.ChangeShapes Go.WideShapes Go.ChangeAt Go.RowKit

/-- A header's form. -/
def hdB (h : Hd) : List (BitVec 8) := h.prev.b ++ (h.root.b ++ nums [h.work, h.nonce])
theorem hdB_length (h : Hd) : (hdB h).length ≤ 82 := by
  have := nums_length [h.work, h.nonce]
  simp only [List.length_cons, List.length_nil] at this
  unfold hdB
  rw [List.length_append, List.length_append, h.prev.len, h.root.len]
  omega
theorem Hd.prev_at {w : World} {b o : Nat} {h : Hd} (g : w.rangeAt b o h.cs) : w.rangeAt b o h.prev.cs := fun j v hv => by
  have hj := (List.getElem?_eq_some_iff.1 hv).1
  exact g j v (by unfold Hd.cs; rw [List.getElem?_append_left hj]; exact hv)
set_option maxRecDepth 100000 in
set_option maxHeartbeats 4000000 in
theorem whead_any (R N : Nat) (v : Value) (bs : List (BitVec 8)) (h : Hd) (w : World) (hW : Wr w R N v bs) (hl : bs.length ≤ 700000) :
    Calls Tryz.prog 27 #[.pointer (some ⟨R, 0, none⟩), .agg h.cs.toArray] w fun e w' => e = .returned (.tuple #[]) ∧ ∃ v', Wr w' R N v' (bs ++ hdB h) ∧ Grew R v v' w w' := by
  have HW : Hid (Wr w R N v bs) := hW
  have HUH : Hid (_ = _) := Tryz.underlying23
  clear hW
  go_enter Tryz.func27, Tryz.ntmps27
  go_upto_region 1 with fail
  generalize hw1 : World.alloc w _ = w1
  have hb1 : Below w.heap.size w w1 := by rw [← hw1]; exact (Below.refl _ _).alloc (Nat.le_refl _) _
  have HA1 : Hid (Blk w1 w.heap.size h.cs) := by rw [← hw1]; exact Blk.new _ _ _
  have HW1 : Hid (Wr w1 R N v bs) := HW.out.below hb1
  have HB1 : Hid (Below w.heap.size w w1) := hb1
  clear hw1 hb1
  have HTX : Hid (w1.rangeAt w.heap.size 0 h.prev.cs) := Hd.prev_at HA1.out.whole
  go_wp2_with (refine wpList_load_mid rfl 23 _ rfl w.heap.size 0 rfl h.prev.cs _ HTX.out HUH.out rfl (sizeH h.prev) ?_)
  refine (whash_any R N v bs h.prev.b w1 HW1.out h.prev.len (by omega)).mono ?_
  rintro e w2 ⟨rfl, v2, hW2, hG2⟩
  have hf := HW.out.fresh (Nat.le_refl _)
  have HA2 : Hid (Blk w2 w.heap.size h.cs) := HA1.out.grew hG2 hf.1 hf.2
  have HW2 : Hid (Wr w2 R N v2 (bs ++ h.prev.b)) := hW2
  have HG2 : Hid (Grew R v v2 w w2) := (Grew.of_below HB1.out).trans hG2
  have HF2 : Hid (w.heap.size ≠ R ∧ v2.ownBlock ≠ some w.heap.size) := ⟨hf.1, hG2.row.apart HA1.out.lt hf.2⟩
  have HTX2 : Hid (w2.rangeAt w.heap.size 32 h.root.cs) := by
    have := Hd.root_at HA2.out.whole
    rw [Nat.zero_add] at this; exact this
  clear hW2 hG2 hf HTX HA1 HW1 HB1
  go_wp2_with (refine wpList_load_mid rfl 23 _ rfl w.heap.size 32 rfl h.root.cs _ HTX2.out HUH.out rfl (sizeH h.root) ?_)
  refine (whash_any R N v2 (bs ++ h.prev.b) h.root.b w2 HW2.out h.root.len (by rw [List.length_append, h.prev.len]; omega)).mono ?_
  rintro e w3 ⟨rfl, v3, hW3, hG3⟩
  have HA3 : Hid (Blk w3 w.heap.size h.cs) := HA2.out.grew hG3 HF2.out.1 HF2.out.2
  have HW3 : Hid (Wr w3 R N v3 (bs ++ h.prev.b ++ h.root.b)) := hW3
  have HG3 : Hid (Grew R v v3 w w3) := HG2.out.trans hG3
  have c4 : w3.cell? ⟨w.heap.size, 64, none⟩ = some (.int .i64 h.work) := HA3.out.one h.work_at
  have c5 : w3.cell? ⟨w.heap.size, 65, none⟩ = some (.int .i64 h.nonce) := HA3.out.one h.nonce_at
  clear hW3 hG3 HTX2 HA2 HW2 HG2
  go_wp2_with fail
  refine (wnum_lit R N v3 (bs ++ h.prev.b ++ h.root.b) [h.work, h.nonce] 2 w3 HW3.out rfl (by omega) (by rw [List.length_append, List.length_append, h.prev.len, h.root.len]; omega)).mono ?_
  rintro e w4 ⟨rfl, v4, hW4, hG4⟩
  rw [List.append_assoc, List.append_assoc] at hW4
  have HW4 : Hid (Wr w4 R N v4 (bs ++ hdB h)) := hW4
  have HG4 : Hid (Grew R v v4 w w4) := HG3.out.trans hG4
  clear hW4 hG4
  go_wp2_with fail
  go_end0
  exact ⟨rfl, _, HW4.out, HG4.out⟩

def bidH (h : Hd) : H32 := if sizeN h.work = 0 ∨ sizeN h.nonce = 0 then default else ⟨sum (sum (hdB h)), sum_length _⟩
set_option maxRecDepth 100000 in
set_option maxHeartbeats 4000000 in
theorem bid_any (h : Hd) (w : World) (hK : Kw w) :
    Calls Tryz.prog 18 #[.agg h.cs.toArray] w fun e w' => e = .returned (.agg (bidH h).cs.toArray) ∧ Below w.heap.size w w' := by
  obtain ⟨dH, HDH, HRH⟩ := undHd
  have HUH : Hid (_ = _) := Tryz.underlying23
  have HK : Hid (Kw w) := hK
  have hpos := hK.pos
  clear hK
  go_enter Tryz.func18, Tryz.ntmps18
  go_upto_region 1 with fail
  refine wp_scope_hops 1 ?_
  go_hide hQ
  go_upto_region 3 with fail
  generalize hwv : World.alloc (World.alloc (World.alloc (World.alloc w _) _) _) _ = w1
  have HB0 : Hid (Blk w1 w.heap.size h.cs) := by rw [← hwv]; exact (((Blk.mk _ _ _ rfl rfl).alloc _).alloc _).alloc _
  have HB1 : Hid (Blk w1 (w.heap.size + 1) (u8s zeros32)) := by rw [← hwv]; exact ((Blk.mk _ _ _ (by simp) rfl).alloc _).alloc _
  have HB2 : Hid (Blk w1 (w.heap.size + 2) (u8s zeros32)) := by rw [← hwv]; exact (Blk.mk _ _ _ (by simp) rfl).alloc _
  have HB3 : Hid (Blk w1 (w.heap.size + 3) [.slice none 0 0]) := by rw [← hwv]; exact Blk.mk _ _ _ (by simp) rfl
  have HBL : Hid (Below w.heap.size w w1) := by rw [← hwv]; exact ((((Below.refl _ _).alloc (Nat.le_refl _) _).alloc (by simp) _).alloc (by simp; omega) _).alloc (by simp; omega) _
  clear hwv
  have hsz1 := HB3.out.lt
  generalize hN : w.heap.size = T at *
  have c4 : w1.cell? ⟨T, 64, none⟩ = some (.int .i64 h.work) := HB0.out.one h.work_at
  have c5 : w1.cell? ⟨T, 65, none⟩ = some (.int .i64 h.nonce) := HB0.out.one h.nonce_at
  have HS1 : Hid (Calls Tryz.prog 52 #[.int .i64 h.work] w1 fun e w' => e = .returned (.int .i64 (sizeN h.work)) ∧ w1 = w') := size_any h.work w1
  have HS2 : Hid (Calls Tryz.prog 52 #[.int .i64 h.nonce] w1 fun e w' => e = .returned (.int .i64 (sizeN h.nonce)) ∧ w1 = w') := size_any h.nonce w1
  have HBI : Hid (bidH h = if sizeN h.work = 0 ∨ sizeN h.nonce = 0 then default else ⟨sum (sum (hdB h)), sum_length _⟩) := show _ = _ from rfl
  generalize sizeN h.work = z1 at *
  generalize sizeN h.nonce = z2 at *
  have HBAD : Hid (z1 = 0 ∨ z2 = 0 → bidH h = default) := fun e => by rw [HBI.out, if_pos e]
  obtain ⟨t1, hg1⟩ := HB1.out
  have HG1 : Hid (w1.heap[T + 1]? = some (.cells (u8s zeros32).toArray t1 (0, 0))) := hg1
  clear hg1
  by_cases h1 : z1 = 0
  · subst h1
    have HV := HBAD.out (.inl rfl)
    have HE : Hid (bidH h = default) := HV
    clear HV HBAD HBI HS2
    go_wp2_with fail
    refine Calls.mono HS1.out ?_
    rintro e w2 ⟨rfl, rfl⟩
    go_wp2_with fail
    go_step3
    subst hQ
    refine show hops _ _ _ 1 (Exit.goto 0) _ _ from ?_
    rw [hops_goto]
    refine ⟨_, rfl, ?_⟩
    go_hide hQ
    go_wp2_with (first
      | (refine wpList_load_mid rfl 23 _ rfl (T + 2) 0 rfl (u8s zeros32) _ HB2.out.whole HUH.out rfl (size_hashL zeros32 rfl) ?_)
      | (refine wpList_store_row rfl 23 _ _ rfl (T + 1) (u8s zeros32).toArray rfl rfl t1 _ HG1.out (size_h zeros32 rfl) rfl (u8s_one _) ?_))
    subst hQ
    rw [hops_ret]
    refine bodyPost_ret (v := .agg (u8s zeros32).toArray) ?_ rfl ⟨by rw [HE.out]; rfl, ?_⟩
    · obtain ⟨tt, hb⟩ := Blk.row (ds := u8s zeros32) ⟨t1, HG1.out⟩
      exact results_cell_row Tryz.results18 _ _ (T + 1) tt _ _ _ rfl hb Tryz.underlying23 rfl (size_h zeros32 rfl)
    · subst hN
      exact below_setRow HBL.out (by omega) _
  · have h1' : (z1 == 0) = false := by simp [h1]
    go_wp2_with fail
    refine Calls.mono HS1.out ?_
    rintro e w2 ⟨rfl, rfl⟩
    go_wp2_with fail
    refine Calls.mono HS2.out ?_
    rintro e w2 ⟨rfl, rfl⟩
    by_cases h2 : z2 = 0
    · subst h2
      have HV := HBAD.out (.inr rfl)
      have HE : Hid (bidH h = default) := HV
      clear HV HBAD HBI
      go_wp2_with fail
      go_step3
      subst hQ
      refine show hops _ _ _ 1 (Exit.goto 0) _ _ from ?_
      rw [hops_goto]
      refine ⟨_, rfl, ?_⟩
      go_hide hQ
      go_wp2_with (first
        | (refine wpList_load_mid rfl 23 _ rfl (T + 2) 0 rfl (u8s zeros32) _ HB2.out.whole HUH.out rfl (size_hashL zeros32 rfl) ?_)
        | (refine wpList_store_row rfl 23 _ _ rfl (T + 1) (u8s zeros32).toArray rfl rfl t1 _ HG1.out (size_h zeros32 rfl) rfl (u8s_one _) ?_))
      subst hQ
      rw [hops_ret]
      refine bodyPost_ret (v := .agg (u8s zeros32).toArray) ?_ rfl ⟨by rw [HE.out]; rfl, ?_⟩
      · obtain ⟨tt, hb⟩ := Blk.row (ds := u8s zeros32) ⟨t1, HG1.out⟩
        exact results_cell_row Tryz.results18 _ _ (T + 1) tt _ _ _ rfl hb Tryz.underlying23 rfl (size_h zeros32 rfl)
      · subst hN
        exact below_setRow HBL.out (by omega) _
    · have HE : Hid (bidH h = ⟨sum (sum (hdB h)), sum_length _⟩) := show _ = _ by rw [HBI.out, if_neg (by omega)]
      have h2' : (z2 == 0) = false := by simp [h2]
      have HLB : Hid ((hdB h).length ≤ 82) := hdB_length h
      have HLD : Hid (w1.rangeAt T 0 h.cs) := HB0.out.whole
      clear HBAD HBI HG1 c4 c5
      go_upto_region 4 with fail
      go_wp2_with (refine wpList_load_mid rfl 25 _ rfl T 0 rfl h.cs _ HLD.out HDH.out HRH.out (sizeHd h) ?_)
      have HWR : Hid (Wr w1 (T + 3) w1.heap.size (.slice none 0 0) []) := ⟨HB3.out, OwnB.nil _ _, by omega, Nat.le_refl _⟩
      refine (whead_any (T + 3) w1.heap.size (.slice none 0 0) [] h w1 HWR.out (by simp)).mono ?_
      rintro e w3 ⟨rfl, v3, hW3, hG3⟩
      rw [List.nil_append] at hW3
      have HW3 : Hid (Wr _ _ _ _ _) := hW3
      have HB13 : Hid (Blk w3 (T + 1) (u8s zeros32)) := HB1.out.grew hG3 (by omega) (by simp [Value.ownBlock])
      have HB23 : Hid (Blk w3 (T + 2) (u8s zeros32)) := HB2.out.grew hG3 (by omega) (by simp [Value.ownBlock])
      have HBL3 : Hid (Below T w w3) := HBL.out.trans (hG3.below (by omega) (by omega) (by simp [Value.ownBlock]))
      clear hW3 hG3 HB0 HB1 HB2 HB3 HWR HBL HLD
      have hsz3 := HB23.out.lt
      go_wp2_with fail
      refine (wbytes_any (T + 3) _ v3 (hdB h) w3 HW3.out (by have := HLB.out; omega)).mono ?_
      rintro e w4 ⟨v4, rfl, hO4, hb4⟩
      obtain ⟨a4, cap4, rfl, hby⟩ := hO4.bytes
      have HBY : Hid (Bytes w4 a4 cap4 (hdB h)) := hby
      have HB14 : Hid (Blk _ _ _) := HB13.out.below hb4 HB13.out.lt
      have HB24 : Hid (Blk _ _ _) := HB23.out.below hb4 HB23.out.lt
      have HBL4 : Hid (Below T w w4) := HBL3.out.trans (hb4.mono (by omega))
      clear hby hb4 hO4 HB13 HB23 HBL3 HW3
      have hsz4 := HB24.out.lt
      have HLQ : Hid ((hdB h).length < 144115188075855872) := show _ < _ by have := HLB.out; omega
      obtain ⟨bb, hbb⟩ : ∃ bb, bb = hdB h := ⟨_, rfl⟩
      rw [← hbb] at HBY HLQ ⊢
      have HBB : Hid (bb = hdB h) := hbb
      clear hbb
      generalize hln : bb.length = ln at *
      have HLN : Hid (bb.length = ln) := hln
      clear hln
      go_wp2_with fail
      generalize hw5 : World.alloc w4 _ = w5
      have hb5 : Below w4.heap.size w4 w5 := by rw [← hw5]; exact (Below.refl _ _).alloc (Nat.le_refl _) _
      have hP5 : Blk w5 w4.heap.size [.slice a4 ln cap4] := by rw [← hw5]; exact Blk.new _ _ _
      have HPC : Hid (Pieces w5 (some ⟨w4.heap.size, 0, none⟩) [bb]) := fun i hi => by
        obtain rfl : i = 0 := by simpa using hi
        exact ⟨w4.heap.size, 0, a4, cap4, rfl, by rw [hP5.cell]; show some _ = some _; rw [← HLN.out]; rfl, HBY.out.later hb5 (Nat.le_refl _)⟩
      have HB15 : Hid (Blk _ _ _) := HB14.out.below hb5 HB14.out.lt
      have HB25 : Hid (Blk _ _ _) := HB24.out.below hb5 HB24.out.lt
      have HBL5 : Hid (Below T w w5) := HBL4.out.trans (hb5.mono (by omega))
      clear hw5 hb5 hP5 HB14 HB24 HBL4
      have hsz5 := HB25.out.lt
      refine (twice_any (some ⟨w4.heap.size, 0, none⟩) 1 1 [bb] rfl w5 (HK.out.below HBL5.out (by omega)) (by omega) HPC.out (by have h := HLQ.out; rw [show [bb].flatten = bb by simp, HLN.out]; exact h)).mono ?_
      rintro e w6 ⟨rfl, hb6⟩
      rw [show [bb].flatten = bb by simp]
      have HB16 : Hid (Blk _ _ _) := HB15.out.below hb6 HB15.out.lt
      have HB26 : Hid (Blk _ _ _) := HB25.out.below hb6 HB25.out.lt
      have HBL6 : Hid (Below T w w6) := HBL5.out.trans (hb6.mono (by omega))
      clear hb6 HB15 HB25 HBL5
      obtain ⟨x, hx⟩ : ∃ x : H32, x = ⟨sum (sum bb), sum_length _⟩ := ⟨_, rfl⟩
      have HX : Hid (bidH h = x) := show _ = _ by rw [HE.out, hx, HBB.out]
      have HXS : Hid (u8s (sum (sum bb)) = x.cs) := show _ = _ by rw [hx]; rfl
      rw [HXS.out]
      clear hx HXS
      obtain ⟨t2, hg2⟩ := HB26.out
      have HG2 : Hid (w6.heap[T + 2]? = some (.cells (u8s zeros32).toArray t2 (0, 0))) := hg2
      have HSZ : Hid ((u8s zeros32).toArray.size = x.cs.toArray.size) := show _ = _ by simp [H32.cs_length, zeros32]
      clear hg2
      go_wp2_with (refine wpList_store_row rfl 23 _ _ rfl (T + 2) x.cs.toArray rfl rfl t2 _ HG2.out (sizeHa x) HSZ.out x.cs_all ?_)
      have HB27 : Hid (Blk (w6.setRow (T + 2) x.cs.toArray) (T + 2) x.cs) := HB26.out.row
      have HB17 : Hid (Blk (w6.setRow (T + 2) x.cs.toArray) (T + 1) (u8s zeros32)) := HB16.out.otherRow (by omega) _
      have HBL7 : Hid (Below T w (w6.setRow (T + 2) x.cs.toArray)) := below_setRow HBL6.out (by omega) _
      clear HG2 HB16 HB26 HBL6
      generalize w6.setRow (T + 2) x.cs.toArray = w7 at *
      go_step3
      obtain ⟨t1, hg1⟩ := HB17.out
      have HG1 : Hid (w7.heap[T + 1]? = some (.cells (u8s zeros32).toArray t1 (0, 0))) := hg1
      clear hg1
      go_wp2_with (first
        | (refine wpList_load_mid rfl 23 _ rfl (T + 2) 0 rfl x.cs _ HB27.out.whole HUH.out rfl (sizeH x) ?_)
        | (refine wpList_store_row rfl 23 _ _ rfl (T + 1) x.cs.toArray rfl rfl t1 _ HG1.out (sizeHa x) HSZ.out x.cs_all ?_))
      subst hQ
      rw [hops_ret]
      refine bodyPost_ret (v := .agg x.cs.toArray) ?_ rfl ⟨by rw [HX.out], ?_⟩
      · obtain ⟨tt, hb⟩ := Blk.row (ds := x.cs) ⟨t1, HG1.out⟩
        exact results_cell_row Tryz.results18 _ _ (T + 1) tt _ _ _ rfl hb Tryz.underlying23 rfl (sizeHa x)
      · subst hN
        exact below_setRow HBL7.out (by omega) _
end Go.Proofs.YtlaifphedhaemaaGreatDoor
