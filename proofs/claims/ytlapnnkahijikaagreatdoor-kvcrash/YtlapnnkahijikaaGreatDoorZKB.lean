/- kv: batches read back from their forms. No program. kv.read: the batch that a record is. -/
import Derived.Test.YtlapnnkahijikaaGreatDoorZKA
import Derived.Test.YtlapnnkahijikaaGreatDoorZK1
import Derived.Test.YtlapnnkahijikaaGreatDoorZK2
namespace Go.Proofs.YtlapnnkahijikaaGreatDoor
open Go.ChangeShapes Go.WideShapes Go.ChangeAt Go.RowKit Go.Lib

theorem rN_num {n : Int} (h0 : 0 ≤ n) (h1 : n ≤ 4611686018427387904) (t : List (BitVec 8)) (b : Bool) : rN (numB n ++ t, b) = (n, (t, b)) := by
  have h := getB_num h0 h1 t
  unfold getB at h
  unfold rN
  simp only [h]
  rw [if_pos trivial]
  have hl := numB_len n
  congr 2
  rw [List.drop_append_of_le_length (by omega), show (sizeN n).toNat = (numB n).length by omega, List.drop_length, List.nil_append]
theorem rC_num {n m : Int} (h0 : 0 ≤ n) (h1 : n ≤ 4611686018427387904) (hm : n ≤ m) (t : List (BitVec 8)) (b : Bool) : rC (numB n ++ t, b) m = (n, (t, b)) := by
  unfold rC
  rw [rN_num h0 h1, if_pos hm]
theorem rX_str (s : ByteArray) (hs : s.size ≤ 1000000) (t : List (BitVec 8)) (b : Bool) : rX (numB s.size ++ strB s ++ t, b) = (s, (t, b)) := by
  unfold rX
  rw [List.append_assoc, rN_num (by omega) (by omega)]
  unfold rT
  have hl : ((s.size : Int)) ≤ (((strB s ++ t).length : Nat) : Int) := by rw [List.length_append, strB_length]; omega
  simp only
  rw [if_pos hl]
  simp only [Int.toNat_natCast]
  rw [List.take_append_of_le_length (by rw [strB_length]; exact Nat.le_refl _), List.drop_append_of_le_length (by rw [strB_length]; exact Nat.le_refl _), List.take_of_length_le (by rw [strB_length]; exact Nat.le_refl _),
    List.drop_of_length_le (by rw [strB_length]; exact Nat.le_refl _), List.nil_append, ofB_strB]
/-- The next pair, the next ones, a batch. -/
def rPr (s : RS) : Pr × RS := (⟨(rX (rC s 1).2).1, (rX (rX (rC s 1).2).2).1, decide ((rC s 1).1 = 1)⟩, (rX (rX (rC s 1).2).2).2)
def rPrs : Nat → RS → List Pr × RS
  | 0, s => ([], s)
  | k + 1, s => ((rPrs k s).1 ++ [(rPr (rPrs k s).2).1], (rPr (rPrs k s).2).2)
theorem rPrs_length (k : Nat) (s : RS) : (rPrs k s).1.length = k := by
  induction k with
  | zero => rfl
  | succ k ih => simp [rPrs, ih]
def rBat (bs : List (BitVec 8)) : List Pr × RS := rPrs (rC (bs, false) 1000).1.toNat (rC (bs, false) 1000).2
def readE (bs : List (BitVec 8)) : Int := if rD (rBat bs).2 = true ∧ kask (rBat bs).1 = 0 then 0 else 2
theorem rPr_enc (p : Pr) (hk : p.k.size ≤ 1000000) (hv : p.v.size ≤ 1000000) (t : List (BitVec 8)) (b : Bool) : rPr (prB p ++ t, b) = (p, (t, b)) := by
  have hg := goneN_01 p
  unfold rPr prB
  rw [List.append_assoc, rC_num hg.1 (by omega) hg.2, List.append_assoc, rX_str p.k hk, rX_str p.v hv]
  congr 1
  cases p with
  | mk k v g => cases g <;> rfl
theorem rPrs_enc (l : List Pr) (h : ∀ p ∈ l, p.k.size ≤ 1000000 ∧ p.v.size ≤ 1000000) (t : List (BitVec 8)) (b : Bool) : ∀ k, k ≤ l.length → rPrs k (prsB l ++ t, b) = (l.take k, (prsB (l.drop k) ++ t, b)) := by
  intro k
  induction k with
  | zero => intro _; rw [List.take_zero, List.drop_zero]; rfl
  | succ k ih =>
    intro hk
    have hlt : k < l.length := by omega
    have e := ih (by omega)
    have hd : l.drop k = l[k] :: l.drop (k + 1) := List.drop_eq_getElem_cons hlt
    unfold rPrs
    rw [e]
    simp only
    rw [hd, prsB_cons, List.append_assoc, rPr_enc _ (h _ (List.getElem_mem hlt)).1 (h _ (List.getElem_mem hlt)).2]
    simp only
    rw [List.take_add_one, List.getElem?_eq_getElem hlt]; rfl
theorem rBat_enc {l : List Pr} (h : kask l = 0) : rBat (batB l) = (l, ([], false)) := by
  obtain ⟨_, h1, h2⟩ := kask_zero h
  have hs : ∀ p ∈ l, p.k.size ≤ 1000000 ∧ p.v.size ≤ 1000000 := fun p hp => by
    have a := (pArg_of (h2 p hp).1).2.1
    have b := pBig_of (h2 p hp).2
    omega
  unfold rBat batB
  rw [rC_num (by omega) (by omega) (by omega)]
  simp only [Int.toNat_natCast]
  have := rPrs_enc l hs [] false l.length (Nat.le_refl _)
  rw [List.append_nil] at this
  rw [this, List.take_length, List.drop_length]; rfl
theorem readE_enc {l : List Pr} (h : kask l = 0) : readE (batB l) = 0 := by
  unfold readE
  rw [rBat_enc h, if_pos ⟨rfl, h⟩]
end Go.Proofs.YtlapnnkahijikaaGreatDoor
namespace Go.Proofs.YtlapnnkahijikaaGreatDoor
open Go.ChangeShapes Go.WideShapes Go.ChangeAt Go.RowKit Go.Lib

theorem Rd.grown {w w1 w2 : World} {R N : Nat} {s : RS} {row : Option Nat} (h : Rd w R N s) (hb : Below w.heap.size w w1) (hg : w1.grownBy w2 row) (hr : ∀ k, row = some k → N ≤ k) (hR : R < N) : Rd w2 R N s := by
  have h1 := h.below hb
  refine h1.kept hg.size (hg.block R h1.lt fun e => by have := hr R e.symm; omega) fun b hb' _ => hg.block b (Nat.lt_of_lt_of_le hb' h1.base) fun e => by have := hr b e.symm; omega
theorem OwnE.keep {w w' : World} {N R : Nat} {v : Value} {l : List Pr} (h : OwnP w N v l) (hk : Keep R w w') (hR : R < N) : OwnP w' N v l :=
  h.same fun k e => by have := h.lt k e; exact hk.block k this.2 (by omega)
theorem rC_range0 (s : RS) (m : Int) (hm : 0 ≤ m) : 0 ≤ (rC s m).1 ∧ (rC s m).1 ≤ m := by
  unfold rC
  have := rN_range s
  split
  · exact ⟨this.1, by assumption⟩
  · exact ⟨Int.le_refl _, hm⟩
theorem OwnE.less {w : World} {N M : Nat} {v : Value} {l : List Pr} (h : OwnP w N v l) (hM : M ≤ N) : OwnP w M v l := by
  refine ⟨h.1, ?_⟩
  rcases h.2 with hn | ⟨g, cap, cur, hv, hg, rest⟩
  · exact .inl hn
  · exact .inr ⟨g, cap, cur, hv, by omega, rest⟩
theorem rPrs_next (k : Nat) (s : RS) : rPrs (k + 1) s = ((rPrs k s).1 ++ [(rPr (rPrs k s).2).1], (rPr (rPrs k s).2).2) := rfl
set_option maxRecDepth 100000 in
set_option maxHeartbeats 4000000 in
theorem read_any' (v : Value) (bs : List (BitVec 8)) (w : World) (hv : SrcB w v bs) (hl : bs.length ≤ 50000000) :
    Calls Tryz.prog 29 #[v] w fun e w' => Below w.heap.size w w' ∧
      ((readE bs = 0 ∧ ∃ v', e = .returned (.tuple #[v', .int .i64 0]) ∧ OwnP w' w.heap.size v' (rBat bs).1) ∨ (readE bs ≠ 0 ∧ e = .returned (.tuple #[.slice none 0 0, .int .i64 2]))) := by
  have HRD : Hid (Calls Tryz.prog 52 #[v] w fun e w' => ∃ R, e = .returned (.pointer (some ⟨R, 0, none⟩)) ∧ w.heap.size ≤ R ∧ Rd w' R w'.heap.size (bs, false) ∧ Below w.heap.size w w') := reader_any v bs w hv hl
  obtain ⟨a0, c0, hv0⟩ := hv.shape
  subst hv0
  have HE : Hid (readE bs = if rD (rBat bs).2 = true ∧ kask (rBat bs).1 = 0 then 0 else 2) := show _ = _ from rfl
  have HBT : Hid (rBat bs = rPrs (rC (bs, false) 1000).1.toNat (rC (bs, false) 1000).2) := show _ = _ from rfl
  have hm := rC_range0 (bs, false) 1000 (by omega)
  clear hv hl
  generalize bs.length = L0 at *
  go_enter Tryz.func29, Tryz.ntmps29
  go_wp2_with fail
  refine wp_scope_hops 1 ?_
  go_hide hQ
  go_wp2_with fail
  refine Calls.mono HRD.out ?_
  rintro e w1 ⟨R, rfl, hR1, hr1, hb1⟩
  have HR1 : Hid (Rd w1 R w1.heap.size (bs, false)) := hr1
  have HB1 : Hid (Below w.heap.size w w1) := hb1
  have HRN : Hid (R < w1.heap.size ∧ w.heap.size ≤ R) := ⟨hr1.lt, hR1⟩
  clear hr1 hb1 hR1 HRD
  generalize hN : w1.heap.size = N at *
  go_wp2_with fail
  refine Calls.mono (rcount_any R N (bs, false) 1000 w1 HR1.out) ?_
  rintro e w2 ⟨rfl, hr2, hk2⟩
  obtain ⟨m, hmm⟩ : ∃ m : Nat, (rC (bs, false) 1000).1 = (m : Int) := ⟨(rC (bs, false) 1000).1.toNat, by omega⟩
  rw [hmm]
  have hm0 : m ≤ 1000 := by omega
  have HM : Hid ((rC (bs, false) 1000).1.toNat = m) := show _ = _ by omega
  have HR2 : Hid (Rd w2 R N (rC (bs, false) 1000).2) := hr2
  have HB2 : Hid (Below w.heap.size w w2) := HB1.out.trans (hk2.below HRN.out.2 HB1.out.size)
  clear hr2 hk2 hm hmm HR1 HB1
  generalize (rC (bs, false) 1000).2 = s1 at *
  go_wp2_with fail
  go_loopw [4, 11] (fun b i wr => ∃ (k : Nat) (a : Option Addr) (n c : Nat), k ≤ m ∧ i = .int .i64 k ∧ b = .slice a n c ∧ Hid (OwnP wr N (.slice a n c) (rPrs k s1).1) ∧ Hid (Rd wr R N (rPrs k s1).2) ∧ Hid (Below w.heap.size w wr)) (fun _ i _ => m - (intOf i).toNat)
  case atStart => exact ⟨0, none, 0, 0, by omega, rfl, rfl, OwnE.nil _ _, HR2.out, HB2.out⟩
  case round =>
    obtain ⟨k, ab, nb, cb, hk, rfl, rfl, HOk, HRk, HBk⟩ := hrel
    clear HR2 HB2
    by_cases hlt : k < m
    · have e1 : (0 : Int) ≤ (k : Int) := by omega
      have e2 : (k : Int) < (m : Int) := by omega
      have HNX : Hid (rPrs (k + 1) s1 = ((rPrs k s1).1 ++ [(rPr (rPrs k s1).2).1], (rPr (rPrs k s1).2).2)) := show _ = _ from rfl
      have HLN : Hid ((rPrs k s1).1.length = k) := show _ = _ from rPrs_length k s1
      generalize (rPrs k s1).1 = L at *
      generalize (rPrs k s1).2 = s at *
      have HPR : Hid (rPr s = (⟨(rX (rC s 1).2).1, (rX (rX (rC s 1).2).2).1, decide ((rC s 1).1 = 1)⟩, (rX (rX (rC s 1).2).2).2)) := show _ = _ from rfl
      have hg := rC_range0 s 1 (by omega)
      go_wp2_with fail
      refine Calls.mono (rcount_any R N s 1 _ HRk.out) ?_
      rintro e w3 ⟨rfl, hr3, hk3⟩
      have HR3 : Hid (Rd w3 R N (rC s 1).2) := hr3
      have HO3 : Hid (OwnP w3 N (.slice ab nb cb) L) := HOk.out.keep hk3 HRN.out.1
      have HB3 : Hid (Below w.heap.size w w3) := HBk.out.trans (hk3.below HRN.out.2 HBk.out.size)
      clear hr3 hk3 HRk HOk HBk
      generalize (rC s 1).1 = g at *
      generalize (rC s 1).2 = s2 at *
      go_wp2_with fail
      refine Calls.mono (rtext_any R N s2 _ HR3.out) ?_
      rintro e w4 ⟨rfl, hr4, hk4⟩
      have HR4 : Hid (Rd w4 R N (rX s2).2) := hr4
      have HO4 : Hid (OwnP w4 N (.slice ab nb cb) L) := HO3.out.keep hk4 HRN.out.1
      have HB4 : Hid (Below w.heap.size w w4) := HB3.out.trans (hk4.below HRN.out.2 HB3.out.size)
      clear hr4 hk4 HR3 HO3 HB3
      generalize (rX s2).1 = kk at *
      generalize (rX s2).2 = s3 at *
      go_wp2_with fail
      refine Calls.mono (rtext_any R N s3 _ HR4.out) ?_
      rintro e w5 ⟨rfl, hr5, hk5⟩
      have HR5 : Hid (Rd w5 R N (rX s3).2) := hr5
      have HO5 : Hid (OwnP w5 N (.slice ab nb cb) L) := HO4.out.keep hk5 HRN.out.1
      have HB5 : Hid (Below w.heap.size w w5) := HB4.out.trans (hk5.below HRN.out.2 HB4.out.size)
      clear hr5 hk5 HR4 HO4 HB4
      generalize (rX s3).1 = vv at *
      generalize (rX s3).2 = s4 at *
      rcases (show g = 0 ∨ g = 1 by omega) with rfl | rfl
      · have HB6 : Below w5.heap.size w5 (w5.alloc (.cells #[.string kk, .string vv, .bool false] 48)) := (Below.refl _ _).alloc (Nat.le_refl _) _
        have HBN : Hid (N ≤ w5.heap.size) := HR5.out.base
        go_wp2_with (at_builtin; refine wpList_append_e elPr rfl _ _ rfl N (.slice ab nb cb) L rfl (HO5.out.below HB6) (some ⟨w5.heap.size, 0, none⟩) 1 1 [⟨kk, vv, false⟩] rfl (Els.lit1 w5 kk vv false _) (by rw [HLN.out]; omega) (by have := HBN.out; simp; omega) ?_; intro v6 w6 HO6 HG6 HM6; obtain ⟨a6, n6, c6, rfl⟩ := HO6.out.any)
        have HR6 : Hid (Rd w6 R N s4) := HR5.out.grown HB6 HG6.out (fun q e => (HO5.out.lt q e).1) HRN.out.1
        have HBB : Hid (Below w.heap.size w w6) := (HB5.out.trans (HB6.mono HB5.out.size)).grown HG6.out (by have := HB5.out.size; simp; omega) fun q e => by have := (HO5.out.lt q e).1; have := HRN.out; omega
        clear HB6 HG6 HM6 HR5 HO5 HB5
        go_wp2_with fail
        go_roundw
        case rel =>
          refine ⟨k + 1, a6, n6, c6, by omega, by go_num, rfl, ?_, ?_, HBB.out⟩
          · show OwnP _ _ _ _
            rw [HNX.out, HPR.out]
            exact HO6.out
          · show Rd _ _ _ _
            rw [HNX.out, HPR.out]
            exact HR6.out
        case measure => simp [intOf]; omega
      · have HB6 : Below w5.heap.size w5 (w5.alloc (.cells #[.string kk, .string vv, .bool true] 48)) := (Below.refl _ _).alloc (Nat.le_refl _) _
        have HBN : Hid (N ≤ w5.heap.size) := HR5.out.base
        go_wp2_with (at_builtin; refine wpList_append_e elPr rfl _ _ rfl N (.slice ab nb cb) L rfl (HO5.out.below HB6) (some ⟨w5.heap.size, 0, none⟩) 1 1 [⟨kk, vv, true⟩] rfl (Els.lit1 w5 kk vv true _) (by rw [HLN.out]; omega) (by have := HBN.out; simp; omega) ?_; intro v6 w6 HO6 HG6 HM6; obtain ⟨a6, n6, c6, rfl⟩ := HO6.out.any)
        have HR6 : Hid (Rd w6 R N s4) := HR5.out.grown HB6 HG6.out (fun q e => (HO5.out.lt q e).1) HRN.out.1
        have HBB : Hid (Below w.heap.size w w6) := (HB5.out.trans (HB6.mono HB5.out.size)).grown HG6.out (by have := HB5.out.size; simp; omega) fun q e => by have := (HO5.out.lt q e).1; have := HRN.out; omega
        clear HB6 HG6 HM6 HR5 HO5 HB5
        go_wp2_with fail
        go_roundw
        case rel =>
          refine ⟨k + 1, a6, n6, c6, by omega, by go_num, rfl, ?_, ?_, HBB.out⟩
          · show OwnP _ _ _ _
            rw [HNX.out, HPR.out]
            exact HO6.out
          · show Rd _ _ _ _
            rw [HNX.out, HPR.out]
            exact HR6.out
        case measure => simp [intOf]; omega
    · obtain rfl : k = m := by omega
      have e2 : ¬ (k : Int) < (k : Int) := by omega
      have HBT2 : Hid (rBat bs = rPrs k s1) := show _ = _ by rw [HBT.out, HM.out]
      obtain ⟨a7, c7, hv7, hel⟩ := HOk.out.els
      injection hv7 with h1 h2 h3
      subst h1
      subst h3
      rw [← h2] at hel
      have HEL : Hid (Els wr ab nb cb (rPrs k s1).1) := hel
      rw [← HBT2.out] at HOk HRk HEL
      have HRR : Hid (Rd wr R N (rBat bs).2) := HRk.out
      clear hel h2 HBT HM HRk HBT2
      generalize (rBat bs).2 = sx at *
      generalize hLr : (rBat bs).1 = L at *
      have HLR : Hid ((rBat bs).1 = L) := hLr
      clear hLr
      go_wp2_with fail
      refine Calls.mono (rdone_any R N sx _ HRR.out) ?_
      rintro e w7 ⟨rfl, rfl⟩
      generalize rD sx = d at *
      cases d with
      | false =>
        have HE' : Hid (readE bs = 2) := show _ = _ by rw [HE.out, if_neg (fun h => by cases h.1)]
        go_wp2_with fail
        go_step3
        simp only [Exit.then]
        subst hQ
        rw [hops_goto]
        refine ⟨_, rfl, ?_⟩
        go_hide hQ
        go_wp2_with fail
        subst hQ
        rw [hops_ret]
        go_ret2
        exact ⟨HBk.out, .inr ⟨by rw [HE'.out]; decide, rfl⟩⟩
      | true =>
        go_wp2_with fail
        refine Calls.mono (kask_any ab nb cb L _ HEL.out) ?_
        rintro e w8 ⟨rfl, hb8⟩
        have HB8 : Hid (Below w.heap.size w w8) := HBk.out.trans (hb8.mono HBk.out.size)
        have HO8 : Hid (OwnP w8 w.heap.size (.slice ab nb cb) L) := (HOk.out.below hb8).less (by have := HRN.out; omega)
        clear hb8 HBk HOk HRR
        by_cases hz : kask L = 0
        · rw [hz]
          have HE' : Hid (readE bs = 0) := show _ = _ by rw [HE.out, if_pos ⟨by first | rfl | trivial, hz⟩]
          clear hz
          go_wp2_with fail
          subst hQ
          rw [hops_ret]
          go_ret2
          exact ⟨HB8.out, .inl ⟨HE'.out, .slice ab nb cb, rfl, by rw [HLR.out]; exact HO8.out⟩⟩
        · have HE' : Hid (readE bs = 2) := show _ = _ by rw [HE.out, if_neg (fun h => hz h.2)]
          have hz' : (kask L != 0) = true := bne_iff_ne.2 hz
          generalize kask L = E at *
          go_wp2_with fail
          go_step3
          simp only [Exit.then]
          subst hQ
          rw [hops_goto]
          refine ⟨_, rfl, ?_⟩
          go_hide hQ
          go_wp2_with fail
          subst hQ
          rw [hops_ret]
          go_ret2
          exact ⟨HB8.out, .inr ⟨by rw [HE'.out]; decide, rfl⟩⟩
end Go.Proofs.YtlapnnkahijikaaGreatDoor
