/- The document's own closing of a sum is the standard's. No program, no conditions. The document's own Sum is the standard's sum. The document's own Twice is the sum of the sum. -/
import Derived.Test.YtlaifphedhaemaaGreatDoorZS2
import Derived.Test.YtlaifphedhaemaaGreatDoorZR1
import Derived.Test.YtlaifphedhaemaaGreatDoorZS3
namespace Go.Proofs.YtlaifphedhaemaaGreatDoor
/-- Behind k whole blocks. -/
theorem mixAll_blocks (s : St) (bs : List (BitVec 8)) (k : Nat) (h : 64 * k + 64 ≤ bs.length) : mixAll s (bs.take (64 * (k + 1))) = mix (mixAll s (bs.take (64 * k))) ((bs.drop (64 * k)).take 64) := by
  rw [show 64 * (k + 1) = 64 * k + 64 by omega, List.take_add, mixAll_app]
  have e : restOf (bs.take (64 * k)) = [] := by
    apply List.length_eq_zero_iff.1
    rw [restOf_length, List.length_take]; omega
  rw [e]
  have := mixAll_block (mixAll s (bs.take (64 * k))) ((bs.drop (64 * k)).take 64) [] (by rw [List.length_take, List.length_drop]; omega)
  rw [List.append_nil] at this
  rw [List.nil_append, this, mixAll_short _ [] (by decide)]
/-- What is left behind all whole blocks. -/
theorem rest_of_blocks (bs : List (BitVec 8)) (k : Nat) (h1 : 64 * k ≤ bs.length) (h2 : bs.length < 64 * k + 64) : mixAll start (bs.take (64 * k)) = mixAll start bs ∧ restOf bs = bs.drop (64 * k) := by
  have e : restOf (bs.take (64 * k)) = [] := by
    apply List.length_eq_zero_iff.1
    rw [restOf_length, List.length_take]; omega
  constructor
  · conv => rhs; rw [← List.take_append_drop (64 * k) bs]
    rw [mixAll_app, e, List.nil_append, mixAll_short _ (bs.drop (64 * k)) (by rw [List.length_drop]; omega)]
  · conv => lhs; rw [← List.take_append_drop (64 * k) bs]
    rw [restOf_app, e, List.nil_append, restOf_short _ (by rw [List.length_drop]; omega)]
/-- How long the closing blocks are. -/
def lastLen (r : Nat) : Nat := if 55 < r then 128 else 64
theorem lastLen_eq (n r : Nat) (h : r = n % 64) : lastLen r = r + 1 + noughts n + 8 := by
  unfold lastLen noughts; split <;> omega
/-- The closing blocks, j bytes of the count written. -/
def lastAt (q : List (BitVec 8)) (n j : Nat) : List (BitVec 8) := (q ++ [128#8] ++ zerosN (noughts n)) ++ (List.replicate (8 - j) 0#8 ++ (counted n).drop (8 - j))
theorem lastAt_length (q : List (BitVec 8)) (n j : Nat) (hj : j ≤ 8) : (lastAt q n j).length = q.length + 1 + noughts n + 8 := by
  unfold lastAt; simp only [List.length_append, List.length_singleton, zerosN_length, List.length_replicate, List.length_drop, counted_length]; omega
theorem lastAt_0 (q : List (BitVec 8)) (n : Nat) (hq : q.length = n % 64) : (q ++ List.replicate (lastLen q.length - q.length) 0#8).set q.length 128#8 = lastAt q n 0 := by
  have h := lastLen_eq n q.length hq
  rw [List.set_append_right _ _ (Nat.le_refl _), Nat.sub_self, show lastLen q.length - q.length = (noughts n + 8) + 1 by omega, List.replicate_succ, List.set_cons_zero]
  unfold lastAt zerosN
  rw [List.drop_of_length_le (by rw [counted_length]; exact Nat.le_refl _), List.append_nil, List.append_assoc, List.append_assoc]
  have e : List.replicate (noughts n) (0 : BitVec 8) ++ List.replicate (8 - 0) 0#8 = List.replicate (noughts n + 8) 0#8 := List.replicate_append_replicate
  rw [e]; rfl
theorem lastAt_next (q : List (BitVec 8)) (n j : Nat) (hj : j < 8) : (lastAt q n j).set (q.length + 1 + noughts n + (7 - j)) ((counted n).getD (7 - j) 0) = lastAt q n (j + 1) := by
  unfold lastAt
  have hl : (q ++ [128#8] ++ zerosN (noughts n)).length = q.length + 1 + noughts n := by simp only [List.length_append, List.length_singleton, zerosN_length]
  rw [List.set_append_right _ _ (by rw [hl]; omega), hl, Nat.add_sub_cancel_left]
  congr 1
  rw [show 8 - j = (7 - j) + 1 by omega, List.replicate_succ', List.append_assoc, List.set_append_right _ _ (by simp), List.length_replicate, Nat.sub_self]
  rw [show 8 - (j + 1) = 7 - j by omega, List.drop_eq_getElem_cons (i := 7 - j) (by rw [counted_length]; omega)]
  rw [List.getD_eq_getElem?_getD, List.getElem?_eq_getElem (by rw [counted_length]; omega)]
  rfl
theorem counted_zero (n j : Nat) (hj : j ≤ 8) (h : 8 * n / 2 ^ (8 * j) = 0) : (counted n).take (8 - j) = List.replicate (8 - j) 0#8 := by
  apply List.ext_getElem
  · simp [counted_length]
  · intro i h1 h2
    have hi : i < 8 - j := by simpa using h2
    rw [List.getElem_take, List.getElem_replicate]
    unfold counted
    rw [List.getElem_map, List.getElem_range]
    have hz : 8 * n < 2 ^ (8 * j) := by
      rcases Nat.lt_or_ge (8 * n) (2 ^ (8 * j)) with h3 | h3
      · exact h3
      · have := Nat.div_pos h3 (Nat.pow_pos (by omega)); omega
    rw [Nat.div_eq_of_lt (Nat.lt_of_lt_of_le hz (Nat.pow_le_pow_right (by omega) (by omega)))]
theorem lastAt_end (q : List (BitVec 8)) (n j : Nat) (hj : j ≤ 8) (h : 8 * n / 2 ^ (8 * j) = 0) : lastAt q n j = q ++ padOf n := by
  unfold lastAt padOf
  rw [← counted_zero n j hj h, List.take_append_drop]
  simp [List.append_assoc]
theorem counted_at (n j : Nat) (hj : j < 8) : Y ((counted n).getD (7 - j) 0) = ((8 * n / 2 ^ (8 * j) % 256 : Nat) : Int) := by
  rw [counted_get n (7 - j) (by omega), show 7 - (7 - j) = j by omega]
theorem bits_next (n j : Nat) : 8 * n / 2 ^ (8 * j) / 256 = 8 * n / 2 ^ (8 * (j + 1)) := by
  rw [Nat.div_div_eq_div_mul, show 8 * (j + 1) = 8 * j + 8 by omega, Nat.pow_add]
theorem bits_over (n j : Nat) (hn : n < 144115188075855872) (h : 0 < 8 * n / 2 ^ (8 * j)) : j < 8 := by
  rcases Nat.lt_or_ge j 8 with h1 | h1
  · exact h1
  · exfalso
    have : 8 * n < 2 ^ (8 * j) := Nat.lt_of_lt_of_le (by omega : 8 * n < 2 ^ 64) (Nat.pow_le_pow_right (by omega) (by omega))
    rw [Nat.div_eq_of_lt this] at h; omega
end Go.Proofs.YtlaifphedhaemaaGreatDoor
namespace Go.Proofs.YtlaifphedhaemaaGreatDoor
open Go.ChangeShapes Go.WideShapes Go.ChangeAt Go.RowKit

/-- The blocks of a sum on its way: the result, the words. -/
structure Sm (w : World) (N : Nat) (s : St) (wr : World) : Prop where
  hR : Blk wr N (u8s zeros32)
  hS : Blk wr (N + 1) (u32s s.list)
  bel : Below N w wr
theorem Sm.later {w wr wx : World} {N : Nat} {s : St} (h : Sm w N s wr) (hb : Below wr.heap.size wr wx) : Sm w N s wx :=
  ⟨h.hR.below hb h.hR.lt, h.hS.below hb h.hS.lt, h.bel.trans (hb.mono (Nat.le_of_lt h.hR.lt))⟩
theorem Sm.above {w wr wx : World} {N B : Nat} {s : St} (h : Sm w N s wr) (hb : Below B wr wx) (hB : N + 1 < B) : Sm w N s wx :=
  ⟨h.hR.below hb (by omega), h.hS.below hb hB, h.bel.trans (hb.mono (by omega))⟩
theorem Blk.madeR {w : World} {B e g m : Nat} {xs : List Value} (h : w.ownsRow B e 1 (.slice (some ⟨g, 0, none⟩) m m) m xs) : Blk w g xs := by
  obtain ⟨_, (⟨h1, _⟩ | ⟨g', cap, cur, hv, _, hh, _, _, hc, hx⟩)⟩ := h
  · cases h1
  · injection hv with hv1 hv2 hv3
    injection hv1 with hv1
    injection hv1 with hv1
    subst hv1; subst hv3
    rw [List.take_of_length_le (by simpa using Nat.le_of_eq hc)] at hx
    refine ⟨e, ?_⟩
    rw [hh, ← hx]
theorem Sm.row {w wr : World} {N : Nat} {s s' : St} (h : Sm w N s wr) : Sm w N s' (wr.setRow (N + 1) (u32s s'.list).toArray) :=
  ⟨h.hR.otherRow (by omega) _, h.hS.row, below_setRow h.bel (by omega) _⟩

set_option maxRecDepth 100000 in
set_option maxHeartbeats 4000000 in
theorem refsum_any (a : Option Addr) (cap : Nat) (bs : List (BitVec 8)) (w : World) (hb : Bytes w a cap bs) (hn : bs.length < 144115188075855872) :
    Calls Tryz.prog 84 #[.slice a bs.length cap] w fun e w' => e = .returned (.agg (u8s (sum bs)).toArray) ∧ Below w.heap.size w w' := by
  have HB : Hid (Bytes w a cap bs) := hb
  have hroom := hb.room
  have hmost := hb.most
  unfold maxLen at hmost
  clear hb
  go_enter Tryz.func84, Tryz.ntmps84
  go_wp2_with fail
  generalize hw1 : World.alloc (World.alloc w _) _ = w1
  have hS1 : Sm w w.heap.size start w1 := by
    rw [← hw1]
    exact ⟨(Blk.mk _ _ _ rfl rfl).alloc _, Blk.mk _ _ _ (by simp) rfl, ((Below.refl _ _).alloc (Nat.le_refl _) _).alloc (by simp) _⟩
  clear hw1
  have hbl : ∀ b off, a = some ⟨b, off, none⟩ → bs ≠ [] → b < w.heap.size := fun b off ha hne => by
    obtain ⟨b', off', ha', hc⟩ := HB.out.lie hne
    rw [ha] at ha'
    injection ha' with ha'; injection ha' with e1 e2 e3
    subst e1
    exact World.block_lt_of_cell? w _ (hc 0 (List.length_pos_iff.2 hne))
  have HBL : Hid (∀ b off, a = some ⟨b, off, none⟩ → bs ≠ [] → b < w.heap.size) := hbl
  clear hbl
  generalize hN : w.heap.size = N at *
  have hmo : Tryz.prog.follows .mixedOrders = true := by kernel_rfl
  have HMO : Hid (_ = true) := hmo
  have u41 : Tryz.prog.underlying 156 = _ := Tryz.underlying156
  have HU41 : Hid (Tryz.prog.underlying 156 = _) := u41
  have I41 : Hid (∀ s : St, (Tryz.prog.info? 156).map (·.size) = some (u32s s.list).length) := fun s => by
    rw [show (u32s s.list).length = 8 by simp [St.list_length]]; kernel_rfl
  clear hmo u41
  go_loopw [4] (fun sv wr => ∃ (k : Nat) (pa : Option Addr), 64 * k ≤ bs.length ∧ sv = .slice pa (bs.length - 64 * k) (cap - 64 * k) ∧ Hid (64 * k < bs.length → ∀ b off, a = some ⟨b, off, none⟩ → pa = some ⟨b, off + 64 * k, none⟩) ∧ Sm w N (mixAll start (bs.take (64 * k))) wr) (fun sv _ => lenV sv)
  case atStart => exact ⟨0, a, by omega, rfl, fun _ b off h => by simpa using h, by rw [Nat.mul_zero, List.take_zero, mixAll_short _ [] (by decide)]; exact hS1⟩
  case round =>
    obtain ⟨k, pa, hk, rfl, HPA, hSm⟩ := hrel
    clear hS1
    by_cases hlt : 64 * k + 64 ≤ bs.length
    · have hne : bs ≠ [] := by intro h; rw [h] at hlt; simp at hlt
      obtain ⟨b, off, rfl, hcs⟩ := HB.out.lie hne
      have hbN := HBL.out b off rfl hne
      obtain rfl := HPA.out (by omega) b off rfl
      obtain ⟨m, hm⟩ : ∃ x, x = bs.length - 64 * k := ⟨_, rfl⟩
      obtain ⟨c, hc⟩ : ∃ x, x = cap - 64 * k := ⟨_, rfl⟩
      have HM : Hid (m = bs.length - 64 * k) := hm
      have HC : Hid (c = cap - 64 * k) := hc
      have hm64 : 64 ≤ m := by omega
      have hmc : m ≤ c := by omega
      have hcm : c ≤ 2 ^ 63 - 1 := by omega
      rw [← hm, ← hc]
      obtain ⟨p, hp⟩ : ∃ x, x = (bs.drop (64 * k)).take 64 := ⟨_, rfl⟩
      have hpl : p.length = 64 := by rw [hp, List.length_take, List.length_drop]; omega
      have HPC : Hid (∀ w' : World, Below N w w' → ∀ j, j < 64 → w'.cell? ⟨b, off + 64 * k + j, none⟩ = some (.int .u8 (Y (p.getD j 0)))) := fun w' hw' j hj => by
        rw [hw'.cell (p := ⟨b, off + 64 * k + j, none⟩) hbN, Nat.add_assoc, hcs (64 * k + j) (by omega), hp, List.getD_eq_getElem?_getD, List.getD_eq_getElem?_getD, List.getElem?_take_of_lt hj, List.getElem?_drop]
      have HP : Hid (p = (bs.drop (64 * k)).take 64) := hp
      obtain ⟨st, hst⟩ : ∃ x, x = mixAll start (bs.take (64 * k)) := ⟨_, rfl⟩
      rw [← hst] at hSm
      have HST : Hid (st = mixAll start (bs.take (64 * k))) := hst
      clear hm hc hp hst hcs
      have e0 : (64 : Int) ≤ (m : Int) := by omega
      have e1 : (64 : Int) ≤ (c : Int) := by omega
      have hrange : wr.drew.rangeAt (N + 1) 0 (u32s st.list) := fun j v hv => by rw [Nat.zero_add]; exact (hSm.hS.cell j).trans hv
      have HRG : Hid (wr.drew.rangeAt (N + 1) 0 (u32s st.list)) := hrange
      clear hrange
      go_wp2_with fail
      refine wp_region_tail 3 HMO.out (by kernel_rfl) ?_
      simp only [List.take_succ_cons, List.take_zero, List.drop_succ_cons, List.drop_zero]
      refine still_load_mid rfl 156 (.tmp 3) rfl (N + 1) 0 rfl (u32s st.list) _ HRG.out HU41.out rfl (I41.out st) ?_
      iterate 2 still_step
      refine wpStill_nil ?_
      go_wp2_with fail
      refine (chunk_any st p b (off + 64 * k) c wr.drew (HPC.out _ hSm.bel.drew)).mono ?_
      rintro e w5 ⟨rfl, hb5⟩
      have hSm5 : Sm w N st w5 := hSm.later (below_undrew hb5)
      obtain ⟨tS, hgS⟩ := hSm5.hS
      have HgS : Hid (w5.heap[N + 1]? = _) := hgS
      have HI : Hid ((Tryz.prog.info? 156).map (·.size) = some (u32s (mix st p).list).toArray.size) := I41.out (mix st p)
      have HSZ : Hid ((u32s st.list).toArray.size = (u32s (mix st p).list).toArray.size) := by show _ = _; simp [St.list_length]
      clear hgS
      go_wp2_with (refine wpList_store_row rfl 156 _ _ rfl (N + 1) (u32s (mix st p).list).toArray rfl rfl tS _ HgS.out HI.out HSZ.out (u32s_one _) ?_)
      have e2 : m - 64 = bs.length - 64 * (k + 1) := by rw [HM.out]; omega
      have e3 : c - 64 = cap - 64 * (k + 1) := by rw [HC.out]; omega
      refine ⟨⟨k + 1, _, by omega, by rw [e2, e3], ?_, ?_⟩, by simp only [lenV]; omega⟩
      · intro h b1 off1 hab
        injection hab with hab
        injection hab with h1 h2 h3
        subst h1; subst h2
        rw [if_neg (by omega), Nat.add_assoc]; rfl
      · rw [mixAll_blocks start bs k hlt, ← HST.out, ← HP.out]; exact hSm5.row
    · obtain ⟨hst, hq⟩ := rest_of_blocks bs k hk (by omega)
      rw [hst] at hSm
      obtain ⟨q, hqq⟩ : ∃ x, x = restOf bs := ⟨_, rfl⟩
      rw [← hqq] at hq
      have hql : q.length = bs.length - 64 * k := by rw [hq, List.length_drop]
      have hqm : q.length = bs.length % 64 := by rw [hqq, restOf_length]
      have HQ : Hid (q = restOf bs) := hqq
      have HQM : Hid (q.length = bs.length % 64) := hqm
      obtain ⟨m, hm⟩ : ∃ x, x = q.length := ⟨_, rfl⟩
      have HM : Hid (m = q.length) := hm
      rw [← hql, ← hm]
      obtain ⟨c, hc⟩ : ∃ x, x = cap - 64 * k := ⟨_, rfl⟩
      rw [← hc]
      have hm64 : m < 64 := by omega
      have HSRC : Hid (0 < m → ∃ b off, pa = some ⟨b, off, none⟩ ∧ b < N ∧ ∀ j, j < m → w.cell? ⟨b, off + j, none⟩ = some (.int .u8 (Y (q.getD j 0)))) := fun h0 => by
        have hne : bs ≠ [] := by intro h; have := congrArg List.length h; rw [List.length_nil] at this; omega
        obtain ⟨b, off, ha, hcs⟩ := HB.out.lie hne
        refine ⟨b, off + 64 * k, HPA.out (by omega) b off ha, HBL.out b off ha hne, fun j hj => ?_⟩
        rw [Nat.add_assoc, hcs (64 * k + j) (by omega), hq, List.getD_eq_getElem?_getD, List.getD_eq_getElem?_getD, List.getElem?_drop]
      obtain ⟨st, hst2⟩ : ∃ x, x = mixAll start bs := ⟨_, rfl⟩
      rw [← hst2] at hSm
      have HST : Hid (st = mixAll start bs) := hst2
      clear hst hq hqq hql hqm hc hst2 HPA HBL HB hm
      obtain ⟨i0, hi0, hi1, hi2, hi3⟩ := info_parts Tryz.info8
      have e0 : (0 : Int) ≤ (m : Int) := by omega
      have e1 : (m : Int) < 64 := by omega
      have hzr : N + 1 < wr.heap.size := hSm.hS.lt
      go_wp2_with (at_make; refine wpList_make_full _ rfl _ _ 29 rfl wr.heap.size 5 i0 (.int .u8 0) 1 Tryz.underlying29 hi0 hi1 hi2 .i64 .i64 _ _ 64 rfl rfl rfl rfl (by rw [hi3]; omega) (by unfold maxLen; omega) (Nat.le_refl _) ?_)
      intro w3 hown hgrow
      have hb3 : Below wr.heap.size wr w3 := (Below.refl _ wr).grown hgrow (Nat.le_refl _) (by simp)
      rw [toList_madeCells_one] at hown
      have hG3 : Blk w3 wr.heap.size (u8s (List.replicate 64 0)) := Blk.madeR hown
      have hSm3 := hSm.later hb3
      clear hown hgrow hb3 hSm
      go_upto_if 24 with fail
      go_cut [5] from 10 (fun lv wc => ∃ L g, lv = .slice (some ⟨g, 0, none⟩) L L ∧ Hid (L = lastLen m) ∧ Blk wc g (u8s (List.replicate L 0)) ∧ N + 1 < g ∧ Sm w N st wc)
      case first =>
        by_cases h55 : 55 < m
        · have e2 : (55 : Int) < (m : Int) := by omega
          go_wp2_with (at_make; refine wpList_make_full _ rfl _ _ 29 rfl w3.heap.size 5 i0 (.int .u8 0) 1 Tryz.underlying29 hi0 hi1 hi2 .i64 .i64 _ _ 128 rfl rfl rfl rfl (by rw [hi3]; omega) (by unfold maxLen; omega) (Nat.le_refl _) ?_)
          intro w4 hown hgrow
          have hb4 : Below w3.heap.size w3 w4 := (Below.refl _ w3).grown hgrow (Nat.le_refl _) (by simp)
          rw [toList_madeCells_one] at hown
          go_wp2_with fail
          go_meet
          case rel => exact ⟨128, w3.heap.size, rfl, by show 128 = lastLen m; unfold lastLen; rw [if_pos h55], Blk.madeR hown, hSm3.hS.lt, hSm3.later hb4⟩
        · have e2 : decide ((55 : Int) < (m : Int)) = false := by rw [decide_eq_false_iff_not]; omega
          go_wp2_with fail
          go_meet
          case rel => exact ⟨64, wr.heap.size, rfl, by show 64 = lastLen m; unfold lastLen; rw [if_neg h55], hG3, hzr, hSm3⟩
      case rest =>
        obtain ⟨L, g, rfl, HL, hG, hg, hSmc⟩ := hcut
        clear hG3 hSm3 hzr
        have hLe : L = m + 1 + noughts bs.length + 8 := by rw [HL.out, lastLen_eq bs.length m (by rw [HM.out]; exact HQM.out)]
        have hL2 : L = 64 ∨ L = 128 := by have := HL.out; unfold lastLen at this; split at this <;> omega
        have HLE : Hid (L = m + 1 + noughts bs.length + 8) := hLe
        have HL2 : Hid (L = 64 ∨ L = 128) := hL2
        have hmL : m < L := by omega
        have hL128 : L ≤ 128 := by omega
        clear hLe hL2
        obtain ⟨tg, hgg⟩ := hG
        have HG : Hid (wc.heap[g]? = some (.cells (u8s (List.replicate L 0)).toArray tg (0, 0))) := hgg
        have HNM : Hid ((u8s q).length = Nat.min m L) := by show (u8s q).length = Nat.min m L; rw [u8s_length, ← HM.out]; exact (Nat.min_eq_left (by omega)).symm
        have HFIT : Hid (0 + (u8s q).length ≤ (u8s (List.replicate L (0 : BitVec 8))).length) := by show 0 + (u8s q).length ≤ _; rw [u8s_length, u8s_length, List.length_replicate, ← HM.out]; omega
        have HPOS : Hid (0 < (u8s q).length → ∃ ad, pa = some ad ∧ ∀ j v, (u8s q)[j]? = some v → wc.cell? (ad.add j) = some v) := fun h0 => by
          rw [u8s_length, ← HM.out] at h0
          obtain ⟨b, off, hpa, hbN, hcs⟩ := HSRC.out h0
          refine ⟨_, hpa, fun j v hv => ?_⟩
          have hj : j < q.length := by simpa using (List.getElem?_eq_some_iff.1 hv).1
          rw [u8s_get q j hj] at hv
          rw [Addr.add_mid, hSmc.bel.cell (p := ⟨b, off + j, none⟩) hbN, hcs j (by rw [HM.out]; exact hj), hv]
        have HMW : Hid ((u8s q).length = m) := by show (u8s q).length = m; rw [u8s_length, HM.out]
        clear hgg
        have e2 : (m : Int) < (L : Int) := by omega
        have e3 : (L : Int) ≤ 128 := by omega
        have e4 : (1 : Int) ≤ (L : Int) := by omega
        have e5 : (bs.length : Int) < 144115188075855872 := by omega
        have e6 : (0 : Int) ≤ (bs.length : Int) := by omega
        have hsz1 : (Tryz.prog.info? 5).map (·.size) = some 1 := by kernel_rfl
        have HSZ1 : Hid (_ = _) := hsz1
        clear hsz1
        go_upto_region 10 with (show wpList _ _ _ [Oper.mk (some 28) _ _ _ _ _] _ _; refine wpList_copy_splice rfl (.tmp 26) (.tmp 27) 29 29 rfl 5 Tryz.underlying29 HSZ1.out _ _ _ _ _ _ rfl rfl g 0 (u8s (List.replicate L 0)) tg HG.out (u8s q) HNM.out (fun h => ⟨rfl, HPOS.out h⟩) HFIT.out (u8s_mem q) g wc (Below.refl _ _) (Nat.le_refl _) ?_; intro w6 hg6 hb6)
        have hsp : splice (u8s (List.replicate L (0 : BitVec 8))) 0 (u8s q) = u8s (q ++ List.replicate (L - m) 0) := by
          unfold splice; rw [List.take_zero, List.nil_append, Nat.zero_add, HMW.out]; simp [u8s]
        have hG6 : Blk w6 g (u8s (q ++ List.replicate (L - m) 0)) := by rw [← hsp]; exact ⟨tg, hg6.out⟩
        have hSm6 : Sm w N st w6 := hSmc.above hb6 hg
        have c6 := hG6.cell m
        rw [u8s_get _ m (by rw [List.length_append, List.length_replicate, ← HM.out]; omega)] at c6
        generalize Y ((q ++ List.replicate (L - m) 0).getD m 0) = y0 at c6
        have f6 := hG6.frozen m
        have hset := hG6.set m (.int .u8 (Y 128#8))
        have hl0 : (q ++ List.replicate (L - m) 0).set m 128#8 = lastAt q bs.length 0 := by
          have := lastAt_0 q bs.length HQM.out
          rw [← HM.out, ← HL.out] at this; exact this
        rw [u8s_set, hl0] at hset
        have HSET : Hid (Blk (w6.setCell ⟨g, m, none⟩ (.int .u8 128)) g (u8s (lastAt q bs.length 0))) := hset
        have HSM6 : Hid (Sm w N st (w6.setCell ⟨g, m, none⟩ (.int .u8 128))) := hSm6.above ((Below.refl g w6).setCell (Nat.le_refl _) _) hg
        clear hsp hG6 hSm6 hset hl0 hg6 hb6 hSmc HG HPOS HNM HFIT HMW HSRC
        go_wp2_with fail
        generalize hw7 : World.setCell w6 _ _ = w7
        have hG7 : Blk w7 g (u8s (lastAt q bs.length 0)) := by rw [← hw7]; exact HSET.out
        have hSm7 : Sm w N st w7 := by rw [← hw7]; exact HSM6.out
        clear hw7 HSET HSM6 c6 f6
        go_loopw [6, 7] (fun bv iv wx => ∃ j : Nat, j ≤ 8 ∧ bv = .int .i64 ((8 * bs.length / 2 ^ (8 * j) : Nat) : Int) ∧ iv = .int .i64 ((L : Int) - 1 - (j : Int)) ∧ Blk wx g (u8s (lastAt q bs.length j)) ∧ Sm w N st wx) (fun bv _ _ => (intOf bv).toNat)
        case atStart => exact ⟨0, by omega, by simp [Int.mul_comm], by simp, hG7, hSm7⟩
        case round =>
          obtain ⟨j, hj, rfl, rfl, hGj, hSmj⟩ := hrel
          clear hG7 hSm7
          obtain ⟨B, hB⟩ : ∃ x, x = 8 * bs.length / 2 ^ (8 * j) := ⟨_, rfl⟩
          rw [← hB]
          have HBJ : Hid (B = 8 * bs.length / 2 ^ (8 * j)) := hB
          have hBlt : B < 1152921504606846976 := by rw [hB]; exact Nat.lt_of_le_of_lt (Nat.div_le_self _ _) (by omega)
          by_cases h0 : 0 < B
          · have hj8 : j < 8 := bits_over bs.length j hn (by rw [← hB]; exact h0)
            have hLe := HLE.out
            have b0 : (0 : Int) < (B : Int) := by omega
            have b1 : (B : Int) < 1152921504606846976 := by omega
            have i0 : (0 : Int) ≤ (L : Int) - 1 - (j : Int) := by omega
            have i1 : (L : Int) - 1 - (j : Int) < (L : Int) := by omega
            have i2 : ((L : Int) - 1 - (j : Int)).toNat = L - 1 - j := by omega
            have i3 : (1 : Int) ≤ (L : Int) - 1 - (j : Int) := by omega
            have i4 : (L : Int) - 1 - (j : Int) ≤ 128 := by omega
            have hidx : q.length + 1 + noughts bs.length + (7 - j) = L - 1 - j := by rw [← HM.out]; omega
            have hset := hGj.set (L - 1 - j) (.int .u8 (Y ((counted bs.length).getD (7 - j) 0)))
            rw [u8s_set, ← hidx, lastAt_next q bs.length j hj8, hidx, counted_at bs.length j hj8, ← hB] at hset
            have HSET : Hid (Blk (wr.setCell ⟨g, L - 1 - j, none⟩ (.int .u8 ((B % 256 : Nat) : Int))) g (u8s (lastAt q bs.length (j + 1)))) := hset
            have HSMS : Hid (Sm w N st (wr.setCell ⟨g, L - 1 - j, none⟩ (.int .u8 ((B % 256 : Nat) : Int)))) := hSmj.above ((Below.refl g wr).setCell (Nat.le_refl _) _) hg
            have cj := hGj.cell (L - 1 - j)
            rw [u8s_get _ (L - 1 - j) (by rw [lastAt_length _ _ _ hj, ← HM.out]; omega)] at cj
            generalize Y ((lastAt q bs.length j).getD (L - 1 - j) 0) = y1 at cj
            have fj := hGj.frozen (L - 1 - j)
            clear hB hset hidx hGj hSmj hLe
            go_wp2_with fail
            refine ⟨⟨j + 1, by omega, ?_, ?_, HSET.out, HSMS.out⟩, ?_⟩
            · rw [← bits_next, ← HBJ.out]; rfl
            · congr 1; omega
            · show ((B : Int) / 256).toNat < ((B : Int)).toNat; omega
          · obtain rfl : B = 0 := by omega
            rw [lastAt_end q bs.length j hj hB.symm] at hGj
            clear hB HBJ hBlt h0
            obtain ⟨F, hF⟩ : ∃ x, x = q ++ padOf bs.length := ⟨_, rfl⟩
            rw [← hF] at hGj
            have HF : Hid (F = q ++ padOf bs.length) := hF
            have hFl : F.length = L := by rw [hF, List.length_append]; unfold padOf; simp only [List.length_append, List.length_singleton, zerosN_length, counted_length]; rw [← HM.out, HLE.out]; omega
            have HFL : Hid (F.length = L) := hFl
            clear hF hFl
            go_wp2_with fail
            go_loopw [5] (fun sv wx => ∃ (k : Nat) (pb : Option Addr), 64 * k ≤ L ∧ sv = .slice pb (L - 64 * k) (L - 64 * k) ∧ Hid (64 * k < L → pb = some ⟨g, 64 * k, none⟩) ∧ Blk wx g (u8s F) ∧ Sm w N (mixAll st (F.take (64 * k))) wx) (fun sv _ => lenV sv)
            case atStart => exact ⟨0, _, by omega, rfl, fun _ => rfl, hGj, by rw [Nat.mul_zero, List.take_zero, mixAll_short _ [] (by decide)]; exact hSmj⟩
            case round =>
              obtain ⟨k2, pb, hk2, rfl, HPB, hGk, hSmk⟩ := hrel
              clear hGj hSmj
              by_cases hlt2 : 64 * k2 < L
              · have hk64 : 64 * k2 + 64 ≤ L := by have := HL2.out; omega
                obtain rfl := HPB.out hlt2
                obtain ⟨m2, hm2⟩ : ∃ x, x = L - 64 * k2 := ⟨_, rfl⟩
                have HM2 : Hid (m2 = L - 64 * k2) := hm2
                have hm264 : 64 ≤ m2 := by omega
                have hm2L : m2 ≤ 128 := by omega
                rw [← hm2]
                obtain ⟨p, hp⟩ : ∃ x, x = (F.drop (64 * k2)).take 64 := ⟨_, rfl⟩
                have hpl : p.length = 64 := by rw [hp, List.length_take, List.length_drop, HFL.out]; omega
                have HPC : Hid (∀ j, j < 64 → wr.cell? ⟨g, 64 * k2 + j, none⟩ = some (.int .u8 (Y (p.getD j 0)))) := fun j hj => by
                  rw [hGk.cell, u8s_get F (64 * k2 + j) (by rw [HFL.out]; omega), hp, List.getD_eq_getElem?_getD, List.getD_eq_getElem?_getD, List.getElem?_take_of_lt hj, List.getElem?_drop]
                have HP : Hid (p = (F.drop (64 * k2)).take 64) := hp
                obtain ⟨s2, hs2⟩ : ∃ x, x = mixAll st (F.take (64 * k2)) := ⟨_, rfl⟩
                rw [← hs2] at hSmk
                have HS2 : Hid (s2 = mixAll st (F.take (64 * k2))) := hs2
                clear hm2 hp hs2 HPB
                clear e0 e1 e2 e3 e4 e5 e6 hmL hL128 hm64 hlt hk
                have e10 : (64 : Int) ≤ (m2 : Int) := by omega
                have e11 : (0 : Int) < (m2 : Int) := by omega
                have HRG : Hid (wr.drew.rangeAt (N + 1) 0 (u32s s2.list)) := fun j v hv => by rw [Nat.zero_add]; exact (hSmk.hS.cell j).trans hv
                go_wp2_with fail
                refine wp_region_tail 3 HMO.out (by kernel_rfl) ?_
                simp only [List.take_succ_cons, List.take_zero, List.drop_succ_cons, List.drop_zero]
                refine still_load_mid rfl 156 (.tmp 3) rfl (N + 1) 0 rfl (u32s s2.list) _ HRG.out HU41.out rfl (I41.out s2) ?_
                iterate 2 still_step
                refine wpStill_nil ?_
                go_wp2_with fail
                refine (chunk_any s2 p g (64 * k2) m2 wr.drew HPC.out).mono ?_
                rintro e w5 ⟨rfl, hb5⟩
                have hSm5 : Sm w N s2 w5 := hSmk.later (below_undrew hb5)
                have hG5 : Blk w5 g (u8s F) := hGk.below (below_undrew hb5) hGk.lt
                obtain ⟨tS, hgS⟩ := hSm5.hS
                have HgS : Hid (w5.heap[N + 1]? = _) := hgS
                have HI : Hid ((Tryz.prog.info? 156).map (·.size) = some (u32s (mix s2 p).list).toArray.size) := I41.out (mix s2 p)
                have HSZ : Hid ((u32s s2.list).toArray.size = (u32s (mix s2 p).list).toArray.size) := by show _ = _; simp [St.list_length]
                clear hgS
                have hend : Sm w N (mixAll st (F.take (64 * (k2 + 1)))) (w5.setRow (N + 1) (u32s (mix s2 p).list).toArray) := by
                  rw [mixAll_blocks st F k2 (by rw [HFL.out]; exact hk64), ← HS2.out, ← HP.out]; exact hSm5.row
                have HEND : Hid (Sm _ _ _ _) := hend
                have h2 : m2 = 64 ∨ m2 = 128 := by have h3 := HL2.out; have h4 := HM2.out; omega
                clear hend hSmk hSm5 hGk
                rcases h2 with rfl | rfl
                · go_wp2_with (refine wpList_store_row rfl 156 _ _ rfl (N + 1) (u32s (mix s2 p).list).toArray rfl rfl tS _ HgS.out HI.out HSZ.out (u32s_one _) ?_)
                  have e2 : L - 64 * (k2 + 1) = 0 := by have h4 := HM2.out; omega
                  go_roundw
                  case rel =>
                    (repeat apply Exists.intro)
                    exact ⟨⟨k2 + 1, some ⟨g, 64 * k2, none⟩, by omega, by rw [e2], fun h => by omega, hG5.otherRow (by omega) _, HEND.out⟩, rfl⟩
                  case measure => simp [lenV]
                · go_wp2_with (refine wpList_store_row rfl 156 _ _ rfl (N + 1) (u32s (mix s2 p).list).toArray rfl rfl tS _ HgS.out HI.out HSZ.out (u32s_one _) ?_)
                  have e2 : L - 64 * (k2 + 1) = 64 := by have h4 := HM2.out; omega
                  go_roundw
                  case rel =>
                    (repeat apply Exists.intro)
                    exact ⟨⟨k2 + 1, some ⟨g, 64 * k2 + 64, none⟩, by omega, by rw [e2], fun _ => rfl, hG5.otherRow (by omega) _, HEND.out⟩, rfl⟩
                  case measure => simp [lenV]
              · have hk2e : 64 * k2 = L := by omega
                rw [hk2e, ← HFL.out, List.take_length, HF.out, HST.out, HQ.out] at hSmk
                obtain ⟨sf, hsf⟩ : ∃ x, x = mixAll (mixAll start bs) (restOf bs ++ padOf bs.length) := ⟨_, rfl⟩
                rw [← hsf] at hSmk
                have HSF : Hid (sf.bytes = sum bs) := by show sf.bytes = sum bs; rw [hsf, sum_end]
                rw [hk2e, Nat.sub_self]
                clear hsf
                have hR := hSmk.hR
                have hbel := hSmk.bel
                obtain ⟨c0, c1, c2, c3, c4, c5, c6, c7⟩ : wr.cell? ⟨N + 1, 0, none⟩ = some (.int .u32 (U sf.a)) ∧ wr.cell? ⟨N + 1, 1, none⟩ = some (.int .u32 (U sf.b)) ∧ wr.cell? ⟨N + 1, 2, none⟩ = some (.int .u32 (U sf.c)) ∧ wr.cell? ⟨N + 1, 3, none⟩ = some (.int .u32 (U sf.d)) ∧ wr.cell? ⟨N + 1, 4, none⟩ = some (.int .u32 (U sf.e)) ∧ wr.cell? ⟨N + 1, 5, none⟩ = some (.int .u32 (U sf.f)) ∧ wr.cell? ⟨N + 1, 6, none⟩ = some (.int .u32 (U sf.g)) ∧ wr.cell? ⟨N + 1, 7, none⟩ = some (.int .u32 (U sf.h)) :=
                  ⟨hSmk.hS.cell 0, hSmk.hS.cell 1, hSmk.hS.cell 2, hSmk.hS.cell 3, hSmk.hS.cell 4, hSmk.hS.cell 5, hSmk.hS.cell 6, hSmk.hS.cell 7⟩
                have hSl := hSmk.hS.lt
                clear hGk hSmk HPB
                clear e0 e1 e2 e3 e4 e5 e6 hmL hL128 hm64 hlt hk hk2 hlt2 hk2e
                go_wp2_with fail
                generalize hw9 : World.alloc wr _ = w9
                have hD9 : Blk w9 wr.heap.size (u8s (List.replicate 32 0)) := by rw [← hw9]; exact Blk.mk _ _ _ rfl rfl
                have hb9 : Below wr.heap.size wr w9 := by rw [← hw9]; exact (Below.refl _ _).alloc (Nat.le_refl _) _
                clear hw9
                have hR9 := hR.below hb9 hR.lt
                have hbel9 : Below N w w9 := hbel.trans (hb9.mono (by omega))
                have b0 : w9.cell? ⟨N + 1, 0, none⟩ = some (.int .u32 (U sf.a)) := by rw [hb9.cell (p := ⟨N + 1, 0, none⟩) hSl]; exact c0
                have b1 : w9.cell? ⟨N + 1, 1, none⟩ = some (.int .u32 (U sf.b)) := by rw [hb9.cell (p := ⟨N + 1, 1, none⟩) hSl]; exact c1
                have b2 : w9.cell? ⟨N + 1, 2, none⟩ = some (.int .u32 (U sf.c)) := by rw [hb9.cell (p := ⟨N + 1, 2, none⟩) hSl]; exact c2
                have b3 : w9.cell? ⟨N + 1, 3, none⟩ = some (.int .u32 (U sf.d)) := by rw [hb9.cell (p := ⟨N + 1, 3, none⟩) hSl]; exact c3
                have b4 : w9.cell? ⟨N + 1, 4, none⟩ = some (.int .u32 (U sf.e)) := by rw [hb9.cell (p := ⟨N + 1, 4, none⟩) hSl]; exact c4
                have b5 : w9.cell? ⟨N + 1, 5, none⟩ = some (.int .u32 (U sf.f)) := by rw [hb9.cell (p := ⟨N + 1, 5, none⟩) hSl]; exact c5
                have b6 : w9.cell? ⟨N + 1, 6, none⟩ = some (.int .u32 (U sf.g)) := by rw [hb9.cell (p := ⟨N + 1, 6, none⟩) hSl]; exact c6
                have b7 : w9.cell? ⟨N + 1, 7, none⟩ = some (.int .u32 (U sf.h)) := by rw [hb9.cell (p := ⟨N + 1, 7, none⟩) hSl]; exact c7
                generalize hD : wr.heap.size = D at *
                clear hb9 hR hbel c0 c1 c2 c3 c4 c5 c6 c7 hD
                have hRD : N + 1 ≠ D := by omega
                go_loopw [9] (fun i wx => ∃ k : Nat, k ≤ 32 ∧ i = .int .i64 k ∧ Blk wx D (u8s (sf.bytes.take k ++ List.replicate (32 - k) 0)) ∧ Keep D w9 wx) (fun i _ => 32 - (intOf i).toNat)
                case atStart => exact ⟨0, by omega, rfl, hD9, Keep.refl _ _⟩
                case round =>
                  obtain ⟨k, hk, rfl, hrC, hrK⟩ := hrel
                  have d0 := hrK.cell hRD b0
                  have d1 := hrK.cell hRD b1
                  have d2 := hrK.cell hRD b2
                  have d3 := hrK.cell hRD b3
                  have d4 := hrK.cell hRD b4
                  have d5 := hrK.cell hRD b5
                  have d6 := hrK.cell hRD b6
                  have d7 := hrK.cell hRD b7
                  by_cases hlt : k < 32
                  · have hset := hrC.set k (.int .u8 (Y (sf.bytes.getD k 0)))
                    rw [u8s_set, fill_set _ _ _ 32 k (by rw [List.length_take, St.bytes_length]; omega) hlt, ← take_next _ k (by rw [St.bytes_length]; exact hlt)] at hset
                    have hcell := hrC.cell k
                    rw [u8s_get _ k (by simp [St.bytes_length]; omega)] at hcell
                    have hfr := hrC.frozen k
                    have hval : Y (sf.bytes.getD k 0) = U (sf.list.getD (k / 4) 0) / ((2 ^ (8 * (3 - k % 4)) : Nat) : Int) % 256 := by rw [bytes_get sf k hlt, Y_shr]
                    rw [hval] at hset
                    have HSET : Hid (Blk _ _ _) := hset
                    have HKEEP : Hid (Keep _ _ _) := hrK.setCell k (.int .u8 (U (sf.list.getD (k / 4) 0) / ((2 ^ (8 * (3 - k % 4)) : Nat) : Int) % 256))
                    clear hset hval hrC hrK b0 b1 b2 b3 b4 b5 b6 b7
                    generalize Y ((sf.bytes.take k ++ List.replicate (32 - k) 0).getD k 0) = y0 at hcell
                    obtain (rfl | rfl | rfl | rfl | rfl | rfl | rfl | rfl | rfl | rfl | rfl | rfl | rfl | rfl | rfl | rfl | rfl | rfl | rfl | rfl | rfl | rfl | rfl | rfl | rfl | rfl | rfl | rfl | rfl | rfl | rfl | rfl) : k = 0 ∨ k = 1 ∨ k = 2 ∨ k = 3 ∨ k = 4 ∨ k = 5 ∨ k = 6 ∨ k = 7 ∨ k = 8 ∨ k = 9 ∨ k = 10 ∨ k = 11 ∨ k = 12 ∨ k = 13 ∨ k = 14 ∨ k = 15 ∨ k = 16 ∨ k = 17 ∨ k = 18 ∨ k = 19 ∨ k = 20 ∨ k = 21 ∨ k = 22 ∨ k = 23 ∨ k = 24 ∨ k = 25 ∨ k = 26 ∨ k = 27 ∨ k = 28 ∨ k = 29 ∨ k = 30 ∨ k = 31 := by omega
                    all_goals
                      go_wp2_with fail
                      go_roundw
                      case rel =>
                        refine ⟨_, ?_, rfl, blk_val HSET.out ?_, keep_val HKEEP.out ?_⟩
                        · decide
                        all_goals (first | rfl | exact last_byte _)
                      case measure => simp [intOf]
                  · obtain rfl : k = 32 := by omega
                    have hrC' : Blk wr D (u8s (sum bs)) := by
                      rw [List.take_of_length_le (by rw [St.bytes_length]; exact Nat.le_refl _), HSF.out] at hrC
                      simpa using hrC
                    have hNr := hR9.keep hrK (by omega)
                    have hbr : Below N w wr := hbel9.trans (hrK.below (by omega) (Nat.le_of_lt hR9.lt))
                    clear hrC hrK b0 b1 b2 b3 b4 b5 b6 b7 d0 d1 d2 d3 d4 d5 d6 d7 hlt hR9 hbel9
                    have Hi : Hid ((Tryz.prog.info? 23).map (·.size) = some (u8s (sum bs)).toArray.size) := by
                      show _ = _
                      rw [show (u8s (sum bs)).toArray.size = 32 by simp [sum_length]]; kernel_rfl
                    have HSZ : Hid ((u8s zeros32).toArray.size = (u8s (sum bs)).toArray.size) := by show _ = _; simp [sum_length, zeros32]
                    obtain ⟨tD, hgD⟩ := hrC'
                    obtain ⟨tN, hgN⟩ := hNr
                    have HgD : Hid (wr.heap[D]? = _) := hgD
                    have HgN : Hid (wr.heap[N]? = _) := hgN
                    clear hgD hgN
                    go_wp2_with (first
                      | (refine wpList_load_row rfl 23 _ rfl D rfl tD _ _ _ HgD.out Tryz.underlying23 rfl Hi.out ?_)
                      | (refine wpList_store_row rfl 23 _ _ rfl N (u8s (sum bs)).toArray rfl rfl tN _ HgN.out Hi.out HSZ.out (u8s_one _) ?_))
                    refine bodyPost_ret (v := .agg (u8s (sum bs)).toArray) ?_ rfl ⟨rfl, ?_⟩
                    · obtain ⟨t, hb⟩ := Blk.row (ds := u8s (sum bs)) ⟨tN, HgN.out⟩
                      exact results_cell_row Tryz.results84 _ _ N t _ _ _ rfl hb Tryz.underlying23 rfl Hi.out
                    · subst hN; exact below_setRow hbr (Nat.le_refl _) _
end Go.Proofs.YtlaifphedhaemaaGreatDoor
namespace Go.Proofs.YtlaifphedhaemaaGreatDoor
open Go.ChangeShapes Go.WideShapes Go.ChangeAt Go.RowKit

set_option maxRecDepth 100000 in
set_option maxHeartbeats 4000000 in
theorem reftwice_any (a : Option Addr) (cap : Nat) (bs : List (BitVec 8)) (w : World) (hb : Bytes w a cap bs) (hn : bs.length < 144115188075855872) :
    Calls Tryz.prog 55 #[.slice a bs.length cap] w fun e w' => e = .returned (.agg (u8s (sum (sum bs))).toArray) ∧ Below w.heap.size w w' := by
  have HB : Hid (Bytes w a cap bs) := hb
  clear hb
  go_enter Tryz.func55, Tryz.ntmps55
  go_wp2_with fail
  generalize hw1 : World.alloc w _ = w1
  have hN1 : Blk w1 w.heap.size (u8s zeros32) := by rw [← hw1]; exact Blk.mk _ _ _ rfl rfl
  have hb1 : Below w.heap.size w w1 := by rw [← hw1]; exact (Below.refl _ _).alloc (Nat.le_refl _) _
  clear hw1
  refine (refsum_any a cap bs w1 (HB.out.later hb1 (Nat.le_refl _)) hn).mono ?_
  rintro e w2 ⟨rfl, hb2⟩
  have hN2 := hN1.below hb2 hN1.lt
  have hb02 : Below w.heap.size w w2 := hb1.trans (hb2.mono hb1.size)
  have hz2 := hN2.lt
  obtain ⟨l, hl⟩ : ∃ x, x = sum bs := ⟨_, rfl⟩
  have hll : l.length = 32 := by rw [hl]; exact sum_length _
  rw [← hl]
  have HL : Hid (l = sum bs) := hl
  clear hN1 hb1 hb2 hl HB hn
  have I28 : Hid ((Tryz.prog.info? 23).map (·.size) = some (u8s l).toArray.size) := by
    show _ = _
    rw [show (u8s l).toArray.size = 32 by simp [hll]]; kernel_rfl
  have HS28 : Hid ((u8s zeros32).toArray.size = (u8s l).toArray.size) := by show _ = _; simp [hll, zeros32]
  go_wp2_with (refine wpList_store_row rfl 23 _ _ rfl w2.heap.size (u8s l).toArray rfl rfl 23 (u8s zeros32).toArray (heap_alloc_new _ _) I28.out HS28.out (u8s_one _) ?_)
  generalize hw3 : World.setRow _ _ _ = w3
  have hL3 : Blk w3 w2.heap.size (u8s l) := by rw [← hw3]; exact (Blk.new w2 _ _).row
  have hb3 : Below w2.heap.size w2 w3 := by rw [← hw3]; exact below_setRow ((Below.refl _ _).alloc (Nat.le_refl _) _) (Nat.le_refl _) _
  clear hw3
  have hb03 : Below w.heap.size w w3 := hb02.trans (hb3.mono hb02.size)
  have hN3 := hN2.below hb3 hz2
  have hB3 : Bytes w3 (some ⟨w2.heap.size, 0, none⟩) 32 l := by have := Bytes.blk hL3 (by omega); rw [hll] at this; exact this
  have hc := refsum_any (some ⟨w2.heap.size, 0, none⟩) 32 l w3 hB3 (by omega)
  rw [hll] at hc
  refine hc.mono ?_
  clear hc hB3
  rintro e w4 ⟨rfl, hb4⟩
  have hN4 := hN3.below hb4 hN3.lt
  have hb04 : Below w.heap.size w w4 := hb03.trans (hb4.mono hb03.size)
  have J28 : Hid ((Tryz.prog.info? 23).map (·.size) = some (u8s (sum l)).toArray.size) := by
    show _ = _
    rw [show (u8s (sum l)).toArray.size = 32 by simp [sum_length]]; kernel_rfl
  have HT28 : Hid ((u8s zeros32).toArray.size = (u8s (sum l)).toArray.size) := by show _ = _; simp [sum_length, zeros32]
  obtain ⟨tN, hgN⟩ := hN4
  have HgN : Hid (w4.heap[w.heap.size]? = _) := hgN
  clear hgN
  go_wp2_with (refine wpList_store_row rfl 23 _ _ rfl w.heap.size (u8s (sum l)).toArray rfl rfl tN _ HgN.out J28.out HT28.out (u8s_one _) ?_)
  refine bodyPost_ret (v := .agg (u8s (sum l)).toArray) ?_ rfl ⟨by rw [HL.out], ?_⟩
  · obtain ⟨t, hb⟩ := Blk.row (ds := u8s (sum l)) ⟨tN, HgN.out⟩
    exact results_cell_row Tryz.results55 _ _ w.heap.size t _ _ _ rfl hb Tryz.underlying23 rfl J28.out
  · exact below_setRow hb04 (Nat.le_refl _) _
end Go.Proofs.YtlaifphedhaemaaGreatDoor
