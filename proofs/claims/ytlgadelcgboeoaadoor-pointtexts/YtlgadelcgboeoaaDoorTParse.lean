/- sha.Parse of a text of length 64. -/
import Derived.Test.YtlgadelcgboeoaaDoorTDigit
namespace Go.Proofs.YtlgadelcgboeoaaDoor
open Go.ChangeShapes Go.WideShapes Go.ChangeAt Go.RowKit

/-- So far: the decoded bytes stand at the end, the first one last. -/
def part32 (d : List (BitVec 8)) : List (BitVec 8) := List.replicate (32 - d.length) 0 ++ d.reverse
theorem part32_length (d : List (BitVec 8)) (h : d.length ≤ 32) : (part32 d).length = 32 := by simp [part32]; omega
theorem part32_set (d : List (BitVec 8)) (x : BitVec 8) (h : d.length < 32) : (part32 d).set (31 - d.length) x = part32 (d ++ [x]) := by
  unfold part32
  have e : List.replicate (32 - d.length) (0 : BitVec 8) = List.replicate (31 - d.length) 0 ++ [0] := by
    rw [show 32 - d.length = (31 - d.length) + 1 by omega, List.replicate_succ']
  rw [e, List.set_append_left _ _ (by simp), List.set_append_right _ _ (by simp)]
  simp
theorem str_at (bs : List (BitVec 8)) (i : Nat) (h : i < (str bs).size) : (((str bs)[i]'h).toNat : Int) = Y (bs.getD i 0) := by
  have hl : i < bs.length := by rw [str_size] at h; exact h
  have e : (str bs)[i]'h = UInt8.ofBitVec (bs.getD i 0) := by
    have h2 : (str bs)[i]'h = (bs.map UInt8.ofBitVec).toArray[i]'(by simpa using hl) := rfl
    rw [h2]
    simp [List.getD_eq_getElem?_getD, hl]
  rw [e]; rfl
theorem take_two (bs : List (BitVec 8)) (k : Nat) (h : 2 * k + 1 < bs.length) : bs.take (2 * (k + 1)) = bs.take (2 * k) ++ [bs.getD (2 * k) 0, bs.getD (2 * k + 1) 0] := by
  rw [show 2 * (k + 1) = 2 * k + 1 + 1 by omega, List.take_add_one, List.take_add_one, List.getElem?_eq_getElem h, List.getElem?_eq_getElem (show 2 * k < bs.length by omega), List.getD_eq_getElem?_getD, List.getD_eq_getElem?_getD, List.getElem?_eq_getElem h, List.getElem?_eq_getElem (show 2 * k < bs.length by omega)]
  simp only [Option.toList_some, Option.getD_some, List.append_assoc, List.singleton_append]
theorem or_nib (x y : BitVec 8) (hx : x.toNat < 16) (hy : y.toNat < 16) : bits .or .u8 (Y x * 16) (Y y) = Y (x <<< 4 ||| y) := by
  have : ∀ i j : Fin 16, bits .or .u8 (Y (BitVec.ofNat 8 i.val) * 16) (Y (BitVec.ofNat 8 j.val)) = Y (BitVec.ofNat 8 i.val <<< 4 ||| BitVec.ofNat 8 j.val) := by decide +kernel
  have h := this ⟨x.toNat, hx⟩ ⟨y.toNat, hy⟩
  simpa [BitVec.ofNat_toNat] using h
theorem no_hash (bs : List (BitVec 8)) (i : Nat) (hi : i < bs.length) (h : un (bs.getD i 0) = none) : ∀ g : List (BitVec 8), g.length = 32 → hexT g ≠ bs := by
  intro g _ e
  obtain ⟨x, hx⟩ := pairs_un g.reverse (bs.getD i 0) (by
    show _ ∈ hexT g
    rw [e, List.getD_eq_getElem?_getD, List.getElem?_eq_getElem hi]
    exact List.getElem_mem hi)
  rw [h] at hx; cases hx

set_option maxRecDepth 100000 in
set_option maxHeartbeats 4000000 in
theorem parse_64 (bs : List (BitVec 8)) (w : World) (hl : bs.length = 64) :
    Calls Tryd.prog 31 #[.string (str bs)] w fun e w' => ∃ h ok, e = .returned (.tuple #[.agg (u8s h).toArray, .bool ok]) ∧ h.length = 32 ∧ IsHash bs h ok ∧ Below w.heap.size w w' := by
  have hsz : (str bs).size = 64 := by rw [str_size]; exact hl
  have HL : Hid (bs.length = 64) := hl
  clear hl
  go_enter Tryd.func31, Tryd.ntmps31
  go_wp2_with fail
  refine wp_scope_hops 1 ?_
  go_hide hQ
  go_upto_region 2 with fail
  generalize hw1 : World.alloc (World.alloc w _) _ = w1
  have hR1 : Blk w1 w.heap.size (u8s zeros32) := by rw [← hw1]; exact (Blk.mk _ _ _ rfl rfl).alloc _
  have hH1 : Blk w1 (w.heap.size + 1) (u8s (part32 [])) := by rw [← hw1]; exact Blk.mk _ _ _ (by simp) rfl
  have hb1 : Below w.heap.size w w1 := by rw [← hw1]; exact ((Below.refl _ _).alloc (Nat.le_refl _) _).alloc (by simp) _
  clear hw1
  generalize hN : w.heap.size = N at *
  have H1 : Hid (Blk w1 N (u8s zeros32) ∧ Blk w1 (N + 1) (u8s (part32 [])) ∧ Below N w w1) := ⟨hR1, hH1, hb1⟩
  clear hR1 hH1 hb1
  go_wp2_with fail
  go_loopw [13] (fun i wr => ∃ (k : Nat) (d : List (BitVec 8)), k ≤ 32 ∧ i = .int .i64 k ∧ d.length = k ∧ Hid (bs.take (2 * k) = d.flatMap pair) ∧ Hid (Blk wr N (u8s zeros32)) ∧ Hid (Blk wr (N + 1) (u8s (part32 d))) ∧ Below N w wr) (fun i _ => 32 - (intOf i).toNat)
  case atStart => exact ⟨0, [], by omega, rfl, rfl, by show _ = _; simp, H1.out.1, H1.out.2.1, H1.out.2.2⟩
  case round =>
    obtain ⟨k, d, hk, rfl, hd, HE, HR, HH, hbk⟩ := hrel
    clear H1
    by_cases hlt : k < 32
    · have e0 : (0 : Int) ≤ (k : Int) := by omega
      have e1 : (k : Int) < 32 := by omega
      have hi1 : 2 * k < bs.length := by rw [HL.out]; omega
      have hi2 : 2 * k + 1 < bs.length := by rw [HL.out]; omega
      obtain ⟨c1, hc1⟩ : ∃ c, c = bs.getD (2 * k) 0 := ⟨_, rfl⟩
      obtain ⟨c2, hc2⟩ : ∃ c, c = bs.getD (2 * k + 1) 0 := ⟨_, rfl⟩
      have HC1 : Hid (bs.getD (2 * k) 0 = c1) := hc1.symm
      have HC2 : Hid (bs.getD (2 * k + 1) 0 = c2) := hc2.symm
      have HTW : Hid (bs.take (2 * (k + 1)) = d.flatMap pair ++ [c1, c2]) := by
        show _ = _
        rw [take_two bs k hi2, HE.out, hc1, hc2]
      have HI : Hid (2 * k < bs.length ∧ 2 * k + 1 < bs.length) := ⟨hi1, hi2⟩
      have HB : Hid (Below N w wr) := hbk
      clear hc1 hc2 hi1 hi2 hbk
      go_wp2_with fail
      rw [str_at, HC1.out]
      refine (digit_any c1 wr).mono ?_
      rintro e w2 ⟨v1, ok1, rfl, hd1, rfl⟩
      have HD1 : Hid (_ ∨ _) := hd1
      clear hd1
      go_wp2_with fail
      rw [str_at, HC2.out]
      refine (digit_any c2 wr).mono ?_
      rintro e w2 ⟨v2, ok2, rfl, hd2, rfl⟩
      have HD2 : Hid (_ ∨ _) := hd2
      clear hd2
      by_cases hok : ok1 = true ∧ ok2 = true
      · obtain ⟨rfl, rfl⟩ := hok
        obtain ⟨x1, hx1, rfl⟩ : ∃ x, un c1 = some x ∧ v1 = Y x := HD1.out.elim (fun h => h.2) (fun h => by cases h.1)
        obtain ⟨x2, hx2, rfl⟩ : ∃ x, un c2 = some x ∧ v2 = Y x := HD2.out.elim (fun h => h.2) (fun h => by cases h.1)
        have b1 : Y x1 < 16 := by have := (un_some c1 x1 hx1).1; unfold Y; omega
        have b1' := Y_lo x1
        have b2 := Y_hi x2
        have b2' := Y_lo x2
        have HOR : Hid (bits .or .u8 (Y x1 * 16) (Y x2) = Y (x1 <<< 4 ||| x2)) := or_nib x1 x2 (un_some c1 x1 hx1).1 (un_some c2 x2 hx2).1
        have HPR : Hid (pair (x1 <<< 4 ||| x2) = [c1, c2]) := pair_of hx1 hx2
        have f1 : IntKind.i64.wrap (31 - (k : Int)) = 31 - (k : Int) := i64_fit (by omega) (by omega)
        have f2 : (0 : Int) ≤ 31 - (k : Int) := by omega
        have f3 : (31 : Int) - (k : Int) < 32 := by omega
        have f4 : (31 - (k : Int)).toNat = 31 - k := by omega
        have f5 : (k : Int) ≤ 31 := by omega
        have ck := HH.out.cell (31 - k)
        rw [u8s_get _ (31 - k) (by rw [part32_length d (by omega)]; omega)] at ck
        generalize Y ((part32 d).getD (31 - k) 0) = old at ck
        have fk := HH.out.frozen (31 - k)
        clear hx1 hx2 HD1 HD2
        go_wp2_with fail
        refine ⟨⟨k + 1, d ++ [x1 <<< 4 ||| x2], by omega, by go_num, by simp [hd], ?_, HR.out.other (show N ≠ N + 1 by omega) _, ?_, HB.out.setCell (show N ≤ N + 1 by omega) _⟩, by simp [intOf]; omega⟩
        · show _ = _
          rw [HTW.out, List.flatMap_append]
          simp [HPR.out]
        · have h := HH.out.set (31 - k) (.int .u8 (Y (x1 <<< 4 ||| x2)))
          rw [u8s_set, ← hd, part32_set d _ (by omega), hd] at h
          rw [HOR.out]
          exact h
      · have HN : Hid (∀ g : List (BitVec 8), g.length = 32 → hexT g ≠ bs) := by
          rcases HD1.out with ⟨h1, _⟩ | ⟨_, h1⟩
          · rcases HD2.out with ⟨h2, _⟩ | ⟨_, h2⟩
            · exact absurd ⟨h1, h2⟩ hok
            · exact no_hash bs (2 * k + 1) HI.out.2 (by rw [HC2.out]; exact h2)
          · exact no_hash bs (2 * k) HI.out.1 (by rw [HC1.out]; exact h1)
        obtain ⟨tN, hgN⟩ := HR.out
        have HgN : Hid (wr.heap[N]? = _) := hgN
        clear hgN HD1 HD2 HTW HH HE
        cases ok1 with
        | false =>
          go_wp2_with fail
          go_step3
          subst hQ
          refine show hops _ _ _ 1 (Exit.goto 0) _ _ from ?_
          rw [hops_goto]
          refine ⟨_, rfl, ?_⟩
          go_hide hQ
          go_wp2_with (refine wpList_store_row rfl 24 _ _ rfl N (u8s zeros32).toArray rfl rfl tN _ HgN.out size_zeros rfl (u8s_one _) ?_)
          subst hQ
          rw [hops_ret]
          refine bodyPost_ret (v := .tuple #[.agg (u8s zeros32).toArray, .bool false]) ?_ rfl ⟨zeros32, false, rfl, rfl, .inr ⟨rfl, rfl, HN.out⟩, ?_⟩
          · obtain ⟨t, hb⟩ := Blk.row (ds := u8s zeros32) ⟨tN, HgN.out⟩
            exact results_row_tmp Tryd.results31 _ _ N t _ _ _ rfl hb Tryd.underlying24 rfl size_zeros
          · subst hN
            exact below_setRow HB.out (Nat.le_refl _) _
        | true =>
          obtain rfl : ok2 = false := by cases ok2 <;> simp_all
          go_wp2_with fail
          go_step3
          subst hQ
          refine show hops _ _ _ 1 (Exit.goto 0) _ _ from ?_
          rw [hops_goto]
          refine ⟨_, rfl, ?_⟩
          go_hide hQ
          go_wp2_with (refine wpList_store_row rfl 24 _ _ rfl N (u8s zeros32).toArray rfl rfl tN _ HgN.out size_zeros rfl (u8s_one _) ?_)
          subst hQ
          rw [hops_ret]
          refine bodyPost_ret (v := .tuple #[.agg (u8s zeros32).toArray, .bool false]) ?_ rfl ⟨zeros32, false, rfl, rfl, .inr ⟨rfl, rfl, HN.out⟩, ?_⟩
          · obtain ⟨t, hb⟩ := Blk.row (ds := u8s zeros32) ⟨tN, HgN.out⟩
            exact results_row_tmp Tryd.results31 _ _ N t _ _ _ rfl hb Tryd.underlying24 rfl size_zeros
          · subst hN
            exact below_setRow HB.out (Nat.le_refl _) _
    · obtain rfl : k = 32 := by omega
      have hp : part32 d = d.reverse := by unfold part32; rw [hd]; simp
      rw [hp] at HH
      obtain ⟨hh, hhe⟩ : ∃ x, x = d.reverse := ⟨_, rfl⟩
      have hhl : hh.length = 32 := by rw [hhe]; simp [hd]
      rw [← hhe] at HH
      have HIS : Hid (IsHash bs hh true) := by
        refine .inl ⟨rfl, hhl, ?_⟩
        rw [hexT, hhe, List.reverse_reverse, ← HE.out, List.take_of_length_le (by rw [HL.out]; omega)]
      have HHL : Hid (hh.length = 32) := hhl
      have I1 : Hid ((Tryd.prog.info? 24).map (·.size) = some (u8s hh).toArray.size) := by
        show _ = _
        rw [show (u8s hh).toArray.size = 32 by simp [hhl]]; kernel_rfl
      have I2 : Hid ((Tryd.prog.info? 24).map (·.size) = some (u8s hh).length) := by
        show _ = _
        rw [u8s_length, hhl]; kernel_rfl
      have I3 : Hid ((u8s zeros32).toArray.size = (u8s hh).toArray.size) := by show _ = _; simp [hhl, zeros32]
      obtain ⟨tN, hgN⟩ := HR.out
      have HgN : Hid (wr.heap[N]? = _) := hgN
      have HB : Hid (Below N w wr) := hbk
      clear hp hhe hhl HE hgN HR hbk
      go_wp2_with (first
        | (refine wpList_load_mid rfl 24 _ rfl (N + 1) 0 rfl (u8s hh) _ HH.out.whole Tryd.underlying24 rfl I2.out ?_)
        | (refine wpList_store_row rfl 24 _ _ rfl N (u8s hh).toArray rfl rfl tN _ HgN.out I1.out I3.out (u8s_one _) ?_))
      subst hQ
      rw [hops_ret]
      refine bodyPost_ret (v := .tuple #[.agg (u8s hh).toArray, .bool true]) ?_ rfl ⟨hh, true, rfl, HHL.out, HIS.out, ?_⟩
      · obtain ⟨t, hb⟩ := Blk.row (ds := u8s hh) ⟨tN, HgN.out⟩
        exact results_row_tmp Tryd.results31 _ _ N t _ _ _ rfl hb Tryd.underlying24 rfl I1.out
      · subst hN
        exact below_setRow HB.out (Nat.le_refl _) _
end Go.Proofs.YtlgadelcgboeoaaDoor
