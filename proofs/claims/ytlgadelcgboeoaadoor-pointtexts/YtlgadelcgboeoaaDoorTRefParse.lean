/- The document's own Parse; sha.Parse of whatever text. -/
import Derived.Test.YtlgadelcgboeoaaDoorTParse
namespace Go.Proofs.YtlgadelcgboeoaaDoor
open Go.ChangeShapes Go.WideShapes Go.ChangeAt Go.RowKit

theorem not_64 {bs : List (BitVec 8)} (h : bs.length ≠ 64) : IsHash bs zeros32 false :=
  .inr ⟨rfl, rfl, fun g hg e => h (by rw [← e, hexT_length, hg])⟩
theorem shaparse_any (bs : List (BitVec 8)) (w : World) :
    Calls Tryd.prog 31 #[.string (str bs)] w fun e w' => ∃ h ok, e = .returned (.tuple #[.agg (u8s h).toArray, .bool ok]) ∧ h.length = 32 ∧ IsHash bs h ok ∧ Below w.heap.size w w' := by
  by_cases h : bs.length = 64
  · exact parse_64 bs w h
  · exact (parse_short (str bs) w (by rw [str_size]; exact h)).mono fun _ _ ⟨he, hb⟩ => ⟨zeros32, false, he, rfl, not_64 h, hb⟩
theorem sum_nib (x y : BitVec 8) (hx : x.toNat < 16) (hy : y.toNat < 16) : Y x * 16 + Y y = Y (x <<< 4 ||| y) := by
  have : ∀ i j : Fin 16, Y (BitVec.ofNat 8 i.val) * 16 + Y (BitVec.ofNat 8 j.val) = Y (BitVec.ofNat 8 i.val <<< 4 ||| BitVec.ofNat 8 j.val) := by decide +kernel
  have h := this ⟨x.toNat, hx⟩ ⟨y.toNat, hy⟩
  simpa [BitVec.ofNat_toNat] using h

/-- What the two digits say so far. -/
def Two (c1 c2 : BitVec 8) (j : Nat) (v : Int) : Prop := (j = 0 ∧ v = 0) ∨ (j = 1 ∧ ∃ x, un c1 = some x ∧ v = Y x) ∨ (j = 2 ∧ ∃ x y, un c1 = some x ∧ un c2 = some y ∧ v = Y (x <<< 4 ||| y))
theorem Two.next {c1 c2 c x : BitVec 8} {j : Nat} {v : Int} (h : Two c1 c2 j v) (hj : j < 2) (hc : c = if j = 0 then c1 else c2) (hx : un c = some x) : Two c1 c2 (j + 1) (v * 16 + Y x) := by
  rcases h with ⟨rfl, rfl⟩ | ⟨rfl, z, hz, rfl⟩ | ⟨rfl, _⟩
  · rw [if_pos rfl] at hc
    subst hc
    exact .inr (.inl ⟨rfl, x, hx, by omega⟩)
  · rw [if_neg (by omega)] at hc
    subst hc
    exact .inr (.inr ⟨rfl, z, x, hz, hx, sum_nib z x (un_some _ _ hz).1 (un_some _ _ hx).1⟩)
  · omega
theorem Two.lo {c1 c2 : BitVec 8} {j : Nat} {v : Int} (h : Two c1 c2 j v) : 0 ≤ v ∧ v ≤ 255 := by
  rcases h with ⟨_, rfl⟩ | ⟨_, z, _, rfl⟩ | ⟨_, x, y, _, _, rfl⟩
  · omega
  · have := Y_lo z; have := Y_hi z; omega
  · have := Y_lo (x <<< 4 ||| y); have := Y_hi (x <<< 4 ||| y); omega

theorem wrap64_small {y : Int} (h0 : 0 ≤ y) (h1 : y < 256) : wrap64 y = y := by unfold wrap64; omega

set_option maxRecDepth 100000 in
set_option maxHeartbeats 4000000 in
theorem refparse_any (bs : List (BitVec 8)) (w : World) :
    Calls Tryd.prog 33 #[.string (str bs)] w fun e w' => ∃ h ok, e = .returned (.tuple #[.agg (u8s h).toArray, .bool ok]) ∧ h.length = 32 ∧ IsHash bs h ok ∧ Below w.heap.size w w' := by
  go_enter Tryd.func33, Tryd.ntmps33
  go_hide hQ
  go_upto_region 2 with fail
  generalize hw1 : World.alloc (World.alloc w _) _ = w1
  have hR1 : Blk w1 w.heap.size (u8s zeros32) := by rw [← hw1]; exact (Blk.mk _ _ _ rfl rfl).alloc _
  have hH1 : Blk w1 (w.heap.size + 1) (u8s (part32 [])) := by rw [← hw1]; exact Blk.mk _ _ _ (by simp) rfl
  have hb1 : Below w.heap.size w w1 := by rw [← hw1]; exact ((Below.refl _ _).alloc (Nat.le_refl _) _).alloc (by simp) _
  clear hw1
  generalize hN : w.heap.size = N at *
  have H1 : Hid (Blk w1 N (u8s zeros32) ∧ Blk w1 (N + 1) (u8s (part32 [])) ∧ Below N w w1) := ⟨hR1, hH1, hb1⟩
  clear hR1 hH1 hb1
  have J2 : Hid ((Tryd.prog.info? 24).map (·.size) = some (u8s zeros32).length) := by show _ = _; rw [show (u8s zeros32).length = 32 from rfl]; kernel_rfl
  by_cases h64 : bs.length = 64
  · have hsz : (str bs).size = 64 := by rw [str_size]; exact h64
    have HL : Hid (bs.length = 64) := h64
    clear h64
    go_wp2_with fail
    go_loopw [5] (fun i wr => ∃ (k : Nat) (d : List (BitVec 8)), k ≤ 32 ∧ i = .int .i64 k ∧ d.length = k ∧ Hid (bs.take (2 * k) = d.flatMap pair) ∧ Hid (Blk wr N (u8s zeros32)) ∧ Hid (Blk wr (N + 1) (u8s (part32 d))) ∧ Below N w wr) (fun i _ => 32 - (intOf i).toNat)
    case atStart => exact ⟨0, [], by omega, rfl, rfl, by show _ = _; simp, H1.out.1, H1.out.2.1, H1.out.2.2⟩
    case round =>
      obtain ⟨k, d, hk, rfl, hd, HE, HR, HH, hbk⟩ := hrel
      clear H1
      have HB : Hid (Below N w wr) := hbk
      clear hbk
      by_cases hlt : k < 32
      · have e0 : (0 : Int) ≤ (k : Int) := by omega
        have e1 : (k : Int) < 32 := by omega
        have hi1 : 2 * k < bs.length := by rw [HL.out]; omega
        have hi2 : 2 * k + 1 < bs.length := by rw [HL.out]; omega
        obtain ⟨c1, hc1⟩ : ∃ c, c = bs.getD (2 * k) 0 := ⟨_, rfl⟩
        obtain ⟨c2, hc2⟩ : ∃ c, c = bs.getD (2 * k + 1) 0 := ⟨_, rfl⟩
        have HC : Hid (∀ j, j < 2 → 2 * k + j < bs.length ∧ bs.getD (2 * k + j) 0 = if j = 0 then c1 else c2) := fun j hj => by
          rcases (show j = 0 ∨ j = 1 by omega) with rfl | rfl
          · exact ⟨hi1, hc1.symm⟩
          · exact ⟨hi2, hc2.symm⟩
        have HTW : Hid (bs.take (2 * (k + 1)) = d.flatMap pair ++ [c1, c2]) := by
          show _ = _
          rw [take_two bs k hi2, HE.out, hc1, hc2]
        clear hc1 hc2 hi1 hi2
        generalize wr = w0 at *
        go_wp2_with fail
        go_loopw [6, 7] (fun a i wr => ∃ (j : Nat) (v : Int), j ≤ 2 ∧ i = .int .i64 j ∧ a = .int .i64 v ∧ Hid (Two c1 c2 j v) ∧ wr = w0) (fun _ i _ => 2 - (intOf i).toNat)
        case atStart => exact ⟨0, 0, by omega, rfl, rfl, .inl ⟨rfl, rfl⟩, rfl⟩
        case round =>
          obtain ⟨j, v, hj, rfl, rfl, HT, rfl⟩ := hrel
          have hv := HT.out.lo
          obtain ⟨hv0, hv1⟩ := hv
          by_cases hj2 : j < 2
          · have g0 : (0 : Int) ≤ (j : Int) := by omega
            have g1 : (j : Int) < 2 := by omega
            obtain ⟨c, hc⟩ : ∃ c, c = bs.getD (2 * k + j) 0 := ⟨_, rfl⟩
            have hcc := (HC.out j hj2).2
            rw [← hc] at hcc
            have HCC : Hid (c = if j = 0 then c1 else c2) := hcc
            have HCG : Hid (bs.getD (2 * k + j) 0 = c) := hc.symm
            clear hc hcc
            go_upto_region 13 with fail
            rw [str_at, HCG.out]
            have hwr : wrap64 (Y c) = Y c := wrap64_small (Y_lo c) (Y_hi c)
            rw [hwr]
            clear hwr
            rcases un_cases c with ⟨x, hx, hc⟩ | ⟨hx, hc⟩
            · have HN : Hid (Two c1 c2 (j + 1) (v * 16 + Y x)) := HT.out.next hj2 HCC.out hx
              clear hx HT HCC HCG
              generalize Y c = y at *
              rcases hc with ⟨h1, h2, h3⟩ | ⟨h1, h2, h3⟩
              · have HY : Hid (Y x = y - 48) := h3
                clear h3
                go_wp2_with fail
                refine ⟨⟨j + 1, v * 16 + Y x, by omega, by go_num, ?_, HN, trivial⟩, by simp [intOf]; omega⟩
                rw [HY.out, show 16 * v + y - 48 = v * 16 + (y - 48) by omega]
              · have HY : Hid (Y x = y - 87) := h3
                have h4 : ¬ y ≤ 57 := by omega
                have h5 : (48 : Int) ≤ y := by omega
                clear h3
                go_wp2_with fail
                refine ⟨⟨j + 1, v * 16 + Y x, by omega, by go_num, ?_, HN, trivial⟩, by simp [intOf]; omega⟩
                rw [HY.out, show 16 * v + y - 97 + 10 = v * 16 + (y - 87) by omega]
            · have HN : Hid (∀ g : List (BitVec 8), g.length = 32 → hexT g ≠ bs) := no_hash bs (2 * k + j) (HC.out j hj2).1 (by rw [HCG.out]; exact hx)
              obtain ⟨tN, hgN⟩ := HR.out
              have HgN : Hid (wr.heap[N]? = _) := hgN
              clear hx HT HCC HCG hgN HTW HH HE
              generalize Y c = y at *
              have hcs : (¬ (48 : Int) ≤ y ∧ ¬ (97 : Int) ≤ y) ∨ ((48 : Int) ≤ y ∧ ¬ y ≤ 57 ∧ ¬ (97 : Int) ≤ y) ∨ ((48 : Int) ≤ y ∧ ¬ y ≤ 57 ∧ (97 : Int) ≤ y ∧ ¬ y ≤ 102) := by omega
              clear hc
              rcases hcs with ⟨h1, h2⟩ | ⟨h1, h2, h3⟩ | ⟨h1, h2, h3, h4⟩
              all_goals
                go_wp2_with (refine wpList_store_row rfl 24 _ _ rfl N (u8s zeros32).toArray rfl rfl tN _ HgN.out size_zeros rfl (u8s_one _) ?_)
                subst hQ
                refine bodyPost_ret (v := .tuple #[.agg (u8s zeros32).toArray, .bool false]) ?_ rfl ⟨zeros32, false, rfl, rfl, .inr ⟨rfl, rfl, HN.out⟩, ?_⟩
                · obtain ⟨t, hb⟩ := Blk.row (ds := u8s zeros32) ⟨tN, HgN.out⟩
                  exact results_row_tmp Tryd.results33 _ _ N t _ _ _ rfl hb Tryd.underlying24 rfl size_zeros
                · subst hN
                  exact below_setRow HB.out (Nat.le_refl _) _
          · obtain rfl : j = 2 := by omega
            obtain ⟨x1, x2, hx1, hx2, rfl⟩ : ∃ x y, un c1 = some x ∧ un c2 = some y ∧ v = Y (x <<< 4 ||| y) := by
              rcases HT.out with ⟨h, _⟩ | ⟨h, _⟩ | ⟨_, h⟩
              · omega
              · omega
              · exact h
            have HPR : Hid (pair (x1 <<< 4 ||| x2) = [c1, c2]) := pair_of hx1 hx2
            clear hx1 hx2 HT hv0 hv1
            generalize x1 <<< 4 ||| x2 = x at *
            have b1 := Y_lo x
            have b2 := Y_hi x
            have f1 : IntKind.i64.wrap (31 - (k : Int)) = 31 - (k : Int) := i64_fit (by omega) (by omega)
            have f2 : (0 : Int) ≤ 31 - (k : Int) := by omega
            have f3 : (31 : Int) - (k : Int) < 32 := by omega
            have f4 : (31 - (k : Int)).toNat = 31 - k := by omega
            have f5 : (k : Int) ≤ 31 := by omega
            have ck := HH.out.cell (31 - k)
            rw [u8s_get _ (31 - k) (by rw [part32_length d (by omega)]; omega)] at ck
            generalize Y ((part32 d).getD (31 - k) 0) = old at ck
            have fk := HH.out.frozen (31 - k)
            go_wp2_with fail
            refine ⟨⟨k + 1, d ++ [x], by omega, by go_num, by simp [hd], ?_, HR.out.other (show N ≠ N + 1 by omega) _, ?_, HB.out.setCell (show N ≤ N + 1 by omega) _⟩, by simp [intOf]; omega⟩
            · show _ = _
              rw [HTW.out, List.flatMap_append]
              simp [HPR.out]
            · have h := HH.out.set (31 - k) (.int .u8 (Y x))
              rw [u8s_set, ← hd, part32_set d _ (by omega), hd] at h
              exact h
      · obtain rfl : k = 32 := by omega
        have hp : part32 d = d.reverse := by unfold part32; rw [hd]; simp
        rw [hp] at HH
        obtain ⟨hh, hhe⟩ : ∃ x, x = d.reverse := ⟨_, rfl⟩
        have hhl : hh.length = 32 := by rw [hhe]; simp [hd]
        rw [← hhe] at HH
        have HIS : Hid (IsHash bs hh true) := by
          refine .inl ⟨rfl, hhl, ?_⟩
          rw [hexT, hhe, List.reverse_reverse, ← HE.out, List.take_of_length_le (by rw [HL.out]; omega)]
        have HHL : Hid (hh.length = 32) := hhl
        have I1 : Hid ((Tryd.prog.info? 24).map (·.size) = some (u8s hh).toArray.size) := by
          show _ = _
          rw [show (u8s hh).toArray.size = 32 by simp [hhl]]; kernel_rfl
        have I2 : Hid ((Tryd.prog.info? 24).map (·.size) = some (u8s hh).length) := by
          show _ = _
          rw [u8s_length, hhl]; kernel_rfl
        have I3 : Hid ((u8s zeros32).toArray.size = (u8s hh).toArray.size) := by show _ = _; simp [hhl, zeros32]
        obtain ⟨tN, hgN⟩ := HR.out
        have HgN : Hid (wr.heap[N]? = _) := hgN
        clear hp hhe hhl HE hgN HR
        go_wp2_with (first
          | (refine wpList_load_mid rfl 24 _ rfl (N + 1) 0 rfl (u8s hh) _ HH.out.whole Tryd.underlying24 rfl I2.out ?_)
          | (refine wpList_store_row rfl 24 _ _ rfl N (u8s hh).toArray rfl rfl tN _ HgN.out I1.out I3.out (u8s_one _) ?_))
        subst hQ
        refine bodyPost_ret (v := .tuple #[.agg (u8s hh).toArray, .bool true]) ?_ rfl ⟨hh, true, rfl, HHL.out, HIS.out, ?_⟩
        · obtain ⟨t, hb⟩ := Blk.row (ds := u8s hh) ⟨tN, HgN.out⟩
          exact results_row_tmp Tryd.results33 _ _ N t _ _ _ rfl hb Tryd.underlying24 rfl I1.out
        · subst hN
          exact below_setRow HB.out (Nat.le_refl _) _
  · have hsz : (str bs).size = bs.length := str_size bs
    have HNH : Hid (IsHash bs zeros32 false) := not_64 h64
    have hne : ¬ ((bs.length : Int) = 64) := by omega
    have HRB := H1.out.1
    obtain ⟨tN, hgN⟩ := HRB
    have HgN : Hid (w1.heap[N]? = _) := hgN
    have HB : Hid (Below N w w1) := H1.out.2.2
    have HH := H1.out.2.1
    have HHW : Hid (Blk w1 (N + 1) (u8s (part32 []))) := HH
    clear hgN h64 H1 HH
    go_wp2_with (first
      | (refine wpList_load_mid rfl 24 _ rfl (N + 1) 0 rfl (u8s (part32 [])) _ HHW.out.whole Tryd.underlying24 rfl J2.out ?_)
      | (refine wpList_store_row rfl 24 _ _ rfl N (u8s zeros32).toArray rfl rfl tN _ HgN.out size_zeros rfl (u8s_one _) ?_))
    subst hQ
    refine bodyPost_ret (v := .tuple #[.agg (u8s zeros32).toArray, .bool false]) ?_ rfl ⟨zeros32, false, rfl, rfl, HNH.out, ?_⟩
    · obtain ⟨t, hb⟩ := Blk.row (ds := u8s zeros32) ⟨tN, HgN.out⟩
      exact results_row_tmp Tryd.results33 _ _ N t _ _ _ rfl hb Tryd.underlying24 rfl size_zeros
    · subst hN
      exact below_setRow HB.out (Nat.le_refl _) _
end Go.Proofs.YtlgadelcgboeoaaDoor
