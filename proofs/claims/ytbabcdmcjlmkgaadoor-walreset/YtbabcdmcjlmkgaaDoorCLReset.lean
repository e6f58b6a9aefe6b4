/- coraclelaw8.WalReset: its walk. -/
import Derived.Test.YtbabcdmcjlmkgaaDoorZW6
namespace Go.Proofs.YtbabcdmcjlmkgaaDoor
open Go.ChangeShapes Go.WideShapes Go.ChangeAt Go.RowKit Go.Lib

theorem nameL_v : NameL ⟨#[118]⟩ := ⟨by decide, by decide⟩
theorem apart_wv : Apart ⟨#[119]⟩ ⟨#[118]⟩ := ⟨by decide, by decide, by decide, by decide⟩
set_option maxRecDepth 100000 in
set_option maxHeartbeats 8000000 in
theorem wreset_any (vo vn : Value) (old now : List (List (BitVec 8))) (a : Option Addr) (n c : Nat) (Z : List Int) (w : World) (hK : Kw w) (ho : RowsB w vo old) (hw : RowsB w vn now) (hz : Ints w a Z) (hZn : Z.length = n) (hnc : n ≤ c) (hcm : c ≤ maxLen) :
    Calls Tryd.prog 6 #[vo, vn, .slice a n c] w fun e w' => e = .returned (.bool true) ∧ Below w.heap.size w w' := by
  obtain ⟨ao, co, rfl⟩ := ho.shape
  obtain ⟨an, cn, rfl⟩ := hw.shape
  obtain ⟨p, hp⟩ : ∃ p, p = old.length := ⟨_, rfl⟩
  obtain ⟨q, hq⟩ : ∃ q, q = now.length := ⟨_, rfl⟩
  rw [← hp] at ho ⊢
  rw [← hq] at hw ⊢
  have HK : Hid (Kw w) := hK
  have HO : Hid (RowsB w (.slice ao p co) old) := ho
  have HW : Hid (RowsB w (.slice an q cn) now) := hw
  have HZ : Hid (Ints w a Z ∧ Z.length = n ∧ n ≤ c ∧ c ≤ maxLen) := ⟨hz, hZn, hnc, hcm⟩
  have HP : Hid (p = old.length) := hp
  have HQ0 : Hid (q = now.length) := hq
  have HAW : Hid (∀ w', Kw w' → Calls Tryd.prog 7 #[] w' fun e w'' => e = .returned (.bool true) ∧ Below w'.heap.size w' w'') := fun w' h => wawake_any w' h
  clear hK ho hw hz hZn hnc hcm hp hq
  by_cases hsz : p ≤ 20 ∧ q ≤ 20 ∧ n ≤ 5
  · obtain ⟨h1, h2, h3⟩ := hsz
    have h1' : ¬ ((p : Int) > 20) := by omega
    have h2' : ¬ ((q : Int) > 20) := by omega
    have h3' : ¬ ((n : Int) > 5) := by omega
    go_enter Tryd.func6, Tryd.ntmps6
    go_wp2_with fail
    go_loopw [7] (fun i wr => ∃ k : Nat, k ≤ p ∧ i = .int .i64 k ∧ wr = w ∧ Hid (∀ j, j < k → (old.getD j []).length ≤ 200)) (fun i _ => p - (intOf i).toNat)
    case atStart => exact ⟨0, by omega, rfl, rfl, fun j hj => absurd hj (Nat.not_lt_zero _)⟩
    case round =>
      obtain ⟨k, hk, rfl, rfl, HALL⟩ := hrel
      by_cases hlt : k < p
      · have e0 : (0 : Int) ≤ (k : Int) := by omega
        have e1 : (k : Int) < (p : Int) := by omega
        obtain ⟨b, o, x, hao, hcx, hbx⟩ := HO.out.at (k := k) (by rw [← HP.out]; exact hlt)
        subst hao
        obtain ⟨ax, cx, rfl, _⟩ := hbx.shape
        obtain ⟨mm, hm⟩ : ∃ m, m = (old.getD k []).length := ⟨_, rfl⟩
        rw [← hm] at hcx
        have HM : Hid (mm = (old.getD k []).length) := hm
        clear hbx hm
        by_cases hbig : mm ≤ 200
        · have hb' : ¬ ((mm : Int) > 200) := by omega
          go_wp2_with fail
          go_roundw
          case rel =>
            refine ⟨k + 1, by omega, by go_num, trivial, fun j hj => ?_⟩
            by_cases e : j = k
            · rw [e, ← HM.out]; exact hbig
            · exact HALL.out j (by omega)
          case measure => simp [intOf]; omega
        · have hb' : (mm : Int) > 200 := by omega
          go_wp2_with fail
          refine Calls.mono (HAW.out wr HK.out) ?_
          rintro e w1 ⟨rfl, hb1⟩
          have HB1 : Hid (Below wr.heap.size wr w1) := hb1
          clear hb1
          go_wp2_with fail
          go_ret
          exact ⟨rfl, HB1.out⟩
      · obtain rfl : k = p := by omega
        have e1 : ¬ (k : Int) < (k : Int) := by omega
        have HO2 : Hid (∀ r ∈ old, r.length ≤ 200) := mem_getD fun j hj => HALL.out j (by rw [HP.out]; exact hj)
        clear HALL
        go_wp2_with fail
        go_loopw [8] (fun i wr2 => ∃ k2 : Nat, k2 ≤ q ∧ i = .int .i64 k2 ∧ wr2 = wr ∧ Hid (∀ j, j < k2 → (now.getD j []).length ≤ 200)) (fun i _ => q - (intOf i).toNat)
        case atStart => exact ⟨0, by omega, rfl, rfl, fun j hj => absurd hj (Nat.not_lt_zero _)⟩
        case round =>
          obtain ⟨k2, hk2, rfl, rfl, HALL⟩ := hrel
          by_cases hlt2 : k2 < q
          · have e0 : (0 : Int) ≤ (k2 : Int) := by omega
            have e2 : (k2 : Int) < (q : Int) := by omega
            obtain ⟨b, o, x, han, hcx, hbx⟩ := HW.out.at (k := k2) (by rw [← HQ0.out]; exact hlt2)
            subst han
            obtain ⟨ax, cx, rfl, _⟩ := hbx.shape
            obtain ⟨mm, hm⟩ : ∃ m, m = (now.getD k2 []).length := ⟨_, rfl⟩
            rw [← hm] at hcx
            have HM : Hid (mm = (now.getD k2 []).length) := hm
            clear hbx hm
            by_cases hbig : mm ≤ 200
            · have hb' : ¬ ((mm : Int) > 200) := by omega
              go_wp2_with fail
              go_roundw
              case rel =>
                refine ⟨k2 + 1, by omega, by go_num, trivial, fun j hj => ?_⟩
                by_cases e : j = k2
                · rw [e, ← HM.out]; exact hbig
                · exact HALL.out j (by omega)
              case measure => simp [intOf]; omega
            · have hb' : (mm : Int) > 200 := by omega
              go_wp2_with fail
              refine Calls.mono (HAW.out _ HK.out) ?_
              rintro e w1 ⟨rfl, hb1⟩
              have HB1 : Hid (Below _ _ w1) := hb1
              clear hb1
              go_wp2_with fail
              go_ret
              exact ⟨rfl, HB1.out⟩
          · obtain rfl : k2 = q := by omega
            have e2 : ¬ (k2 : Int) < (k2 : Int) := by omega
            have HW2 : Hid (∀ r ∈ now, r.length ≤ 200) := mem_getD fun j hj => HALL.out j (by rw [HQ0.out]; exact hj)
            clear HALL
            go_wp2_with fail
            obtain ⟨wb, hwb⟩ : ∃ x, x = wr := ⟨_, rfl⟩
            subst hwb
            refine Calls.mono (new_lg wb) ?_
            rintro e w1 ⟨f, S1, rfl, hs1, hg1, hl1, hL1⟩
            have HOP : Hid (Calls Tryd.prog 9 #[.pointer (some ⟨f, 0, none⟩), .string ⟨#[119]⟩] w1 fun e w' => ∃ l, e = .returned (.tuple #[.pointer (some ⟨l, 0, none⟩), .int .i64 0]) ∧ w1.heap.size ≤ l ∧ LgStep wb w1 f S1 l ⟨#[119]⟩ (([] : List (Nat × List Value)).map Prod.fst) [] [] 4 w') :=
              lg_open (X := []) (t := []) (s := 0) HK.out hs1 hg1 hl1 (by omega) nameL_w (fun r hr => by cases hr) firstR_nil (by rw [hL1]; rfl) (by simp [frs])
            clear hs1 hg1 hl1
            have HL1 : Hid (S1.abs.L = []) := hL1
            clear hL1
            go_wp2_with fail
            refine Calls.mono HOP.out ?_
            rintro e w2 ⟨la, rfl, _, S2, hL2, _, hoth⟩
            have HL2 : Hid (Lg wb w2 f S2 la ⟨#[119]⟩ [] [] 4) := hL2
            have HN2 : Hid (alook ⟨#[118]⟩ S2.abs.L = none) := by
              have := hoth ⟨#[118]⟩ (by decide) (by decide)
              rw [HL1.out] at this
              exact this
            have HOP2 : Hid (Calls Tryd.prog 9 #[.pointer (some ⟨f, 0, none⟩), .string ⟨#[118]⟩] w2 fun e w' => ∃ l, e = .returned (.tuple #[.pointer (some ⟨l, 0, none⟩), .int .i64 0]) ∧ w2.heap.size ≤ l ∧ LgStep wb w2 f S2 l ⟨#[118]⟩ ([(la, lgC f ⟨#[119]⟩ (frs []).length false)].map Prod.fst) [] [(la, lgC f ⟨#[119]⟩ (frs []).length false)] (4 + 4) w') :=
              lg_open (X := []) (t := []) (s := 0) HK.out HL2.out.sys HL2.out.good HL2.out.live (by omega) nameL_v (fun r hr => by cases hr) firstR_nil (by rw [HN2.out]; rfl) (by simp [frs])
            clear hL2 hoth HOP HL1
            go_wp2_with fail
            refine Calls.mono HOP2.out ?_
            rintro e w3 ⟨lb, rfl, _, hst3⟩
            obtain ⟨S3, hL3, _⟩ := HL2.out.second apart_wv hst3
            have HL3 : Hid (Lg2 wb w3 f S3 la ⟨#[119]⟩ (old.take 0) lb ⟨#[118]⟩ [] (8 + 2 * 0)) := by rw [List.take_zero]; exact hL3
            clear hL3 hst3 HOP2 HL2 HN2
            go_wp2_with fail
            go_loopw [14] (fun i wr => ∃ (j : Nat) (S : FS), j ≤ k ∧ i = .int .i64 j ∧ Hid (Lg2 wb wr f S la ⟨#[119]⟩ (old.take j) lb ⟨#[118]⟩ [] (8 + 2 * j))) (fun i _ => k - (intOf i).toNat)
            case atStart => exact ⟨0, S3, Nat.zero_le _, rfl, HL3.out⟩
            case round =>
              obtain ⟨j, S, hj, rfl, HL⟩ := hrel
              by_cases hlt : j < k
              · have e0 : (0 : Int) ≤ (j : Int) := by omega
                have e3 : (j : Int) < (k : Int) := by omega
                have hjl : j < old.length := by rw [← HP.out]; exact hlt
                obtain ⟨b, o, x, hao, hcx, hbx⟩ := HO.out.at (k := j) hjl
                subst hao
                have hcx' := cell_below HL.out.one.sys.base hcx
                have hbx' := hbx.below HL.out.one.sys.base
                obtain ⟨ax, cx, rfl, _⟩ := hbx.shape
                have hr2 : (old.getD j []).length ≤ 200 := HO2.out _ (by rw [List.getD_eq_getElem?_getD, List.getElem?_eq_getElem hjl]; exact List.getElem_mem _)
                have hfb : (frs (old.take j)).length ≤ 241 * 20 := by
                  have h1 := frs_take_le old j
                  have h2 := frs_bound HO2.out
                  have h3 : old.length ≤ 20 := by rw [← HP.out]; assumption
                  have h4 : (200 + 41) * old.length ≤ 241 * 20 := Nat.mul_le_mul_left _ h3
                  omega
                have hap := lg_append HK.out HL.out.one (by omega) nameL_w _ _ hbx' (by omega) (by have := frB_le (old.getD j []); omega)
                have HAP : Hid (Calls Tryd.prog 15 #[.pointer (some ⟨la, 0, none⟩), .slice ax (old.getD j []).length cx] wr fun e w' => e = .returned (.int .i64 0) ∧ LgStep wb wr f S la ⟨#[119]⟩ (((la, lgC f ⟨#[119]⟩ (frs (old.take j)).length false) :: [(lb, lgC f ⟨#[118]⟩ (frs []).length false)]).map Prod.fst) (old.take j ++ [old.getD j []]) [(lb, lgC f ⟨#[118]⟩ (frs []).length false)] (8 + 2 * j + 2) w') := hap
                rw [← takeB_next old j [] hjl] at HAP
                clear hap hcx hbx hbx' hr2 hfb hjl
                generalize (old.getD j []).length = m1 at *
                go_wp2_with fail
                refine Calls.mono HAP.out ?_
                rintro e w4 ⟨rfl, hst4⟩
                obtain ⟨S4, hL4, _⟩ := HL.out.step apart_wv hst4
                have HL4 : Hid (Lg2 wb w4 f S4 la ⟨#[119]⟩ (old.take (j + 1)) lb ⟨#[118]⟩ [] (8 + 2 * (j + 1))) := hL4
                clear hst4 hL4 HAP
                go_wp2_with fail
                go_roundw
                case rel => exact ⟨j + 1, S4, by omega, by go_num, HL4.out⟩
                case measure => simp [intOf]; omega
              · obtain rfl : j = k := by omega
                have e3 : ¬ (j : Int) < (j : Int) := by omega
                have htk : old.take j = old := by rw [HP.out, List.take_length]
                rw [htk] at HL
                clear htk HL3
                have hfn : (frs now).length ≤ 241 * 20 := by
                  have h5 := frs_bound HW2.out
                  have h6 : now.length ≤ 20 := by rw [← HQ0.out]; exact h2
                  have h7 : (200 + 41) * now.length ≤ 241 * 20 := Nat.mul_le_mul_left _ h6
                  omega
                have hn20 : now.length ≤ 1000000 := by rw [← HQ0.out]; omega
                have hns : ∀ r ∈ now, r.length ≤ 1048576 := fun r hr => by have := HW2.out r hr; omega
                have HFN : Hid ((frs now).length ≤ 16777216 ∧ now.length ≤ 1000000 ∧ ∀ r ∈ now, r.length ≤ 1048576) := ⟨by omega, hn20, hns⟩
                have HRS : Hid (Calls Tryd.prog 18 #[.pointer (some ⟨la, 0, none⟩), .slice an k2 cn] wr fun e w' => e = .returned (.int .i64 0) ∧ LgStep wb wr f S la ⟨#[119]⟩ (((la, lgC f ⟨#[119]⟩ (frs old).length false) :: [(lb, lgC f ⟨#[118]⟩ (frs []).length false)]).map Prod.fst) now [(lb, lgC f ⟨#[118]⟩ (frs []).length false)] (8 + 2 * j + 3) w') := lg_reset HK.out HL.out.one (by omega) nameL_w _ now (HW.out.below HL.out.one.sys.base) hn20 hns (by omega)
                clear hfn hn20 hns
                go_wp2_with fail
                refine Calls.mono HRS.out ?_
                rintro e w4 ⟨rfl, hst4⟩
                obtain ⟨S4, hL4, _⟩ := HL.out.step apart_wv hst4
                have HL4 : Hid (Lg2 wb w4 f S4 lb ⟨#[118]⟩ [] la ⟨#[119]⟩ now (8 + 2 * j + 3)) := hL4.swap
                clear hst4 hL4 HRS HL
                have HRS : Hid (Calls Tryd.prog 18 #[.pointer (some ⟨lb, 0, none⟩), .slice an k2 cn] w4 fun e w' => e = .returned (.int .i64 0) ∧ LgStep wb w4 f S4 lb ⟨#[118]⟩ (((lb, lgC f ⟨#[118]⟩ (frs []).length false) :: [(la, lgC f ⟨#[119]⟩ (frs now).length false)]).map Prod.fst) now [(la, lgC f ⟨#[119]⟩ (frs now).length false)] (8 + 2 * j + 3 + 3) w') := lg_reset HK.out HL4.out.one (by omega) nameL_v _ now (HW.out.below HL4.out.one.sys.base) HFN.out.2.1 HFN.out.2.2 HFN.out.1
                go_wp2_with fail
                refine Calls.mono HRS.out ?_
                rintro e w5 ⟨rfl, hst5⟩
                obtain ⟨S5, hL5, _⟩ := HL4.out.step apart_wv.symm hst5
                have HL5 : Hid (Lg2 wb w5 f S5 la ⟨#[119]⟩ now lb ⟨#[118]⟩ now (8 + 2 * j + 3 + 3)) := hL5.swap
                clear hst5 hL5 HRS HL4
                go_wp2_with fail
                refine Calls.mono (crash_lg HL5.out.one.sys HL5.out.one.good (by omega) a n c Z (HZ.out.1.below HL5.out.one.sys.base) HZ.out.2.1 HZ.out.2.2.1 HZ.out.2.2.2) ?_
                rintro e w6 ⟨g, T, rfl, hT, hs6⟩
                obtain ⟨hgT, hlT, hkT⟩ := crash_out HL5.out.one.good Z
                obtain ⟨kk, hk1, hk2, hk3⟩ := hkT ⟨#[119]⟩ _ HL5.out.one.file.1
                have hkk : kk = (frs now).length := by have := hk3 (Nat.le_refl _); simp only at hk2 this; omega
                rw [hkk] at hk1
                simp only [List.take_length] at hk1
                rw [← hT] at hk1 hgT hlT
                have HOP : Hid (Calls Tryd.prog 9 #[.pointer (some ⟨g, 0, none⟩), .string ⟨#[119]⟩] w6 fun e w' => ∃ l, e = .returned (.tuple #[.pointer (some ⟨l, 0, none⟩), .int .i64 0]) ∧ w6.heap.size ≤ l ∧ LgStep w5 w6 g T l ⟨#[119]⟩ (([] : List (Nat × List Value)).map Prod.fst) now [] (8 + 2 * j + 3 + 3 + 4) w') :=
                  lg_open (X := now) (t := []) (s := (frs now).length) (HL5.out.one.sys.kw HK.out) hs6 hgT hlT (by omega) nameL_w HFN.out.2.2 firstR_nil (by rw [hk1, List.append_nil]; rfl) (by rw [List.append_nil]; exact HFN.out.1)
                clear hs6 hgT hlT hkT hk1 hk2 hk3 hkk hT
                go_wp2_with fail
                refine Calls.mono HOP.out ?_
                rintro e w7 ⟨lc, rfl, _, S7, hL7, _, _⟩
                have HL7 : Hid (Lg w5 w7 g S7 lc ⟨#[119]⟩ now [] (8 + 2 * j + 3 + 3 + 4)) := hL7
                have HL57 : Hid (Lg2 wb w7 f S5 la ⟨#[119]⟩ now lb ⟨#[118]⟩ now (8 + 2 * j + 3 + 3)) := HL5.out.below hL7.sys.base
                have HK5 : Hid (Kw w5) := HL5.out.one.sys.kw HK.out
                clear hL7 HOP HL5
                have HA1 : Hid (Calls Tryd.prog 12 #[.pointer (some ⟨la, 0, none⟩), .slice an k2 cn] w7 fun e w' => e = .returned (.bool true) ∧ Below w7.heap.size w7 w') := by
                  have := lg_has HK.out HL57.out.one _ now (HW.out.below HL57.out.one.sys.base) HFN.out.2.1
                  rw [show decide (now = now) = true by simp] at this
                  exact this
                go_wp2_with fail
                refine Calls.mono HA1.out ?_
                rintro e w8 ⟨rfl, hb8⟩
                have HL78 : Hid (Lg w5 w8 g S7 lc ⟨#[119]⟩ now [] (8 + 2 * j + 3 + 3 + 4)) := HL7.out.below hb8
                have HL58 : Hid (Lg2 wb w8 f S5 la ⟨#[119]⟩ now lb ⟨#[118]⟩ now (8 + 2 * j + 3 + 3)) := HL57.out.below hb8
                clear hb8 HL7 HL57 HA1
                have HA2 : Hid (Calls Tryd.prog 12 #[.pointer (some ⟨lc, 0, none⟩), .slice an k2 cn] w8 fun e w' => e = .returned (.bool true) ∧ Below w8.heap.size w8 w') := by
                  have := lg_has HK5.out HL78.out _ now (HW.out.below HL58.out.one.sys.base) HFN.out.2.1
                  rw [show decide (now = now) = true by simp] at this
                  exact this
                go_wp2_with fail
                refine Calls.mono HA2.out ?_
                rintro e w9 ⟨rfl, hb9⟩
                have HL9 : Hid (Lg2 wb w9 f S5 la ⟨#[119]⟩ now lb ⟨#[118]⟩ now (8 + 2 * j + 3 + 3)) := HL58.out.below hb9
                clear hb9 HL78 HL58 HA2
                go_wp2_with fail
                refine Calls.mono (bytes_any la f ⟨#[119]⟩ _ false w9 HL9.out.one.sys.blk) ?_
                rintro e w10 ⟨rfl, rfl⟩
                go_wp2_with fail
                refine Calls.mono (bytes_any lb f ⟨#[118]⟩ _ false w10 HL9.out.swap.one.sys.blk) ?_
                rintro e w11 ⟨rfl, rfl⟩
                go_wp2_with fail
                refine Calls.mono (HAW.out w11 (HL9.out.one.sys.kw HK.out)) ?_
                rintro e w12 ⟨rfl, hb12⟩
                have HB12 : Hid (Below wb.heap.size wb w12) := HL9.out.one.sys.base.trans (hb12.mono HL9.out.one.sys.base.size)
                clear hb12 HL9
                go_wp2_with fail
                go_ret
                exact ⟨rfl, HB12.out⟩
  · have hsz2 : 20 < p ∨ (p ≤ 20 ∧ 20 < q) ∨ (p ≤ 20 ∧ q ≤ 20 ∧ 5 < n) := by omega
    clear hsz
    rcases hsz2 with h | ⟨h, h'⟩ | ⟨h, h', h''⟩
    · have g1 : (p : Int) > 20 := by omega
      go_enter Tryd.func6, Tryd.ntmps6
      go_wp2_with fail
      refine Calls.mono (HAW.out w HK.out) ?_
      rintro e w1 ⟨rfl, hb1⟩
      have HB1 : Hid (Below w.heap.size w w1) := hb1
      clear hb1
      go_wp2_with fail
      go_ret
      exact ⟨rfl, HB1.out⟩
    · have g1 : ¬ (p : Int) > 20 := by omega
      have g2 : (q : Int) > 20 := by omega
      go_enter Tryd.func6, Tryd.ntmps6
      go_wp2_with fail
      refine Calls.mono (HAW.out w HK.out) ?_
      rintro e w1 ⟨rfl, hb1⟩
      have HB1 : Hid (Below w.heap.size w w1) := hb1
      clear hb1
      go_wp2_with fail
      go_ret
      exact ⟨rfl, HB1.out⟩
    · have g1 : ¬ (p : Int) > 20 := by omega
      have g2 : ¬ (q : Int) > 20 := by omega
      have g3 : (n : Int) > 5 := by omega
      go_enter Tryd.func6, Tryd.ntmps6
      go_wp2_with fail
      refine Calls.mono (HAW.out w HK.out) ?_
      rintro e w1 ⟨rfl, hb1⟩
      have HB1 : Hid (Below w.heap.size w w1) := hb1
      clear hb1
      go_wp2_with fail
      go_ret
      exact ⟨rfl, HB1.out⟩
end Go.Proofs.YtbabcdmcjlmkgaaDoor
