/- NumRow: whatever the numbers and the byte, the law returns true. No conditions. The walk. -/
import Derived.Test.YtchfjbhhcdfobaaNumE
import Derived.Test.YtchfjbhhcdfobaaRowMath
namespace Go.Proofs.Ytchfjbhhcdfobaa
open Go.ChangeShapes Go.WideShapes Go.ChangeAt Go.RowKit
set_option linter.unusedVariables false

set_option maxHeartbeats 1000000 in
theorem row_awake (a : Option Addr) (len cap : Nat) (m : Int) (w : World) (h : len = 0 ∨ 40 < len) :
    Calls Try.prog 5 #[.slice a len cap, .int .u8 m] w fun e w' => e = .returned (.bool true) ∧ Below w.heap.size w w' := by
  rcases h with rfl | h
  · go_enter Try.func5, Try.ntmps5
    go_wp2_with (go_at_call 10; refine (awake_any _).mono ?_; rintro e w3 ⟨rfl, hbel3⟩)
    go_ret
    exact ⟨rfl, hbel3⟩
  · have h0 : ((len : Int) == 0) = false := beq_eq_false_iff_ne.2 (by omega)
    go_enter Try.func5, Try.ntmps5
    go_wp2_with (go_at_call 10; refine (awake_any _).mono ?_; rintro e w3 ⟨rfl, hbel3⟩)
    go_ret
    exact ⟨rfl, hbel3⟩

/-- What one round of the first loop does. -/
theorem row_step {w wr w1 w2 : World} {Z : List Int} {k : Nat} {v v2 : Value} (hrow : Row wr w.heap.size v (cat Z k)) (hbel : Below w.heap.size w wr) (hbel1 : Below wr.heap.size wr w1)
    (hown2 : w2.ownsRow w.heap.size 5 1 v2 ((cat Z k).length + (bytesN (Z.getD k 0)).length) ((cat Z k).map (Value.int .u8) ++ (bytesN (Z.getD k 0)).map (Value.int .u8))) (hgrow : w1.grownBy w2 v.ownBlock) :
    Row w2 w.heap.size v2 (cat Z (k + 1)) ∧ Below w.heap.size w w2 := by
  have s1 := hbel.size
  have s2 := hbel1.size
  refine ⟨?_, ?_⟩
  · unfold Row
    rw [cat, List.length_append, List.map_append]
    exact hown2
  · exact (hbel.trans (hbel1.mono s1)).grown hgrow (by omega) (fun j hj => (World.ownsRow.lt hrow j hj).1)

theorem row_news {w : World} {g : Nat} {bs : List Int} (hc : ∀ i, i < bs.length → w.cell? ⟨g, 0 + i, none⟩ = some (.int .u8 (bs.getD i 0))) :
    ∀ j u, (bs.map (Value.int .u8))[j]? = some u → w.cell? ((⟨g, 0, none⟩ : Addr).add j) = some u := by
  intro j u hu
  have hadd : (⟨g, 0, none⟩ : Addr).add j = ⟨g, 0 + j, none⟩ := by unfold Addr.add; split <;> simp_all
  rw [List.getElem?_map] at hu
  have hj : j < bs.length := by
    rcases Nat.lt_or_ge j bs.length with h | h
    · exact h
    · rw [List.getElem?_eq_none h] at hu; simp at hu
  rw [hadd, hc j hj, getD_lt hj]
  rw [List.getElem?_eq_getElem hj] at hu
  simpa using hu

set_option maxHeartbeats 2000000 in
theorem row_walk (b off len cap : Nat) (m : Int) (Z : List Int) (w : World) (hl : 1 ≤ len) (hl40 : len ≤ 40) (hlc : len ≤ cap) (hm0 : 0 ≤ m) (hm1 : m ≤ 255) (hb : b < w.heap.size)
    (hc : ∀ i, i < len → w.cell? ⟨b, off + i, none⟩ = some (.int .i64 (Z.getD i 0))) :
    Calls Try.prog 5 #[.slice (some ⟨b, off, none⟩) len cap, .int .u8 m] w fun e w' => e = .returned (.bool true) ∧ Below w.heap.size w w' := by
  obtain ⟨i0, hi, hz0, hz1, hz2⟩ := info_parts Try.info5
  have h0 : ((len : Int) == 0) = false := beq_eq_false_iff_ne.2 (by omega)
  have HC : Hid (∀ i, i < len → w.cell? ⟨b, off + i, none⟩ = some (.int .i64 (Z.getD i 0))) := hc
  clear hc
  go_enter Try.func5, Try.ntmps5
  go_wp2
  go_loopw [5, 6, 7] (fun v l i wr => ∃ k : Nat, k ≤ len ∧ i = .int .i64 k ∧ l = .int .i64 ((cat Z (k - 1)).length : Nat) ∧ Good Z k ∧ Row wr w.heap.size v (cat Z k) ∧ Below w.heap.size w wr) (fun _ _ i _ => len - (intOf i).toNat)
  case atStart => exact ⟨0, Nat.zero_le _, rfl, rfl, fun i hi => by omega, World.ownsRow_nil _ _ _ _, Below.refl _ _⟩
  case round =>
    obtain ⟨k, hk, rfl, rfl, hgood, hrow, hbel⟩ := hrel
    by_cases hlt : k < len
    · have hcx : wr.cell? ⟨b, off + k, none⟩ = some (.int .i64 (Z.getD k 0)) := (hbel.cell (p := ⟨b, off + k, none⟩) hb).trans (HC.out k hlt)
      have HG : Hid (Good Z k) := hgood
      clear hgood
      obtain ⟨a5, cp5, hv5, hB5⟩ := hrow.bytesAt (isBytes_cat Z k)
      subst hv5
      clear hB5
      have HR : Hid (Row wr w.heap.size (.slice a5 (cat Z k).length cp5) (cat Z k)) := hrow
      clear hrow
      have HL : Hid ((cat Z k).length ≤ 9 * k) := cat_length_le Z k
      generalize hz' : Z.getD k 0 = z at *
      have HZ : Hid (Z.getD k 0 = z) := hz'
      clear hz'
      by_cases hz : sizeN z = 0
      · have hbad : z < 0 ∨ 4611686018427387904 < z := by
          rcases Classical.em (z < 0 ∨ 4611686018427387904 < z) with h | h
          · exact h
          · have := sizeN_pos (n := z) (by omega) (by omega); omega
        have HZ0 : Hid (sizeN z = 0) := hz
        clear hz
        by_cases hneg : z < 0
        · go_wp2_with (first
            | (go_at_call 8; refine (size_is z 0 _ HZ0.out).mono ?_; rintro e w' ⟨rfl, rfl⟩)
            | (go_at_call 10; refine (awake_any _).mono ?_; rintro e w3 ⟨rfl, hbel3⟩))
          go_ret
          exact ⟨rfl, hbel.trans (hbel3.mono hbel.size)⟩
        · have hbig : 4611686018427387904 < z := by omega
          clear hbad
          go_wp2_with (first
            | (go_at_call 8; refine (size_is z 0 _ HZ0.out).mono ?_; rintro e w' ⟨rfl, rfl⟩)
            | (go_at_call 10; refine (awake_any _).mono ?_; rintro e w3 ⟨rfl, hbel3⟩))
          go_ret
          exact ⟨rfl, hbel.trans (hbel3.mono hbel.size)⟩
      · have hz9 := sizeN_le z
        have hsz : (sizeN z == 0) = false := beq_eq_false_iff_ne.2 hz
        have hgz : 0 ≤ z ∧ z ≤ 4611686018427387904 := by
          rcases Classical.em (z < 0 ∨ 4611686018427387904 < z) with h | h
          · exact absurd (sizeN_none h) hz
          · omega
        have hlen := bytesN_length z
        clear hz
        go_wp2_with fail
        refine (size_any z _).mono ?_
        rintro e w' ⟨rfl, rfl⟩
        go_wp2_with fail
        refine (put_any z _).mono ?_
        rintro e w1 ⟨v1, rfl, hrow1, hbel1⟩
        obtain ⟨g1, cp1, hv1, hg1, hg1', hcp1, hcm1, hc1⟩ : ∃ g cap, v1 = .slice (some ⟨g, 0, none⟩) (bytesN z).length cap ∧ wr.heap.size ≤ g ∧ g < w1.heap.size ∧ (bytesN z).length ≤ cap ∧ cap ≤ maxLen ∧ ∀ i, i < (bytesN z).length → w1.cell? ⟨g, 0 + i, none⟩ = some (.int .u8 ((bytesN z).getD i 0)) := by
          rcases hrow1.shape with ⟨_, h⟩ | h
          · have := sizeN_pos hgz.1 hgz.2; rw [h] at hlen; simp at hlen; omega
          · exact h
        rw [hv1]
        clear hv1 hrow1
        have hown1 : w1.ownsRow w.heap.size 5 1 (.slice a5 (cat Z k).length cp5) (cat Z k).length ((cat Z k).map (Value.int .u8)) := HR.out.later hbel1 (Nat.le_refl _)
        have HC1 : Hid (∀ i, i < (bytesN z).length → w1.cell? ⟨g1, 0 + i, none⟩ = some (.int .u8 ((bytesN z).getD i 0))) := hc1
        clear hc1
        go_wp2_with (at_builtin; refine wpList_append_own _ rfl _ _ 22 rfl w.heap.size 5 i0 (.int .u8 0) 1 1 Try.underlying22 hi hz0 hz1 hz2 rfl (by decide) _ _ _ rfl hown1 ⟨g1, 0, none⟩ (bytesN z).length cp1 ((bytesN z).map (Value.int .u8)) rfl ?c0 ?c1 ?c2 ?c3 ?c4 ?c5 ?_)
        case c0 => simp
        case c1 => exact row_news HC1.out
        case c2 => exact ints_oneCell _ _
        case c3 => have := HL.out; unfold maxLen; omega
        case c4 => have := HL.out; omega
        case c5 => have := hbel.size; have := hbel1.size; omega
        intro v2 w2 hown2 hgrow2 _
        rw [← HZ.out] at hown2
        have R := row_step HR.out hbel hbel1 hown2 hgrow2
        clear hown2 hgrow2 hown1 hbel hbel1
        go_wp2
        go_roundw
        case rel => exact ⟨k + 1, by omega, by go_num, by rw [show k + 1 - 1 = k by omega], (fun i hi => by
            rcases Nat.lt_or_ge i k with h | h
            · exact HG.out i h
            · have e : i = k := by omega
              rw [e, HZ.out]; exact hgz), R.1, R.2⟩
        case measure => simp [intOf]; omega
    · have hkl : k = len := by omega
      subst hkl
      have hcl : (cat Z k).length ≠ 0 := by
        obtain ⟨q, hq⟩ : ∃ q, k = q + 1 := ⟨k - 1, by omega⟩
        have h1 := hgood q (by omega)
        have h2 := sizeN_pos h1.1 h1.2
        have h3 := bytesN_length (Z.getD q 0)
        rw [hq, cat, List.length_append]; omega
      obtain ⟨g5, cp5, hv5, hg5, hg5', hcp5, hcm5, hc5⟩ : ∃ g cap, u5 = .slice (some ⟨g, 0, none⟩) (cat Z k).length cap ∧ w.heap.size ≤ g ∧ g < wr.heap.size ∧ (cat Z k).length ≤ cap ∧ cap ≤ maxLen ∧ ∀ i, i < (cat Z k).length → wr.cell? ⟨g, 0 + i, none⟩ = some (.int .u8 ((cat Z k).getD i 0)) := by
        rcases hrow.shape with ⟨_, h⟩ | h
        · rw [h] at hcl; exact absurd rfl hcl
        · exact h
      subst hv5
      have HRb : Hid (Row wr w.heap.size (.slice (some ⟨g5, 0, none⟩) (cat Z k).length cp5) (cat Z k)) := hrow
      have HG : Hid (Good Z k) := hgood
      have HLe : Hid ((cat Z k).length ≤ 9 * k) := cat_length_le Z k
      clear hrow hgood
      have HC5 : Hid (∀ i, i < (cat Z k).length → (wr.alloc (.cells #[] 5)).cell? ⟨g5, 0 + i, none⟩ = some (.int .u8 ((cat Z k).getD i 0))) := fun i hi => by
        have h1 := hc5 i hi
        rw [((Below.refl wr.heap.size wr).alloc (Nat.le_refl _) _).cell (p := ⟨g5, 0 + i, none⟩) hg5']; exact h1
      clear hc5
      have hown0 := World.ownsRow_lit (base := wr.heap.size) (e := 5) (size := 1) wr #[] 0 (Nat.le_refl _) (by unfold maxLen; omega) (by simp)
      go_wp2_with (at_builtin; refine wpList_append_own _ rfl (.tmp 62) (.tmp 63) 22 rfl wr.heap.size 5 i0 (.int .u8 0) 1 1 Try.underlying22 hi hz0 hz1 hz2 rfl (by decide) _ _ _ rfl hown0 ⟨g5, 0, none⟩ (cat Z k).length cp5 ((cat Z k).map (Value.int .u8)) rfl (by simp) (row_news HC5.out) (ints_oneCell _ _) ?f3 ?f4 ?f5 ?_)
      case f3 => have := HLe.out; unfold maxLen; omega
      case f4 => have := HLe.out; omega
      intro v6 w6 hown6 hgrow6 _
      have hbel6 : Below wr.heap.size wr w6 := ((Below.refl _ _).alloc (Nat.le_refl _) _).grown hgrow6 (by simp) (fun j hj => by simp [Value.ownBlock] at hj; omega)
      clear hgrow6 hown0
      go_wp2_with (at_builtin; refine wpList_append_own _ rfl (.tmp 64) (.tmp 66) 22 rfl wr.heap.size 5 i0 (.int .u8 0) 1 1 Try.underlying22 hi hz0 hz1 hz2 rfl (by decide) _ _ _ rfl (hown6.alloc _) ⟨w6.heap.size, 0, none⟩ 1 1 [.int .u8 m] rfl rfl ?e1 ?e2 ?e3 ?e4 ?e5 ?_)
      case e1 => exact cell_one_new _ _ _
      case e2 => intro u hu; simp at hu; subst hu; rfl
      case e3 => have := HLe.out; unfold maxLen; omega
      case e4 => have := HLe.out; omega
      case e5 => have := hbel6.size; simp; omega
      intro v7 w7 hown7 hgrow7 _
      have hbel7 : Below wr.heap.size wr w7 := (hbel6.alloc hbel6.size _).grown hgrow7 (by have := hbel6.size; simp; omega) (fun j hj => (hown6.lt j hj).1)
      have hrow7 : Row w7 wr.heap.size v7 (cat Z k ++ [m]) := by unfold Row; simpa using hown7
      clear hgrow7 hown7 hown6 hbel6
      obtain ⟨g7, cp7, hv7, hg7, hg7', hcp7, hcm7, hc7⟩ : ∃ g cap, v7 = .slice (some ⟨g, 0, none⟩) ((cat Z k).length + 1) cap ∧ wr.heap.size ≤ g ∧ g < w7.heap.size ∧ (cat Z k).length + 1 ≤ cap ∧ cap ≤ maxLen ∧ ∀ i, i < (cat Z k ++ [m]).length → w7.cell? ⟨g, 0 + i, none⟩ = some (.int .u8 ((cat Z k ++ [m]).getD i 0)) := by
        have h := hrow7.shape
        rw [List.length_append, List.length_singleton] at h
        rcases h with ⟨_, h⟩ | h
        · simp at h
        · simpa using h
      rw [hv7]
      have HC7 : Hid (∀ i, i < (cat Z k ++ [m]).length → w7.cell? ⟨g7, 0 + i, none⟩ = some (.int .u8 ((cat Z k ++ [m]).getD i 0))) := hc7
      have hm7 : cp7 ≤ 9223372036854775807 := by unfold maxLen at hcm7; omega
      clear hc7 hv7 hrow7
      have hle := HLe.out
      go_wp2_with fail
      go_loop [8, 10] (fun t i => ∃ j : Nat, j ≤ k ∧ i = .int .i64 j ∧ t = .int .i64 ((cat Z j).length : Nat)) (fun _ i => k - (intOf i).toNat)
      case atStart => exact ⟨0, Nat.zero_le _, rfl, rfl⟩
      case round =>
        obtain ⟨j, hj, rfl, rfl⟩ := hrel
        by_cases hjk : j < k
        · obtain ⟨z, hz⟩ : ∃ z, Z.getD j 0 = z := ⟨_, rfl⟩
          have hcz : w7.cell? ⟨b, off + j, none⟩ = some (.int .i64 z) := by
            rw [hbel7.cell (p := ⟨b, off + j, none⟩) (Nat.lt_of_lt_of_le hb hbel.size), hbel.cell (p := ⟨b, off + j, none⟩) hb, ← hz]
            exact HC.out j hjk
          have hg := HG.out j hjk
          rw [hz] at hg
          have hs1 := sizeN_pos hg.1 hg.2
          have hs9 := (sizeN_le z).2
          have hA : ((cat Z j).length : Int) + sizeN z ≤ (cat Z k).length := by
            obtain ⟨t, ht⟩ := cat_parts Z j k hjk
            have h1 := congrArg List.length ht
            rw [List.length_append, List.length_append, hz] at h1
            have h2 := bytesN_length z
            omega
          have HA1 : Hid (((cat Z (j + 1)).length : Int) = (cat Z j).length + sizeN z) := by
            have h2 := bytesN_length z
            show ((cat Z (j + 1)).length : Int) = (cat Z j).length + sizeN z
            rw [cat, List.length_append, hz]; omega
          have HGet : Hid (Calls Try.prog 11 #[.slice (some ⟨g7, (cat Z j).length, none⟩) ((cat Z k).length + 1 - (cat Z j).length) (cp7 - (cat Z j).length)] w7 fun e w' => e = .returned (.tuple #[.int .i64 z, .int .i64 (sizeN z), .int .i64 0]) ∧ w7 = w') := by
            have hr := getR_cat Z j k [m] hjk HG.out
            rw [hz] at hr
            have hB : BytesAt w7 (some ⟨g7, (cat Z j).length, none⟩) (cp7 - (cat Z j).length) ((cat Z k ++ [m]).drop (cat Z j).length) := by
              refine ⟨?_, by omega, isBytes_drop (isBytes_append (isBytes_cat Z k) (fun x hx => by simp at hx; omega)) _, fun _ => ⟨g7, (cat Z j).length, rfl, fun i hi => ?_⟩⟩
              · rw [List.length_drop, List.length_append, List.length_singleton]; omega
              · rw [List.length_drop] at hi
                have h1 := HC7.out ((cat Z j).length + i) (by omega)
                rw [Nat.zero_add] at h1
                rw [h1, List.getD_eq_getElem?_getD, List.getD_eq_getElem?_getD, List.getElem?_drop]
            have h2 := get_any _ _ _ _ hB
            rw [List.length_drop, List.length_append, List.length_singleton] at h2
            unfold getV at h2
            rw [hr] at h2
            exact h2
          clear hz hg
          generalize (cat Z j).length = A at *
          have ez : (z != z) = false := by simp
          go_wp2_with (go_at_call 11; refine HGet.out.mono ?_; rintro e w' ⟨rfl, rfl⟩)
          go_round
          case rel => exact ⟨j + 1, by omega, by go_num, by rw [HA1.out]⟩
          case measure => simp [intOf]; omega
        · have hjk2 : j = k := by omega
          subst hjk2
          have hT : ((cat Z (j - 1)).length : Int) + 1 ≤ (cat Z j).length ∧ ((cat Z j).length : Int) ≤ (cat Z (j - 1)).length + 9 := by
            obtain ⟨q, hq⟩ : ∃ q, j = q + 1 := ⟨j - 1, by omega⟩
            have h1 := HG.out q (by omega)
            have h2 := sizeN_pos h1.1 h1.2
            have h4 := (sizeN_le (Z.getD q 0)).2
            have h3 := bytesN_length (Z.getD q 0)
            rw [show j - 1 = q by omega, hq, cat, List.length_append]; omega
          have hs0 : (0 : Int) < ((cat Z j).length : Int) - (cat Z (j - 1)).length := by omega
          obtain ⟨r, hr⟩ := Int.eq_ofNat_of_zero_le (Int.emod_nonneg (m % (((cat Z j).length : Int) - (cat Z (j - 1)).length) + (((cat Z j).length : Int) - (cat Z (j - 1)).length)) (show ((cat Z j).length : Int) - (cat Z (j - 1)).length ≠ 0 by omega))
          have hr2 := Int.emod_lt_of_pos (m % (((cat Z j).length : Int) - (cat Z (j - 1)).length) + (((cat Z j).length : Int) - (cat Z (j - 1)).length)) hs0
          rw [hr] at hr2
          have HRd : Hid (∀ wx, Calls Try.prog 13 #[.int .i64 m, .int .i64 (((cat Z j).length : Int) - (cat Z (j - 1)).length)] wx fun e w' => e = .returned (.int .i64 (r : Int)) ∧ wx = w') := by
            intro wx
            rw [show (r : Int) = _ from hr.symm]
            exact round_any m _ wx hm0 hm1 (by omega) (by omega)
          have hb5 : BytesAt w7 (some ⟨g5, (cat Z (j - 1)).length, none⟩) (cp5 - (cat Z (j - 1)).length) (((cat Z j).drop (cat Z (j - 1)).length).take r) := by
            refine ⟨?_, by omega, isBytes_take (isBytes_drop (isBytes_cat Z j) _) _, fun _ => ⟨g5, (cat Z (j - 1)).length, rfl, fun i hi => ?_⟩⟩
            · rw [List.length_take, List.length_drop]; omega
            · rw [List.length_take, List.length_drop] at hi
              have h0 := HC5.out ((cat Z (j - 1)).length + i) (by omega)
              have h1 := (((Below.refl wr.heap.size wr).alloc (Nat.le_refl _) (.cells #[] 5)).cell (p := ⟨g5, 0 + ((cat Z (j - 1)).length + i), none⟩) hg5').symm.trans h0
              rw [← hbel7.cell (p := ⟨g5, 0 + ((cat Z (j - 1)).length + i), none⟩) hg5', Nat.zero_add] at h1
              rw [h1, List.getD_eq_getElem?_getD, List.getD_eq_getElem?_getD, List.getElem?_take, if_pos (by omega), List.getElem?_drop]
          have HGet : Hid (Calls Try.prog 11 #[.slice (some ⟨g5, (cat Z (j - 1)).length, none⟩) r (cp5 - (cat Z (j - 1)).length)] w7 fun e w' => e = .returned (.tuple #[.int .i64 0, .int .i64 0, .int .i64 2]) ∧ w7 = w') := by
            have h2 := get_any _ _ _ _ hb5
            unfold getV at h2
            rw [getR_last hl HG.out (by omega), List.length_take, List.length_drop, Nat.min_eq_left (by omega)] at h2
            exact h2
          clear hb5 hr hs0
          generalize (cat Z (j - 1)).length = T at *
          generalize (cat Z j).length = L at *
          have eL : ((L : Int) == (L : Int)) = true := by simp
          go_wp2_with fail
          refine (HRd.out _).mono ?_
          rintro e w' ⟨rfl, rfl⟩
          go_wp2_with fail
          refine HGet.out.mono ?_
          rintro e w' ⟨rfl, rfl⟩
          go_wp2_with (go_at_call 10; refine (awake_any _).mono ?_; rintro e w9 ⟨rfl, hbel9⟩)
          go_ret
          exact ⟨rfl, (hbel.trans (hbel7.mono hbel.size)).trans (hbel9.mono (Nat.le_trans hbel.size hbel7.size))⟩
end Go.Proofs.Ytchfjbhhcdfobaa
