/- The document's own PointParse. -/
import Derived.Test.YtlgadelcgboeoaaDoorTRefPM
namespace Go.Proofs.YtlgadelcgboeoaaDoor
open Go.ChangeShapes Go.WideShapes Go.ChangeAt Go.RowKit

set_option maxRecDepth 100000 in
set_option maxHeartbeats 4000000 in
theorem refpparse_short (bs : List (BitVec 8)) (w : World) (hl : bs.length < 66 ∨ 67 < bs.length) :
    Calls Tryd.prog 21 #[.string (str bs)] w fun e w' => e = .returned (.tuple #[.agg (default : Pt).cs.toArray, .bool false]) ∧ Below w.heap.size w w' := by
  have hsz : (str bs).size = bs.length := str_size bs
  go_enter Tryd.func21, Tryd.ntmps21
  go_hide hQ
  go_upto_region 1 with fail
  generalize hw1 : World.alloc w _ = w1
  have hR1 : Blk w1 w.heap.size (default : Pt).cs := by rw [← hw1]; exact Blk.mk _ _ _ rfl rfl
  have hb1 : Below w.heap.size w w1 := by rw [← hw1]; exact (Below.refl _ _).alloc (Nat.le_refl _) _
  clear hw1
  generalize hN : w.heap.size = N at *
  obtain ⟨tN, hgN⟩ := hR1
  have HgN : Hid (w1.heap[N]? = _) := hgN
  have HB : Hid (Below N w w1) := hb1
  clear hgN hb1
  generalize bs.length = m at *
  rcases (show (m : Int) < 66 ∨ (¬ (m : Int) < 66 ∧ (67 : Int) < (m : Int)) by omega) with h1 | ⟨h1, h2⟩
  all_goals
    go_wp2_with (refine wpList_store_row rfl 26 _ _ rfl N (default : Pt).cs.toArray rfl rfl tN _ HgN.out size_zpt rfl (default : Pt).cs_all ?_)
    subst hQ
    refine bodyPost_ret (v := .tuple #[.agg (default : Pt).cs.toArray, .bool false]) ?_ rfl ⟨rfl, ?_⟩
    · obtain ⟨t, hb⟩ := Blk.row (ds := (default : Pt).cs) ⟨tN, HgN.out⟩
      exact results_row_tmp Tryd.results21 _ _ N t _ _ _ rfl hb Tryd.underlying26 rfl size_zpt
    · subst hN
      exact below_setRow HB.out (Nat.le_refl _) _

theorem str_take (bs : List (BitVec 8)) (k : Nat) : (str bs).extract 0 k = str (bs.take k) := by
  apply ext_data
  unfold str
  simp [List.map_take]
theorem wrap64_mid {y : Int} (h0 : -5000 ≤ y) (h1 : y ≤ 5000) : wrap64 y = y := by unfold wrap64; omega
/-- A load of a row under a guard that holds. -/
theorem wpList_load_if {P : Program} {ops : Array Oper} {rest : List Oper} {op : Oper} {a : Act} {w : World} {Q : Exit → Act → World → Prop} (hw : Region.wanted op (yielded ops a.tmps) = true) (ty : TypeId) (x : Operand) (ho : op.op = .load ty x)
    (b o : Nat) (hx : a.eval x = .pointer (some ⟨b, o, none⟩)) (cs : List Value) (d : TypeDesc) (hc : w.rangeAt b o cs)
    (hu : P.underlying ty = some d) (hd : d.isRow = true) (hi : (P.info? ty).map (·.size) = some cs.length)
    (h : wpList P ops Q rest (a.put op.dst (.agg cs.toArray)) w) : wpList P ops Q (op :: rest) a w :=
  wpList_step fun _ hK => by rw [if_pos hw]; exact wp_load_mid ty x ho b o hx cs d hc hu hd hi (hK _ _ h)
theorem valD_next (bs : List (BitVec 8)) (k : Nat) (h1 : 65 ≤ k) (h2 : k < bs.length) : valD ((bs.take (k + 1)).drop 65) = 10 * valD ((bs.take k).drop 65) + Y (bs.getD k 0) - 48 := by
  have e : bs.take (k + 1) = bs.take k ++ [bs.getD k 0] := by
    rw [List.take_succ_eq_append_getElem h2]
    simp [List.getD_eq_getElem?_getD, h2]
  rw [e, List.drop_append_of_le_length (by rw [List.length_take]; omega), valD_snoc]

set_option maxRecDepth 100000 in
set_option maxHeartbeats 4000000 in
theorem refpparse_mid (bs : List (BitVec 8)) (w : World) (h1 : 66 ≤ bs.length) (h2 : bs.length ≤ 67) :
    Calls Tryd.prog 21 #[.string (str bs)] w fun e w' => ∃ p ok, e = .returned (.tuple #[.agg (p : Pt).cs.toArray, .bool ok]) ∧ IsPoint bs p ok ∧ Below w.heap.size w w' := by
  have hsz : (str bs).size = bs.length := str_size bs
  obtain ⟨m, hm⟩ : ∃ m, m = bs.length := ⟨_, rfl⟩
  rw [← hm] at hsz h1 h2
  have HM : Hid (m = bs.length) := hm
  have g1 : (66 : Int) ≤ (m : Int) := by omega
  have g2 : (m : Int) ≤ 67 := by omega
  have g3 : (64 : Int) ≤ (m : Int) := by omega
  clear hm
  go_enter Tryd.func21, Tryd.ntmps21
  go_hide hQ
  go_upto_region 1 with fail
  generalize hw1 : World.alloc w _ = w1
  have hR1 : Blk w1 w.heap.size (default : Pt).cs := by rw [← hw1]; exact Blk.mk _ _ _ rfl rfl
  have hb1 : Below w.heap.size w w1 := by rw [← hw1]; exact (Below.refl _ _).alloc (Nat.le_refl _) _
  clear hw1
  generalize hN : w.heap.size = N at *
  have H1 : Hid (Blk w1 N (default : Pt).cs ∧ Below N w w1) := ⟨hR1, hb1⟩
  clear hR1 hb1
  go_wp2_with fail
  rw [str_take bs 64]
  refine (refparse_any (bs.take 64) w1).mono ?_
  rintro e w2 ⟨h, ok, rfl, hl, his, hb2⟩
  have H2 : Hid (Blk w2 N (default : Pt).cs ∧ Below N w w2) := ⟨H1.out.1.below hb2 H1.out.1.lt, H1.out.2.trans (hb2.mono (Nat.le_of_lt H1.out.1.lt))⟩
  have HIS : Hid (IsHash (bs.take 64) h ok) := his
  have HHL : Hid (h.length = 32) := hl
  have I1 : Hid ((Tryd.prog.info? 24).map (·.size) = some (u8s h).toArray.size) := by show _ = _; rw [show (u8s h).toArray.size = 32 by simp [hl]]; kernel_rfl
  have I2 : Hid ((Tryd.prog.info? 24).map (·.size) = some (u8s h).length) := by show _ = _; rw [u8s_length, hl]; kernel_rfl
  have I3 : Hid ((u8s zeros32).toArray.size = (u8s h).toArray.size) := by show _ = _; simp [hl, zeros32]
  clear hb2 H1 his hl
  go_upto_region 4 with (refine wpList_store_row rfl 24 _ _ rfl w2.heap.size (u8s h).toArray rfl rfl 24 (u8s zeros32).toArray (heap_alloc_new _ _) I1.out I3.out (u8s_one _) ?_)
  generalize hw4 : World.setRow _ _ _ = w4
  have hb4 : Below w2.heap.size w2 w4 := by rw [← hw4]; exact below_setRow ((Below.refl _ _).alloc (Nat.le_refl _) _) (Nat.le_refl _) _
  have hX4 : Blk w4 w2.heap.size (u8s h) := by rw [← hw4]; exact Blk.row (cs := u8s zeros32) (Blk.mk _ _ _ rfl rfl)
  have H4 : Hid (Blk w4 N (default : Pt).cs ∧ Below N w w4) := ⟨H2.out.1.below hb4 H2.out.1.lt, H2.out.2.trans (hb4.mono (Nat.le_of_lt H2.out.1.lt))⟩
  have HX4 : Hid (Blk w4 w2.heap.size (u8s h)) := hX4
  clear hw4 hb4 hX4 H2
  generalize w2.heap.size = M at *
  go_wp2_with fail
  go_loopw [6, 7] (fun a i wr => ∃ (k : Nat) (v : Int), 65 ≤ k ∧ k ≤ m ∧ i = .int .i64 k ∧ a = .int .i64 v ∧ Hid (v = valD ((bs.take k).drop 65)) ∧ (k < 67 → -48 ≤ v ∧ v ≤ 207) ∧ (k < 66 → v = 0) ∧ wr = w4) (fun _ i _ => m - (intOf i).toNat)
  case atStart => exact ⟨65, 0, by omega, by omega, rfl, rfl, by show _ = _; rw [List.drop_of_length_le (by rw [List.length_take]; omega)]; rfl, fun _ => by omega, fun _ => rfl, rfl⟩
  case round =>
    obtain ⟨k, v, hk1, hk2, rfl, rfl, HV, hv1, hv0, rfl⟩ := hrel
    by_cases hlt : k < m
    · have e0 : (65 : Int) ≤ (k : Int) := by omega
      have e1 : (k : Int) < (m : Int) := by omega
      have hv2 := hv1 (by omega)
      obtain ⟨b0, b1⟩ := hv2
      obtain ⟨c, hc⟩ : ∃ c, c = bs.getD k 0 := ⟨_, rfl⟩
      have HCG : Hid (bs.getD k 0 = c) := hc.symm
      have HV2 : Hid (10 * v + Y c - 48 = valD ((bs.take (k + 1)).drop 65)) := by
        show _ = _
        rw [valD_next bs k hk1 (by rw [← HM.out]; exact hlt), ← HV.out, HCG.out]
      have HB : Hid ((k + 1 < 67 → -48 ≤ 10 * v + Y c - 48 ∧ 10 * v + Y c - 48 ≤ 207) ∧ (k + 1 < 66 → 10 * v + Y c - 48 = 0)) := by
        have := Y_lo c
        have := Y_hi c
        exact ⟨fun h => by have := hv0 (by omega); omega, fun h => by omega⟩
      clear hc hv1 hv0 HV
      go_wp2_with fail
      rw [str_at, HCG.out]
      have y0 := Y_lo c
      have y1 := Y_hi c
      have hwr : wrap64 (wrap64 (10 * v + wrap64 (Y c)) - 48) = 10 * v + Y c - 48 := by
        rw [wrap64_small y0 y1, wrap64_mid (y := 10 * v + Y c) (by omega) (by omega), wrap64_mid (by omega) (by omega)]
      rw [hwr]
      exact ⟨⟨k + 1, 10 * v + Y c - 48, by omega, by omega, by go_num, rfl, HV2, HB.out.1, HB.out.2, trivial⟩, by simp [intOf]; omega⟩
    · obtain rfl : k = m := by omega
      have e1 : ¬ (k : Int) < (k : Int) := by omega
      obtain ⟨p, hp1, hp2⟩ : ∃ p : Pt, p.tx = h ∧ p.n = v := ⟨⟨h, v, HHL.out⟩, rfl, rfl⟩
      have HPV : Hid (p.tx = h ∧ p.n = valD (bs.drop 65)) := ⟨hp1, by rw [hp2, HV.out, List.take_of_length_le (by rw [← HM.out]; exact Nat.le_refl _)]⟩
      have HLB : Hid (66 ≤ bs.length) := by show _ ≤ _; rw [← HM.out]; exact h1
      subst hp1; subst hp2
      clear HV hv1 hv0
      have HU := und_pt
      go_upto_region 10 with (first
        | (refine wpList_load_mid rfl 24 _ rfl M 0 rfl (u8s p.tx) _ HX4.out.whole Tryd.underlying24 rfl I2.out ?_)
        | (refine wpList_build_pt rfl _ _ rfl p rfl rfl ?_)
        | (refine wpList_store_row rfl 26 _ _ rfl wr.heap.size p.cs.toArray rfl rfl 26 (default : Pt).cs.toArray (heap_alloc_new _ _) (size_pta p) (by rw [List.size_toArray, List.size_toArray, Pt.cs_length, Pt.cs_length]) p.cs_all ?_))
      generalize hw6 : World.setRow _ _ _ = w6
      have hb6 : Below wr.heap.size wr w6 := by rw [← hw6]; exact below_setRow ((Below.refl _ _).alloc (Nat.le_refl _) _) (Nat.le_refl _) _
      have hX6 : Blk w6 wr.heap.size p.cs := by rw [← hw6]; exact Blk.row (cs := (default : Pt).cs) (Blk.mk _ _ _ rfl rfl)
      have H6 : Hid (Blk w6 N (default : Pt).cs ∧ Below N w w6 ∧ Blk w6 wr.heap.size p.cs) := ⟨H4.out.1.below hb6 H4.out.1.lt, H4.out.2.trans (hb6.mono (Nat.le_of_lt H4.out.1.lt)), hX6⟩
      clear hw6 hb6 hX6 H4 HX4 I1 I2 I3
      generalize wr.heap.size = L at *
      have ip := size_pt p
      have IP : Hid ((Tryd.prog.info? 26).map (·.size) = some p.cs.length) := ip
      clear ip
      simp only [Act.put]
      cases ok with
      | false =>
        obtain ⟨tN, hgN⟩ := H6.out.1
        have HgN : Hid (w6.heap[N]? = _) := hgN
        have HIP : Hid (IsPoint bs default false) := no_point_ref HIS.out
        clear hgN
        go_wp2_with (refine wpList_store_row rfl 26 _ _ rfl N (default : Pt).cs.toArray rfl rfl tN _ HgN.out size_zpt rfl (default : Pt).cs_all ?_)
        subst hQ
        refine bodyPost_ret (v := .tuple #[.agg (default : Pt).cs.toArray, .bool false]) ?_ rfl ⟨default, false, rfl, HIP.out, ?_⟩
        · obtain ⟨t, hb⟩ := Blk.row (ds := (default : Pt).cs) ⟨tN, HgN.out⟩
          exact results_row_tmp Tryd.results21 _ _ N t _ _ _ rfl hb Tryd.underlying26 rfl size_zpt
        · subst hN
          exact below_setRow H6.out.2.1 (Nat.le_refl _) _
      | true =>
        have HIP : Hid ((txt p = bs → IsPoint bs p true) ∧ (txt p ≠ bs → IsPoint bs default false)) := ref_point p HPV.out HLB.out HIS.out
        go_wp2_with (refine wpList_load_if (by rfl) 26 _ rfl L 0 rfl p.cs _ H6.out.2.2.whole HU.out rfl IP.out ?_)
        refine (refptext_any p w6).mono ?_
        rintro e w7 ⟨rfl, hb7⟩
        have H7 : Hid (Blk w7 N (default : Pt).cs ∧ Below N w w7 ∧ Blk w7 L p.cs) := ⟨H6.out.1.below hb7 H6.out.1.lt, H6.out.2.1.trans (hb7.mono (Nat.le_of_lt H6.out.1.lt)), H6.out.2.2.below hb7 H6.out.2.2.lt⟩
        clear hb7 H6
        obtain ⟨tN, hgN⟩ := H7.out.1
        have HgN : Hid (w7.heap[N]? = _) := hgN
        clear hgN
        by_cases heq : txt p = bs
        · have HI : Hid (IsPoint bs p true) := HIP.out.1 heq
          rw [heq]
          clear heq HIP
          go_wp2_with (first
            | (refine wpList_load_mid rfl 26 _ rfl L 0 rfl p.cs _ H7.out.2.2.whole HU.out rfl IP.out ?_)
            | (refine wpList_store_row rfl 26 _ _ rfl N p.cs.toArray rfl rfl tN _ HgN.out (size_pta p) (by rw [List.size_toArray, List.size_toArray, Pt.cs_length, Pt.cs_length]) p.cs_all ?_))
          subst hQ
          refine bodyPost_ret (v := .tuple #[.agg p.cs.toArray, .bool true]) ?_ rfl ⟨p, true, rfl, HI.out, ?_⟩
          · obtain ⟨t, hb⟩ := Blk.row (ds := p.cs) ⟨tN, HgN.out⟩
            exact results_row_tmp Tryd.results21 _ _ N t _ _ _ rfl hb Tryd.underlying26 rfl (size_pta p)
          · subst hN
            exact below_setRow H7.out.2.1 (Nat.le_refl _) _
        · have HI : Hid (IsPoint bs default false) := HIP.out.2 heq
          have hne : ((str (txt p)).toList == (str bs).toList) = false := by
            rw [str_list, str_list]
            exact beq_eq_false_iff_ne.2 fun h => heq (by rw [← back8 (txt p), ← back8 bs]; exact congrArg _ h)
          clear heq HIP
          generalize str (txt p) = s1 at *
          go_wp2_with (refine wpList_store_row rfl 26 _ _ rfl N (default : Pt).cs.toArray rfl rfl tN _ HgN.out size_zpt rfl (default : Pt).cs_all ?_)
          subst hQ
          refine bodyPost_ret (v := .tuple #[.agg (default : Pt).cs.toArray, .bool false]) ?_ rfl ⟨default, false, rfl, HI.out, ?_⟩
          · obtain ⟨t, hb⟩ := Blk.row (ds := (default : Pt).cs) ⟨tN, HgN.out⟩
            exact results_row_tmp Tryd.results21 _ _ N t _ _ _ rfl hb Tryd.underlying26 rfl size_zpt
          · subst hN
            exact below_setRow H7.out.2.1 (Nat.le_refl _) _
theorem refpparse_any (bs : List (BitVec 8)) (w : World) :
    Calls Tryd.prog 21 #[.string (str bs)] w fun e w' => ∃ p ok, e = .returned (.tuple #[.agg (p : Pt).cs.toArray, .bool ok]) ∧ IsPoint bs p ok ∧ Below w.heap.size w w' := by
  by_cases h : bs.length < 66 ∨ 67 < bs.length
  · exact (refpparse_short bs w h).mono fun _ _ ⟨he, hb⟩ => ⟨default, false, he, no_point_len h, hb⟩
  · exact refpparse_mid bs w (by omega) (by omega)
end Go.Proofs.YtlgadelcgboeoaaDoor
