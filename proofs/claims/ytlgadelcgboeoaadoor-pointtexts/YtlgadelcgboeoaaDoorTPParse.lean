/- point.Parse of whatever text. -/
import Derived.Test.YtlgadelcgboeoaaDoorTCut
namespace Go.Proofs.YtlgadelcgboeoaaDoor
open Go.ChangeShapes Go.WideShapes Go.ChangeAt Go.RowKit

theorem cutC_len (bs : List (BitVec 8)) : (cutC bs).length ≤ bs.length := by
  unfold cutC Go.Lib.cut
  rw [List.length_map]
  split
  · simp only [List.length_drop]; unfold un8; rw [List.length_map]; omega
  · simp
theorem no_point_hash {bs h : List (BitVec 8)} (hh : IsHash (cutA bs) h false) : IsPoint bs default false :=
  .inr ⟨rfl, rfl, fun q hq e => by
    rcases hh with ⟨h1, _⟩ | ⟨_, _, hn⟩
    · cases h1
    · exact hn q.tx q.len (by rw [← e, (cut_txt hq).1])⟩
theorem no_point_num {bs : List (BitVec 8)} (hn : ∀ m, atoi8 (cutC bs) ≠ .ok m) : IsPoint bs default false :=
  .inr ⟨rfl, rfl, fun q hq e => hn _ (by rw [← e, (cut_txt hq).2]; exact atoi_dec _ (by have := hq.1; have := hq.2; omega))⟩
theorem is_point {bs h : List (BitVec 8)} {n : Int} (p : Pt) (hp : p.tx = h ∧ p.n = n) (hh : IsHash (cutA bs) h true) (hn : atoi8 (cutC bs) = .ok n) : (txt p = bs → IsPoint bs p true) ∧ (txt p ≠ bs → IsPoint bs default false) := by
  rcases hh with ⟨_, hl, he⟩ | ⟨h1, _⟩
  · refine ⟨fun e => ?_, fun hne => .inr ⟨rfl, rfl, fun q hq e => hne ?_⟩⟩
    · by_cases hok : p.ok
      · exact .inl ⟨rfl, hok, e⟩
      · rw [txt_bad hok] at e
        subst e
        have := congrArg List.length he
        rw [hexT_length, hl] at this
        exact absurd this (by decide)
    · rw [← e, (cut_txt hq).1] at he
      rw [← e, (cut_txt hq).2, atoi_dec _ (by have := hq.1; have := hq.2; omega)] at hn
      injection hn with hn
      have : p = q := Pt.ext (by rw [hp.1]; exact hexT_inj he) (by rw [hp.2, ← hn]; have := hq.1; omega)
      rw [this]; exact e
  · cases h1

theorem str_inj {a b : List (BitVec 8)} (h : str a = str b) : a = b := by
  have := congrArg (fun s : ByteArray => s.data.toList) h
  simp only [un8_str] at this
  rw [← back8 a, this, back8]
theorem built_range (g : Nat → BitVec 8) (n : Int) : Tryd.prog.built 26 [(0, .agg (u8s ((List.range 32).map g)).toArray), (1, .int .i64 n)] = some (u8s ((List.range 32).map g) ++ [Value.int .i64 n]).toArray := by kernel_rfl
theorem as_range (h : List (BitVec 8)) (hl : h.length = 32) : (List.range 32).map (fun i => h.getD i 0) = h := by
  apply List.ext_getElem
  · simp [hl]
  · intro i h1 h2
    simp [List.getD_eq_getElem?_getD, h2]
theorem built_pt (p : Pt) : Tryd.prog.built 26 [(0, .agg (u8s p.tx).toArray), (1, .int .i64 p.n)] = some p.cs.toArray := by
  have := built_range (fun i => p.tx.getD i 0) p.n
  rw [as_range p.tx p.len] at this
  exact this
theorem wpList_build_pt {ops : Array Oper} {rest : List Oper} {o : Oper} {a : Act} {w : World} {Q : Exit → Act → World → Prop} (hg : o.guard = none) (x y : Operand) (ho : o.op = .build 26 #[(0, x), (1, y)]) (p : Pt) (hx : a.eval x = .agg (u8s p.tx).toArray) (hy : a.eval y = .int .i64 p.n)
    (h : wpList Tryd.prog ops Q rest (a.put o.dst (.agg p.cs.toArray)) w) : wpList Tryd.prog ops Q (o :: rest) a w := by
  have e : ((#[(0, x), (1, y)] : Array (Nat × Operand)).map fun (i, x) => (i, a.eval x)).toList = [(0, .agg (u8s p.tx).toArray), (1, .int .i64 p.n)] := by rw [Array.toList_map]; simp [hx, hy]
  refine wpList_build hg 26 _ ho ?_ ?_
  · rw [e, built_pt]; rfl
  · rw [e, built_pt]; exact h

set_option maxRecDepth 100000 in
set_option maxHeartbeats 4000000 in
theorem pparse_any (bs : List (BitVec 8)) (w : World) (hs : bs.length ≤ 1000) (hm : Mx w) (hv : Vr w) :
    Calls Tryd.prog 20 #[.string (str bs)] w fun e w' => ∃ p ok, e = .returned (.tuple #[.agg (p : Pt).cs.toArray, .bool ok]) ∧ IsPoint bs p ok ∧ Below w.heap.size w w' := by
  have HM : Hid (Mx w ∧ Vr w) := ⟨hm, hv⟩
  have HLN : Hid ((cutC bs).length ≤ 1000) := Nat.le_trans (cutC_len bs) hs
  clear hm hv
  go_enter Tryd.func20, Tryd.ntmps20
  go_hide hQ
  go_upto_region 1 with fail
  generalize hw1 : World.alloc w _ = w1
  have hR1 : Blk w1 w.heap.size (default : Pt).cs := by rw [← hw1]; exact Blk.mk _ _ _ rfl rfl
  have hb1 : Below w.heap.size w w1 := by rw [← hw1]; exact (Below.refl _ _).alloc (Nat.le_refl _) _
  clear hw1
  have HM1 : Hid (Mx w1 ∧ Vr w1) := ⟨HM.out.1.below hb1, HM.out.2.below hb1⟩
  generalize hN : w.heap.size = N at *
  have H1 : Hid (Blk w1 N (default : Pt).cs ∧ Below N w w1) := ⟨hR1, hb1⟩
  clear hR1 hb1 HM
  go_wp2_with fail
  refine (cutb_any bs w1 hs HM1.out.1).mono ?_
  rintro e w2 ⟨bb, rfl, hb2⟩
  have H2 : Hid (Blk w2 N (default : Pt).cs ∧ Below N w w2 ∧ Vr w2) := ⟨H1.out.1.below hb2 H1.out.1.lt, H1.out.2.trans (hb2.mono (Nat.le_of_lt H1.out.1.lt)), HM1.out.2.below hb2⟩
  clear hb2 H1 HM1 hs
  go_wp2_with fail
  refine (shaparse_any (cutA bs) w2).mono ?_
  rintro e w3 ⟨h, ok, rfl, hl, his, hb3⟩
  have H3 : Hid (Blk w3 N (default : Pt).cs ∧ Below N w w3 ∧ Vr w3) := ⟨H2.out.1.below hb3 H2.out.1.lt, H2.out.2.1.trans (hb3.mono (Nat.le_of_lt H2.out.1.lt)), H2.out.2.2.below hb3⟩
  have HIS : Hid (IsHash (cutA bs) h ok) := his
  have HHL : Hid (h.length = 32) := hl
  have I1 : Hid ((Tryd.prog.info? 24).map (·.size) = some (u8s h).toArray.size) := by show _ = _; rw [show (u8s h).toArray.size = 32 by simp [hl]]; kernel_rfl
  have I2 : Hid ((Tryd.prog.info? 24).map (·.size) = some (u8s h).length) := by show _ = _; rw [u8s_length, hl]; kernel_rfl
  have I3 : Hid ((u8s zeros32).toArray.size = (u8s h).toArray.size) := by show _ = _; simp [hl, zeros32]
  clear hb3 H2 his hl
  go_upto_region 3 with (refine wpList_store_row rfl 24 _ _ rfl w3.heap.size (u8s h).toArray rfl rfl 24 (u8s zeros32).toArray (heap_alloc_new _ _) I1.out I3.out (u8s_one _) ?_)
  generalize hw4 : World.setRow _ _ _ = w4
  have hb4 : Below w3.heap.size w3 w4 := by rw [← hw4]; exact below_setRow ((Below.refl _ _).alloc (Nat.le_refl _) _) (Nat.le_refl _) _
  have hX4 : Blk w4 w3.heap.size (u8s h) := by rw [← hw4]; exact Blk.row (cs := u8s zeros32) (Blk.mk _ _ _ rfl rfl)
  have H4 : Hid (Blk w4 N (default : Pt).cs ∧ Below N w w4 ∧ Vr w4) := ⟨H3.out.1.below hb4 H3.out.1.lt, H3.out.2.1.trans (hb4.mono (Nat.le_of_lt H3.out.1.lt)), H3.out.2.2.below hb4⟩
  have HX4 : Hid (Blk w4 w3.heap.size (u8s h)) := hX4
  clear hw4 hb4 hX4 H3
  generalize w3.heap.size = M at *
  cases ok with
  | false =>
    obtain ⟨tN, hgN⟩ := H4.out.1
    have HgN : Hid (w4.heap[N]? = _) := hgN
    have HIP : Hid (IsPoint bs default false) := no_point_hash HIS.out
    clear hgN
    go_wp2_with (refine wpList_store_row rfl 26 _ _ rfl N (default : Pt).cs.toArray rfl rfl tN _ HgN.out size_zpt rfl (default : Pt).cs_all ?_)
    subst hQ
    refine bodyPost_ret (v := .tuple #[.agg (default : Pt).cs.toArray, .bool false]) ?_ rfl ⟨default, false, rfl, HIP.out, ?_⟩
    · obtain ⟨t, hb⟩ := Blk.row (ds := (default : Pt).cs) ⟨tN, HgN.out⟩
      exact results_row_tmp Tryd.results20 _ _ N t _ _ _ rfl hb Tryd.underlying26 rfl size_zpt
    · subst hN
      exact below_setRow H4.out.2.1 (Nat.le_refl _) _
  | true =>
    go_wp2_with fail
    refine (atoi_any (cutC bs) w4 HLN.out H4.out.2.2).mono ?_
    rintro e w5 ⟨n, err, rfl, hn, hb5⟩
    have H5 : Hid (Blk w5 N (default : Pt).cs ∧ Below N w w5 ∧ Blk w5 M (u8s h)) := ⟨H4.out.1.below hb5 H4.out.1.lt, H4.out.2.1.trans (hb5.mono (Nat.le_of_lt H4.out.1.lt)), HX4.out.below hb5 HX4.out.lt⟩
    clear hb5 H4 HX4
    rcases hn with ⟨rfl, hn⟩ | ⟨⟨t, v, rfl⟩, hn⟩
    · have HNU : Hid (atoi8 (cutC bs) = .ok n) := hn
      clear hn
      obtain ⟨p, hp1, hp2⟩ : ∃ p : Pt, p.tx = h ∧ p.n = n := ⟨⟨h, n, HHL.out⟩, rfl, rfl⟩
      have HIP : Hid ((txt p = bs → IsPoint bs p true) ∧ (txt p ≠ bs → IsPoint bs default false)) := is_point p ⟨hp1, hp2⟩ HIS.out HNU.out
      subst hp1; subst hp2
      have HU := und_pt
      go_upto_region 9 with (first
        | (refine wpList_load_mid rfl 24 _ rfl M 0 rfl (u8s p.tx) _ H5.out.2.2.whole Tryd.underlying24 rfl I2.out ?_)
        | (refine wpList_build_pt rfl _ _ rfl p rfl rfl ?_)
        | (refine wpList_store_row rfl 26 _ _ rfl w5.heap.size p.cs.toArray rfl rfl 26 (default : Pt).cs.toArray (heap_alloc_new _ _) (size_pta p) (by rw [List.size_toArray, List.size_toArray, Pt.cs_length, Pt.cs_length]) p.cs_all ?_))
      generalize hw6 : World.setRow _ _ _ = w6
      have hb6 : Below w5.heap.size w5 w6 := by rw [← hw6]; exact below_setRow ((Below.refl _ _).alloc (Nat.le_refl _) _) (Nat.le_refl _) _
      have hX6 : Blk w6 w5.heap.size p.cs := by rw [← hw6]; exact Blk.row (cs := (default : Pt).cs) (Blk.mk _ _ _ rfl rfl)
      have H6 : Hid (Blk w6 N (default : Pt).cs ∧ Below N w w6 ∧ Blk w6 w5.heap.size p.cs) := ⟨H5.out.1.below hb6 H5.out.1.lt, H5.out.2.1.trans (hb6.mono (Nat.le_of_lt H5.out.1.lt)), hX6⟩
      clear hw6 hb6 hX6 H5 HIS HNU I1 I2 I3
      generalize w5.heap.size = L at *
      have ip := size_pt p
      have IP : Hid ((Tryd.prog.info? 26).map (·.size) = some p.cs.length) := ip
      clear ip
      simp only [Act.put]
      go_wp2_with (refine wpList_load_mid rfl 26 _ rfl L 0 rfl p.cs _ H6.out.2.2.whole HU.out rfl IP.out ?_)
      refine (ptext_any p w6).mono ?_
      rintro e w7 ⟨rfl, hb7⟩
      have H7 : Hid (Blk w7 N (default : Pt).cs ∧ Below N w w7 ∧ Blk w7 L p.cs) := ⟨H6.out.1.below hb7 H6.out.1.lt, H6.out.2.1.trans (hb7.mono (Nat.le_of_lt H6.out.1.lt)), H6.out.2.2.below hb7 H6.out.2.2.lt⟩
      clear hb7 H6
      obtain ⟨tN, hgN⟩ := H7.out.1
      have HgN : Hid (w7.heap[N]? = _) := hgN
      clear hgN
      by_cases heq : txt p = bs
      · have HI : Hid (IsPoint bs p true) := HIP.out.1 heq
        rw [heq]
        clear heq HIP
        go_wp2_with (first
          | (refine wpList_load_mid rfl 26 _ rfl L 0 rfl p.cs _ H7.out.2.2.whole HU.out rfl IP.out ?_)
          | (refine wpList_store_row rfl 26 _ _ rfl N p.cs.toArray rfl rfl tN _ HgN.out (size_pta p) (by rw [List.size_toArray, List.size_toArray, Pt.cs_length, Pt.cs_length]) p.cs_all ?_))
        subst hQ
        refine bodyPost_ret (v := .tuple #[.agg p.cs.toArray, .bool true]) ?_ rfl ⟨p, true, rfl, HI.out, ?_⟩
        · obtain ⟨t, hb⟩ := Blk.row (ds := p.cs) ⟨tN, HgN.out⟩
          exact results_row_tmp Tryd.results20 _ _ N t _ _ _ rfl hb Tryd.underlying26 rfl (size_pta p)
        · subst hN
          exact below_setRow H7.out.2.1 (Nat.le_refl _) _
      · have HI : Hid (IsPoint bs default false) := HIP.out.2 heq
        have hne : ((str (txt p)).toList == (str bs).toList) = false := by
          rw [str_list, str_list]
          exact beq_eq_false_iff_ne.2 fun h => heq (by rw [← back8 (txt p), ← back8 bs]; exact congrArg _ h)
        clear heq HIP
        generalize str (txt p) = s1 at *
        go_wp2_with (refine wpList_store_row rfl 26 _ _ rfl N (default : Pt).cs.toArray rfl rfl tN _ HgN.out size_zpt rfl (default : Pt).cs_all ?_)
        subst hQ
        refine bodyPost_ret (v := .tuple #[.agg (default : Pt).cs.toArray, .bool false]) ?_ rfl ⟨default, false, rfl, HI.out, ?_⟩
        · obtain ⟨t, hb⟩ := Blk.row (ds := (default : Pt).cs) ⟨tN, HgN.out⟩
          exact results_row_tmp Tryd.results20 _ _ N t _ _ _ rfl hb Tryd.underlying26 rfl size_zpt
        · subst hN
          exact below_setRow H7.out.2.1 (Nat.le_refl _) _
    · obtain ⟨tN, hgN⟩ := H5.out.1
      have HgN : Hid (w5.heap[N]? = _) := hgN
      have HIP : Hid (IsPoint bs default false) := no_point_num hn
      clear hgN hn
      go_wp2_with (refine wpList_store_row rfl 26 _ _ rfl N (default : Pt).cs.toArray rfl rfl tN _ HgN.out size_zpt rfl (default : Pt).cs_all ?_)
      subst hQ
      refine bodyPost_ret (v := .tuple #[.agg (default : Pt).cs.toArray, .bool false]) ?_ rfl ⟨default, false, rfl, HIP.out, ?_⟩
      · obtain ⟨t, hb⟩ := Blk.row (ds := (default : Pt).cs) ⟨tN, HgN.out⟩
        exact results_row_tmp Tryd.results20 _ _ N t _ _ _ rfl hb Tryd.underlying26 rfl size_zpt
      · subst hN
        exact below_setRow H5.out.2.1 (Nat.le_refl _) _
end Go.Proofs.YtlgadelcgboeoaaDoor
