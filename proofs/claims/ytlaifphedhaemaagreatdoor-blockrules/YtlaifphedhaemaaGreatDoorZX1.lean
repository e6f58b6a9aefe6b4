/- tx.within, tx.witnessFits, tx.inFits, tx.scriptFits. tx.inFits, tx.scriptFits. tx.prevs, tx.values, tx.doubled. tx.values, tx.doubled. tx.Check, whatever the transaction. -/
import Derived.Test.YtlaifphedhaemaaGreatDoorZQ1
import Derived.OwnWalk
import Derived.Test.YtlaifphedhaemaaGreatDoorZM1
namespace Go.Proofs.YtlaifphedhaemaaGreatDoor
open Go.ChangeShapes Go.WideShapes Go.ChangeAt Go.RowKit

def wi (n lo hi : Int) : Bool := decide (lo ≤ n ∧ n ≤ hi)
theorem within_any (n lo hi : Int) (w : World) :
    Calls Tryz.prog 95 #[.int .i64 n, .int .i64 lo, .int .i64 hi] w fun e w' => e = .returned (.bool (wi n lo hi)) ∧ w = w' := by
  unfold wi
  by_cases h0 : lo ≤ n
  · by_cases h1 : n ≤ hi
    · rw [decide_eq_true (show lo ≤ n ∧ n ≤ hi from ⟨h0, h1⟩)]
      go_enter Tryz.func95, Tryz.ntmps95
      go_wp2
      go_ret
      exact ⟨rfl, rfl⟩
    · rw [decide_eq_false (show ¬ (lo ≤ n ∧ n ≤ hi) from fun h => h1 h.2)]
      go_enter Tryz.func95, Tryz.ntmps95
      go_wp2
      go_ret
      exact ⟨rfl, rfl⟩
  · rw [decide_eq_false (show ¬ (lo ≤ n ∧ n ≤ hi) from fun h => h0 h.1)]
    go_enter Tryz.func95, Tryz.ntmps95
    go_wp2
    go_ret
    exact ⟨rfl, rfl⟩

/-- May a witness be? -/
def witOK (kind key : Int) (size : Nat) : Bool := wi kind 1 4 && wi key 0 1073741824 && (if kind = 2 then wi size 1 64 else wi size 0 0)
set_option maxHeartbeats 2000000 in
theorem witnessFits_any (kind key : Int) (pre : ByteArray) (w : World) :
    Calls Tryz.prog 115 #[.agg #[.int .i64 kind, .int .i64 key, .string pre]] w fun e w' => e = .returned (.bool (witOK kind key pre.size)) ∧ Below w.heap.size w w' := by
  have HB : Hid (Below w.heap.size w (w.alloc (.cells #[.int .i64 kind, .int .i64 key, .string pre] 55))) := (Below.refl _ _).alloc (Nat.le_refl _) _
  unfold witOK
  have H1 := within_any kind 1 4
  have H2 := within_any key 0 1073741824
  by_cases hk : kind = 2
  · subst hk
    rw [if_pos rfl]
    have H3 := within_any pre.size 1 64
    generalize wi 2 1 4 = p1 at *
    generalize wi key 0 1073741824 = p2 at *
    generalize wi pre.size 1 64 = p3 at *
    have G1 : Hid _ := H1
    have G2 : Hid _ := H2
    have G3 : Hid _ := H3
    clear H1 H2 H3
    cases p1 <;> cases p2 <;> cases p3
    all_goals
      go_enter Tryz.func115, Tryz.ntmps115
      go_wp2_with fail
      refine Calls.mono (G1.out _) ?_
      rintro e w' ⟨rfl, rfl⟩
      try (go_wp2_with fail; refine Calls.mono (G2.out _) ?_; rintro e w' ⟨rfl, rfl⟩)
      try (go_wp2_with fail; refine Calls.mono (G3.out _) ?_; rintro e w' ⟨rfl, rfl⟩)
      go_wp2_with fail
      go_ret
      exact ⟨rfl, HB.out⟩
  · rw [if_neg hk]
    have hk2 : (kind == 2) = false := beq_eq_false_iff_ne.2 hk
    have H3 := within_any pre.size 0 0
    generalize wi kind 1 4 = p1 at *
    generalize wi key 0 1073741824 = p2 at *
    generalize wi pre.size 0 0 = p3 at *
    have G1 : Hid _ := H1
    have G2 : Hid _ := H2
    have G3 : Hid _ := H3
    clear H1 H2 H3 hk
    cases p1 <;> cases p2 <;> cases p3
    all_goals
      go_enter Tryz.func115, Tryz.ntmps115
      go_wp2_with fail
      refine Calls.mono (G1.out _) ?_
      rintro e w' ⟨rfl, rfl⟩
      try (go_wp2_with fail; refine Calls.mono (G2.out _) ?_; rintro e w' ⟨rfl, rfl⟩)
      try (go_wp2_with fail; refine Calls.mono (G3.out _) ?_; rintro e w' ⟨rfl, rfl⟩)
      go_wp2_with fail
      go_ret
      exact ⟨rfl, HB.out⟩
end Go.Proofs.YtlaifphedhaemaaGreatDoor
namespace Go.Proofs.YtlaifphedhaemaaGreatDoor
open Go.ChangeShapes Go.WideShapes Go.ChangeAt Go.RowKit

theorem within_is (n lo hi : Int) (w : World) (b : Bool) (h : wi n lo hi = b) :
    Calls Tryz.prog 95 #[.int .i64 n, .int .i64 lo, .int .i64 hi] w fun e w' => e = .returned (.bool b) ∧ w = w' := by
  rw [← h]; exact within_any n lo hi w
/-- May an input be, but for the others? -/
def inOK (x : In) : Bool := wi x.prev.n 0 99 && wi x.seq 0 65535 && witOK x.kind x.key x.pre.size
set_option maxRecDepth 100000 in
set_option maxHeartbeats 2000000 in
theorem inFits_any (x : In) (w : World) :
    Calls Tryz.prog 92 #[.agg x.cs.toArray] w fun e w' => e = .returned (.bool (inOK x)) ∧ Below w.heap.size w w' := by
  have HOK : Hid (inOK x = (wi x.prev.n 0 99 && wi x.seq 0 65535 && witOK x.kind x.key x.pre.size)) := show _ = _ from rfl
  have HW : Hid (∀ w, Calls Tryz.prog 115 #[.agg #[.int .i64 x.kind, .int .i64 x.key, .string x.pre]] w fun e w' => e = .returned (.bool (witOK x.kind x.key x.pre.size)) ∧ Below w.heap.size w w') := fun w => witnessFits_any x.kind x.key x.pre w
  cases h1 : wi x.prev.n 0 99
  all_goals
    cases h2 : wi x.seq 0 65535
    all_goals
      rw [h1, h2] at HOK
      go_enter Tryz.func92, Tryz.ntmps92
      go_upto_region 1 with fail
      generalize hw1 : World.alloc w _ = w1
      have hA1 : Blk w1 w.heap.size x.cs := by rw [← hw1]; exact Blk.new _ _ _
      have HB1 : Hid (Below w.heap.size w w1) := by rw [← hw1]; exact (Below.refl _ _).alloc (Nat.le_refl _) _
      clear hw1
      have c1 := hA1.one x.n_at
      have c2 := hA1.one x.seq_at
      have c3 := hA1.one x.kind_at
      have c4 := hA1.one x.key_at
      have c5 := hA1.one x.pre_at
      clear hA1
      go_wp2_with (go_at_call 95; refine (within_is _ _ _ _ _ (by assumption)).mono ?_; rintro e w' ⟨rfl, rfl⟩)
      first
      | (go_ret; exact ⟨ret_bool HOK.out.symm, HB1.out⟩)
      | (refine Calls.mono (HW.out _) ?_
         rintro e w2 ⟨rfl, hb2⟩
         generalize witOK x.kind x.key x.pre.size = p at *
         have hs := HB1.out.size
         go_wp2_with fail
         go_ret
         exact ⟨ret_bool HOK.out.symm, HB1.out.trans (hb2.mono hs)⟩)

/-- May a script be? -/
def scrOK (s : Scr) : Bool := wi s.kind 1 6 && (wi s.key 0 1073741824 && wi s.other 0 1073741824 && wi s.rev 0 1073741824) && (wi s.delay 0 65535 && wi s.expiry 0 1000000)
theorem Scr.get (s : Scr) : s.cs[0]? = some (.int .i64 s.kind) ∧ s.cs[1]? = some (.int .i64 s.key) ∧ s.cs[2]? = some (.int .i64 s.other) ∧ s.cs[3]? = some (.int .i64 s.rev) ∧ s.cs[4]? = some (.int .i64 s.delay) ∧ s.cs[5]? = some (.int .i64 s.expiry) := ⟨rfl, rfl, rfl, rfl, rfl, rfl⟩
set_option maxRecDepth 100000 in
set_option maxHeartbeats 4000000 in
theorem scriptFits_any (s : Scr) (w : World) :
    Calls Tryz.prog 94 #[.agg s.cs.toArray] w fun e w' => e = .returned (.bool (scrOK s)) ∧ Below w.heap.size w w' := by
  have k1 : wi s.key 0 1073741824 = false ∨ (wi s.key 0 1073741824 = true ∧ wi s.other 0 1073741824 = false) ∨ (wi s.key 0 1073741824 = true ∧ wi s.other 0 1073741824 = true ∧ wi s.rev 0 1073741824 = false) ∨ (wi s.key 0 1073741824 = true ∧ wi s.other 0 1073741824 = true ∧ wi s.rev 0 1073741824 = true) := by
    cases wi s.key 0 1073741824 <;> cases wi s.other 0 1073741824 <;> cases wi s.rev 0 1073741824 <;> simp
  have k2 : wi s.delay 0 65535 = false ∨ (wi s.delay 0 65535 = true ∧ wi s.expiry 0 1000000 = false) ∨ (wi s.delay 0 65535 = true ∧ wi s.expiry 0 1000000 = true) := by
    cases wi s.delay 0 65535 <;> cases wi s.expiry 0 1000000 <;> simp
  rcases k1 with h1 | ⟨h1, h2⟩ | ⟨h1, h2, h3⟩ | ⟨h1, h2, h3⟩
  all_goals
    rcases k2 with h4 | ⟨h4, h5⟩ | ⟨h4, h5⟩
    all_goals
      cases h6 : wi s.kind 1 6
      all_goals
        go_enter Tryz.func94, Tryz.ntmps94
        go_upto_region 1 with fail
        generalize hw1 : World.alloc w _ = w1
        have hA1 : Blk w1 w.heap.size s.cs := by rw [← hw1]; exact Blk.new _ _ _
        have HB1 : Hid (Below w.heap.size w w1) := by rw [← hw1]; exact (Below.refl _ _).alloc (Nat.le_refl _) _
        clear hw1
        obtain ⟨g0, g1, g2, g3, g4, g5⟩ := s.get
        have c0 := hA1.one g0
        have c1 := hA1.one g1
        have c2 := hA1.one g2
        have c3 := hA1.one g3
        have c4 := hA1.one g4
        have c5 := hA1.one g5
        clear hA1 g0 g1 g2 g3 g4 g5
        go_wp2_with (go_at_call 95; refine (within_is _ _ _ _ _ (by assumption)).mono ?_; rintro e w' ⟨rfl, rfl⟩)
        go_ret
        exact ⟨ret_bool (by clear c0 c1 c2 c3 c4 c5; unfold scrOK; simp [*]), HB1.out⟩
end Go.Proofs.YtlaifphedhaemaaGreatDoor
namespace Go.Proofs.YtlaifphedhaemaaGreatDoor
open Go.ChangeShapes Go.WideShapes Go.ChangeAt Go.RowKit

theorem und_in : ∃ d, Hid (Tryz.prog.underlying 57 = some d) ∧ Hid (d.isRow = true) := ⟨_, Tryz.underlying57, rfl⟩
theorem und_out : ∃ d, Hid (Tryz.prog.underlying 67 = some d) ∧ Hid (d.isRow = true) := ⟨_, Tryz.underlying67, rfl⟩
theorem zin_size (x : In) : (default : In).cs.toArray.size = x.cs.toArray.size := by simp [In.cs_length]
theorem zout_size (x : Out) : (default : Out).cs.toArray.size = x.cs.toArray.size := by simp [Out.cs_length]
set_option maxRecDepth 100000 in
set_option maxHeartbeats 4000000 in
theorem prevs_any (a : Option Addr) (n cap : Nat) (l : List In) (w : World) (hp : Els w a n cap l) (hn : n ≤ 100000) :
    Calls Tryz.prog 117 #[.slice a n cap] w fun e w' => ∃ g, e = .returned (.slice (some ⟨g, 0, none⟩) n n) ∧ Blk w' g (flat (l.map In.prev)) ∧ w.heap.size ≤ g ∧ Below w.heap.size w w' := by
  obtain ⟨dI, HDI, HRI⟩ := und_in
  obtain ⟨i0, hi0, hi1, hi2, hi3⟩ := info_parts Tryz.infoPt
  have HP : Hid (Els w a n cap l) := hp
  clear hp
  go_enter Tryz.func117, Tryz.ntmps117
  go_wp2_with (at_make; refine wpList_make_full _ rfl _ _ 164 rfl w.heap.size 53 i0 (.agg (default : Pt).cs.toArray) 33 Tryz.underlying164 hi0 hi1 hi2 .i64 .i64 _ _ n rfl rfl rfl rfl (by rw [hi3]; omega) (by unfold maxLen; omega) (Nat.le_refl _) ?_)
  intro w1 hown hgrow
  have hb1 : Below w.heap.size w w1 := (Below.refl _ w).grown hgrow (Nat.le_refl _) (by simp)
  have hg1 : Blk w1 w.heap.size (flatE (List.replicate n (default : Pt))) := by
    refine ⟨53, ?_⟩
    rw [← madeE (default : Pt) n (by decide)]
    exact Blk.made hown
  have HP1 : Hid (Els w1 a n cap l) := HP.out.below hb1
  clear hown hgrow hi0 hi1 hi2 hi3
  generalize hN : w.heap.size = N at *
  go_wp2_with fail
  go_loopw [11] (fun i wr => ∃ (k : Nat) (M : List Pt), k ≤ n ∧ i = .int .i64 k ∧ M.length = n ∧ Hid (M.take k = (l.map In.prev).take k) ∧ Hid (Blk wr N (flatE M)) ∧ Hid (Els wr a n cap l) ∧ Below N w wr ∧ N < wr.heap.size) (fun i _ => n - (intOf i).toNat)
  case atStart => exact ⟨0, List.replicate n default, by omega, rfl, List.length_replicate .., rfl, hg1, HP1.out, hb1, hg1.lt⟩
  case round =>
    obtain ⟨k, M, hk, rfl, hM, HT, HG, HE, hbk, hNk⟩ := hrel
    clear hg1 hb1 HP1
    by_cases hlt : k < n
    · have e0 : (0 : Int) ≤ (k : Int) := by omega
      have e1 : (k : Int) < (n : Int) := by omega
      obtain ⟨b, o, rfl, hc⟩ := HE.out.at k hlt
      obtain ⟨x, hx⟩ : ∃ x, x = l.getD k default := ⟨_, rfl⟩
      change wr.rangeAt b (o + k * 37) (In.cs (l.getD k default)) at hc
      rw [← hx] at hc
      have HX : Hid (x = l.getD k default) := hx
      have HC : Hid (wr.rangeAt b (o + k * 37) x.cs) := hc
      have HB : Hid (Below N w wr) := hbk
      have HKM : Hid (k < M.length) := show _ < _ by omega
      clear hc hbk hx
      go_upto_region 5 with (first
        | (refine wpList_load_mid rfl 57 _ rfl b (o + k * 37) rfl x.cs _ HC.out HDI.out HRI.out (size_in x) ?_)
        | (refine wpList_store_fresh rfl 57 _ _ rfl x.cs _ 57 rfl rfl (size_ina x) (zin_size x) x.cs_all ?_; intro w2 HB2 Hb2))
      have HG2 : Hid (Blk w2 N (flatE M)) := HG.out.below Hb2.out hNk
      have HE2 : Hid (Els w2 (some ⟨b, o, none⟩) n cap l) := HE.out.below Hb2.out
      have HTH : Hid (w2.there N (k * 33) x.prev.cs.toArray.size) := by
        show w2.there _ _ _
        rw [List.size_toArray, Pt.cs_length]; exact HG2.out.thereE k HKM.out
      have HPT : Hid (w2.rangeAt wr.heap.size 0 x.prev.cs) := In.prev_at HB2.out.whole
      have hs2 := Hb2.out.size
      go_upto_region 6 with (first
        | (refine wpList_load_mid rfl 53 _ rfl wr.heap.size 0 rfl x.prev.cs _ HPT.out und_pt.out rfl (size_pt x.prev) ?_)
        | (refine wpList_store_mid rfl 53 _ _ rfl N (k * 33) x.prev.cs.toArray rfl rfl HTH.out (size_pta x.prev) x.prev.cs_all ?_))
      have HG3 : Hid (Blk (w2.setCells N (k * 33) x.prev.cs) N (flatE (M.set k x.prev))) := HG2.out.setE k x.prev HKM.out
      have HB3 : Hid (Below N w (w2.setCells N (k * 33) x.prev.cs)) := below_setCells (Nat.le_refl _) _ (HB.out.trans (Hb2.out.mono (by omega))) _
      have HE3 : Hid (Els (w2.setCells N (k * 33) x.prev.cs) (some ⟨b, o, none⟩) n cap l) := by
        have hlt0 : b < N := by
          obtain ⟨b', o', e, hc⟩ := HP.out.at k hlt
          injection e with e
          injection e with e1 e2
          have := World.block_lt_of_cell? w _ (hc 0 _ (List.getElem?_eq_getElem (by rw [El.len]; show 0 < 37; omega)))
          rw [hN] at this
          rw [e1]; exact this
        exact HP.out.below (hN ▸ HB3.out)
      generalize w2.setCells N (k * 33) x.prev.cs = w3 at *
      go_wp2_with fail
      go_roundw
      case rel =>
        refine ⟨k + 1, M.set k x.prev, by omega, by go_num, by rw [List.length_set]; exact hM, ?_, HG3.out, HE3.out, HB3.out, HG3.out.lt⟩
        have := take_set_next M (l.map In.prev) k default HKM.out (by rw [List.length_map, HP.out.len]; exact hlt) HT.out
        have e : (l.map In.prev).getD k default = x.prev := by
          rw [HX.out, List.getD_eq_getElem?_getD, List.getElem?_map, List.getD_eq_getElem?_getD, List.getElem?_eq_getElem (by rw [HP.out.len]; exact hlt)]; rfl
        rw [e] at this
        exact this
      case measure => simp [intOf]; omega
    · obtain rfl : k = n := by omega
      go_wp2_with fail
      go_ret
      have e : M = l.map In.prev := take_all hM (by rw [List.length_map, HP.out.len]) HT.out
      subst hN
      exact ⟨w.heap.size, rfl, by rw [← e]; exact HG.out, Nat.le_refl _, hbk⟩
end Go.Proofs.YtlaifphedhaemaaGreatDoor
namespace Go.Proofs.YtlaifphedhaemaaGreatDoor
open Go.ChangeShapes Go.WideShapes Go.ChangeAt Go.RowKit

def ints (l : List Int) : List Value := l.map (Value.int .i64)
theorem ints_length (l : List Int) : (ints l).length = l.length := by simp [ints]
theorem ints_set (l : List Int) (k : Nat) (z : Int) : (ints l).set k (.int .i64 z) = ints (l.set k z) := by simp [ints, List.map_set]
theorem ints_get (l : List Int) (k : Nat) (h : k < l.length) : (ints l)[k]? = some (.int .i64 (l.getD k 0)) := by
  unfold ints; rw [List.getElem?_map, List.getD_eq_getElem?_getD, List.getElem?_eq_getElem h]; rfl
theorem Blk.ints {w : World} {b : Nat} {l : List Int} (h : Blk w b (ints l)) : Ints w (some ⟨b, 0, none⟩) l := .inr ⟨b, 0, rfl, fun i hi => by
  rw [Nat.zero_add, h.cell, ints_get l i hi]⟩
theorem Tryz.infoInt : (Tryz.prog.info? 3).map (fun i => (i.zero, i.size, i.bytes)) = some (some (.int .i64 0), 1, 8) := by kernel_rfl
theorem made_ints (n : Nat) : (madeCells #[Value.int .i64 0] n).toList = ints (List.replicate n 0) := by
  unfold madeCells ints
  rw [List.map_replicate]
  apply List.ext_getElem?
  intro t
  by_cases ht : t < n
  · simp [ht, Nat.mod_one]
  · simp [ht]
set_option maxRecDepth 100000 in
set_option maxHeartbeats 4000000 in
theorem values_any (a : Option Addr) (n cap : Nat) (l : List Out) (w : World) (hp : Els w a n cap l) (hn : n ≤ 100000) :
    Calls Tryz.prog 97 #[.slice a n cap] w fun e w' => ∃ g, e = .returned (.slice (some ⟨g, 0, none⟩) n n) ∧ Blk w' g (ints (l.map Out.value)) ∧ w.heap.size ≤ g ∧ Below w.heap.size w w' := by
  obtain ⟨dI, HDI, HRI⟩ := und_out
  obtain ⟨i0, hi0, hi1, hi2, hi3⟩ := info_parts Tryz.infoInt
  have HP : Hid (Els w a n cap l) := hp
  clear hp
  go_enter Tryz.func97, Tryz.ntmps97
  go_wp2_with (at_make; refine wpList_make_full _ rfl _ _ 113 rfl w.heap.size 3 i0 (.int .i64 0) 1 Tryz.underlying113 hi0 hi1 hi2 .i64 .i64 _ _ n rfl rfl rfl rfl (by rw [hi3]; omega) (by unfold maxLen; omega) (Nat.le_refl _) ?_)
  intro w1 hown hgrow
  have hb1 : Below w.heap.size w w1 := (Below.refl _ w).grown hgrow (Nat.le_refl _) (by simp)
  have hg1 : Blk w1 w.heap.size (ints (List.replicate n 0)) := by
    refine ⟨3, ?_⟩
    rw [← made_ints]
    exact Blk.made hown
  have HP1 : Hid (Els w1 a n cap l) := HP.out.below hb1
  clear hown hgrow hi0 hi1 hi2 hi3
  generalize hN : w.heap.size = N at *
  go_wp2_with fail
  go_loopw [11] (fun i wr => ∃ (k : Nat) (M : List Int), k ≤ n ∧ i = .int .i64 k ∧ M.length = n ∧ Hid (M.take k = (l.map Out.value).take k) ∧ Hid (Blk wr N (ints M)) ∧ Hid (Els wr a n cap l) ∧ Below N w wr ∧ N < wr.heap.size) (fun i _ => n - (intOf i).toNat)
  case atStart => exact ⟨0, List.replicate n 0, by omega, rfl, List.length_replicate .., rfl, hg1, HP1.out, hb1, hg1.lt⟩
  case round =>
    obtain ⟨k, M, hk, rfl, hM, HT, HG, HE, hbk, hNk⟩ := hrel
    clear hg1 hb1 HP1
    by_cases hlt : k < n
    · have e0 : (0 : Int) ≤ (k : Int) := by omega
      have e1 : (k : Int) < (n : Int) := by omega
      obtain ⟨b, o, rfl, hc⟩ := HE.out.at k hlt
      obtain ⟨x, hx⟩ : ∃ x, x = l.getD k default := ⟨_, rfl⟩
      change wr.rangeAt b (o + k * 39) (Out.cs (l.getD k default)) at hc
      rw [← hx] at hc
      have HX : Hid (x = l.getD k default) := hx
      have HC : Hid (wr.rangeAt b (o + k * 39) x.cs) := hc
      have HB : Hid (Below N w wr) := hbk
      have HKM : Hid (k < M.length) := show _ < _ by omega
      clear hc hbk hx
      go_upto_region 5 with (first
        | (refine wpList_load_mid rfl 67 _ rfl b (o + k * 39) rfl x.cs _ HC.out HDI.out HRI.out (size_out x) ?_)
        | (refine wpList_store_fresh rfl 67 _ _ rfl x.cs _ 67 rfl rfl (size_outa x) (zout_size x) x.cs_all ?_; intro w2 HB2 Hb2))
      have HG2 : Hid (Blk w2 N (ints M)) := HG.out.below Hb2.out hNk
      have hs2 := Hb2.out.size
      have c0 : w2.cell? ⟨wr.heap.size, 0, none⟩ = some (.int .i64 x.value) := HB2.out.one rfl
      have c1 : w2.cell? ⟨N, k, none⟩ = some (.int .i64 (M.getD k 0)) := HG2.out.one (ints_get M k HKM.out)
      have c2 : w2.frozen? ⟨N, k, none⟩ = false := HG2.out.frozen k
      generalize M.getD k 0 = z0 at *
      go_wp2_with fail
      have HG3 : Hid (Blk (w2.setCell ⟨N, k, none⟩ (.int .i64 x.value)) N (ints (M.set k x.value))) := by
        show Blk _ _ _
        rw [← ints_set]; exact HG2.out.set k _
      have HB3 : Hid (Below N w (w2.setCell ⟨N, k, none⟩ (.int .i64 x.value))) := (HB.out.trans (Hb2.out.mono (by omega))).setCell (Nat.le_refl _) _
      have HE3 : Hid (Els (w2.setCell ⟨N, k, none⟩ (.int .i64 x.value)) (some ⟨b, o, none⟩) n cap l) := HP.out.below (hN ▸ HB3.out)
      clear c0 c1 c2
      generalize w2.setCell ⟨N, k, none⟩ (.int .i64 x.value) = w3 at *
      go_roundw
      case rel =>
        refine ⟨k + 1, M.set k x.value, by omega, by go_num, by rw [List.length_set]; exact hM, ?_, HG3.out, HE3.out, HB3.out, HG3.out.lt⟩
        have := take_set_next M (l.map Out.value) k 0 HKM.out (by rw [List.length_map, HP.out.len]; exact hlt) HT.out
        have e : (l.map Out.value).getD k 0 = x.value := by
          rw [HX.out, List.getD_eq_getElem?_getD, List.getElem?_map, List.getD_eq_getElem?_getD, List.getElem?_eq_getElem (by rw [HP.out.len]; exact hlt)]; rfl
        rw [e] at this
        exact this
      case measure => simp [intOf]; omega
    · obtain rfl : k = n := by omega
      go_wp2_with fail
      go_ret
      have e : M = l.map Out.value := take_all hM (by rw [List.length_map, HP.out.len]) HT.out
      subst hN
      exact ⟨w.heap.size, rfl, by rw [← e]; exact HG.out, Nat.le_refl _, hbk⟩

theorem perm_of_sub {α : Type} [DecidableEq α] : ∀ {r L : List α}, r.Nodup → (∀ x ∈ r, x ∈ L) → L.length ≤ r.length → r.Perm L
  | [], L, _, _, h => by
    obtain rfl : L = [] := List.eq_nil_of_length_eq_zero (by simpa using h)
    exact List.Perm.refl _
  | x :: r, L, hn, hs, hl => by
    have hx : x ∈ L := hs x List.mem_cons_self
    have hn' := List.nodup_cons.1 hn
    have hp := List.perm_cons_erase hx
    have he : (L.erase x).length = L.length - 1 := List.length_erase_of_mem hx
    refine (List.Perm.cons x (perm_of_sub hn'.2 (fun y hy => ?_) (by simp at hl; omega))).trans hp.symm
    exact (List.mem_erase_of_ne (fun e => hn'.1 (by rw [← e]; exact hy))).2 (hs y (List.mem_cons_of_mem _ hy))
theorem inc_nodup {r : List Pt} (h : Inc r) : r.Nodup := h.imp fun {a b} hab e => by rw [e, ltPt_irrefl] at hab; cases hab
/-- A row without its doubles is shorter just if it had some. -/
theorem dup_iff {r L : List Pt} (h : Inc r) (hm : ∀ x, x ∈ r ↔ x ∈ L) (hl : r.length ≤ L.length) : decide (r.length < L.length) = !decide L.Nodup := by
  by_cases hd : L.Nodup
  · have := (perm_of_sub hd (fun x hx => (hm x).2 hx) hl).length_eq
    rw [decide_eq_true hd, decide_eq_false (by omega)]; rfl
  · rw [decide_eq_false hd]
    by_cases hlt : r.length < L.length
    · rw [decide_eq_true hlt]; rfl
    · exact absurd ((perm_of_sub (inc_nodup h) (fun x hx => (hm x).1 hx) (by omega)).nodup_iff.1 (inc_nodup h)) hd

/-- Has no outpoint two inputs? -/
def sole (l : List In) : Bool := decide (l.map In.prev).Nodup
set_option maxRecDepth 100000 in
set_option maxHeartbeats 4000000 in
theorem doubled_any (a : Option Addr) (n cap : Nat) (l : List In) (w : World) (hp : Els w a n cap l) (hn : n ≤ 100000) :
    Calls Tryz.prog 93 #[.slice a n cap] w fun e w' => e = .returned (.bool (!sole l)) ∧ Below w.heap.size w w' := by
  have HP : Hid (Els w a n cap l) := hp
  clear hp
  go_enter Tryz.func93, Tryz.ntmps93
  go_wp2_with fail
  refine (prevs_any a n cap l w HP.out hn).mono ?_
  rintro e w1 ⟨g, rfl, hB, hg, hb1⟩
  have hlen : (l.map In.prev).length = n := by rw [List.length_map, HP.out.len]
  have hpts : Pts w1 (some ⟨g, 0, none⟩) n n (l.map In.prev) := Pts.of_blk hB hlen (Nat.le_refl _) (by unfold maxLen; omega) (List.take_of_length_le (by rw [flat_length, hlen]; exact Nat.le_refl _))
  have HPT : Hid _ := hpts
  have HLEN : Hid _ := hlen
  have HB1 : Hid _ := hb1
  clear hpts hlen hB hb1
  go_wp2_with fail
  refine Calls.mono (sort_any _ n n (l.map In.prev) w1 HPT.out hn) ?_
  rintro e w2 ⟨a', m, cap', r, rfl, hinc, hmem, hpr, hm, hb2⟩
  have HR : Hid (decide (m < n) = !sole l) := by
    show _ = _
    have := dup_iff hinc hmem (by rw [hpr.len, HLEN.out]; exact hm)
    rw [hpr.len, HLEN.out] at this
    unfold sole
    exact this
  have hs1 := HB1.out.size
  have HB2 : Hid (Below w.heap.size w w2) := HB1.out.trans (hb2.mono hs1)
  clear hinc hmem hpr hb2
  go_wp2_with fail
  go_ret
  exact ⟨ret_bool HR.out, HB2.out⟩
end Go.Proofs.YtlaifphedhaemaaGreatDoor
namespace Go.Proofs.YtlaifphedhaemaaGreatDoor
open Go.ChangeShapes Go.WideShapes Go.ChangeAt Go.RowKit

/-- What Check tells. -/
def chkE (t : TxD) : Int :=
  if 100 < t.ins.length ∨ 100 < t.outs.length then 3
  else if t.ins = [] then 1
  else if t.ins.all inOK = false then 1
  else if sole t.ins = false then 1
  else if t.outs.all (fun o => scrOK o.scr) = false then 1
  else if wi t.lock 0 1000000 = false then 1
  else totE (t.outs.map Out.value)
theorem und_scr : ∃ d, Hid (Tryz.prog.underlying 65 = some d) ∧ Hid (d.isRow = true) := ⟨_, Tryz.underlying65, rfl⟩
theorem chk_big {t : TxD} (h : 100 < t.ins.length ∨ 100 < t.outs.length) : chkE t = 3 := by unfold chkE; rw [if_pos h]
theorem chk_none {t : TxD} (h : ¬ (100 < t.ins.length ∨ 100 < t.outs.length)) (h1 : t.ins = []) : chkE t = 1 := by unfold chkE; rw [if_neg h, if_pos h1]
theorem chk_in {t : TxD} (h : ¬ (100 < t.ins.length ∨ 100 < t.outs.length)) (h1 : t.ins.all inOK = false) : chkE t = 1 := by
  unfold chkE; rw [if_neg h]; split <;> first | rfl | rw [if_pos h1]
theorem chk_dup {t : TxD} (h : ¬ (100 < t.ins.length ∨ 100 < t.outs.length)) (h1 : sole t.ins = false) : chkE t = 1 := by
  unfold chkE; rw [if_neg h]; simp [h1]
theorem chk_out {t : TxD} (h : ¬ (100 < t.ins.length ∨ 100 < t.outs.length)) (h1 : t.outs.all (fun o => scrOK o.scr) = false) : chkE t = 1 := by
  unfold chkE; rw [if_neg h]; simp [h1]
theorem chk_lock {t : TxD} (h : ¬ (100 < t.ins.length ∨ 100 < t.outs.length)) (h1 : wi t.lock 0 1000000 = false) : chkE t = 1 := by
  unfold chkE; rw [if_neg h]; simp [h1]
theorem chk_sum {t : TxD} (h : ¬ (100 < t.ins.length ∨ 100 < t.outs.length)) (h0 : t.ins ≠ []) (h1 : t.ins.all inOK = true) (h2 : sole t.ins = true) (h3 : t.outs.all (fun o => scrOK o.scr) = true) (h4 : wi t.lock 0 1000000 = true) : chkE t = totE (t.outs.map Out.value) := by
  unfold chkE; rw [if_neg h, if_neg h0, if_neg (by rw [h1]; decide), if_neg (by rw [h2]; decide), if_neg (by rw [h3]; decide), if_neg (by rw [h4]; decide)]
theorem all_false {α : Type} {l : List α} {f : α → Bool} {d : α} {k : Nat} (hk : k < l.length) (h : f (l.getD k d) = false) : l.all f = false := by
  cases ha : l.all f with
  | false => rfl
  | true =>
    have := List.all_eq_true.1 ha (l.getD k d) (by rw [List.getD_eq_getElem?_getD, List.getElem?_eq_getElem hk]; exact List.getElem_mem hk)
    rw [h] at this; cases this
theorem all_true {α : Type} {l : List α} {f : α → Bool} {d : α} (h : ∀ j, j < l.length → f (l.getD j d) = true) : l.all f = true := by
  refine List.all_eq_true.2 fun x hx => ?_
  obtain ⟨k, hk, rfl⟩ := List.getElem_of_mem hx
  have := h k hk
  rwa [List.getD_eq_getElem?_getD, List.getElem?_eq_getElem hk] at this

set_option maxHeartbeats 2000000 in
theorem check_big (v : TxV) (t : TxD) (w : World) (h : TxAt w v t) (hb : 100 < v.n ∨ 100 < v.m) :
    Calls Tryz.prog 64 #[v.val t.lock] w fun e w' => e = .returned (.int .i64 (chkE t)) ∧ Below w.heap.size w w' := by
  have HC : Hid (chkE t = 3) := chk_big (by rw [h.ins.len, h.outs.len]; exact hb)
  obtain ⟨a, n, c, b, m, d⟩ := v
  obtain ⟨ins, outs, lock⟩ := t
  clear h
  unfold TxV.val
  have HB : Hid (Below w.heap.size w (w.alloc (.cells #[.slice a n c, .slice b m d, .int .i64 lock] 61))) := (Below.refl _ _).alloc (Nat.le_refl _) _
  simp only at hb
  by_cases h1 : 100 < n
  all_goals
    try (have h2 : 100 < m := by omega)
    clear hb
    go_enter Tryz.func64, Tryz.ntmps64
    go_wp2_with fail
    refine wp_scope_hops 1 ?_
    go_hide hQ
    go_wp2_with fail
    go_step3
    simp only [Exit.then]
    subst hQ
    rw [hops_goto]
    refine ⟨_, rfl, ?_⟩
    go_hide hQ
    go_wp2_with fail
    subst hQ
    rw [hops_ret]
    go_ret
    exact ⟨ret_int HC.out.symm, HB.out⟩

set_option maxHeartbeats 2000000 in
theorem check_none (v : TxV) (t : TxD) (w : World) (h : TxAt w v t) (hm : v.m ≤ 100) (hn : v.n = 0) :
    Calls Tryz.prog 64 #[v.val t.lock] w fun e w' => e = .returned (.int .i64 (chkE t)) ∧ Below w.heap.size w w' := by
  have HC : Hid (chkE t = 1) := chk_none (by rw [h.ins.len, h.outs.len]; omega) (List.eq_nil_of_length_eq_zero (by rw [h.ins.len]; exact hn))
  obtain ⟨a, n, c, b, m, d⟩ := v
  obtain ⟨ins, outs, lock⟩ := t
  clear h
  unfold TxV.val
  simp only at hm hn
  subst hn
  have HB : Hid (Below w.heap.size w (w.alloc (.cells #[.slice a 0 c, .slice b m d, .int .i64 lock] 61))) := (Below.refl _ _).alloc (Nat.le_refl _) _
  go_enter Tryz.func64, Tryz.ntmps64
  go_wp2_with fail
  refine wp_scope_hops 1 ?_
  go_hide hQ
  go_wp2_with fail
  go_step3
  simp only [Exit.then]
  subst hQ
  rw [hops_goto]
  refine ⟨_, rfl, ?_⟩
  go_hide hQ
  go_wp2_with fail
  subst hQ
  rw [hops_ret]
  go_ret
  exact ⟨ret_int HC.out.symm, HB.out⟩

set_option maxRecDepth 100000 in
set_option maxHeartbeats 4000000 in
theorem check_some (v : TxV) (t : TxD) (w : World) (h : TxAt w v t) (hm : v.m ≤ 100) (hn : v.n ≤ 100) (hn0 : 0 < v.n) :
    Calls Tryz.prog 64 #[v.val t.lock] w fun e w' => e = .returned (.int .i64 (chkE t)) ∧ Below w.heap.size w w' := by
  obtain ⟨dI, HDI, HRI⟩ := und_in
  obtain ⟨dO, HDO, HRO⟩ := und_out
  obtain ⟨dS, HDS, HRS⟩ := und_scr
  have HBG : Hid (¬ (100 < t.ins.length ∨ 100 < t.outs.length)) := show ¬ _ by rw [h.ins.len, h.outs.len]; omega
  have HNE : Hid (t.ins ≠ []) := show _ ≠ _ from fun e => by have := h.ins.len; rw [e] at this; simp at this; omega
  have HC1 : Hid (∀ k, k < v.n → inOK (t.ins.getD k default) = false → chkE t = 1) := fun k hk hf => chk_in HBG.out (all_false (by rw [h.ins.len]; exact hk) hf)
  have HC2 : Hid (∀ k, k < v.m → scrOK (t.outs.getD k default).scr = false → chkE t = 1) := fun k hk hf => chk_out HBG.out (all_false (f := fun o : Out => scrOK o.scr) (by rw [h.outs.len]; exact hk) hf)
  have HLI : Hid (t.ins.length = v.n) := h.ins.len
  have HLO : Hid (t.outs.length = v.m) := h.outs.len
  have HIN : Hid (Els w v.a v.n v.c t.ins) := h.ins
  have HOUT : Hid (Els w v.b v.m v.d t.outs) := h.outs
  have HCS : Hid (t.ins.all inOK = true → sole t.ins = true → t.outs.all (fun o => scrOK o.scr) = true → wi t.lock 0 1000000 = true → chkE t = totE (t.outs.map Out.value)) := fun h1 h2 h3 h4 => chk_sum HBG.out HNE.out h1 h2 h3 h4
  have HCD : Hid (sole t.ins = false → chkE t = 1) := fun h1 => chk_dup HBG.out h1
  have HCL : Hid (wi t.lock 0 1000000 = false → chkE t = 1) := fun h1 => chk_lock HBG.out h1
  have HBW : Hid (Below w.heap.size w (w.alloc (.cells #[.slice v.a v.n v.c, .slice v.b v.m v.d, .int .i64 t.lock] 61)) ∧ Blk (w.alloc (.cells #[.slice v.a v.n v.c, .slice v.b v.m v.d, .int .i64 t.lock] 61)) w.heap.size [.slice v.a v.n v.c, .slice v.b v.m v.d, .int .i64 t.lock]) := ⟨(Below.refl _ _).alloc (Nat.le_refl _) _, Blk.new _ _ _⟩
  clear h
  obtain ⟨ins, outs, lock⟩ := t
  obtain ⟨a, n, c, b, m, d⟩ := v
  generalize chkE _ = E at *
  unfold TxV.val
  simp only at *
  go_enter Tryz.func64, Tryz.ntmps64
  go_wp2_with fail
  generalize World.alloc w _ = w1 at *
  obtain ⟨hb1, hT1⟩ := HBW.out
  have HB1 : Hid (Below w.heap.size w w1) := hb1
  have HT1 : Hid (Blk w1 w.heap.size _) := hT1
  generalize hN : w.heap.size = N at *
  have c0 : w1.cell? ⟨N, 0, none⟩ = some (.slice a n c) := hT1.one rfl
  have c1 : w1.cell? ⟨N, 1, none⟩ = some (.slice b m d) := hT1.one rfl
  clear hb1 hT1 HBW
  have hz : ((n : Int) == 0) = false := beq_eq_false_iff_ne.2 (by omega)
  refine wp_scope_hops 1 ?_
  go_hide hQ
  go_wp2_with fail
  clear c0 c1 hz
  have HI1 : Hid (Els w1 a n c ins) := HIN.out.below (hN ▸ HB1.out)
  have HO1 : Hid (Els w1 b m d outs) := HOUT.out.below (hN ▸ HB1.out)
  have hsz1 : Hid (N < w1.heap.size) := HT1.out.lt
  clear HIN HOUT
  go_loopw [25] (fun i wr => ∃ k : Nat, k ≤ n ∧ i = .int .i64 k ∧ Hid (∀ j, j < k → inOK (ins.getD j default) = true) ∧ Hid (Below w1.heap.size w1 wr)) (fun i _ => n - (intOf i).toNat)
  case atStart => exact ⟨0, by omega, rfl, fun j hj => absurd hj (Nat.not_lt_zero _), Below.refl _ _⟩
  case round =>
    obtain ⟨k, hk, rfl, HALL, HBR⟩ := hrel
    by_cases hlt : k < n
    · have e0 : (0 : Int) ≤ (k : Int) := by omega
      have e1 : (k : Int) < (n : Int) := by omega
      obtain ⟨bb, o, rfl, hc⟩ := (HI1.out.below HBR.out).at k hlt
      obtain ⟨x, hx⟩ : ∃ x, x = ins.getD k default := ⟨_, rfl⟩
      change wr.rangeAt bb (o + k * 37) (In.cs (ins.getD k default)) at hc
      rw [← hx] at hc
      have HX : Hid (x = ins.getD k default) := hx
      have HC : Hid (wr.rangeAt bb (o + k * 37) x.cs) := hc
      clear hc hx
      go_upto_region 8 with (first
        | (refine wpList_load_mid rfl 57 _ rfl bb (o + k * 37) rfl x.cs _ HC.out HDI.out HRI.out (size_in x) ?_)
        | (refine wpList_store_fresh rfl 57 _ _ rfl x.cs _ 57 rfl rfl (size_ina x) (zin_size x) x.cs_all ?_; intro w2 HB2 Hb2))
      have hszr := HBR.out.size
      have HBR2 : Hid (Below w1.heap.size w1 w2) := HBR.out.trans (Hb2.out.mono hszr)
      clear HC HBR hszr
      go_wp2_with (refine wpList_load_mid rfl 57 _ rfl wr.heap.size 0 rfl x.cs _ HB2.out.whole HDI.out HRI.out (size_in x) ?_)
      refine (inFits_any x w2).mono ?_
      rintro e w3 ⟨rfl, hb3⟩
      have hszr := HBR2.out.size
      have HBR3 : Hid (Below w1.heap.size w1 w3) := HBR2.out.trans (hb3.mono hszr)
      clear HBR2 HB2 Hb2 hb3 hszr
      cases hok : inOK x with
      | true =>
        have HOK : Hid (inOK x = true) := hok
        clear hok
        go_wp2_with fail
        go_roundw
        case rel =>
          refine ⟨k + 1, by omega, by go_num, fun j hj => ?_, HBR3.out⟩
          by_cases e : j = k
          · rw [e, ← HX.out]; exact HOK.out
          · exact HALL.out j (by omega)
        case measure => simp [intOf]; omega
      | false =>
        have HEQ : Hid (E = 1) := HC1.out k hlt (by rw [← HX.out]; exact hok)
        clear hok
        go_wp2_with fail
        go_step3
        subst hQ
        refine show hops _ _ _ 1 (Exit.goto 0) _ _ from ?_
        rw [hops_goto]
        refine ⟨_, rfl, ?_⟩
        go_hide hQ
        go_wp2_with fail
        subst hQ
        rw [hops_ret]
        go_ret
        have hs1 := HB1.out.size
        subst hN
        exact ⟨ret_int HEQ.out.symm, HB1.out.trans (HBR3.out.mono hs1)⟩
    · obtain rfl : k = n := by omega
      have HINS : Hid (ins.all inOK = true) := all_true (d := default) fun j hj => HALL.out j (by rw [HLI.out] at hj; exact hj)
      have HTr : Hid (Blk wr N _) := HT1.out.below HBR.out hsz1.out
      have c0 : wr.cell? ⟨N, 0, none⟩ = some (.slice a k c) := HTr.out.one rfl
      have HIr : Hid (Els wr a k c ins) := HI1.out.below HBR.out
      have HOr : Hid (Els wr b m d outs) := HO1.out.below HBR.out
      have hsr : Hid (N < wr.heap.size) := HTr.out.lt
      have hb1s := HBR.out.size
      have HBr : Hid (Below N w wr) := HB1.out.trans (HBR.out.mono (Nat.le_of_lt hsz1.out))
      clear HALL HBR HI1 HO1 HT1 HB1 hsz1 hb1s
      go_wp2_with fail
      refine (doubled_any a k c ins wr HIr.out (by omega)).mono ?_
      rintro e w4 ⟨rfl, hb4⟩
      have HT4 : Hid (Blk w4 N _) := HTr.out.below hb4 hsr.out
      have HO4 : Hid (Els w4 b m d outs) := HOr.out.below hb4
      have HB4 : Hid (Below N w w4) := HBr.out.trans (hb4.mono (Nat.le_of_lt hsr.out))
      clear HTr HOr HBr HIr hb4 c0 hsr
      cases hsole : sole ins with
      | false =>
        have HEQ : Hid (E = 1) := HCD.out hsole
        clear hsole
        go_wp2_with fail
        go_step3
        simp only [Exit.then]
        subst hQ
        rw [hops_goto]
        refine ⟨_, rfl, ?_⟩
        go_hide hQ
        go_wp2_with fail
        subst hQ
        rw [hops_ret]
        go_ret
        subst hN
        exact ⟨ret_int HEQ.out.symm, HB4.out⟩
      | true =>
        have HSOLE : Hid (sole ins = true) := hsole
        clear hsole
        have c1 : w4.cell? ⟨N, 1, none⟩ = some (.slice b m d) := HT4.out.one rfl
        have hs4 : Hid (N < w4.heap.size) := HT4.out.lt
        go_wp2_with fail
        clear c1
        go_loopw [39] (fun i wr => ∃ k : Nat, k ≤ m ∧ i = .int .i64 k ∧ Hid (∀ j, j < k → scrOK (outs.getD j default).scr = true) ∧ Hid (Below w4.heap.size w4 wr)) (fun i _ => m - (intOf i).toNat)
        case atStart => exact ⟨0, by omega, rfl, fun j hj => absurd hj (Nat.not_lt_zero _), Below.refl _ _⟩
        case round =>
          obtain ⟨i, hi, rfl, HALL, HBR⟩ := hrel
          by_cases hlt : i < m
          · have e0 : (0 : Int) ≤ (i : Int) := by omega
            have e1 : (i : Int) < (m : Int) := by omega
            obtain ⟨bb, o, rfl, hc⟩ := (HO4.out.below HBR.out).at i hlt
            obtain ⟨x, hx⟩ : ∃ x, x = outs.getD i default := ⟨_, rfl⟩
            change wr.rangeAt bb (o + i * 39) (Out.cs (outs.getD i default)) at hc
            rw [← hx] at hc
            have HX : Hid (x = outs.getD i default) := hx
            have HC : Hid (wr.rangeAt bb (o + i * 39) x.cs) := hc
            clear hc hx
            go_upto_region 14 with (first
              | (refine wpList_load_mid rfl 67 _ rfl bb (o + i * 39) rfl x.cs _ HC.out HDO.out HRO.out (size_out x) ?_)
              | (refine wpList_store_fresh rfl 67 _ _ rfl x.cs _ 67 rfl rfl (size_outa x) (zout_size x) x.cs_all ?_; intro w2 HB2 Hb2))
            have hszr := HBR.out.size
            have HBR2 : Hid (Below w4.heap.size w4 w2) := HBR.out.trans (Hb2.out.mono hszr)
            have HSC : Hid (w2.rangeAt wr.heap.size 1 x.scr.cs) := by
              have := Out.scr_at HB2.out.whole
              rwa [Nat.zero_add] at this
            clear HC HBR hszr
            go_wp2_with (refine wpList_load_mid rfl 65 _ rfl wr.heap.size 1 rfl x.scr.cs _ HSC.out HDS.out HRS.out (size_scr x.scr) ?_)
            refine (scriptFits_any x.scr w2).mono ?_
            rintro e w3 ⟨rfl, hb3⟩
            have hszr := HBR2.out.size
            have HBR3 : Hid (Below w4.heap.size w4 w3) := HBR2.out.trans (hb3.mono hszr)
            clear HBR2 HB2 Hb2 hb3 hszr HSC
            cases hok : scrOK x.scr with
            | true =>
              have HOK : Hid (scrOK x.scr = true) := hok
              clear hok
              go_wp2_with fail
              go_roundw
              case rel =>
                refine ⟨i + 1, by omega, by go_num, fun j hj => ?_, HBR3.out⟩
                by_cases e : j = i
                · rw [e, ← HX.out]; exact HOK.out
                · exact HALL.out j (by omega)
              case measure => simp [intOf]; omega
            | false =>
              have HEQ : Hid (E = 1) := HC2.out i hlt (by rw [← HX.out]; exact hok)
              clear hok
              go_wp2_with fail
              go_step3
              subst hQ
              refine show hops _ _ _ 1 (Exit.goto 0) _ _ from ?_
              rw [hops_goto]
              refine ⟨_, rfl, ?_⟩
              go_hide hQ
              go_wp2_with fail
              subst hQ
              rw [hops_ret]
              go_ret
              subst hN
              exact ⟨ret_int HEQ.out.symm, HB4.out.trans (HBR3.out.mono (Nat.le_of_lt hs4.out))⟩
          · obtain rfl : i = m := by omega
            have HOUTS : Hid (outs.all (fun o => scrOK o.scr) = true) := all_true (f := fun o : Out => scrOK o.scr) (d := default) fun j hj => HALL.out j (by rw [HLO.out] at hj; exact hj)
            have HTr : Hid (Blk wr N _) := HT4.out.below HBR.out hs4.out
            have c1 : wr.cell? ⟨N, 1, none⟩ = some (.slice b i d) := HTr.out.one rfl
            have c2 : wr.cell? ⟨N, 2, none⟩ = some (.int .i64 lock) := HTr.out.one rfl
            have HOr : Hid (Els wr b i d outs) := HO4.out.below HBR.out
            have HBr : Hid (Below N w wr) := HB4.out.trans (HBR.out.mono (Nat.le_of_lt hs4.out))
            have hsr : Hid (N < wr.heap.size) := HTr.out.lt
            clear HALL HBR HO4 HT4 HB4 hs4
            cases hlock : wi lock 0 1000000 with
            | false =>
              have HEQ : Hid (E = 1) := HCL.out hlock
              have HLK : Hid (wi lock 0 1000000 = false) := hlock
              clear hlock
              go_wp2_with fail
              refine (within_is _ _ _ _ _ HLK.out).mono ?_
              rintro e w' ⟨rfl, rfl⟩
              go_wp2_with fail
              go_step3
              simp only [Exit.then]
              subst hQ
              rw [hops_goto]
              refine ⟨_, rfl, ?_⟩
              go_hide hQ
              go_wp2_with fail
              subst hQ
              rw [hops_ret]
              go_ret
              subst hN
              exact ⟨ret_int HEQ.out.symm, HBr.out⟩
            | true =>
              have HEQ : Hid (E = totE (outs.map Out.value)) := HCS.out HINS.out HSOLE.out HOUTS.out hlock
              have HLK : Hid (wi lock 0 1000000 = true) := hlock
              clear hlock
              go_wp2_with fail
              refine (within_is _ _ _ _ _ HLK.out).mono ?_
              rintro e w' ⟨rfl, rfl⟩
              go_wp2_with fail
              refine (values_any b i d outs wr HOr.out (by omega)).mono ?_
              rintro e w5 ⟨g, rfl, hB5, _, hb5⟩
              have HZ : Hid (Ints w5 (some ⟨g, 0, none⟩) (outs.map Out.value)) := hB5.ints
              have HB5 : Hid (Below N w w5) := HBr.out.trans (hb5.mono (Nat.le_of_lt hsr.out))
              have HLZ : Hid ((outs.map Out.value).length = i) := show _ = _ by rw [List.length_map, HLO.out]
              clear hB5 hb5
              generalize outs.map Out.value = Z at *
              go_wp2_with fail
              refine (atotal_any _ i i Z w5 HZ.out HLZ.out (Nat.le_refl _) (by unfold maxLen; omega)).mono ?_
              rintro e w6 ⟨rfl, rfl⟩
              generalize totN Z = tn at *
              generalize totE Z = te at *
              go_wp2_with fail
              go_step3
              go_wp2_with fail
              subst hQ
              rw [hops_ret]
              go_ret
              subst hN
              exact ⟨ret_int HEQ.out.symm, HB5.out⟩

/-- tx.Check, whatever the transaction. -/
theorem check_any (v : TxV) (t : TxD) (w : World) (h : TxAt w v t) :
    Calls Tryz.prog 64 #[v.val t.lock] w fun e w' => e = .returned (.int .i64 (chkE t)) ∧ Below w.heap.size w w' := by
  by_cases hb : 100 < v.n ∨ 100 < v.m
  · exact check_big v t w h hb
  · by_cases hn : v.n = 0
    · exact check_none v t w h (by omega) hn
    · exact check_some v t w h (by omega) (by omega) (by omega)
end Go.Proofs.YtlaifphedhaemaaGreatDoor
