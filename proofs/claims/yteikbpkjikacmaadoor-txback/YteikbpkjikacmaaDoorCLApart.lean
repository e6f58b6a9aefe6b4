/- TxApart: the law's walk. -/
import Derived.Test.YteikbpkjikacmaaDoorCD12
import Derived.Test.YteikbpkjikacmaaDoorCLLight
namespace Go.Proofs.YteikbpkjikacmaaDoor
open Go.ChangeShapes Go.WideShapes Go.ChangeAt Go.RowKit

theorem sameT_refl (t : TxD) : sameT t t = true := by
  have h1 : ∀ l : List In, Go.Lib.allEq eqI l l = true := fun l => by
    induction l with
    | nil => rfl
    | cons x l ih => simp [Go.Lib.allEq, ih, eqI]
  have h2 : ∀ l : List Out, Go.Lib.allEq eqO l l = true := fun l => by
    induction l with
    | nil => rfl
    | cons x l ih => simp [Go.Lib.allEq, ih, eqO, eqS]
  unfold sameT
  rw [h1, h2]; simp
theorem OwnB.blk {w : World} {B : Nat} {v : Value} {bs : List (BitVec 8)} (h : OwnB w B v bs) (hne : 0 < bs.length) : ∃ g cap cs, v = .slice (some ⟨g, 0, none⟩) bs.length cap ∧ B ≤ g ∧ Blk w g cs ∧ bs.length ≤ cs.length := by
  rcases h.2 with ⟨_, hn⟩ | ⟨g, cap, cur, hv, hb, hg, rest⟩
  · omega
  · refine ⟨g, cap, cur.toList, hv, hb, ⟨_, by simpa using hg⟩, ?_⟩
    obtain ⟨h1, _, h2, _⟩ := rest
    have h3 : cur.toList.length = cap := by rw [Array.length_toList, h2]; omega
    show bs.length ≤ _
    omega
theorem enc_length {t : TxD} (h : chkE t = 0) : (encB t).length ≤ 30000 := by
  obtain ⟨h1, h2⟩ := chk_small h
  have h3 := bodyB_length t h1 h2
  have h4 := flatMap_len witB 100 t.ins fun x hx => witB_length x (inOK_pre (List.all_eq_true.1 (chk_ins h) _ hx))
  unfold encB
  rw [if_pos h, List.length_append]; omega
theorem enc_pos {t : TxD} (h : chkE t = 0) : 0 < (encB t).length := by
  have h1 := (chk_parts h).1
  have h2 := numB_len (t.ins.length : Int)
  have h3 : sizeN (t.ins.length : Int) = 1 := sizeN_1 (by omega) (by omega)
  unfold encB bodyB
  rw [if_pos h]
  simp only [List.length_append]
  omega
set_option maxRecDepth 100000 in
set_option maxHeartbeats 8000000 in
theorem apart_any (tv : TxV) (t : TxD) (w : World) (hT : TxAt w tv t) (hK : Kw w) :
    Calls Tryd.prog 7 #[tv.val t.lock] w fun e w' => e = .returned (.bool true) ∧ Below w.heap.size w w' := by
  have HT : Hid (TxAt w tv t) := hT
  have HK : Hid (Kw w) := hK
  have hpos := hK.pos
  clear hT hK
  obtain ⟨lk, hlk⟩ : ∃ z, t.lock = z := ⟨_, rfl⟩
  have HLK : Hid (t.lock = lk) := hlk
  have HLIGHT : Hid (∀ w', TxAt w' tv t → Calls Tryd.prog 8 #[tv.val lk, .int .i64 20] w' fun e w'' => e = .returned (.bool (lightB t 20)) ∧ Below w'.heap.size w' w'') := fun w' h => by rw [← hlk]; exact light_any tv t 20 w' h (by omega)
  have HENC : Hid (∀ w', TxAt w' tv t → Calls Tryd.prog 10 #[tv.val lk] w' fun e w'' => ∃ v, e = .returned (.tuple #[v, .int .i64 (chkE t)]) ∧ OwnB w'' w'.heap.size v (encB t) ∧ Below w'.heap.size w' w'') := fun w' h => by rw [← hlk]; exact encode_any tv t w' h
  rw [hlk]
  clear hlk
  unfold TxV.val at *
  go_enter Tryd.func7, Tryd.ntmps7
  go_upto_region 1 with fail
  generalize hwv : World.alloc w _ = w1
  have HB0 : Hid (Blk w1 w.heap.size [.slice tv.a tv.n tv.c, .slice tv.b tv.m tv.d, .int .i64 lk]) := by rw [← hwv]; exact Blk.mk _ _ _ rfl rfl
  have HBL : Hid (Below w.heap.size w w1) := by rw [← hwv]; exact (Below.refl _ _).alloc (Nat.le_refl _) _
  clear hwv
  have hT1 := HB0.out.lt
  have HTX : Hid (∀ w', Below w.heap.size w w' → TxAt w' tv t) := fun w' h => HT.out.below h
  have HAW : Hid (∀ w', Below w.heap.size w w' → Kw w') := fun w' h => HK.out.below h (by omega)
  generalize hN : w.heap.size = T at *
  have c0 : w1.cell? ⟨T, 0, none⟩ = some (.slice tv.a tv.n tv.c) := HB0.out.one rfl
  have c1 : w1.cell? ⟨T, 1, none⟩ = some (.slice tv.b tv.m tv.d) := HB0.out.one rfl
  have c2 : w1.cell? ⟨T, 2, none⟩ = some (.int .i64 lk) := HB0.out.one rfl
  go_wp2_with fail
  refine Calls.mono (HLIGHT.out w1 (HTX.out _ HBL.out)) ?_
  rintro e w2 ⟨rfl, hb2⟩
  have HB2 : Hid (Blk w2 T [.slice tv.a tv.n tv.c, .slice tv.b tv.m tv.d, .int .i64 lk]) := HB0.out.below hb2 hT1
  have HBL2 : Hid (Below T w w2) := HBL.out.trans (hb2.mono (by omega))
  clear hb2 c0 c1 c2 HB0 HBL HLIGHT
  have hT2 := HB2.out.lt
  cases lightB t 20 with
  | false =>
    go_wp2_with fail
    refine (awake_any w2 (HAW.out _ HBL2.out)).mono ?_
    rintro e w3 ⟨rfl, hb3⟩
    have HBL3 : Hid (Below T w w3) := HBL2.out.trans (hb3.mono (by omega))
    go_wp2_with fail
    go_ret
    exact ⟨rfl, hN ▸ HBL3.out⟩
  | true =>
    have c0 : w2.cell? ⟨T, 0, none⟩ = some (.slice tv.a tv.n tv.c) := HB2.out.one rfl
    have c1 : w2.cell? ⟨T, 1, none⟩ = some (.slice tv.b tv.m tv.d) := HB2.out.one rfl
    have c2 : w2.cell? ⟨T, 2, none⟩ = some (.int .i64 lk) := HB2.out.one rfl
    go_wp2_with fail
    refine Calls.mono (HENC.out w2 (HTX.out _ HBL2.out)) ?_
    rintro e w3 ⟨v, rfl, hO3, hb3⟩
    have HO3 : Hid (OwnB w3 w2.heap.size v (encB t)) := hO3
    have HB3 : Hid (Blk w3 T [.slice tv.a tv.n tv.c, .slice tv.b tv.m tv.d, .int .i64 lk]) := HB2.out.below hb3 hT2
    have HBL3 : Hid (Below T w w3) := HBL2.out.trans (hb3.mono (by omega))
    have hs3 := hb3.size
    clear hO3 hb3 c0 c1 c2 HB2 HBL2
    by_cases hz : chkE t = 0
    · have HDEC : Hid (decT (encB t) = (t, 0)) := dec_enc t hz
      have HLEN : Hid ((encB t).length ≤ 30000) := enc_length hz
      have HSM : Hid (tv.n ≤ 100 ∧ tv.m ≤ 100) := by
        have := chk_parts hz
        exact ⟨by have h := HT.out.ins.len; omega, by have h := HT.out.outs.len; omega⟩
      have HZ : Hid (chkE t = 0) := hz
      have hne := enc_pos hz
      rw [hz]
      clear hz
      obtain ⟨g, cap, cs, rfl, hg, hBg, hcl⟩ := HO3.out.blk hne
      have HBG : Hid (Blk w3 g cs) := hBg
      have hg3 := hBg.lt
      clear hBg
      generalize hbs : encB t = bs at *
      have HBS : Hid (encB t = bs) := hbs
      clear hbs
      generalize hL : bs.length = L at *
      have HL : Hid (bs.length = L) := hL
      have HB1 : Hid (Below w3.heap.size w3 (w3.alloc (.cells #[] 5))) := (Below.refl _ _).alloc (Nat.le_refl _) _
      have HO1 : Hid (OwnB (w3.alloc (.cells #[] 5)) w3.heap.size (.slice (some ⟨w3.heap.size, 0, none⟩) 0 0) []) := OwnB.lit w3 [] (by simp)
      have HS1 : Hid (SrcB (w3.alloc (.cells #[] 5)) (.slice (some ⟨g, 0, none⟩) L cap) bs) := HO3.out.src.below HB1.out
      have hL3 := HLEN.out
      clear hL
      go_upto_region 7 with (at_builtin; refine wpList_append_b rfl _ _ rfl w3.heap.size _ [] rfl HO1.out _ bs rfl HS1.out (by rw [HL.out]; simp; omega) (by simp) ?_; intro v4 w4 HO4 HG4 HM4; obtain ⟨a4, n4, cap4, rfl⟩ := HO4.out.any)
      have HC4 : Hid (OwnB w4 w3.heap.size (.slice a4 n4 cap4) bs) := by
        have := HO4.out
        rwa [List.nil_append] at this
      have hb4 : Below w3.heap.size w3 w4 := HB1.out.grown HG4.out (by simp) fun k hk => by
        have hk' : some w3.heap.size = some k := hk
        injection hk' with hk'
        omega
      have HB4 : Hid (Blk w4 T [.slice tv.a tv.n tv.c, .slice tv.b tv.m tv.d, .int .i64 lk]) := HB3.out.below hb4 (by omega)
      have HG5 : Hid (Blk w4 g cs) := HBG.out.below hb4 hg3
      have HS4 : Hid (SrcB w4 (.slice (some ⟨g, 0, none⟩) L cap) bs) := HO3.out.src.below hb4
      have HBL4 : Hid (Below T w w4) := HBL3.out.trans (hb4.mono (by omega))
      have hs4 := hb4.size
      clear hb4 HO4 HG4 HM4 HO1 HS1 HB1 HB3 HBG HBL3 HO3
      go_wp2_with fail
      refine (decode_any _ bs w4 HS4.out (by rw [HL.out]; omega)).mono ?_
      rw [HDEC.out]
      rintro e w5 ⟨tv2, rfl, hT5, hN5, hb5⟩
      have HT5 : Hid (TxAt w5 tv2 t) := hT5
      have HN5 : Hid (TxNew w4.heap.size tv2) := hN5
      have HC5 : Hid (OwnB w5 w3.heap.size (.slice a4 n4 cap4) bs) := HC4.out.below hb5
      have HB5 : Hid (Blk w5 T [.slice tv.a tv.n tv.c, .slice tv.b tv.m tv.d, .int .i64 lk]) := HB4.out.below hb5 HB4.out.lt
      have HG6 : Hid (Blk w5 g cs) := HG5.out.below hb5 HG5.out.lt
      have HBL5 : Hid (Below T w w5) := HBL4.out.trans (hb5.mono (by omega))
      have hs5 := hb5.size
      clear hT5 hN5 hb5 HB4 HG5 HBL4 HC4 HS4
      rw [show (t, (0 : Int)).1.lock = lk from HLK.out]
      unfold TxV.val
      go_upto_region 8 with fail
      generalize hw6 : World.alloc w5 _ = w6
      have hb6 : Below w5.heap.size w5 w6 := by rw [← hw6]; exact (Below.refl _ _).alloc (Nat.le_refl _) _
      have HU6 : Hid (Blk w6 w5.heap.size [.slice tv2.a tv2.n tv2.c, .slice tv2.b tv2.m tv2.d, .int .i64 lk]) := by rw [← hw6]; exact Blk.mk _ _ _ rfl rfl
      have HT6 : Hid (TxAt w6 tv2 t) := HT5.out.below hb6
      have HC6 : Hid (OwnB w6 w3.heap.size (.slice a4 n4 cap4) bs) := HC5.out.below hb6
      have HB6 : Hid (Blk w6 T [.slice tv.a tv.n tv.c, .slice tv.b tv.m tv.d, .int .i64 lk]) := HB5.out.below hb6 HB5.out.lt
      have HG7 : Hid (Blk w6 g cs) := HG6.out.below hb6 HG6.out.lt
      have HBL6 : Hid (Below T w w6) := HBL5.out.trans (hb6.mono (by omega))
      have hs6 := hb6.size
      clear hb6 hw6 HT5 HC5 HB5 HG6 HBL5
      generalize hU : w5.heap.size = U at *
      go_wp2_with fail
      go_loopw [8] (fun i wr => ∃ (k : Nat) (ds : List Value), k ≤ L ∧ i = .int .i64 k ∧ Hid (Blk wr g ds) ∧ L ≤ ds.length ∧ Hid (Keep g w6 wr ∧ ∀ b, b ≠ g → wr.heap[b]? = w6.heap[b]?)) (fun i _ => L - (intOf i).toNat)
      case atStart => exact ⟨0, cs, by omega, rfl, HG7.out, hcl, Keep.refl _ _, fun _ _ => rfl⟩
      case round =>
        obtain ⟨k, ds, hk, rfl, HD, hds, HKE⟩ := hrel
        by_cases hlt : k < L
        · have e0 : (0 : Int) ≤ (k : Int) := by omega
          have e1 : (k : Int) < (L : Int) := by omega
          have d0 : wr.cell? ⟨g, k, none⟩ = some (ds[k]'(by omega)) := HD.out.one (List.getElem?_eq_getElem (by omega))
          have d1 : wr.frozen? ⟨g, k, none⟩ = false := HD.out.frozen k
          go_wp2_with fail
          have HD2 : Hid (Blk (wr.setCell ⟨g, k, none⟩ (.int .u8 0)) g (ds.set k (.int .u8 0))) := HD.out.set k _
          have HK2 : Hid (Keep g w6 (wr.setCell ⟨g, k, none⟩ (.int .u8 0)) ∧ ∀ b, b ≠ g → (wr.setCell ⟨g, k, none⟩ (.int .u8 0)).heap[b]? = w6.heap[b]?) := ⟨HKE.out.1.setCell k _, fun b hb => by rw [Below.heap_setCell _ _ _ b hb]; exact HKE.out.2 b hb⟩
          go_roundw
          case rel => exact ⟨k + 1, _, by omega, by go_num, HD2.out, by rw [List.length_set]; exact hds, HK2.out⟩
          case measure => simp [intOf]; omega
        · have HBw : Hid (Below T w wr) := HBL6.out.trans (HKE.out.1.below (by omega) (by omega))
          have HUw : Hid (Blk wr U [.slice tv2.a tv2.n tv2.c, .slice tv2.b tv2.m tv2.d, .int .i64 lk]) := HU6.out.keep HKE.out.1 (by omega)
          have HTw : Hid (Blk wr T [.slice tv.a tv.n tv.c, .slice tv.b tv.m tv.d, .int .i64 lk]) := HB6.out.keep HKE.out.1 (by omega)
          have HT2 : Hid (TxAt wr tv2 t) := HT6.out.kept HN5.out fun b hb => HKE.out.2 b (by omega)
          have HCw : Hid (OwnB wr w3.heap.size (.slice a4 n4 cap4) bs) := HC6.out.same fun k hk => HKE.out.2 k (by have := (HC6.out.lt k hk).1; omega)
          have hsz := HKE.out.1.size
          clear HKE HD HU6 HB6 HT6 HC6 HBL6 HG7
          have u0 : wr.cell? ⟨U, 0, none⟩ = some (.slice tv2.a tv2.n tv2.c) := HUw.out.one rfl
          have u1 : wr.cell? ⟨U, 1, none⟩ = some (.slice tv2.b tv2.m tv2.d) := HUw.out.one rfl
          have u2 : wr.cell? ⟨U, 2, none⟩ = some (.int .i64 lk) := HUw.out.one rfl
          have HE2 : Hid (Calls Tryd.prog 10 #[tv2.val lk] wr fun e w'' => ∃ v, e = .returned (.tuple #[v, .int .i64 0]) ∧ OwnB w'' wr.heap.size v bs ∧ Below wr.heap.size wr w'') := by
            have := encode_any tv2 t wr HT2.out
            rwa [HLK.out, HZ.out, HBS.out] at this
          unfold TxV.val at HE2
          go_wp2_with fail
          refine Calls.mono HE2.out ?_
          rintro e x1 ⟨v, rfl, hO, hbx⟩
          obtain ⟨ad, capd, rfl, hbyd⟩ := hO.bytes
          have s1 := hbyd.str
          obtain ⟨ac, capc, hvc, hbyc⟩ := (HCw.out.below hbx).bytes
          injection hvc with q1 q2 q3
          subst q1; subst q2; subst q3
          have s2 := hbyc.str
          have HBx : Hid (Below T w x1) := HBw.out.trans (hbx.mono (by omega))
          have HUx : Hid (Blk x1 U [.slice tv2.a tv2.n tv2.c, .slice tv2.b tv2.m tv2.d, .int .i64 lk]) := HUw.out.below hbx HUw.out.lt
          have HTx : Hid (Blk x1 T [.slice tv.a tv.n tv.c, .slice tv.b tv.m tv.d, .int .i64 lk]) := HTw.out.below hbx HTw.out.lt
          have HT3 : Hid (TxAt x1 tv2 t) := HT2.out.below hbx
          have hsx := hbx.size
          rw [HL.out] at s1 s2 ⊢
          obtain ⟨sb, hsb⟩ : ∃ x, ofB bs = x := ⟨_, rfl⟩
          rw [hsb] at s1 s2
          have HSA : Hid (Calls Tryd.prog 15 #[tv.val lk, tv2.val lk] x1 fun e w'' => e = .returned (.bool true) ∧ Below x1.heap.size x1 w'') := by
            have h2 := HSM.out
            have h3 := (chk_parts HZ.out)
            have h4 := HT3.out.ins.len
            have h5 := HT3.out.outs.len
            have := same_any tv tv2 t t x1 (HTX.out _ HBx.out) HT3.out (by omega) (by omega) (by omega) (by omega)
            rwa [HLK.out, sameT_refl] at this
          unfold TxV.val at HSA
          clear hsb hbyd hbyc hO hbx u0 u1 u2 HUw HTw HT2 HCw HBw
          have t0 : x1.cell? ⟨T, 0, none⟩ = some (.slice tv.a tv.n tv.c) := HTx.out.one rfl
          have t1 : x1.cell? ⟨T, 1, none⟩ = some (.slice tv.b tv.m tv.d) := HTx.out.one rfl
          have t2 : x1.cell? ⟨T, 2, none⟩ = some (.int .i64 lk) := HTx.out.one rfl
          have u0 : x1.cell? ⟨U, 0, none⟩ = some (.slice tv2.a tv2.n tv2.c) := HUx.out.one rfl
          have u1 : x1.cell? ⟨U, 1, none⟩ = some (.slice tv2.b tv2.m tv2.d) := HUx.out.one rfl
          have u2 : x1.cell? ⟨U, 2, none⟩ = some (.int .i64 lk) := HUx.out.one rfl
          go_wp2_with fail
          refine Calls.mono HSA.out ?_
          rintro e x2 ⟨rfl, hb7⟩
          have HBy : Hid (Below T w x2) := HBx.out.trans (hb7.mono (by omega))
          have hsy := hb7.size
          clear hb7 t0 t1 t2 u0 u1 u2
          go_wp2_with fail
          refine (awake_any x2 (HAW.out _ HBy.out)).mono ?_
          rintro e x3 ⟨rfl, hb8⟩
          have HBz : Hid (Below T w x3) := HBy.out.trans (hb8.mono (by omega))
          clear hb8
          go_wp2_with fail
          go_ret
          exact ⟨rfl, hN ▸ HBz.out⟩
    · have hne : (chkE t != 0) = true := by simp [hz]
      generalize chkE t = E at *
      clear hz
      go_wp2_with fail
      refine (awake_any w3 (HAW.out _ HBL3.out)).mono ?_
      rintro e w4 ⟨rfl, hb4⟩
      have HBL4 : Hid (Below T w w4) := HBL3.out.trans (hb4.mono (by omega))
      go_wp2_with fail
      go_ret
      exact ⟨rfl, hN ▸ HBL4.out⟩
end Go.Proofs.YteikbpkjikacmaaDoor
