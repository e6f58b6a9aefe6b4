/- TxBack: the law's walk. -/
import Derived.Test.YteikbpkjikacmaaDoorCLApart
namespace Go.Proofs.YteikbpkjikacmaaDoor
open Go.ChangeShapes Go.WideShapes Go.ChangeAt Go.RowKit

theorem byte_of {k : Int} (h : (Lit.int .u8 k).wf = true) : Y (BitVec.ofInt 8 k) = k := by
  have := bounds_u8 h
  unfold Y; rw [BitVec.toNat_ofInt]; omega
theorem SrcB.take {w : World} {g n cap : Nat} {bs : List (BitVec 8)} (h : SrcB w (.slice (some ⟨g, 0, none⟩) n cap) bs) (k : Nat) (hk : k ≤ bs.length) :
    SrcB w (.slice (some ⟨g, 0, none⟩) k cap) (bs.take k) := by
  rcases h with ⟨h, _⟩ | ⟨b, o, cap', hv, hc⟩
  · cases h
  · injection hv with h1 h2 h3
    injection h1 with h1
    injection h1 with h4 h5 h6
    subst h4; subst h5; subst h3
    refine .inr ⟨g, 0, cap, by rw [List.length_take, Nat.min_eq_left hk], fun j u hu => hc j u ?_⟩
    unfold u8s at hu ⊢
    rw [List.getElem?_map] at hu ⊢
    by_cases hj : j < k
    · rwa [List.getElem?_take_of_lt hj] at hu
    · rw [List.getElem?_eq_none (by rw [List.length_take]; omega)] at hu; cases hu
theorem back_ids {t : TxD} (h : chkE t ≠ 0) : idB t = zeros32 ∧ encB t = [] := ⟨by unfold idB; rw [if_neg h], by unfold encB; rw [if_neg h]⟩
set_option maxRecDepth 100000 in
set_option maxHeartbeats 8000000 in
theorem back_any (tv : TxV) (t : TxD) (cut : Int) (m : Int) (w : World) (hT : TxAt w tv t) (hK : Kw w) (hm : (Lit.int .u8 m).wf = true) :
    Calls Tryd.prog 3 #[tv.val t.lock, .int .i64 cut, .int .u8 m] w fun e w' => e = .returned (.bool true) ∧ Below w.heap.size w w' := by
  obtain ⟨x, rfl⟩ : ∃ x : BitVec 8, Y x = m := ⟨_, byte_of hm⟩
  clear hm
  have HT : Hid (TxAt w tv t) := hT
  have HK : Hid (Kw w) := hK
  have hpos := hK.pos
  clear hT hK
  obtain ⟨lk, hlk⟩ : ∃ z, t.lock = z := ⟨_, rfl⟩
  have HLK : Hid (t.lock = lk) := hlk
  have HLIGHT : Hid (∀ w', TxAt w' tv t → Calls Tryd.prog 8 #[tv.val lk, .int .i64 30] w' fun e w'' => e = .returned (.bool (lightB t 30)) ∧ Below w'.heap.size w' w'') := fun w' h => by rw [← hlk]; exact light_any tv t 30 w' h (by omega)
  have HENC : Hid (∀ w', TxAt w' tv t → Calls Tryd.prog 10 #[tv.val lk] w' fun e w'' => ∃ v, e = .returned (.tuple #[v, .int .i64 (chkE t)]) ∧ OwnB w'' w'.heap.size v (encB t) ∧ Below w'.heap.size w' w'') := fun w' h => by rw [← hlk]; exact encode_any tv t w' h
  have HCHK : Hid (∀ w', TxAt w' tv t → Calls Tryd.prog 11 #[tv.val lk] w' fun e w'' => e = .returned (.int .i64 (chkE t)) ∧ Below w'.heap.size w' w'') := fun w' h => by rw [← hlk]; exact check_any tv t w' h
  have HID : Hid (∀ w', TxAt w' tv t → Kw w' → Calls Tryd.prog 12 #[tv.val lk] w' fun e w'' => e = .returned (.agg (u8s (idB t)).toArray) ∧ Below w'.heap.size w' w'') := fun w' h k => by rw [← hlk]; exact id_any tv t w' h k
  rw [hlk]
  clear hlk
  unfold TxV.val at *
  go_enter Tryd.func3, Tryd.ntmps3
  go_upto_region 1 with fail
  generalize hwv : World.alloc w _ = w1
  have HB0 : Hid (Blk w1 w.heap.size [.slice tv.a tv.n tv.c, .slice tv.b tv.m tv.d, .int .i64 lk]) := by rw [← hwv]; exact Blk.mk _ _ _ rfl rfl
  have HBL : Hid (Below w.heap.size w w1) := by rw [← hwv]; exact (Below.refl _ _).alloc (Nat.le_refl _) _
  clear hwv
  have hT1 := HB0.out.lt
  have HTX : Hid (∀ w', Below w.heap.size w w' → TxAt w' tv t) := fun w' h => HT.out.below h
  have HAW : Hid (∀ w', Below w.heap.size w w' → Kw w') := fun w' h => HK.out.below h (by omega)
  generalize hN : w.heap.size = T at *
  have c0 : w1.cell? ⟨T, 0, none⟩ = some (.slice tv.a tv.n tv.c) := HB0.out.one rfl
  have c1 : w1.cell? ⟨T, 1, none⟩ = some (.slice tv.b tv.m tv.d) := HB0.out.one rfl
  have c2 : w1.cell? ⟨T, 2, none⟩ = some (.int .i64 lk) := HB0.out.one rfl
  go_wp2_with fail
  refine Calls.mono (HLIGHT.out w1 (HTX.out _ HBL.out)) ?_
  rintro e w2 ⟨rfl, hb2⟩
  have HB2 : Hid (Blk w2 T [.slice tv.a tv.n tv.c, .slice tv.b tv.m tv.d, .int .i64 lk]) := HB0.out.below hb2 hT1
  have HBL2 : Hid (Below T w w2) := HBL.out.trans (hb2.mono (by omega))
  clear hb2 c0 c1 c2 HB0 HBL HLIGHT
  have hT2 := HB2.out.lt
  cases lightB t 30 with
  | false =>
    go_wp2_with fail
    refine (awake_any w2 (HAW.out _ HBL2.out)).mono ?_
    rintro e w3 ⟨rfl, hb3⟩
    have HBL3 : Hid (Below T w w3) := HBL2.out.trans (hb3.mono (by omega))
    go_wp2_with fail
    go_ret
    exact ⟨rfl, hN ▸ HBL3.out⟩
  | true =>
    have c0 : w2.cell? ⟨T, 0, none⟩ = some (.slice tv.a tv.n tv.c) := HB2.out.one rfl
    have c1 : w2.cell? ⟨T, 1, none⟩ = some (.slice tv.b tv.m tv.d) := HB2.out.one rfl
    have c2 : w2.cell? ⟨T, 2, none⟩ = some (.int .i64 lk) := HB2.out.one rfl
    go_wp2_with fail
    refine Calls.mono (HENC.out w2 (HTX.out _ HBL2.out)) ?_
    rintro e w3 ⟨v, rfl, hO3, hb3⟩
    have HO3 : Hid (OwnB w3 w2.heap.size v (encB t)) := hO3
    have HB3 : Hid (Blk w3 T [.slice tv.a tv.n tv.c, .slice tv.b tv.m tv.d, .int .i64 lk]) := HB2.out.below hb3 hT2
    have HBL3 : Hid (Below T w w3) := HBL2.out.trans (hb3.mono (by omega))
    have hs3 := hb3.size
    clear hO3 hb3 c0 c1 c2 HB2 HBL2 HENC
    by_cases hz : chkE t = 0
    · have HDEC : Hid (decT (encB t) = (t, 0)) := dec_enc t hz
      have HMORE : Hid ((decT (encB t ++ [x])).2 = 2) := dec_more t hz x []
      have HCUT : Hid (∀ k, k < (encB t).length → (decT ((encB t).take k)).2 = 2) := dec_cut t hz
      have HLEN : Hid ((encB t).length ≤ 30000) := enc_length hz
      have HSM : Hid (tv.n ≤ 100 ∧ tv.m ≤ 100) := by
        have := chk_parts hz
        exact ⟨by have h := HT.out.ins.len; omega, by have h := HT.out.outs.len; omega⟩
      have HZ : Hid (chkE t = 0) := hz
      have hne := enc_pos hz
      rw [hz]
      clear hz HCHK HID
      obtain ⟨g, cap, cs, rfl, hg, hBg, hcl⟩ := HO3.out.blk hne
      have hroom : (encB t).length ≤ cap ∧ cap ≤ maxLen := by
        obtain ⟨a', cap', hv, hby⟩ := HO3.out.bytes
        injection hv with _ _ q
        subst q
        exact ⟨hby.room, hby.most⟩
      have hmost : cap ≤ 9223372036854775807 := by have := hroom.2; unfold maxLen at this; omega
      have hroom := hroom.1
      have HSB : Hid (SrcB w3 (.slice (some ⟨g, 0, none⟩) (encB t).length cap) (encB t)) := HO3.out.src
      clear hBg hcl cs HO3
      generalize hbs : encB t = bs at *
      clear hbs
      generalize hL : bs.length = L at *
      have HL : Hid (bs.length = L) := hL
      have hL3 := HLEN.out
      clear hL
      go_wp2_with fail
      refine (decode_any _ bs w3 HSB.out (by rw [HL.out]; omega)).mono ?_
      rw [HDEC.out]
      rintro e w5 ⟨tv2, rfl, hT5, hN5, hb5⟩
      rw [show (t, (0 : Int)).1.lock = lk from HLK.out]
      unfold TxV.val
      go_upto_region 7 with fail
      generalize hw6 : World.alloc w5 _ = w6
      have hb6 : Below w5.heap.size w5 w6 := by rw [← hw6]; exact (Below.refl _ _).alloc (Nat.le_refl _) _
      have HU6 : Hid (Blk w6 w5.heap.size [.slice tv2.a tv2.n tv2.c, .slice tv2.b tv2.m tv2.d, .int .i64 lk]) := by rw [← hw6]; exact Blk.mk _ _ _ rfl rfl
      have HT6 : Hid (TxAt w6 tv2 t) := hT5.below hb6
      have hb36 : Below w3.heap.size w3 w6 := hb5.trans (hb6.mono hb5.size)
      have HB6 : Hid (Blk w6 T [.slice tv.a tv.n tv.c, .slice tv.b tv.m tv.d, .int .i64 lk]) := HB3.out.below hb36 HB3.out.lt
      have HS6 : Hid (SrcB w6 (.slice (some ⟨g, 0, none⟩) L cap) bs) := HSB.out.below hb36
      have HBL6 : Hid (Below T w w6) := HBL3.out.trans (hb36.mono (by omega))
      have hs6 := hb6.size
      have hs36 := hb36.size
      clear hb6 hw6 hb36 hb5 hT5 hN5 HB3 HSB HBL3
      have HB1 : Hid (Below w6.heap.size w6 (w6.alloc (.cells #[] 5))) := (Below.refl _ _).alloc (Nat.le_refl _) _
      have HO1 : Hid (OwnB (w6.alloc (.cells #[] 5)) w6.heap.size (.slice (some ⟨w6.heap.size, 0, none⟩) 0 0) []) := OwnB.lit w6 [] (by simp)
      have HS1 : Hid (SrcB (w6.alloc (.cells #[] 5)) (.slice (some ⟨g, 0, none⟩) L cap) bs) := HS6.out.below HB1.out
      generalize hU : w5.heap.size = U at *
      go_wp2_with (first
        | (at_builtin; refine wpList_append_b rfl _ _ rfl w6.heap.size _ [] rfl HO1.out _ bs rfl HS1.out (by rw [HL.out]; simp; omega) (by simp) ?_; intro v7 w7 HO7 HG7 HM7; obtain ⟨a7, n7, cap7, rfl⟩ := HO7.out.any;
           have HB7 : Hid (Below w6.heap.size w6 w7) := HB1.out.grown HG7.out (by simp) fun k hk => (by
             have hk' : some w6.heap.size = some k := hk
             injection hk' with hk'
             omega);
           have hs7 := HB7.out.size;
           have HO2 : Hid (OwnB (w7.alloc (.cells #[.int .u8 (Y x)] 5)) w6.heap.size (.slice a7 n7 cap7) ([] ++ bs)) := HO7.out.below ((Below.refl _ _).alloc (Nat.le_refl _) _);
           have HS2 : Hid (SrcB (w7.alloc (.cells #[.int .u8 (Y x)] 5)) (.slice (some ⟨w7.heap.size, 0, none⟩) 1 1) [x]) := (OwnB.lit w7 [x] (by simp)).src;
           clear HO7 HG7 HM7 HO1 HS1)
        | (at_builtin; refine wpList_append_b rfl _ _ rfl w6.heap.size _ ([] ++ bs) rfl HO2.out _ [x] rfl HS2.out (by rw [List.nil_append, HL.out]; simp; omega) (by rw [World.size_alloc]; omega) ?_; intro v8 w8 HO8 HG8 HM8; obtain ⟨a8, n8, cap8, rfl⟩ := HO8.out.any))
      have HB8 : Hid (Below w6.heap.size w6 w8) := (HB7.out.trans (((Below.refl _ _).alloc (Nat.le_refl _) _).mono hs7)).grown HG8.out (by rw [World.size_alloc]; omega) fun k hk => (HO2.out.lt k hk).1
      have HS8 : Hid (SrcB w8 (.slice a8 n8 cap8) (bs ++ [x])) := by
        have := HO8.out.src
        rwa [List.nil_append] at this
      have hs8 := HB8.out.size
      clear HB7 HO2 HS2 HO8 HG8 HM8 HB1 hs7
      refine (decode_any _ (bs ++ [x]) w8 HS8.out (by rw [List.length_append, HL.out, List.length_singleton]; omega)).mono ?_
      rw [HMORE.out]
      rintro e w9 ⟨tv3, rfl, _, _, hb9⟩
      generalize (decT (bs ++ [x])).1.lock = lk3
      have HB9 : Hid (Below w6.heap.size w6 w9) := HB8.out.trans (hb9.mono hs8)
      have hs9 := HB9.out.size
      clear hb9 HB8 HS8 hs8
      unfold TxV.val
      go_upto_region 8 with fail
      generalize hw10 : World.alloc w9 _ = w10
      have HB10 : Hid (Below w6.heap.size w6 w10) := by rw [← hw10]; exact HB9.out.alloc hs9 _
      clear hw10 HB9
      have hs10 := HB10.out.size
      obtain ⟨k, hk, hkL⟩ : ∃ k : Nat, cut % ((L : Int) + 1) = (k : Int) ∧ k ≤ L := ⟨(cut % ((L : Int) + 1)).toNat, by
        have := Int.emod_nonneg cut (show (L : Int) + 1 ≠ 0 by omega); omega, by
        have := Int.emod_lt_of_pos cut (show 0 < (L : Int) + 1 by omega); omega⟩
      have HRD : Hid (∀ wx, Calls Tryd.prog 14 #[.int .i64 cut, .int .i64 ((L : Int) + 1)] wx fun e w' => e = .returned (.int .i64 (k : Int)) ∧ wx = w') := fun wx => by
        have := round_any cut ((L : Int) + 1) wx (by omega) (by omega)
        rwa [hk] at this
      clear hk
      go_wp2_with fail
      refine (HRD.out w10).mono ?_
      rintro e w11 ⟨rfl, rfl⟩
      clear HRD
      go_wp2_with fail
      have HS10 : Hid (SrcB w10 (.slice (some ⟨g, 0, none⟩) k cap) (bs.take k)) := (HS6.out.below HB10.out).take k (by rw [HL.out]; exact hkL)
      refine (decode_any _ (bs.take k) w10 HS10.out (by rw [List.length_take, HL.out]; omega)).mono ?_
      rintro e w12 ⟨tv4, rfl, _, _, hb12⟩
      have HD4 : Hid ((decT (bs.take k)).2 = 2 ∨ k = L) := by
        by_cases hkl : k < L
        · exact .inl (HCUT.out k hkl)
        · exact .inr (by omega)
      generalize (decT (bs.take k)).1.lock = lk4
      generalize (decT (bs.take k)).2 = e4 at HD4 ⊢
      have HB12 : Hid (Below w6.heap.size w6 w12) := HB10.out.trans (hb12.mono hs10)
      have hs12 := HB12.out.size
      clear hb12 HB10 HS10 hs10
      unfold TxV.val
      go_upto_region 10 with fail
      generalize hw13 : World.alloc w12 _ = w13
      have HB13 : Hid (Below w6.heap.size w6 w13) := by rw [← hw13]; exact HB12.out.alloc hs12 _
      clear hw13 HB12
      have hs13 := HB13.out.size
      have HBx : Hid (Below T w w13) := HBL6.out.trans (HB13.out.mono (by omega))
      have HUx : Hid (Blk w13 U [.slice tv2.a tv2.n tv2.c, .slice tv2.b tv2.m tv2.d, .int .i64 lk]) := HU6.out.below HB13.out HU6.out.lt
      have HTx : Hid (Blk w13 T [.slice tv.a tv.n tv.c, .slice tv.b tv.m tv.d, .int .i64 lk]) := HB6.out.below HB13.out HB6.out.lt
      have HT3 : Hid (TxAt w13 tv2 t) := HT6.out.below HB13.out
      clear HB13 HU6 HB6 HT6 HBL6 HS6
      have HSA : Hid (Calls Tryd.prog 15 #[tv.val lk, tv2.val lk] w13 fun e w'' => e = .returned (.bool true) ∧ Below w13.heap.size w13 w'') := by
        have h2 := HSM.out
        have h3 := (chk_parts HZ.out)
        have h4 := HT3.out.ins.len
        have h5 := HT3.out.outs.len
        have := same_any tv tv2 t t w13 (HTX.out _ HBx.out) HT3.out (by omega) (by omega) (by omega) (by omega)
        rwa [HLK.out, sameT_refl] at this
      unfold TxV.val at HSA
      have t0 : w13.cell? ⟨T, 0, none⟩ = some (.slice tv.a tv.n tv.c) := HTx.out.one rfl
      have t1 : w13.cell? ⟨T, 1, none⟩ = some (.slice tv.b tv.m tv.d) := HTx.out.one rfl
      have t2 : w13.cell? ⟨T, 2, none⟩ = some (.int .i64 lk) := HTx.out.one rfl
      have u0 : w13.cell? ⟨U, 0, none⟩ = some (.slice tv2.a tv2.n tv2.c) := HUx.out.one rfl
      have u1 : w13.cell? ⟨U, 1, none⟩ = some (.slice tv2.b tv2.m tv2.d) := HUx.out.one rfl
      have u2 : w13.cell? ⟨U, 2, none⟩ = some (.int .i64 lk) := HUx.out.one rfl
      have hLp : (0 : Int) < (L : Int) := by omega
      go_wp2_with fail
      refine Calls.mono HSA.out ?_
      rintro e x2 ⟨rfl, hb7⟩
      have HBy : Hid (Below T w x2) := HBx.out.trans (hb7.mono (by omega))
      have hsy := hb7.size
      clear hb7 t0 t1 t2 u0 u1 u2 HSA HTx HUx HT3
      rcases HD4.out with rfl | rfl
      · by_cases hkl : (k : Int) = (L : Int)
        · go_wp2_with fail
          refine (awake_any x2 (HAW.out _ HBy.out)).mono ?_
          rintro e x3 ⟨rfl, hb8⟩
          have HBz : Hid (Below T w x3) := HBy.out.trans (hb8.mono (by omega))
          clear hb8
          go_wp2_with fail
          go_ret
          exact ⟨rfl, hN ▸ HBz.out⟩
        · go_wp2_with fail
          refine (awake_any x2 (HAW.out _ HBy.out)).mono ?_
          rintro e x3 ⟨rfl, hb8⟩
          have HBz : Hid (Below T w x3) := HBy.out.trans (hb8.mono (by omega))
          clear hb8
          go_wp2_with fail
          go_ret
          exact ⟨rfl, hN ▸ HBz.out⟩
      · go_wp2_with fail
        refine (awake_any x2 (HAW.out _ HBy.out)).mono ?_
        rintro e x3 ⟨rfl, hb8⟩
        have HBz : Hid (Below T w x3) := HBy.out.trans (hb8.mono (by omega))
        clear hb8
        go_wp2_with fail
        go_ret
        exact ⟨rfl, hN ▸ HBz.out⟩
    · obtain ⟨hid, hen⟩ := back_ids hz
      have hne : (chkE t != 0) = true := by simp [hz]
      rw [hen] at HO3
      rw [hid] at HID
      obtain ⟨a, cap, rfl⟩ := HO3.out.shape
      rw [List.length_nil]
      generalize chkE t = E at *
      clear hz hid hen HO3
      have q1 : ∀ w', (binOp .eql 34 (.agg (u8s zeros32).toArray) (.agg #[.int .u8 0, .int .u8 0, .int .u8 0, .int .u8 0, .int .u8 0, .int .u8 0, .int .u8 0, .int .u8 0, .int .u8 0, .int .u8 0, .int .u8 0, .int .u8 0, .int .u8 0, .int .u8 0, .int .u8 0, .int .u8 0, .int .u8 0, .int .u8 0, .int .u8 0, .int .u8 0, .int .u8 0, .int .u8 0, .int .u8 0, .int .u8 0, .int .u8 0, .int .u8 0, .int .u8 0, .int .u8 0, .int .u8 0, .int .u8 0, .int .u8 0, .int .u8 0])).run Tryd.prog w' = .ok (.bool true) w' := fun w' => by
        show (binOp .eql 34 (.agg (u8s zeros32).toArray) (.agg (u8s zeros32).toArray)).run Tryd.prog w' = _
        rw [eql_hash _ _ rfl rfl, beq_self_eq_true]
      have q3 : ∀ (op : BinOp) (u v : Operand) (xs ys : Array Value) w', (eqGuard op 34 u v (.agg xs) (.agg ys)).run Tryd.prog w' = .ok () w' := fun op u v xs ys w' => run_eqGuard_agg w' op _ u v _ _ (by kernel_rfl)
      have c0 : w3.cell? ⟨T, 0, none⟩ = some (.slice tv.a tv.n tv.c) := HB3.out.one rfl
      have c1 : w3.cell? ⟨T, 1, none⟩ = some (.slice tv.b tv.m tv.d) := HB3.out.one rfl
      have c2 : w3.cell? ⟨T, 2, none⟩ = some (.int .i64 lk) := HB3.out.one rfl
      go_wp2_with fail
      refine Calls.mono (HCHK.out w3 (HTX.out _ HBL3.out)) ?_
      rintro e w4 ⟨rfl, hb4⟩
      have HB4 : Hid (Blk w4 T [.slice tv.a tv.n tv.c, .slice tv.b tv.m tv.d, .int .i64 lk]) := HB3.out.below hb4 HB3.out.lt
      have HBL4 : Hid (Below T w w4) := HBL3.out.trans (hb4.mono (by omega))
      have hs4 := hb4.size
      clear hb4 c0 c1 c2 HB3 HBL3 HCHK
      have c0 : w4.cell? ⟨T, 0, none⟩ = some (.slice tv.a tv.n tv.c) := HB4.out.one rfl
      have c1 : w4.cell? ⟨T, 1, none⟩ = some (.slice tv.b tv.m tv.d) := HB4.out.one rfl
      have c2 : w4.cell? ⟨T, 2, none⟩ = some (.int .i64 lk) := HB4.out.one rfl
      go_wp2_with fail
      refine Calls.mono (HID.out w4 (HTX.out _ HBL4.out) (HAW.out _ HBL4.out)) ?_
      rintro e w5 ⟨rfl, hb5⟩
      have HBL5 : Hid (Below T w w5) := HBL4.out.trans (hb5.mono (by omega))
      have hs5 := hb5.size
      clear hb5 c0 c1 c2 HB4 HBL4 HID
      go_wp2_with fail
      refine (awake_any w5 (HAW.out _ HBL5.out)).mono ?_
      rintro e w6 ⟨rfl, hb6⟩
      have HBL6 : Hid (Below T w w6) := HBL5.out.trans (hb6.mono (by omega))
      go_wp2_with fail
      go_ret
      exact ⟨rfl, hN ▸ HBL6.out⟩
end Go.Proofs.YteikbpkjikacmaaDoor
