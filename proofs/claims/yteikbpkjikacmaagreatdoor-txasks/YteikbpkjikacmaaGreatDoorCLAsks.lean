/- TxAsks: the law's walk. -/
import Derived.Test.YteikbpkjikacmaaGreatDoorCRfP
import Derived.Test.YteikbpkjikacmaaGreatDoorCRfB
import Derived.Test.YteikbpkjikacmaaGreatDoorCRfD
import Derived.Test.YteikbpkjikacmaaGreatDoorCLLight
namespace Go.Proofs.YteikbpkjikacmaaGreatDoor
open Go.ChangeShapes Go.WideShapes Go.ChangeAt Go.RowKit

theorem sameT_self (t : TxD) : sameT t t = true := by
  have h1 : ∀ l : List In, Go.Lib.allEq eqI l l = true := fun l => by
    induction l with
    | nil => rfl
    | cons x l ih => simp [Go.Lib.allEq, ih, eqI]
  have h2 : ∀ l : List Out, Go.Lib.allEq eqO l l = true := fun l => by
    induction l with
    | nil => rfl
    | cons x l ih => simp [Go.Lib.allEq, ih, eqO, eqS]
  unfold sameT
  rw [h1, h2]; simp
theorem decT_small (bs : List (BitVec 8)) : (decT bs).1.ins.length ≤ 100 ∧ (decT bs).1.outs.length ≤ 100 := by
  unfold decT
  by_cases hc : rD (rTx (bs, false)).2 = true ∧ chkE (rTx (bs, false)).1 = 0
  · rw [if_pos hc]; exact chk_small hc.2
  · rw [if_neg hc]; exact ⟨by simp, by simp⟩
set_option maxRecDepth 100000 in
set_option maxHeartbeats 16000000 in
theorem asks_any (tv uv : TxV) (t u : TxD) (a : Option Addr) (cap : Nat) (bs : List (BitVec 8)) (p : Pt) (kd : Int) (w : World) (hT : TxAt w tv t) (hU : TxAt w uv u) (hby : Bytes w a cap bs) (hsrc : SrcB w (.slice a bs.length cap) bs) (hap : ∀ x : Addr, a = some x → x.block < w.heap.size) (hK : Kw w) :
    Calls Tryz.prog 3 #[tv.val t.lock, uv.val u.lock, .slice a bs.length cap, .agg p.cs.toArray, .int .i64 kd] w fun e w' => e = .returned (.bool true) ∧ Below w.heap.size w w' := by
  have HMO := follows_mixed
  have HT : Hid (TxAt w tv t) := hT
  have HU : Hid (TxAt w uv u) := hU
  have HBY : Hid (Bytes w a cap bs ∧ SrcB w (.slice a bs.length cap) bs ∧ ∀ x : Addr, a = some x → x.block < w.heap.size) := ⟨hby, hsrc, hap⟩
  have HK : Hid (Kw w) := hK
  have hpos := hK.pos
  have hroom := hby.room
  have hmost : cap ≤ 9223372036854775807 := by have := hby.most; unfold maxLen at this; omega
  clear hT hU hby hsrc hap hK
  obtain ⟨lk, hlk⟩ : ∃ z, t.lock = z := ⟨_, rfl⟩
  obtain ⟨ul, hul⟩ : ∃ z, u.lock = z := ⟨_, rfl⟩
  have HLK : Hid (t.lock = lk ∧ u.lock = ul) := ⟨hlk, hul⟩
  rw [hlk, hul]
  clear hlk hul
  generalize hL : bs.length = L at *
  have HL : Hid (bs.length = L) := hL
  clear hL
  unfold TxV.val
  go_enter Tryz.func3, Tryz.ntmps3
  go_upto_region 1 with fail
  generalize hwv : World.alloc (World.alloc (World.alloc w _) _) _ = w1
  have HB0 : Hid (Blk w1 w.heap.size [.slice tv.a tv.n tv.c, .slice tv.b tv.m tv.d, .int .i64 lk]) := by rw [← hwv]; exact ((Blk.mk _ _ _ rfl rfl).alloc _).alloc _
  have HB1 : Hid (Blk w1 (w.heap.size + 1) [.slice uv.a uv.n uv.c, .slice uv.b uv.m uv.d, .int .i64 ul]) := by rw [← hwv]; exact (Blk.mk _ _ _ (by simp) rfl).alloc _
  have HB2 : Hid (Blk w1 (w.heap.size + 2) p.cs) := by rw [← hwv]; exact Blk.mk _ _ _ (by simp) rfl
  have HBL : Hid (Below w.heap.size w w1) := by rw [← hwv]; exact (((Below.refl _ _).alloc (Nat.le_refl _) _).alloc (by simp) _).alloc (by simp; omega) _
  clear hwv
  have HTX : Hid (∀ w', Below w.heap.size w w' → TxAt w' tv t) := fun w' h => HT.out.below h
  have HUX : Hid (∀ w', Below w.heap.size w w' → TxAt w' uv u) := fun w' h => HU.out.below h
  have HAW : Hid (∀ w', Below w.heap.size w w' → Kw w') := fun w' h => HK.out.below h (by omega)
  have HBX : Hid (∀ w', Below w.heap.size w w' → Bytes w' a cap bs ∧ SrcB w' (.slice a L cap) bs ∧ ∀ x : Addr, a = some x → x.block < w'.heap.size) := fun w' h => ⟨HBY.out.1.kept fun b o e => h.block b (HBY.out.2.2 _ e), HBY.out.2.1.below h, fun x e => Nat.lt_of_lt_of_le (HBY.out.2.2 x e) h.size⟩
  clear HT HU HBY HK
  generalize hN : w.heap.size = T at *
  have hT2 := HB2.out.lt
  have HTW : Hid (∀ w', Below w1.heap.size w1 w' → Below T w w') := fun w' h => HBL.out.trans (h.mono (by omega))
  have HS : Hid (∀ w', Below w1.heap.size w1 w' → w'.cell? ⟨T, 0, none⟩ = some (.slice tv.a tv.n tv.c) ∧ w'.cell? ⟨T, 1, none⟩ = some (.slice tv.b tv.m tv.d) ∧ w'.cell? ⟨T, 2, none⟩ = some (.int .i64 lk) ∧ w'.cell? ⟨T + 1, 0, none⟩ = some (.slice uv.a uv.n uv.c) ∧ w'.cell? ⟨T + 1, 1, none⟩ = some (.slice uv.b uv.m uv.d) ∧ w'.cell? ⟨T + 1, 2, none⟩ = some (.int .i64 ul) ∧ w'.rangeAt (T + 2) 0 p.cs) := fun w' h => ⟨(HB0.out.below h HB0.out.lt).one rfl, (HB0.out.below h HB0.out.lt).one rfl, (HB0.out.below h HB0.out.lt).one rfl, (HB1.out.below h HB1.out.lt).one rfl, (HB1.out.below h HB1.out.lt).one rfl, (HB1.out.below h HB1.out.lt).one rfl, (HB2.out.below h hT2).whole⟩
  clear HB0 HB1 HB2
  have HLT : Hid (∀ w', Below w1.heap.size w1 w' → Calls Tryz.prog 4 #[.agg #[.slice tv.a tv.n tv.c, .slice tv.b tv.m tv.d, .int .i64 lk], .int .i64 110] w' fun e w'' => e = .returned (.bool (lightB t 110)) ∧ Below w'.heap.size w' w'') := fun w' h => by
    have := light_any tv t 110 w' (HTX.out _ (HTW.out _ h)) (by omega); rwa [HLK.out.1] at this
  have HLU : Hid (∀ w', Below w1.heap.size w1 w' → Calls Tryz.prog 4 #[.agg #[.slice uv.a uv.n uv.c, .slice uv.b uv.m uv.d, .int .i64 ul], .int .i64 110] w' fun e w'' => e = .returned (.bool (lightB u 110)) ∧ Below w'.heap.size w' w'') := fun w' h => by
    have := light_any uv u 110 w' (HUX.out _ (HTW.out _ h)) (by omega); rwa [HLK.out.2] at this
  obtain ⟨c0, c1, c2, _, _, _, _⟩ := HS.out w1 (Below.refl _ _)
  go_wp2_with fail
  refine Calls.mono (HLT.out w1 (Below.refl _ _)) ?_
  rintro e w2 ⟨rfl, hb2⟩
  have HB2 : Hid (Below w1.heap.size w1 w2) := hb2
  have hs2 := hb2.size
  clear hb2 c0 c1 c2
  by_cases hl1 : lightB t 110 = true
  case neg =>
    have hl1 : lightB t 110 = false := by simpa using hl1
    rw [hl1]
    go_wp2_with fail
    refine (awake_any w2 (HAW.out _ (HTW.out _ HB2.out))).mono ?_
    rintro e w3 ⟨rfl, hb3⟩
    have HB3 : Hid (Below w1.heap.size w1 w3) := HB2.out.trans (hb3.mono hs2)
    go_wp2_with fail
    go_ret
    exact ⟨rfl, hN ▸ HTW.out _ HB3.out⟩
  obtain ⟨hti, hto⟩ := light_small hl1
  rw [hl1]
  clear hl1
  obtain ⟨_, _, _, c3, c4, c5, _⟩ := HS.out w2 HB2.out
  go_wp2_with fail
  refine Calls.mono (HLU.out w2 HB2.out) ?_
  rintro e w3 ⟨rfl, hb3⟩
  have HB3 : Hid (Below w1.heap.size w1 w3) := HB2.out.trans (hb3.mono hs2)
  have hs3 := HB3.out.size
  clear hb3 c3 c4 c5 HB2 hs2 HLT HLU
  by_cases hl2 : lightB u 110 = true
  case neg =>
    have hl2 : lightB u 110 = false := by simpa using hl2
    rw [hl2]
    go_wp2_with fail
    refine (awake_any w3 (HAW.out _ (HTW.out _ HB3.out))).mono ?_
    rintro e w4 ⟨rfl, hb4⟩
    have HB4 : Hid (Below w1.heap.size w1 w4) := HB3.out.trans (hb4.mono hs3)
    go_wp2_with fail
    go_ret
    exact ⟨rfl, hN ▸ HTW.out _ HB4.out⟩
  obtain ⟨hui, huo⟩ := light_small hl2
  rw [hl2]
  clear hl2
  by_cases hb : 3000 < L
  · have e1 : (3000 : Int) < (L : Int) := by omega
    go_wp2_with fail
    refine (awake_any w3 (HAW.out _ (HTW.out _ HB3.out))).mono ?_
    rintro e w4 ⟨rfl, hb4⟩
    have HB4 : Hid (Below w1.heap.size w1 w4) := HB3.out.trans (hb4.mono hs3)
    go_wp2_with fail
    go_ret
    exact ⟨rfl, hN ▸ HTW.out _ HB4.out⟩
  have e1 : ¬ (3000 : Int) < (L : Int) := by omega
  have HSZ : Hid (tv.n ≤ 110 ∧ tv.m ≤ 110 ∧ uv.n ≤ 110 ∧ uv.m ≤ 110) := by
    have h1 := HTX.out w (Below.refl _ _)
    have h2 := HUX.out w (Below.refl _ _)
    have a1 := h1.ins.len
    have a2 := h1.outs.len
    have a3 := h2.ins.len
    have a4 := h2.outs.len
    exact ⟨by omega, by omega, by omega, by omega⟩
  have HENC : Hid (∀ w', Below w1.heap.size w1 w' → Calls Tryz.prog 6 #[.agg #[.slice tv.a tv.n tv.c, .slice tv.b tv.m tv.d, .int .i64 lk]] w' fun e w'' => ∃ v, e = .returned (.tuple #[v, .int .i64 (chkE t)]) ∧ OwnB w'' w'.heap.size v (encB t) ∧ Below w'.heap.size w' w'') := fun w' h => by
    have := encode_any tv t w' (HTX.out _ (HTW.out _ h)); rwa [HLK.out.1] at this
  have HRENC : Hid (∀ w', Below w1.heap.size w1 w' → Calls Tryz.prog 7 #[.agg #[.slice tv.a tv.n tv.c, .slice tv.b tv.m tv.d, .int .i64 lk]] w' fun e w'' => ∃ v, e = .returned (.tuple #[v, .int .i64 (chkE t)]) ∧ OwnB w'' w'.heap.size v (encB t) ∧ Below w'.heap.size w' w'') := fun w' h => by
    have := rencode_any tv t w' (HTX.out _ (HTW.out _ h)); rwa [HLK.out.1] at this
  have HCHK : Hid (∀ w', Below w1.heap.size w1 w' → Calls Tryz.prog 10 #[.agg #[.slice tv.a tv.n tv.c, .slice tv.b tv.m tv.d, .int .i64 lk]] w' fun e w'' => e = .returned (.int .i64 (chkE t)) ∧ Below w'.heap.size w' w'') := fun w' h => by
    have := check_any tv t w' (HTX.out _ (HTW.out _ h)); rwa [HLK.out.1] at this
  have HRCHK : Hid (∀ w', Below w1.heap.size w1 w' → Calls Tryz.prog 11 #[.agg #[.slice tv.a tv.n tv.c, .slice tv.b tv.m tv.d, .int .i64 lk]] w' fun e w'' => e = .returned (.int .i64 (chkE t)) ∧ Below w'.heap.size w' w'') := fun w' h => by
    have := rcheck_any tv t w' (HTX.out _ (HTW.out _ h)); rwa [HLK.out.1] at this
  generalize chkE t = E at *
  obtain ⟨c0, c1, c2, _, _, _, _⟩ := HS.out w3 HB3.out
  go_wp2_with fail
  refine Calls.mono (HENC.out w3 HB3.out) ?_
  rintro e w4 ⟨v4, rfl, ho4, hb4⟩
  have HB4 : Hid (Below w1.heap.size w1 w4) := HB3.out.trans (hb4.mono hs3)
  have hs4 := HB4.out.size
  obtain ⟨a4, cap4, rfl, hy4⟩ := ho4.bytes
  have HY4 : Hid (Bytes w4 a4 cap4 (encB t) ∧ ∀ x : Addr, a4 = some x → x.block < w4.heap.size) := ⟨hy4, fun x e => (ho4.lt x.block (by rw [e]; rfl)).2⟩
  clear ho4 hb4 hy4 c0 c1 c2 HB3 hs3 HENC
  obtain ⟨c0, c1, c2, _, _, _, _⟩ := HS.out w4 HB4.out
  go_wp2_with fail
  refine Calls.mono (HRENC.out w4 HB4.out) ?_
  rintro e w5 ⟨v5, rfl, ho5, hb5⟩
  have HB5 : Hid (Below w1.heap.size w1 w5) := HB4.out.trans (hb5.mono hs4)
  have hs5 := HB5.out.size
  obtain ⟨a5, cap5, rfl, hy5⟩ := ho5.bytes
  have HY5 : Hid (∀ w', Below w5.heap.size w5 w' → (convert 26 9 (.slice a4 (encB t).length cap4)).run Tryz.prog w' = .ok (.string (ofB (encB t))) w' ∧ (convert 26 9 (.slice a5 (encB t).length cap5)).run Tryz.prog w' = .ok (.string (ofB (encB t))) w') := fun w' h => ⟨(HY4.out.1.kept fun b o e => (h.block b (Nat.lt_of_lt_of_le (HY4.out.2 _ e) hb5.size)).trans (hb5.block b (HY4.out.2 _ e))).str, (hy5.kept fun b o e => h.block b (ho5.lt b (by rw [e]; rfl)).2).str⟩
  clear ho5 hb5 hy5 c0 c1 c2 HB4 hs4 HRENC HY4
  generalize (encB t).length = LE at *
  generalize ofB (encB t) = str at *
  go_wp2_with fail
  refine (decode_any _ bs w5 (HBX.out _ (HTW.out _ HB5.out)).2.1 (by rw [HL.out]; omega)).mono ?_
  rintro e w6 ⟨v1, rfl, hT6, _, hb6⟩
  obtain ⟨l1, hl1⟩ : ∃ z, (decT bs).1.lock = z := ⟨_, rfl⟩
  have HD1 : Hid ((decT bs).1.lock = l1) := hl1
  rw [hl1]
  obtain ⟨G, hG⟩ : ∃ z, (decT bs).2 = z := ⟨_, rfl⟩
  have HG : Hid ((decT bs).2 = G) := hG
  rw [hG]
  have HT6 : Hid (TxAt w6 v1 (decT bs).1) := hT6
  have HB6 : Hid (Below w1.heap.size w1 w6) := HB5.out.trans (hb6.mono hs5)
  have HB56 : Hid (Below w5.heap.size w5 w6) := hb6
  have hs6 := HB6.out.size
  clear hT6 hb6 hl1 hG
  unfold TxV.val
  go_upto_region 6 with fail
  generalize hw7 : World.alloc w6 _ = w7
  have hb7 : Below w6.heap.size w6 w7 := by rw [← hw7]; exact (Below.refl _ _).alloc (Nat.le_refl _) _
  have HV7 : Hid (Blk w7 w6.heap.size [.slice v1.a v1.n v1.c, .slice v1.b v1.m v1.d, .int .i64 l1]) := by rw [← hw7]; exact Blk.mk _ _ _ rfl rfl
  have HT7 : Hid (TxAt w7 v1 (decT bs).1) := HT6.out.below hb7
  have HB7 : Hid (Below w1.heap.size w1 w7) := HB6.out.trans (hb7.mono hs6)
  have HB57 : Hid (Below w5.heap.size w5 w7) := HB56.out.trans (hb7.mono HB56.out.size)
  have hs7 := HB7.out.size
  have hV7 := HV7.out.lt
  clear hw7 hb7 HT6 HB6 HB56
  generalize hV : w6.heap.size = V at *
  go_wp2_with fail
  have HRD : Hid (Calls Tryz.prog 9 #[.slice a L cap] w7 (FD bs w7)) := by
    have h := HBX.out _ (HTW.out _ HB7.out)
    have := rdecode_any a cap bs w7 h.1 h.2.2
    rwa [HL.out] at this
  refine Calls.mono HRD.out ?_
  rintro e w8 ⟨v2, rfl, hT8, hb8⟩
  rw [HD1.out, HG.out]
  have HT8 : Hid (TxAt w8 v2 (decT bs).1 ∧ TxAt w8 v1 (decT bs).1) := ⟨hT8, HT7.out.below hb8⟩
  have HB8 : Hid (Below w1.heap.size w1 w8) := HB7.out.trans (hb8.mono hs7)
  have HB58 : Hid (Below w5.heap.size w5 w8) := HB57.out.trans (hb8.mono HB57.out.size)
  have HV8 : Hid (Blk w8 V [.slice v1.a v1.n v1.c, .slice v1.b v1.m v1.d, .int .i64 l1]) := HV7.out.below hb8 hV7
  have hs8 := HB8.out.size
  have hV8 := HV8.out.lt
  clear hT8 hb8 HV7 HT7 HB7 HB57 HRD
  unfold TxV.val
  go_upto_region 7 with fail
  generalize hw9 : World.alloc w8 _ = w9
  have hb9 : Below w8.heap.size w8 w9 := by rw [← hw9]; exact (Below.refl _ _).alloc (Nat.le_refl _) _
  have HX9 : Hid (Blk w9 w8.heap.size [.slice v2.a v2.n v2.c, .slice v2.b v2.m v2.d, .int .i64 l1]) := by rw [← hw9]; exact Blk.mk _ _ _ rfl rfl
  have HV9 : Hid (Blk w9 V [.slice v1.a v1.n v1.c, .slice v1.b v1.m v1.d, .int .i64 l1]) := HV8.out.below hb9 hV8
  have HT9 : Hid (TxAt w9 v2 (decT bs).1 ∧ TxAt w9 v1 (decT bs).1) := ⟨HT8.out.1.below hb9, HT8.out.2.below hb9⟩
  have HB9 : Hid (Below w1.heap.size w1 w9) := HB8.out.trans (hb9.mono hs8)
  have HB59 : Hid (Below w5.heap.size w5 w9) := HB58.out.trans (hb9.mono HB58.out.size)
  have hs9 := HB9.out.size
  have hX9 := HX9.out.lt
  have hV9 := HV9.out.lt
  clear hw9 hb9 HT8 HB8 HB58 HV8
  generalize hX : w8.heap.size = X at *
  have HSM : Hid (∀ w', Below w9.heap.size w9 w' → Calls Tryz.prog 12 #[.agg #[.slice v1.a v1.n v1.c, .slice v1.b v1.m v1.d, .int .i64 l1], .agg #[.slice v2.a v2.n v2.c, .slice v2.b v2.m v2.d, .int .i64 l1]] w' fun e w'' => e = .returned (.bool true) ∧ Below w'.heap.size w' w'') := fun w' h => by
    have hd := decT_small bs
    have h1 := HT9.out.2.ins.len
    have h2 := HT9.out.2.outs.len
    have := rsame_any v1 v2 _ _ w' (HT9.out.2.below h) (HT9.out.1.below h) (by omega) (by omega)
    rw [sameT_self, HD1.out] at this
    exact this
  have HS9 : Hid (∀ w', Below w9.heap.size w9 w' → w'.cell? ⟨T, 0, none⟩ = some (.slice tv.a tv.n tv.c) ∧ w'.cell? ⟨T, 1, none⟩ = some (.slice tv.b tv.m tv.d) ∧ w'.cell? ⟨T, 2, none⟩ = some (.int .i64 lk) ∧ w'.cell? ⟨V, 0, none⟩ = some (.slice v1.a v1.n v1.c) ∧ w'.cell? ⟨V, 1, none⟩ = some (.slice v1.b v1.m v1.d) ∧ w'.cell? ⟨V, 2, none⟩ = some (.int .i64 l1) ∧ w'.cell? ⟨X, 0, none⟩ = some (.slice v2.a v2.n v2.c) ∧ w'.cell? ⟨X, 1, none⟩ = some (.slice v2.b v2.m v2.d) ∧ w'.cell? ⟨X, 2, none⟩ = some (.int .i64 l1) ∧ (convert 26 9 (.slice a4 LE cap4)).run Tryz.prog w' = .ok (.string str) w' ∧ (convert 26 9 (.slice a5 LE cap5)).run Tryz.prog w' = .ok (.string str) w') := fun w' h => by
    obtain ⟨q0, q1, q2, _⟩ := HS.out w' (HB9.out.trans (h.mono hs9))
    obtain ⟨r1, r2⟩ := HY5.out w' (HB59.out.trans (h.mono HB59.out.size))
    have k1 := HV9.out.below h hV9
    have k2 := HX9.out.below h hX9
    exact ⟨q0, q1, q2, k1.one rfl, k1.one rfl, k1.one rfl, k2.one rfl, k2.one rfl, k2.one rfl, r1, r2⟩
  have hEE : (E != E) = false := by simp
  have hGG : (G != G) = false := by simp
  have hSS : (str.toList == str.toList) = true := by simp
  refine wp_region_noPanic ?_
  refine wp_region_held_drew (S := fun w' => w'.cell? ⟨T, 0, none⟩ = some (.slice tv.a tv.n tv.c) ∧ w'.cell? ⟨T, 1, none⟩ = some (.slice tv.b tv.m tv.d) ∧ w'.cell? ⟨T, 2, none⟩ = some (.int .i64 lk) ∧ w'.cell? ⟨V, 0, none⟩ = some (.slice v1.a v1.n v1.c) ∧ w'.cell? ⟨V, 1, none⟩ = some (.slice v1.b v1.m v1.d) ∧ w'.cell? ⟨V, 2, none⟩ = some (.int .i64 l1) ∧ w'.cell? ⟨X, 0, none⟩ = some (.slice v2.a v2.n v2.c) ∧ w'.cell? ⟨X, 1, none⟩ = some (.slice v2.b v2.m v2.d) ∧ w'.cell? ⟨X, 2, none⟩ = some (.int .i64 l1) ∧ (convert 26 9 (.slice a4 LE cap4)).run Tryz.prog w' = .ok (.string str) w' ∧ (convert 26 9 (.slice a5 LE cap5)).run Tryz.prog w' = .ok (.string str) w') HMO.out (HS9.out _ (Below.refl _ _).drew) (fun hHeld => ?_)
  refine wpAnyH_take (i := 0) (oi := { dst := some 53, op := .load 25 (.tmp 5), type := 25, pos := "law.go:28", after := #[], guard := none }) (v := ?_) rfl (by kernel_rfl) (by kernel_rfl) (by kernel_rfl) (fun _ _ _ h => h) (Or.inl ⟨by rfl, ?_⟩) (by assumption) ?_
  rotate_left
  · intro _ _; go_simp; first | done | with_reducible rfl
  simp only [Act.put, List.setIfInBounds_toArray, List.set_cons_zero, List.set_cons_succ]
  refine wpAnyH_take (i := 2) (oi := { dst := some 55, op := .load 25 (.tmp 5), type := 25, pos := "law.go:28", after := #[], guard := none }) (v := ?_) rfl (by kernel_rfl) (by kernel_rfl) (by kernel_rfl) (fun _ _ _ h => h) (Or.inl ⟨by rfl, ?_⟩) (by assumption) ?_
  rotate_left
  · intro _ _; go_simp; first | done | with_reducible rfl
  simp only [Act.put, List.setIfInBounds_toArray, List.set_cons_zero, List.set_cons_succ]
  refine wpAnyH_ready (rs := [1]) (by kernel_rfl) (by simp) ?_
  refine AllReadyH.cons (o := { dst := some 54, op := .call { callee := .value (.func 10), args := #[.tmp 53], argTypes := #[25] }, type := 33, pos := "law.go:28", after := #[{ on := 0, ground := .data }], guard := none }) rfl (fun K hK => ?_) AllReadyH.nil
  go_simp
  refine Calls.mono (HCHK.out _ HB9.out.drew) ?_; rintro e x1 ⟨rfl, hx1⟩; have h1 : Below w9.heap.size w9 x1 := undrewR hx1; clear hx1
  go_simp
  refine hK.out _ _ (HS9.out _ h1) (fun hHeld => ?_)
  clear hK K
  refine wpAnyH_ready (rs := [3]) (by kernel_rfl) (by simp) ?_
  refine AllReadyH.cons (o := { dst := some 56, op := .call { callee := .value (.func 11), args := #[.tmp 55], argTypes := #[25] }, type := 3, pos := "law.go:28", after := #[{ on := 2, ground := .data }, { on := 1, ground := .chain }], guard := none }) rfl (fun K hK => ?_) AllReadyH.nil
  go_simp
  refine Calls.mono (HRCHK.out _ (HB9.out.trans (h1.mono hs9))) ?_; rintro e x2 ⟨rfl, hx2⟩; have h2 : Below w9.heap.size w9 x2 := h1.trans (hx2.mono h1.size); clear hx2
  go_simp
  refine hK.out _ _ (HS9.out _ h2) (fun hHeld => ?_)
  clear hK K
  refine wpAnyH_take (i := 4) (oi := { dst := some 57, op := .binOp Go.BinOp.neq 3 (.tmp 54) (.tmp 56) 3, type := 4, pos := "law.go:28", after := #[{ on := 1, ground := .data }, { on := 3, ground := .data }], guard := none }) (v := .bool false) rfl (by kernel_rfl) (by kernel_rfl) (by kernel_rfl) (fun _ _ _ h => h) (Or.inl ⟨by rfl, ?_⟩) (by assumption) ?_
  · intro _ _; go_simp
  simp only [Act.put, List.setIfInBounds_toArray, List.set_cons_zero, List.set_cons_succ]
  refine wpAnyH_take (i := 5) (oi := { dst := some 58, op := .move (.tmp 57), type := 4, pos := "law.go:28", after := #[{ on := 4, ground := .data }, { on := 3, ground := .chain }], guard := none }) (v := ?_) rfl (by kernel_rfl) (by kernel_rfl) (by kernel_rfl) (fun _ _ _ h => h) (Or.inl ⟨by rfl, ?_⟩) (by assumption) ?_
  rotate_left
  · intro _ _; go_simp; first | done | with_reducible rfl
  simp only [Act.put, List.setIfInBounds_toArray, List.set_cons_zero, List.set_cons_succ]
  refine wpAnyH_take (i := 6) (oi := { dst := some 59, op := .move (.tmp 11), type := 26, pos := "law.go:28", after := #[{ on := 5, ground := .guard }], guard := some (5, false) }) (v := ?_) rfl (by kernel_rfl) (by kernel_rfl) (by kernel_rfl) (fun _ _ _ h => h) (Or.inl ⟨by rfl, ?_⟩) (by assumption) ?_
  rotate_left
  · intro _ _; go_simp; first | done | with_reducible rfl
  simp only [Act.put, List.setIfInBounds_toArray, List.set_cons_zero, List.set_cons_succ]
  refine wpAnyH_take (i := 7) (oi := { dst := some 60, op := .convert 26 9 (.tmp 59), type := 9, pos := "law.go:28", after := #[{ on := 6, ground := .data }, { on := 5, ground := .guard }], guard := some (5, false) }) (v := ?_) rfl (by kernel_rfl) (by kernel_rfl) (by kernel_rfl) (fun _ _ _ h => h) (Or.inl ⟨by rfl, ?_⟩) (by assumption) ?_
  rotate_left
  · intro _ _; go_simp; first | done | with_reducible rfl
  simp only [Act.put, List.setIfInBounds_toArray, List.set_cons_zero, List.set_cons_succ]
  refine wpAnyH_take (i := 8) (oi := { dst := some 61, op := .move (.tmp 13), type := 26, pos := "law.go:28", after := #[{ on := 5, ground := .guard }], guard := some (5, false) }) (v := ?_) rfl (by kernel_rfl) (by kernel_rfl) (by kernel_rfl) (fun _ _ _ h => h) (Or.inl ⟨by rfl, ?_⟩) (by assumption) ?_
  rotate_left
  · intro _ _; go_simp; first | done | with_reducible rfl
  simp only [Act.put, List.setIfInBounds_toArray, List.set_cons_zero, List.set_cons_succ]
  refine wpAnyH_take (i := 9) (oi := { dst := some 62, op := .convert 26 9 (.tmp 61), type := 9, pos := "law.go:28", after := #[{ on := 8, ground := .data }, { on := 5, ground := .guard }], guard := some (5, false) }) (v := ?_) rfl (by kernel_rfl) (by kernel_rfl) (by kernel_rfl) (fun _ _ _ h => h) (Or.inl ⟨by rfl, ?_⟩) (by assumption) ?_
  rotate_left
  · intro _ _; go_simp; first | done | with_reducible rfl
  simp only [Act.put, List.setIfInBounds_toArray, List.set_cons_zero, List.set_cons_succ]
  refine wpAnyH_take (i := 10) (oi := { dst := some 63, op := .binOp Go.BinOp.neq 9 (.tmp 60) (.tmp 62) 9, type := 4, pos := "law.go:28", after := #[{ on := 7, ground := .data }, { on := 9, ground := .data }, { on := 5, ground := .guard }], guard := some (5, false) }) (v := .bool false) rfl (by kernel_rfl) (by kernel_rfl) (by kernel_rfl) (fun _ _ _ h => h) (Or.inl ⟨by rfl, ?_⟩) (by assumption) ?_
  · intro _ _; go_simp
  simp only [Act.put, List.setIfInBounds_toArray, List.set_cons_zero, List.set_cons_succ]
  refine wpAnyH_take (i := 11) (oi := { dst := some 64, op := .pick (.tmp 58) (.const (.bool true)) (.tmp 63), type := 4, pos := "law.go:28", after := #[{ on := 5, ground := .data }, { on := 10, ground := .data }], guard := none }) (v := ?_) rfl (by kernel_rfl) (by kernel_rfl) (by kernel_rfl) (fun _ _ _ h => h) (Or.inl ⟨by rfl, ?_⟩) (by assumption) ?_
  rotate_left
  · intro _ _; go_simp; first | done | with_reducible rfl
  simp only [Act.put, List.setIfInBounds_toArray, List.set_cons_zero, List.set_cons_succ]
  refine wpAnyH_take (i := 12) (oi := { dst := some 65, op := .move (.tmp 64), type := 4, pos := "law.go:28", after := #[{ on := 11, ground := .data }, { on := 5, ground := .chain }], guard := none }) (v := ?_) rfl (by kernel_rfl) (by kernel_rfl) (by kernel_rfl) (fun _ _ _ h => h) (Or.inl ⟨by rfl, ?_⟩) (by assumption) ?_
  rotate_left
  · intro _ _; go_simp; first | done | with_reducible rfl
  simp only [Act.put, List.setIfInBounds_toArray, List.set_cons_zero, List.set_cons_succ]
  refine wpAnyH_take (i := 13) (oi := { dst := some 66, op := .move (.tmp 12), type := 33, pos := "law.go:28", after := #[{ on := 12, ground := .guard }], guard := some (12, false) }) (v := ?_) rfl (by kernel_rfl) (by kernel_rfl) (by kernel_rfl) (fun _ _ _ h => h) (Or.inl ⟨by rfl, ?_⟩) (by assumption) ?_
  rotate_left
  · intro _ _; go_simp; first | done | with_reducible rfl
  simp only [Act.put, List.setIfInBounds_toArray, List.set_cons_zero, List.set_cons_succ]
  refine wpAnyH_take (i := 14) (oi := { dst := some 67, op := .move (.tmp 14), type := 3, pos := "law.go:28", after := #[{ on := 12, ground := .guard }], guard := some (12, false) }) (v := ?_) rfl (by kernel_rfl) (by kernel_rfl) (by kernel_rfl) (fun _ _ _ h => h) (Or.inl ⟨by rfl, ?_⟩) (by assumption) ?_
  rotate_left
  · intro _ _; go_simp; first | done | with_reducible rfl
  simp only [Act.put, List.setIfInBounds_toArray, List.set_cons_zero, List.set_cons_succ]
  refine wpAnyH_take (i := 15) (oi := { dst := some 68, op := .binOp Go.BinOp.neq 3 (.tmp 66) (.tmp 67) 3, type := 4, pos := "law.go:28", after := #[{ on := 13, ground := .data }, { on := 14, ground := .data }, { on := 12, ground := .guard }], guard := some (12, false) }) (v := .bool false) rfl (by kernel_rfl) (by kernel_rfl) (by kernel_rfl) (fun _ _ _ h => h) (Or.inl ⟨by rfl, ?_⟩) (by assumption) ?_
  · intro _ _; go_simp
  simp only [Act.put, List.setIfInBounds_toArray, List.set_cons_zero, List.set_cons_succ]
  refine wpAnyH_take (i := 16) (oi := { dst := some 69, op := .pick (.tmp 65) (.const (.bool true)) (.tmp 68), type := 4, pos := "law.go:28", after := #[{ on := 12, ground := .data }, { on := 15, ground := .data }], guard := none }) (v := ?_) rfl (by kernel_rfl) (by kernel_rfl) (by kernel_rfl) (fun _ _ _ h => h) (Or.inl ⟨by rfl, ?_⟩) (by assumption) ?_
  rotate_left
  · intro _ _; go_simp; first | done | with_reducible rfl
  simp only [Act.put, List.setIfInBounds_toArray, List.set_cons_zero, List.set_cons_succ]
  refine wpAnyH_take (i := 17) (oi := { dst := some 70, op := .move (.tmp 69), type := 4, pos := "law.go:28", after := #[{ on := 16, ground := .data }, { on := 12, ground := .chain }], guard := none }) (v := ?_) rfl (by kernel_rfl) (by kernel_rfl) (by kernel_rfl) (fun _ _ _ h => h) (Or.inl ⟨by rfl, ?_⟩) (by assumption) ?_
  rotate_left
  · intro _ _; go_simp; first | done | with_reducible rfl
  simp only [Act.put, List.setIfInBounds_toArray, List.set_cons_zero, List.set_cons_succ]
  refine wpAnyH_take (i := 18) (oi := { dst := some 71, op := .load 25 (.tmp 15), type := 25, pos := "law.go:28", after := #[{ on := 17, ground := .guard }], guard := some (17, false) }) (v := ?_) rfl (by kernel_rfl) (by kernel_rfl) (by kernel_rfl) (fun _ _ _ h => h) (Or.inl ⟨by rfl, ?_⟩) (by assumption) ?_
  rotate_left
  · intro _ _; go_simp; first | done | with_reducible rfl
  simp only [Act.put, List.setIfInBounds_toArray, List.set_cons_zero, List.set_cons_succ]
  refine wpAnyH_take (i := 19) (oi := { dst := some 72, op := .load 25 (.tmp 17), type := 25, pos := "law.go:28", after := #[{ on := 17, ground := .guard }], guard := some (17, false) }) (v := ?_) rfl (by kernel_rfl) (by kernel_rfl) (by kernel_rfl) (fun _ _ _ h => h) (Or.inl ⟨by rfl, ?_⟩) (by assumption) ?_
  rotate_left
  · intro _ _; go_simp; first | done | with_reducible rfl
  simp only [Act.put, List.setIfInBounds_toArray, List.set_cons_zero, List.set_cons_succ]
  refine wpAnyH_ready (rs := [20]) (by kernel_rfl) (by simp) ?_
  refine AllReadyH.cons (o := { dst := some 73, op := .call { callee := .value (.func 12), args := #[.tmp 71, .tmp 72], argTypes := #[25, 25] }, type := 4, pos := "law.go:28", after := #[{ on := 18, ground := .data }, { on := 19, ground := .data }, { on := 17, ground := .chain }, { on := 17, ground := .guard }], guard := some (17, false) }) rfl (fun K hK => ?_) AllReadyH.nil
  go_simp
  refine Calls.mono (HSM.out _ h2) ?_; rintro e x3 ⟨rfl, hx3⟩; have h3 : Below w9.heap.size w9 x3 := h2.trans (hx3.mono h2.size); clear hx3
  go_simp
  refine hK.out _ _ (HS9.out _ h3) (fun hHeld => ?_)
  clear hK K
  refine wpAnyH_take (i := 21) (oi := { dst := some 74, op := .unOp Go.UnOp.not 4 (.tmp 73), type := 4, pos := "law.go:28", after := #[{ on := 20, ground := .data }, { on := 17, ground := .guard }], guard := some (17, false) }) (v := ?_) rfl (by kernel_rfl) (by kernel_rfl) (by kernel_rfl) (fun _ _ _ h => h) (Or.inl ⟨by rfl, ?_⟩) (by assumption) ?_
  rotate_left
  · intro _ _; go_simp; first | done | with_reducible rfl
  simp only [Act.put, List.setIfInBounds_toArray, List.set_cons_zero, List.set_cons_succ]
  refine wpAnyH_take (i := 22) (oi := { dst := some 75, op := .pick (.tmp 70) (.const (.bool true)) (.tmp 74), type := 4, pos := "law.go:28", after := #[{ on := 17, ground := .data }, { on := 21, ground := .data }], guard := none }) (v := ?_) rfl (by kernel_rfl) (by kernel_rfl) (by kernel_rfl) (fun _ _ _ h => h) (Or.inl ⟨by rfl, ?_⟩) (by assumption) ?_
  rotate_left
  · intro _ _; go_simp; first | done | with_reducible rfl
  simp only [Act.put, List.setIfInBounds_toArray, List.set_cons_zero, List.set_cons_succ]
  refine wpAnyH_take (i := 23) (oi := { dst := some 76, op := .move (.tmp 75), type := 4, pos := "law.go:28", after := #[{ on := 22, ground := .data }, { on := 20, ground := .chain }], guard := none }) (v := ?_) rfl (by kernel_rfl) (by kernel_rfl) (by kernel_rfl) (fun _ _ _ h => h) (Or.inl ⟨by rfl, ?_⟩) (by assumption) ?_
  rotate_left
  · intro _ _; go_simp; first | done | with_reducible rfl
  simp only [Act.put, List.setIfInBounds_toArray, List.set_cons_zero, List.set_cons_succ]
  refine wpAnyH_take (i := 24) (oi := { dst := some 77, op := .move (.tmp 16), type := 33, pos := "law.go:28", after := #[{ on := 23, ground := .guard }], guard := some (23, false) }) (v := ?_) rfl (by kernel_rfl) (by kernel_rfl) (by kernel_rfl) (fun _ _ _ h => h) (Or.inl ⟨by rfl, ?_⟩) (by assumption) ?_
  rotate_left
  · intro _ _; go_simp; first | done | with_reducible rfl
  simp only [Act.put, List.setIfInBounds_toArray, List.set_cons_zero, List.set_cons_succ]
  refine wpAnyH_take (i := 25) (oi := { dst := some 78, op := .move (.tmp 18), type := 3, pos := "law.go:28", after := #[{ on := 23, ground := .guard }], guard := some (23, false) }) (v := ?_) rfl (by kernel_rfl) (by kernel_rfl) (by kernel_rfl) (fun _ _ _ h => h) (Or.inl ⟨by rfl, ?_⟩) (by assumption) ?_
  rotate_left
  · intro _ _; go_simp; first | done | with_reducible rfl
  simp only [Act.put, List.setIfInBounds_toArray, List.set_cons_zero, List.set_cons_succ]
  refine wpAnyH_take (i := 26) (oi := { dst := some 79, op := .binOp Go.BinOp.neq 3 (.tmp 77) (.tmp 78) 3, type := 4, pos := "law.go:28", after := #[{ on := 24, ground := .data }, { on := 25, ground := .data }, { on := 23, ground := .guard }], guard := some (23, false) }) (v := .bool false) rfl (by kernel_rfl) (by kernel_rfl) (by kernel_rfl) (fun _ _ _ h => h) (Or.inl ⟨by rfl, ?_⟩) (by assumption) ?_
  · intro _ _; go_simp
  simp only [Act.put, List.setIfInBounds_toArray, List.set_cons_zero, List.set_cons_succ]
  refine wpAnyH_take (i := 27) (oi := { dst := some 80, op := .pick (.tmp 76) (.const (.bool true)) (.tmp 79), type := 4, pos := "law.go:28", after := #[{ on := 23, ground := .data }, { on := 26, ground := .data }], guard := none }) (v := ?_) rfl (by kernel_rfl) (by kernel_rfl) (by kernel_rfl) (fun _ _ _ h => h) (Or.inl ⟨by rfl, ?_⟩) (by assumption) ?_
  rotate_left
  · intro _ _; go_simp; first | done | with_reducible rfl
  simp only [Act.put, List.setIfInBounds_toArray, List.set_cons_zero, List.set_cons_succ]
  refine wpAnyH_done (by kernel_rfl) ?_ _
  refine NoPanic.normal ?_
  clear hHeld
  have HBC : Hid (Below w1.heap.size w1 x3) := HB9.out.trans (h3.mono hs9)
  clear HS9 HSM HY5 HT9 HV9 HX9 HB9 HB59 h1 h2 h3 hEE hGG hSS HCHK HRCHK HB5
  have HID : Hid (∀ w', Below w1.heap.size w1 w' → Calls Tryz.prog 13 #[.agg #[.slice tv.a tv.n tv.c, .slice tv.b tv.m tv.d, .int .i64 lk]] w' fun e w'' => e = .returned (.agg (u8s (idB t)).toArray) ∧ Below w'.heap.size w' w'') := fun w' h => by
    have := id_any tv t w' (HTX.out _ (HTW.out _ h)) (HAW.out _ (HTW.out _ h))
    rwa [HLK.out.1] at this
  have HRID : Hid (∀ w', Below w1.heap.size w1 w' → Calls Tryz.prog 14 #[.agg #[.slice tv.a tv.n tv.c, .slice tv.b tv.m tv.d, .int .i64 lk]] w' fun e w'' => e = .returned (.agg (u8s (idB t)).toArray) ∧ Below w'.heap.size w' w'') := fun w' h => by
    have := rid_any tv t w' (HTX.out _ (HTW.out _ h))
    rwa [HLK.out.1] at this
  have HWE : Hid (∀ w', Below w1.heap.size w1 w' → Calls Tryz.prog 15 #[.agg #[.slice tv.a tv.n tv.c, .slice tv.b tv.m tv.d, .int .i64 lk]] w' fun e w'' => e = .returned (.int .i64 (weiN t)) ∧ Below w'.heap.size w' w'') := fun w' h => by
    have := weight_any tv t w' (HTX.out _ (HTW.out _ h)) (by have := HSZ.out; omega) (by have := HSZ.out; omega)
    rwa [HLK.out.1] at this
  have HRWE : Hid (∀ w', Below w1.heap.size w1 w' → Calls Tryz.prog 16 #[.agg #[.slice tv.a tv.n tv.c, .slice tv.b tv.m tv.d, .int .i64 lk]] w' fun e w'' => e = .returned (.int .i64 (weiN t)) ∧ Below w'.heap.size w' w'') := fun w' h => by
    have := rweight_any tv t w' (HTX.out _ (HTW.out _ h)) (by have := HSZ.out; omega) (by have := HSZ.out; omega)
    rwa [HLK.out.1] at this
  have HSP : Hid (∀ w', Below w1.heap.size w1 w' → Calls Tryz.prog 19 #[.agg #[.slice tv.a tv.n tv.c, .slice tv.b tv.m tv.d, .int .i64 lk], .agg p.cs.toArray] w' fun e w'' => e = .returned (.int .i64 (spN p t.ins 0)) ∧ Below w'.heap.size w' w'') := fun w' h => by
    have := spends_any tv t p w' (HTX.out _ (HTW.out _ h)) (by have := HSZ.out; omega)
    rwa [HLK.out.1] at this
  have HRSP : Hid (∀ w', Below w1.heap.size w1 w' → Calls Tryz.prog 20 #[.agg #[.slice tv.a tv.n tv.c, .slice tv.b tv.m tv.d, .int .i64 lk], .agg p.cs.toArray] w' fun e w'' => e = .returned (.int .i64 (spN p t.ins 0)) ∧ Below w'.heap.size w' w'') := fun w' h => by
    have := rspends_any tv t p w' (HTX.out _ (HTW.out _ h)) (by have := HSZ.out; omega)
    rwa [HLK.out.1] at this
  have HCF : Hid (∀ w', Below w1.heap.size w1 w' → Calls Tryz.prog 21 #[.agg #[.slice tv.a tv.n tv.c, .slice tv.b tv.m tv.d, .int .i64 lk], .agg #[.slice uv.a uv.n uv.c, .slice uv.b uv.m uv.d, .int .i64 ul]] w' fun e w'' => e = .returned (.bool (confT t u)) ∧ Below w'.heap.size w' w'') := fun w' h => by
    have := conflict_any tv uv t u w' (HTX.out _ (HTW.out _ h)) (HUX.out _ (HTW.out _ h)) (by have := HSZ.out; omega) (by have := HSZ.out; omega)
    rwa [HLK.out.1, HLK.out.2] at this
  have HRCF : Hid (∀ w', Below w1.heap.size w1 w' → Calls Tryz.prog 22 #[.agg #[.slice tv.a tv.n tv.c, .slice tv.b tv.m tv.d, .int .i64 lk], .agg #[.slice uv.a uv.n uv.c, .slice uv.b uv.m uv.d, .int .i64 ul]] w' fun e w'' => e = .returned (.bool (confT t u)) ∧ Below w'.heap.size w' w'') := fun w' h => by
    have := rconflict_any tv uv t u w' (HTX.out _ (HTW.out _ h)) (HUX.out _ (HTW.out _ h)) (by have := HSZ.out; omega) (by have := HSZ.out; omega)
    rwa [HLK.out.1, HLK.out.2] at this
  have HSA : Hid (∀ w', Below w1.heap.size w1 w' → Calls Tryz.prog 23 #[.agg #[.slice tv.a tv.n tv.c, .slice tv.b tv.m tv.d, .int .i64 lk], .agg #[.slice uv.a uv.n uv.c, .slice uv.b uv.m uv.d, .int .i64 ul]] w' fun e w'' => e = .returned (.bool (sameT t u)) ∧ Below w'.heap.size w' w'') := fun w' h => by
    have := same_any tv uv t u w' (HTX.out _ (HTW.out _ h)) (HUX.out _ (HTW.out _ h)) (by have := HSZ.out; omega) (by have := HSZ.out; omega) (by have := HSZ.out; omega) (by have := HSZ.out; omega)
    rwa [HLK.out.1, HLK.out.2] at this
  have HRSA : Hid (∀ w', Below w1.heap.size w1 w' → Calls Tryz.prog 12 #[.agg #[.slice tv.a tv.n tv.c, .slice tv.b tv.m tv.d, .int .i64 lk], .agg #[.slice uv.a uv.n uv.c, .slice uv.b uv.m uv.d, .int .i64 ul]] w' fun e w'' => e = .returned (.bool (sameT t u)) ∧ Below w'.heap.size w' w'') := fun w' h => by
    have := rsame_any tv uv t u w' (HTX.out _ (HTW.out _ h)) (HUX.out _ (HTW.out _ h)) (by have := HSZ.out; omega) (by have := HSZ.out; omega)
    rwa [HLK.out.1, HLK.out.2] at this
  obtain ⟨h, hh⟩ : ∃ h, idB t = h := ⟨_, rfl⟩
  have hhl : h.length = 32 := hh ▸ idB_length t
  rw [hh] at HID HRID
  have q1 : ∀ w', (binOp .eql 28 (.agg (u8s h).toArray) (.agg (u8s h).toArray)).run Tryz.prog w' = .ok (.bool true) w' := fun w' => by rw [eql_hash h h hhl hhl, beq_self_eq_true]
  have q3 : ∀ (op : BinOp) (u v : Operand) (xs ys : Array Value) w', (eqGuard op 28 u v (.agg xs) (.agg ys)).run Tryz.prog w' = .ok () w' := fun op u v xs ys w' => run_eqGuard_agg w' op _ u v _ _ (by kernel_rfl)
  have HWK : Hid (∀ w, Calls Tryz.prog 17 #[.int .i64 kd] w fun e w' => e = .returned (.int .i64 (witN kd)) ∧ w = w') := fun w => wit_any kd w
  have HRWK : Hid (∀ w, Calls Tryz.prog 18 #[.int .i64 kd] w fun e w' => e = .returned (.int .i64 (witN kd)) ∧ w = w') := fun w => rwit_any kd w
  generalize weiN t = Wt at *
  generalize witN kd = Wk at *
  generalize spN p t.ins 0 = Sp at *
  generalize confT t u = Cf at *
  generalize sameT t u = Sm at *
  have i1 : (Wt == Wt) = true := by simp
  have i2 : (Wk == Wk) = true := by simp
  have i3 : (Sp == Sp) = true := by simp
  have i4 : (Cf == Cf) = true := by simp
  have i5 : (Sm == Sm) = true := by simp
  have ix := size_pt p
  have u26 := und_pt.out
  clear hh hhl
  go_upto_region 9 with fail
  refine wp_region_noPanic ?_
  refine wp_region_held_drew (S := fun w' => w'.cell? ⟨T, 0, none⟩ = some (.slice tv.a tv.n tv.c) ∧ w'.cell? ⟨T, 1, none⟩ = some (.slice tv.b tv.m tv.d) ∧ w'.cell? ⟨T, 2, none⟩ = some (.int .i64 lk) ∧ w'.cell? ⟨T + 1, 0, none⟩ = some (.slice uv.a uv.n uv.c) ∧ w'.cell? ⟨T + 1, 1, none⟩ = some (.slice uv.b uv.m uv.d) ∧ w'.cell? ⟨T + 1, 2, none⟩ = some (.int .i64 ul) ∧ w'.rangeAt (T + 2) 0 p.cs) HMO.out (HS.out _ HBC.out.drew) (fun hHeld => ?_)
  refine wpAnyH_take (i := 0) (oi := { dst := some 81, op := .load 25 (.tmp 5), type := 25, pos := "law.go:31", after := #[], guard := none }) (v := ?_) rfl (by kernel_rfl) (by kernel_rfl) (by kernel_rfl) (fun _ _ _ h => h) (Or.inl ⟨by rfl, ?_⟩) (by assumption) ?_
  rotate_left
  · intro _ _; go_simp; first | done | with_reducible rfl
  simp only [Act.put, List.setIfInBounds_toArray, List.set_cons_zero, List.set_cons_succ]
  refine wpAnyH_take (i := 2) (oi := { dst := some 83, op := .load 25 (.tmp 5), type := 25, pos := "law.go:31", after := #[], guard := none }) (v := ?_) rfl (by kernel_rfl) (by kernel_rfl) (by kernel_rfl) (fun _ _ _ h => h) (Or.inl ⟨by rfl, ?_⟩) (by assumption) ?_
  rotate_left
  · intro _ _; go_simp; first | done | with_reducible rfl
  simp only [Act.put, List.setIfInBounds_toArray, List.set_cons_zero, List.set_cons_succ]
  refine wpAnyH_ready (rs := [1]) (by kernel_rfl) (by simp) ?_
  refine AllReadyH.cons (o := { dst := some 82, op := .call { callee := .value (.func 13), args := #[.tmp 81], argTypes := #[25] }, type := 28, pos := "law.go:31", after := #[{ on := 0, ground := .data }], guard := none }) rfl (fun K hK => ?_) AllReadyH.nil
  go_simp
  refine Calls.mono (HID.out _ HBC.out.drew) ?_; rintro e y1 ⟨rfl, hy1⟩; have g1 : Below w1.heap.size w1 y1 := HBC.out.trans ((undrewR hy1).mono HBC.out.size); clear hy1
  go_simp
  refine hK.out _ _ (HS.out _ g1) (fun hHeld => ?_)
  clear hK K
  refine wpAnyH_ready (rs := [3]) (by kernel_rfl) (by simp) ?_
  refine AllReadyH.cons (o := { dst := some 84, op := .call { callee := .value (.func 14), args := #[.tmp 83], argTypes := #[25] }, type := 28, pos := "law.go:31", after := #[{ on := 2, ground := .data }, { on := 1, ground := .chain }], guard := none }) rfl (fun K hK => ?_) AllReadyH.nil
  go_simp
  refine Calls.mono (HRID.out _ g1) ?_; rintro e y2 ⟨rfl, hy2⟩; have g2 : Below w1.heap.size w1 y2 := g1.trans (hy2.mono g1.size); clear hy2
  go_simp
  refine hK.out _ _ (HS.out _ g2) (fun hHeld => ?_)
  clear hK K
  refine wpAnyH_take (i := 4) (oi := { dst := some 85, op := .binOp Go.BinOp.eql 28 (.tmp 82) (.tmp 84) 28, type := 4, pos := "law.go:31", after := #[{ on := 1, ground := .data }, { on := 3, ground := .data }], guard := none }) (v := .bool true) rfl (by kernel_rfl) (by kernel_rfl) (by kernel_rfl) (fun _ _ _ h => h) (Or.inl ⟨by rfl, ?_⟩) (by assumption) ?_
  · intro _ _; go_simp
  simp only [Act.put, List.setIfInBounds_toArray, List.set_cons_zero, List.set_cons_succ]
  refine wpAnyH_take (i := 5) (oi := { dst := some 86, op := .move (.tmp 85), type := 4, pos := "law.go:31", after := #[{ on := 4, ground := .data }, { on := 3, ground := .chain }], guard := none }) (v := ?_) rfl (by kernel_rfl) (by kernel_rfl) (by kernel_rfl) (fun _ _ _ h => h) (Or.inl ⟨by rfl, ?_⟩) (by assumption) ?_
  rotate_left
  · intro _ _; go_simp; first | done | with_reducible rfl
  simp only [Act.put, List.setIfInBounds_toArray, List.set_cons_zero, List.set_cons_succ]
  refine wpAnyH_take (i := 6) (oi := { dst := some 87, op := .load 25 (.tmp 5), type := 25, pos := "law.go:31", after := #[{ on := 5, ground := .guard }], guard := some (5, true) }) (v := ?_) rfl (by kernel_rfl) (by kernel_rfl) (by kernel_rfl) (fun _ _ _ h => h) (Or.inl ⟨by rfl, ?_⟩) (by assumption) ?_
  rotate_left
  · intro _ _; go_simp; first | done | with_reducible rfl
  simp only [Act.put, List.setIfInBounds_toArray, List.set_cons_zero, List.set_cons_succ]
  refine wpAnyH_take (i := 8) (oi := { dst := some 89, op := .load 25 (.tmp 5), type := 25, pos := "law.go:31", after := #[{ on := 5, ground := .guard }], guard := some (5, true) }) (v := ?_) rfl (by kernel_rfl) (by kernel_rfl) (by kernel_rfl) (fun _ _ _ h => h) (Or.inl ⟨by rfl, ?_⟩) (by assumption) ?_
  rotate_left
  · intro _ _; go_simp; first | done | with_reducible rfl
  simp only [Act.put, List.setIfInBounds_toArray, List.set_cons_zero, List.set_cons_succ]
  refine wpAnyH_ready (rs := [7]) (by kernel_rfl) (by simp) ?_
  refine AllReadyH.cons (o := { dst := some 88, op := .call { callee := .value (.func 15), args := #[.tmp 87], argTypes := #[25] }, type := 3, pos := "law.go:31", after := #[{ on := 6, ground := .data }, { on := 5, ground := .chain }, { on := 5, ground := .guard }], guard := some (5, true) }) rfl (fun K hK => ?_) AllReadyH.nil
  go_simp
  refine Calls.mono (HWE.out _ g2) ?_; rintro e y3 ⟨rfl, hy3⟩; have g3 : Below w1.heap.size w1 y3 := g2.trans (hy3.mono g2.size); clear hy3
  go_simp
  refine hK.out _ _ (HS.out _ g3) (fun hHeld => ?_)
  clear hK K
  refine wpAnyH_ready (rs := [9]) (by kernel_rfl) (by simp) ?_
  refine AllReadyH.cons (o := { dst := some 90, op := .call { callee := .value (.func 16), args := #[.tmp 89], argTypes := #[25] }, type := 3, pos := "law.go:31", after := #[{ on := 8, ground := .data }, { on := 7, ground := .chain }, { on := 5, ground := .guard }], guard := some (5, true) }) rfl (fun K hK => ?_) AllReadyH.nil
  go_simp
  refine Calls.mono (HRWE.out _ g3) ?_; rintro e y4 ⟨rfl, hy4⟩; have g4 : Below w1.heap.size w1 y4 := g3.trans (hy4.mono g3.size); clear hy4
  go_simp
  refine hK.out _ _ (HS.out _ g4) (fun hHeld => ?_)
  clear hK K
  refine wpAnyH_take (i := 10) (oi := { dst := some 91, op := .binOp Go.BinOp.eql 3 (.tmp 88) (.tmp 90) 3, type := 4, pos := "law.go:31", after := #[{ on := 7, ground := .data }, { on := 9, ground := .data }, { on := 5, ground := .guard }], guard := some (5, true) }) (v := .bool true) rfl (by kernel_rfl) (by kernel_rfl) (by kernel_rfl) (fun _ _ _ h => h) (Or.inl ⟨by rfl, ?_⟩) (by assumption) ?_
  · intro _ _; go_simp
  simp only [Act.put, List.setIfInBounds_toArray, List.set_cons_zero, List.set_cons_succ]
  refine wpAnyH_take (i := 11) (oi := { dst := some 92, op := .pick (.tmp 86) (.tmp 91) (.const (.bool false)), type := 4, pos := "law.go:31", after := #[{ on := 5, ground := .data }, { on := 10, ground := .data }], guard := none }) (v := ?_) rfl (by kernel_rfl) (by kernel_rfl) (by kernel_rfl) (fun _ _ _ h => h) (Or.inl ⟨by rfl, ?_⟩) (by assumption) ?_
  rotate_left
  · intro _ _; go_simp; first | done | with_reducible rfl
  simp only [Act.put, List.setIfInBounds_toArray, List.set_cons_zero, List.set_cons_succ]
  refine wpAnyH_take (i := 12) (oi := { dst := some 93, op := .move (.tmp 92), type := 4, pos := "law.go:31", after := #[{ on := 11, ground := .data }, { on := 9, ground := .chain }], guard := none }) (v := ?_) rfl (by kernel_rfl) (by kernel_rfl) (by kernel_rfl) (fun _ _ _ h => h) (Or.inl ⟨by rfl, ?_⟩) (by assumption) ?_
  rotate_left
  · intro _ _; go_simp; first | done | with_reducible rfl
  simp only [Act.put, List.setIfInBounds_toArray, List.set_cons_zero, List.set_cons_succ]
  refine wpAnyH_take (i := 13) (oi := { dst := some 94, op := .move (.tmp 4), type := 3, pos := "law.go:31", after := #[{ on := 12, ground := .guard }], guard := some (12, true) }) (v := ?_) rfl (by kernel_rfl) (by kernel_rfl) (by kernel_rfl) (fun _ _ _ h => h) (Or.inl ⟨by rfl, ?_⟩) (by assumption) ?_
  rotate_left
  · intro _ _; go_simp; first | done | with_reducible rfl
  simp only [Act.put, List.setIfInBounds_toArray, List.set_cons_zero, List.set_cons_succ]
  refine wpAnyH_take (i := 15) (oi := { dst := some 96, op := .move (.tmp 4), type := 3, pos := "law.go:31", after := #[{ on := 12, ground := .guard }], guard := some (12, true) }) (v := ?_) rfl (by kernel_rfl) (by kernel_rfl) (by kernel_rfl) (fun _ _ _ h => h) (Or.inl ⟨by rfl, ?_⟩) (by assumption) ?_
  rotate_left
  · intro _ _; go_simp; first | done | with_reducible rfl
  simp only [Act.put, List.setIfInBounds_toArray, List.set_cons_zero, List.set_cons_succ]
  refine wpAnyH_ready (rs := [14]) (by kernel_rfl) (by simp) ?_
  refine AllReadyH.cons (o := { dst := some 95, op := .call { callee := .value (.func 17), args := #[.tmp 94], argTypes := #[3] }, type := 3, pos := "law.go:31", after := #[{ on := 13, ground := .data }, { on := 12, ground := .chain }, { on := 12, ground := .guard }], guard := some (12, true) }) rfl (fun K hK => ?_) AllReadyH.nil
  go_simp
  refine Calls.mono (HWK.out _) ?_; rintro e y5 ⟨rfl, rfl⟩
  go_simp
  refine hK.out _ _ (HS.out _ g4) (fun hHeld => ?_)
  clear hK K
  refine wpAnyH_ready (rs := [16]) (by kernel_rfl) (by simp) ?_
  refine AllReadyH.cons (o := { dst := some 97, op := .call { callee := .value (.func 18), args := #[.tmp 96], argTypes := #[3] }, type := 3, pos := "law.go:31", after := #[{ on := 15, ground := .data }, { on := 14, ground := .chain }, { on := 12, ground := .guard }], guard := some (12, true) }) rfl (fun K hK => ?_) AllReadyH.nil
  go_simp
  refine Calls.mono (HRWK.out _) ?_; rintro e y6 ⟨rfl, rfl⟩
  go_simp
  refine hK.out _ _ (HS.out _ g4) (fun hHeld => ?_)
  clear hK K
  refine wpAnyH_take (i := 17) (oi := { dst := some 98, op := .binOp Go.BinOp.eql 3 (.tmp 95) (.tmp 97) 3, type := 4, pos := "law.go:31", after := #[{ on := 14, ground := .data }, { on := 16, ground := .data }, { on := 12, ground := .guard }], guard := some (12, true) }) (v := .bool true) rfl (by kernel_rfl) (by kernel_rfl) (by kernel_rfl) (fun _ _ _ h => h) (Or.inl ⟨by rfl, ?_⟩) (by assumption) ?_
  · intro _ _; go_simp
  simp only [Act.put, List.setIfInBounds_toArray, List.set_cons_zero, List.set_cons_succ]
  refine wpAnyH_take (i := 18) (oi := { dst := some 99, op := .pick (.tmp 93) (.tmp 98) (.const (.bool false)), type := 4, pos := "law.go:31", after := #[{ on := 12, ground := .data }, { on := 17, ground := .data }], guard := none }) (v := ?_) rfl (by kernel_rfl) (by kernel_rfl) (by kernel_rfl) (fun _ _ _ h => h) (Or.inl ⟨by rfl, ?_⟩) (by assumption) ?_
  rotate_left
  · intro _ _; go_simp; first | done | with_reducible rfl
  simp only [Act.put, List.setIfInBounds_toArray, List.set_cons_zero, List.set_cons_succ]
  refine wpAnyH_take (i := 19) (oi := { dst := some 100, op := .move (.tmp 99), type := 4, pos := "law.go:31", after := #[{ on := 18, ground := .data }, { on := 16, ground := .chain }], guard := none }) (v := ?_) rfl (by kernel_rfl) (by kernel_rfl) (by kernel_rfl) (fun _ _ _ h => h) (Or.inl ⟨by rfl, ?_⟩) (by assumption) ?_
  rotate_left
  · intro _ _; go_simp; first | done | with_reducible rfl
  simp only [Act.put, List.setIfInBounds_toArray, List.set_cons_zero, List.set_cons_succ]
  refine wpAnyH_take (i := 20) (oi := { dst := some 101, op := .load 25 (.tmp 5), type := 25, pos := "law.go:31", after := #[{ on := 19, ground := .guard }], guard := some (19, true) }) (v := ?_) rfl (by kernel_rfl) (by kernel_rfl) (by kernel_rfl) (fun _ _ _ h => h) (Or.inl ⟨by rfl, ?_⟩) (by assumption) ?_
  rotate_left
  · intro _ _; go_simp; first | done | with_reducible rfl
  simp only [Act.put, List.setIfInBounds_toArray, List.set_cons_zero, List.set_cons_succ]
  refine wpAnyH_take (i := 21) (oi := { dst := some 102, op := .load 30 (.tmp 8), type := 30, pos := "law.go:31", after := #[{ on := 19, ground := .guard }], guard := some (19, true) }) (v := _) rfl (by kernel_rfl) (by kernel_rfl) (by kernel_rfl) (fun _ _ _ h => h) (yieldsIf_load_mid (by rfl) _ _ rfl (T + 2) (0) rfl (p.cs) _ (fun _ h => h.2.2.2.2.2.2) (u26) rfl (ix)) (by assumption) ?_
  simp only [Act.put, List.setIfInBounds_toArray, List.set_cons_zero, List.set_cons_succ]
  refine wpAnyH_take (i := 23) (oi := { dst := some 104, op := .load 25 (.tmp 5), type := 25, pos := "law.go:31", after := #[{ on := 19, ground := .guard }], guard := some (19, true) }) (v := ?_) rfl (by kernel_rfl) (by kernel_rfl) (by kernel_rfl) (fun _ _ _ h => h) (Or.inl ⟨by rfl, ?_⟩) (by assumption) ?_
  rotate_left
  · intro _ _; go_simp; first | done | with_reducible rfl
  simp only [Act.put, List.setIfInBounds_toArray, List.set_cons_zero, List.set_cons_succ]
  refine wpAnyH_take (i := 24) (oi := { dst := some 105, op := .load 30 (.tmp 8), type := 30, pos := "law.go:31", after := #[{ on := 19, ground := .guard }], guard := some (19, true) }) (v := _) rfl (by kernel_rfl) (by kernel_rfl) (by kernel_rfl) (fun _ _ _ h => h) (yieldsIf_load_mid (by rfl) _ _ rfl (T + 2) (0) rfl (p.cs) _ (fun _ h => h.2.2.2.2.2.2) (u26) rfl (ix)) (by assumption) ?_
  simp only [Act.put, List.setIfInBounds_toArray, List.set_cons_zero, List.set_cons_succ]
  refine wpAnyH_ready (rs := [22]) (by kernel_rfl) (by simp) ?_
  refine AllReadyH.cons (o := { dst := some 103, op := .call { callee := .value (.func 19), args := #[.tmp 101, .tmp 102], argTypes := #[25, 30] }, type := 3, pos := "law.go:31", after := #[{ on := 20, ground := .data }, { on := 21, ground := .data }, { on := 19, ground := .chain }, { on := 19, ground := .guard }], guard := some (19, true) }) rfl (fun K hK => ?_) AllReadyH.nil
  go_simp
  refine Calls.mono (HSP.out _ g4) ?_; rintro e y7 ⟨rfl, hy7⟩; have g7 : Below w1.heap.size w1 y7 := g4.trans (hy7.mono g4.size); clear hy7
  go_simp
  refine hK.out _ _ (HS.out _ g7) (fun hHeld => ?_)
  clear hK K
  refine wpAnyH_ready (rs := [25]) (by kernel_rfl) (by simp) ?_
  refine AllReadyH.cons (o := { dst := some 106, op := .call { callee := .value (.func 20), args := #[.tmp 104, .tmp 105], argTypes := #[25, 30] }, type := 3, pos := "law.go:31", after := #[{ on := 23, ground := .data }, { on := 24, ground := .data }, { on := 22, ground := .chain }, { on := 19, ground := .guard }], guard := some (19, true) }) rfl (fun K hK => ?_) AllReadyH.nil
  go_simp
  refine Calls.mono (HRSP.out _ g7) ?_; rintro e y8 ⟨rfl, hy8⟩; have g8 : Below w1.heap.size w1 y8 := g7.trans (hy8.mono g7.size); clear hy8
  go_simp
  refine hK.out _ _ (HS.out _ g8) (fun hHeld => ?_)
  clear hK K
  refine wpAnyH_take (i := 26) (oi := { dst := some 107, op := .binOp Go.BinOp.eql 3 (.tmp 103) (.tmp 106) 3, type := 4, pos := "law.go:31", after := #[{ on := 22, ground := .data }, { on := 25, ground := .data }, { on := 19, ground := .guard }], guard := some (19, true) }) (v := .bool true) rfl (by kernel_rfl) (by kernel_rfl) (by kernel_rfl) (fun _ _ _ h => h) (Or.inl ⟨by rfl, ?_⟩) (by assumption) ?_
  · intro _ _; go_simp
  simp only [Act.put, List.setIfInBounds_toArray, List.set_cons_zero, List.set_cons_succ]
  refine wpAnyH_take (i := 27) (oi := { dst := some 108, op := .pick (.tmp 100) (.tmp 107) (.const (.bool false)), type := 4, pos := "law.go:31", after := #[{ on := 19, ground := .data }, { on := 26, ground := .data }], guard := none }) (v := ?_) rfl (by kernel_rfl) (by kernel_rfl) (by kernel_rfl) (fun _ _ _ h => h) (Or.inl ⟨by rfl, ?_⟩) (by assumption) ?_
  rotate_left
  · intro _ _; go_simp; first | done | with_reducible rfl
  simp only [Act.put, List.setIfInBounds_toArray, List.set_cons_zero, List.set_cons_succ]
  refine wpAnyH_take (i := 28) (oi := { dst := some 109, op := .move (.tmp 108), type := 4, pos := "law.go:31", after := #[{ on := 27, ground := .data }, { on := 25, ground := .chain }], guard := none }) (v := ?_) rfl (by kernel_rfl) (by kernel_rfl) (by kernel_rfl) (fun _ _ _ h => h) (Or.inl ⟨by rfl, ?_⟩) (by assumption) ?_
  rotate_left
  · intro _ _; go_simp; first | done | with_reducible rfl
  simp only [Act.put, List.setIfInBounds_toArray, List.set_cons_zero, List.set_cons_succ]
  refine wpAnyH_take (i := 29) (oi := { dst := some 110, op := .load 25 (.tmp 5), type := 25, pos := "law.go:31", after := #[{ on := 28, ground := .guard }], guard := some (28, true) }) (v := ?_) rfl (by kernel_rfl) (by kernel_rfl) (by kernel_rfl) (fun _ _ _ h => h) (Or.inl ⟨by rfl, ?_⟩) (by assumption) ?_
  rotate_left
  · intro _ _; go_simp; first | done | with_reducible rfl
  simp only [Act.put, List.setIfInBounds_toArray, List.set_cons_zero, List.set_cons_succ]
  refine wpAnyH_take (i := 30) (oi := { dst := some 111, op := .load 25 (.tmp 6), type := 25, pos := "law.go:31", after := #[{ on := 28, ground := .guard }], guard := some (28, true) }) (v := ?_) rfl (by kernel_rfl) (by kernel_rfl) (by kernel_rfl) (fun _ _ _ h => h) (Or.inl ⟨by rfl, ?_⟩) (by assumption) ?_
  rotate_left
  · intro _ _; go_simp; first | done | with_reducible rfl
  simp only [Act.put, List.setIfInBounds_toArray, List.set_cons_zero, List.set_cons_succ]
  refine wpAnyH_take (i := 32) (oi := { dst := some 113, op := .load 25 (.tmp 5), type := 25, pos := "law.go:31", after := #[{ on := 28, ground := .guard }], guard := some (28, true) }) (v := ?_) rfl (by kernel_rfl) (by kernel_rfl) (by kernel_rfl) (fun _ _ _ h => h) (Or.inl ⟨by rfl, ?_⟩) (by assumption) ?_
  rotate_left
  · intro _ _; go_simp; first | done | with_reducible rfl
  simp only [Act.put, List.setIfInBounds_toArray, List.set_cons_zero, List.set_cons_succ]
  refine wpAnyH_take (i := 33) (oi := { dst := some 114, op := .load 25 (.tmp 6), type := 25, pos := "law.go:31", after := #[{ on := 28, ground := .guard }], guard := some (28, true) }) (v := ?_) rfl (by kernel_rfl) (by kernel_rfl) (by kernel_rfl) (fun _ _ _ h => h) (Or.inl ⟨by rfl, ?_⟩) (by assumption) ?_
  rotate_left
  · intro _ _; go_simp; first | done | with_reducible rfl
  simp only [Act.put, List.setIfInBounds_toArray, List.set_cons_zero, List.set_cons_succ]
  refine wpAnyH_ready (rs := [31]) (by kernel_rfl) (by simp) ?_
  refine AllReadyH.cons (o := { dst := some 112, op := .call { callee := .value (.func 21), args := #[.tmp 110, .tmp 111], argTypes := #[25, 25] }, type := 4, pos := "law.go:31", after := #[{ on := 29, ground := .data }, { on := 30, ground := .data }, { on := 28, ground := .chain }, { on := 28, ground := .guard }], guard := some (28, true) }) rfl (fun K hK => ?_) AllReadyH.nil
  go_simp
  refine Calls.mono (HCF.out _ g8) ?_; rintro e y9 ⟨rfl, hy9⟩; have g9 : Below w1.heap.size w1 y9 := g8.trans (hy9.mono g8.size); clear hy9
  go_simp
  refine hK.out _ _ (HS.out _ g9) (fun hHeld => ?_)
  clear hK K
  refine wpAnyH_ready (rs := [34]) (by kernel_rfl) (by simp) ?_
  refine AllReadyH.cons (o := { dst := some 115, op := .call { callee := .value (.func 22), args := #[.tmp 113, .tmp 114], argTypes := #[25, 25] }, type := 4, pos := "law.go:31", after := #[{ on := 32, ground := .data }, { on := 33, ground := .data }, { on := 31, ground := .chain }, { on := 28, ground := .guard }], guard := some (28, true) }) rfl (fun K hK => ?_) AllReadyH.nil
  go_simp
  refine Calls.mono (HRCF.out _ g9) ?_; rintro e z1 ⟨rfl, hz1⟩; have k1 : Below w1.heap.size w1 z1 := g9.trans (hz1.mono g9.size); clear hz1
  go_simp
  refine hK.out _ _ (HS.out _ k1) (fun hHeld => ?_)
  clear hK K
  refine wpAnyH_take (i := 35) (oi := { dst := some 116, op := .binOp Go.BinOp.eql 4 (.tmp 112) (.tmp 115) 4, type := 4, pos := "law.go:31", after := #[{ on := 31, ground := .data }, { on := 34, ground := .data }, { on := 28, ground := .guard }], guard := some (28, true) }) (v := .bool true) rfl (by kernel_rfl) (by kernel_rfl) (by kernel_rfl) (fun _ _ _ h => h) (Or.inl ⟨by rfl, ?_⟩) (by assumption) ?_
  · intro _ _; go_simp
  simp only [Act.put, List.setIfInBounds_toArray, List.set_cons_zero, List.set_cons_succ]
  refine wpAnyH_take (i := 36) (oi := { dst := some 117, op := .pick (.tmp 109) (.tmp 116) (.const (.bool false)), type := 4, pos := "law.go:31", after := #[{ on := 28, ground := .data }, { on := 35, ground := .data }], guard := none }) (v := ?_) rfl (by kernel_rfl) (by kernel_rfl) (by kernel_rfl) (fun _ _ _ h => h) (Or.inl ⟨by rfl, ?_⟩) (by assumption) ?_
  rotate_left
  · intro _ _; go_simp; first | done | with_reducible rfl
  simp only [Act.put, List.setIfInBounds_toArray, List.set_cons_zero, List.set_cons_succ]
  refine wpAnyH_take (i := 37) (oi := { dst := some 118, op := .move (.tmp 117), type := 4, pos := "law.go:31", after := #[{ on := 36, ground := .data }, { on := 34, ground := .chain }], guard := none }) (v := ?_) rfl (by kernel_rfl) (by kernel_rfl) (by kernel_rfl) (fun _ _ _ h => h) (Or.inl ⟨by rfl, ?_⟩) (by assumption) ?_
  rotate_left
  · intro _ _; go_simp; first | done | with_reducible rfl
  simp only [Act.put, List.setIfInBounds_toArray, List.set_cons_zero, List.set_cons_succ]
  refine wpAnyH_take (i := 38) (oi := { dst := some 119, op := .load 25 (.tmp 5), type := 25, pos := "law.go:31", after := #[{ on := 37, ground := .guard }], guard := some (37, true) }) (v := ?_) rfl (by kernel_rfl) (by kernel_rfl) (by kernel_rfl) (fun _ _ _ h => h) (Or.inl ⟨by rfl, ?_⟩) (by assumption) ?_
  rotate_left
  · intro _ _; go_simp; first | done | with_reducible rfl
  simp only [Act.put, List.setIfInBounds_toArray, List.set_cons_zero, List.set_cons_succ]
  refine wpAnyH_take (i := 39) (oi := { dst := some 120, op := .load 25 (.tmp 6), type := 25, pos := "law.go:31", after := #[{ on := 37, ground := .guard }], guard := some (37, true) }) (v := ?_) rfl (by kernel_rfl) (by kernel_rfl) (by kernel_rfl) (fun _ _ _ h => h) (Or.inl ⟨by rfl, ?_⟩) (by assumption) ?_
  rotate_left
  · intro _ _; go_simp; first | done | with_reducible rfl
  simp only [Act.put, List.setIfInBounds_toArray, List.set_cons_zero, List.set_cons_succ]
  refine wpAnyH_take (i := 41) (oi := { dst := some 122, op := .load 25 (.tmp 5), type := 25, pos := "law.go:31", after := #[{ on := 37, ground := .guard }], guard := some (37, true) }) (v := ?_) rfl (by kernel_rfl) (by kernel_rfl) (by kernel_rfl) (fun _ _ _ h => h) (Or.inl ⟨by rfl, ?_⟩) (by assumption) ?_
  rotate_left
  · intro _ _; go_simp; first | done | with_reducible rfl
  simp only [Act.put, List.setIfInBounds_toArray, List.set_cons_zero, List.set_cons_succ]
  refine wpAnyH_take (i := 42) (oi := { dst := some 123, op := .load 25 (.tmp 6), type := 25, pos := "law.go:31", after := #[{ on := 37, ground := .guard }], guard := some (37, true) }) (v := ?_) rfl (by kernel_rfl) (by kernel_rfl) (by kernel_rfl) (fun _ _ _ h => h) (Or.inl ⟨by rfl, ?_⟩) (by assumption) ?_
  rotate_left
  · intro _ _; go_simp; first | done | with_reducible rfl
  simp only [Act.put, List.setIfInBounds_toArray, List.set_cons_zero, List.set_cons_succ]
  refine wpAnyH_ready (rs := [40]) (by kernel_rfl) (by simp) ?_
  refine AllReadyH.cons (o := { dst := some 121, op := .call { callee := .value (.func 23), args := #[.tmp 119, .tmp 120], argTypes := #[25, 25] }, type := 4, pos := "law.go:31", after := #[{ on := 38, ground := .data }, { on := 39, ground := .data }, { on := 37, ground := .chain }, { on := 37, ground := .guard }], guard := some (37, true) }) rfl (fun K hK => ?_) AllReadyH.nil
  go_simp
  refine Calls.mono (HSA.out _ k1) ?_; rintro e z2 ⟨rfl, hz2⟩; have k2 : Below w1.heap.size w1 z2 := k1.trans (hz2.mono k1.size); clear hz2
  go_simp
  refine hK.out _ _ (HS.out _ k2) (fun hHeld => ?_)
  clear hK K
  refine wpAnyH_ready (rs := [43]) (by kernel_rfl) (by simp) ?_
  refine AllReadyH.cons (o := { dst := some 124, op := .call { callee := .value (.func 12), args := #[.tmp 122, .tmp 123], argTypes := #[25, 25] }, type := 4, pos := "law.go:31", after := #[{ on := 41, ground := .data }, { on := 42, ground := .data }, { on := 40, ground := .chain }, { on := 37, ground := .guard }], guard := some (37, true) }) rfl (fun K hK => ?_) AllReadyH.nil
  go_simp
  refine Calls.mono (HRSA.out _ k2) ?_; rintro e z3 ⟨rfl, hz3⟩; have k3 : Below w1.heap.size w1 z3 := k2.trans (hz3.mono k2.size); clear hz3
  go_simp
  refine hK.out _ _ (HS.out _ k3) (fun hHeld => ?_)
  clear hK K
  refine wpAnyH_take (i := 44) (oi := { dst := some 125, op := .binOp Go.BinOp.eql 4 (.tmp 121) (.tmp 124) 4, type := 4, pos := "law.go:31", after := #[{ on := 40, ground := .data }, { on := 43, ground := .data }, { on := 37, ground := .guard }], guard := some (37, true) }) (v := .bool true) rfl (by kernel_rfl) (by kernel_rfl) (by kernel_rfl) (fun _ _ _ h => h) (Or.inl ⟨by rfl, ?_⟩) (by assumption) ?_
  · intro _ _; go_simp
  simp only [Act.put, List.setIfInBounds_toArray, List.set_cons_zero, List.set_cons_succ]
  refine wpAnyH_take (i := 45) (oi := { dst := some 126, op := .pick (.tmp 118) (.tmp 125) (.const (.bool false)), type := 4, pos := "law.go:31", after := #[{ on := 37, ground := .data }, { on := 44, ground := .data }], guard := none }) (v := ?_) rfl (by kernel_rfl) (by kernel_rfl) (by kernel_rfl) (fun _ _ _ h => h) (Or.inl ⟨by rfl, ?_⟩) (by assumption) ?_
  rotate_left
  · intro _ _; go_simp; first | done | with_reducible rfl
  simp only [Act.put, List.setIfInBounds_toArray, List.set_cons_zero, List.set_cons_succ]
  refine wpAnyH_take (i := 46) (oi := { dst := some 127, op := .move (.tmp 126), type := 4, pos := "law.go:31", after := #[{ on := 45, ground := .data }, { on := 43, ground := .chain }], guard := none }) (v := ?_) rfl (by kernel_rfl) (by kernel_rfl) (by kernel_rfl) (fun _ _ _ h => h) (Or.inl ⟨by rfl, ?_⟩) (by assumption) ?_
  rotate_left
  · intro _ _; go_simp; first | done | with_reducible rfl
  simp only [Act.put, List.setIfInBounds_toArray, List.set_cons_zero, List.set_cons_succ]
  refine wpAnyH_ready (rs := [47]) (by kernel_rfl) (by simp) ?_
  refine AllReadyH.cons (o := { dst := some 128, op := .call { callee := .value (.func 5), args := #[], argTypes := #[] }, type := 4, pos := "law.go:31", after := #[{ on := 46, ground := .chain }, { on := 46, ground := .guard }], guard := some (46, true) }) rfl (fun K hK => ?_) AllReadyH.nil
  go_simp
  refine (awake_any _ (HAW.out _ (HTW.out _ k3))).mono ?_; rintro e z4 ⟨rfl, hz4⟩; have k4 : Below w1.heap.size w1 z4 := k3.trans (hz4.mono k3.size); clear hz4
  go_simp
  refine hK.out _ _ (HS.out _ k4) (fun hHeld => ?_)
  clear hK K
  refine wpAnyH_take (i := 48) (oi := { dst := some 129, op := .pick (.tmp 127) (.tmp 128) (.const (.bool false)), type := 4, pos := "law.go:31", after := #[{ on := 46, ground := .data }, { on := 47, ground := .data }], guard := none }) (v := ?_) rfl (by kernel_rfl) (by kernel_rfl) (by kernel_rfl) (fun _ _ _ h => h) (Or.inl ⟨by rfl, ?_⟩) (by assumption) ?_
  rotate_left
  · intro _ _; go_simp; first | done | with_reducible rfl
  simp only [Act.put, List.setIfInBounds_toArray, List.set_cons_zero, List.set_cons_succ]
  refine wpAnyH_take (i := 49) (oi := { dst := some 10, op := .assign (.tmp 129), type := 4, pos := "law.go:31", after := #[{ on := 48, ground := .data }, { on := 47, ground := .chain }, { on := 0, ground := .phase }, { on := 1, ground := .phase }, { on := 2, ground := .phase }, { on := 3, ground := .phase }, { on := 4, ground := .phase }, { on := 5, ground := .phase }, { on := 6, ground := .phase }, { on := 7, ground := .phase }, { on := 8, ground := .phase }, { on := 9, ground := .phase }, { on := 10, ground := .phase }, { on := 11, ground := .phase }, { on := 12, ground := .phase }, { on := 13, ground := .phase }, { on := 14, ground := .phase }, { on := 15, ground := .phase }, { on := 16, ground := .phase }, { on := 17, ground := .phase }, { on := 18, ground := .phase }, { on := 19, ground := .phase }, { on := 20, ground := .phase }, { on := 21, ground := .phase }, { on := 22, ground := .phase }, { on := 23, ground := .phase }, { on := 24, ground := .phase }, { on := 25, ground := .phase }, { on := 26, ground := .phase }, { on := 27, ground := .phase }, { on := 28, ground := .phase }, { on := 29, ground := .phase }, { on := 30, ground := .phase }, { on := 31, ground := .phase }, { on := 32, ground := .phase }, { on := 33, ground := .phase }, { on := 34, ground := .phase }, { on := 35, ground := .phase }, { on := 36, ground := .phase }, { on := 37, ground := .phase }, { on := 38, ground := .phase }, { on := 39, ground := .phase }, { on := 40, ground := .phase }, { on := 41, ground := .phase }, { on := 42, ground := .phase }, { on := 43, ground := .phase }, { on := 44, ground := .phase }, { on := 45, ground := .phase }, { on := 46, ground := .phase }, { on := 47, ground := .phase }, { on := 48, ground := .phase }], guard := none }) (v := ?_) rfl (by kernel_rfl) (by kernel_rfl) (by kernel_rfl) (fun _ _ _ h => h) (Or.inl ⟨by rfl, ?_⟩) (by assumption) ?_
  rotate_left
  · intro _ _; go_simp; first | done | with_reducible rfl
  simp only [Act.put, List.setIfInBounds_toArray, List.set_cons_zero, List.set_cons_succ]
  refine wpAnyH_done (by kernel_rfl) ?_ _
  refine NoPanic.normal ?_
  clear hHeld
  go_wp2_with fail
  go_ret
  exact ⟨rfl, hN ▸ HTW.out _ k4⟩
end Go.Proofs.YteikbpkjikacmaaGreatDoor
