/- The document's own files in memory: Append, Sync, Rename, Remove, Truncate. -/
import Derived.Test.YtlapnnkahijikaaZR2
import Derived.Test.YtlapnnkahijikaaZF6
namespace Go.Proofs.Ytlapnnkahijikaa
open Go.ChangeShapes Go.WideShapes Go.ChangeAt Go.RowKit Go.Lib

def flAt (n : ByteArray) (L : List Fil) : Fl := if shas n L = true then (L.getD (cnt n L) default).2 else ⟨[], 0⟩
theorem Twin.fl {A : Abs} {R : RS} (h : Twin A R) (n : ByteArray) : flAt n R.L = flOf (alook n A.L) := by
  rw [← h.look, h.srt.look]
  unfold flAt flOf
  split <;> rfl
def RS.appE (R : RS) (n : ByteArray) (bs : List (BitVec 8)) : Int := if R.beg n n = 0 then (if bs.length + (flAt n R.L).b.length ≤ 16777216 then 0 else 3) else R.beg n n
def RS.app (R : RS) (n : ByteArray) (bs : List (BitVec 8)) : RS := if R.appE n bs = 0 then { R.pow with L := sput n ⟨(flAt n R.L).b ++ bs, (flAt n R.L).safe⟩ R.L } else R.pow
def RS.opn (R : RS) (a b n : ByteArray) : Int := if R.beg a b = 0 then (if shas n R.L = true then 0 else 5) else R.beg a b
def RS.syn (R : RS) (n : ByteArray) : RS := if R.opn n n n = 0 then { R.pow with L := sput n ⟨(flAt n R.L).b, (flAt n R.L).b.length⟩ R.L } else R.pow
def RS.ren (R : RS) (fr dst : ByteArray) : RS := if R.opn fr dst fr = 0 then { R.pow with L := sput dst (flAt fr R.L) (sdel fr R.L) } else R.pow
def RS.rem (R : RS) (n : ByteArray) : RS := if R.opn n n n = 0 then { R.pow with L := sdel n R.L } else R.pow
def RS.truE (R : RS) (n : ByteArray) (t : Int) : Int := if R.opn n n n = 0 then (if 0 ≤ t ∧ t ≤ (flAt n R.L).b.length then 0 else 1) else R.opn n n n
def RS.tru (R : RS) (n : ByteArray) (t : Int) : RS := if R.truE n t = 0 then { R.pow with L := sput n ⟨(flAt n R.L).b.take t.toNat, min (flAt n R.L).safe t.toNat⟩ R.L } else R.pow
/-- What the document's files may hold. -/
structure RS.OK (R : RS) : Prop where
  o0 : -9223372036854775808 ≤ R.ops
  o1 : R.ops ≤ 4611686018427387904
  f0 : -1 ≤ R.fuse
  f1 : R.fuse ≤ 9223372036854775807
  len : R.L.length ≤ 99999
  fit : ∀ n, (flAt n R.L).b.length ≤ 16777216 ∧ (flAt n R.L).safe ≤ 16777216
theorem Mvd.trans {w w1 : World} {v v1 v2 : Value} (h : Mvd w v v1) (k : Mvd w1 v1 v2) (hs : w.heap.size ≤ w1.heap.size) : Mvd w v v2 := fun b e => (k b e).elim (h b) fun e => .inr (Nat.le_trans hs e)
theorem SrcB.keepR {w w' : World} {m : Nat} {v : Value} {bs : List (BitVec 8)} (h : SrcB w v bs) (hk : Keep m w w') (hn : ∀ k, v.ownBlock = some k → k ≠ m) : SrcB w' v bs := by
  rcases h with h | ⟨b, o, cap, hv, hc⟩
  · exact .inl h
  · exact .inr ⟨b, o, cap, hv, fun j u hu => hk.cell (hn b (by rw [hv]; rfl)) (hc j u hu)⟩
/-- A change of a block that stands apart. -/
theorem RkAt.far {w w' : World} {m g : Nat} {v : Value} {R : RS} (h : RkAt w m v R) (hk : Keep g w w') (hg : g ≠ m ∧ ∀ k, v.ownBlock = some k → k ≠ g) : RkAt w' m v R :=
  ⟨h.blk.keep hk hg.1.symm, h.own.same fun k e => hk.block k (h.own.lt k e).2 (hg.2 k e), h.ne⟩
theorem Keep.far {w w1 w2 : World} {m g : Nat} (h : Keep m w w1) (hk : Keep g w1 w2) (hg : w.heap.size ≤ g) : Keep m w w2 :=
  ⟨hk.os.trans h.os, hk.tape.trans h.tape, hk.output.trans h.output, Nat.le_trans h.size hk.size, fun i hi hn => (hk.block i (Nat.lt_of_lt_of_le hi h.size) (by omega)).trans (h.block i hi hn)⟩
theorem sdel_length (n : ByteArray) : ∀ L : List Fil, (sdel n L).length ≤ L.length
  | [] => Nat.le_refl _
  | p :: L => by
    have := sdel_length n L
    unfold sdel
    split
    · simp only [List.length_cons]; omega
    · split <;> simp only [List.length_cons] <;> omega
theorem truE_eq (R : RS) (n : ByteArray) (t : Int) : R.truE n t = if R.beg n n = 0 then (if shas n R.L = true then (if 0 ≤ t ∧ t ≤ (flAt n R.L).b.length then 0 else 1) else 5) else R.beg n n := by
  unfold RS.truE RS.opn
  by_cases h : R.beg n n = 0
  · rw [if_pos h, if_pos h]
    by_cases h2 : shas n R.L = true
    · rw [if_pos h2, if_pos rfl, if_pos h2]
    · rw [if_neg h2, if_neg (by decide), if_neg h2]
  · rw [if_neg h, if_neg h, if_neg h]
theorem ofB_app (a b : List (BitVec 8)) : ofB a ++ ofB b = ofB (a ++ b) := strB_inj (by rw [strB_append, strB_ofB, strB_ofB, strB_ofB])
theorem ofB_cut (a : List (BitVec 8)) (k : Nat) : (ofB a).extract 0 k = ofB (a.take k) := strB_inj (by rw [strB_take, strB_ofB, strB_ofB])
theorem flAt_of {n : ByteArray} {L : List Fil} (h : shas n L = true) : (L.getD (cnt n L) default).1 = n ∧ flAt n L = (L.getD (cnt n L) default).2 ∧ cnt n L < L.length := by
  have h1 := shas_lt h
  have h2 := (cnt_at n L h1).2
  rw [h] at h2
  exact ⟨of_decide_eq_true h2.symm, by unfold flAt; rw [if_pos h], h1⟩
theorem flAt_no {n : ByteArray} {L : List Fil} (h : shas n L = false) : flAt n L = ⟨[], 0⟩ := by unfold flAt; rw [if_neg (by rw [h]; decide)]
set_option maxRecDepth 100000 in
set_option maxHeartbeats 4000000 in
theorem rapp_any (m : Nat) (v : Value) (R : RS) (n : ByteArray) (ab : Option Addr) (zb cb : Nat) (bs : List (BitVec 8)) (w : World) (h : RkAt w m v R) (hok : R.OK) (hv : SrcB w (.slice ab zb cb) bs) (hz : zb = bs.length) (hzb : zb ≤ 50000000) (hne : ∀ k, (Value.slice ab zb cb).ownBlock = some k → k ≠ m) :
    Calls Try.prog 17 #[.pointer (some ⟨m, 0, none⟩), .string n, .slice ab zb cb] w fun e w' => e = .returned (.int .i64 (R.appE n bs)) ∧ ∃ v', RkAt w' m v' (R.app n bs) ∧ Keep m w w' ∧ Mvd w v v' := by
  have HBG : Hid _ := rbegin_any m v R n n w h hok.o0 hok.o1 hok.f0 hok.f1
  obtain ⟨a, c, rfl, hels0⟩ := h.shape
  have HL : Hid (R.pow.L = R.L) := R.pow_L
  have HLEN : Hid (R.L.length ≤ 99999) := hok.len
  have HFIT : Hid ((flAt n R.L).b.length ≤ 16777216 ∧ (flAt n R.L).safe ≤ 16777216) := hok.fit n
  have HXE : Hid (R.appE n bs = if R.beg n n = 0 then (if bs.length + (flAt n R.L).b.length ≤ 16777216 then 0 else 3) else R.beg n n) := rfl
  have HXR : Hid (R.app n bs = if R.appE n bs = 0 then { R.pow with L := sput n ⟨(flAt n R.L).b ++ bs, (flAt n R.L).safe⟩ R.L } else R.pow) := rfl
  have HF : Hid (shas n R.L = true → (R.L.getD (cnt n R.L) default).1 = n ∧ flAt n R.L = (R.L.getD (cnt n R.L) default).2 ∧ cnt n R.L < R.L.length) := flAt_of
  have HF0 : Hid (shas n R.L = false → flAt n R.L = ⟨[], 0⟩) := flAt_no
  have HV : Hid (SrcB w (.slice ab zb cb) bs ∧ zb = bs.length ∧ ∀ k, (Value.slice ab zb cb).ownBlock = some k → k ≠ m) := ⟨hv, hz, hne⟩
  clear hv hz hne
  clear h hok hels0
  generalize R.appE n bs = XE at *
  generalize R.app n bs = XR at *
  generalize R.beg n n = E at *
  generalize R.pow = Rp at *
  obtain ⟨z, hz0⟩ : ∃ z, z = R.L.length := ⟨_, rfl⟩
  have HZ : Hid (z = R.L.length) := hz0
  rw [← hz0] at HBG ⊢
  clear hz0
  go_enter Try.func17, Try.ntmps17
  go_wp2_with fail
  refine Calls.mono HBG.out ?_
  rintro e w1 ⟨rfl, hr1, hk1⟩
  have HR1 : Hid (RkAt w1 m (.slice a z c) Rp) := hr1
  have HK1 : Hid (Keep m w w1) := hk1
  clear hr1 hk1 HBG
  by_cases hE : E = 0
  · subst hE
    have HXE2 : Hid (XE = if bs.length + (flAt n R.L).b.length ≤ 16777216 then 0 else 3) := show _ = _ by rw [HXE.out, if_pos rfl]
    clear HXE
    go_upto_region 5 with fail
    generalize hw2 : World.alloc w1 _ = w2
    have HB2 : Hid (Below w1.heap.size w1 w2) := by rw [← hw2]; exact (Below.refl _ _).alloc (Nat.le_refl _) _
    have HBX2 : Hid (Blk w2 w1.heap.size [.string n, .string ⟨#[]⟩, .int .i64 0]) := by rw [← hw2]; exact Blk.mk _ _ _ rfl rfl
    have HR2 : Hid (RkAt w2 m (.slice a z c) Rp) := HR1.out.below HB2.out
    have HK2 : Hid (Keep m w w2) := HK1.out.trans (Keep.of_below HB2.out)
    have HB0 : Hid (w.heap.size ≤ w1.heap.size ∧ (w1.heap.size ≠ m ∧ ∀ k, (Value.slice a z c).ownBlock = some k → k ≠ w1.heap.size)) := ⟨HK1.out.size, fun e => by have := HR1.out.blk.lt; omega, fun k e => by have := (HR1.out.own.lt k e).2; omega⟩
    clear hw2 HB2 HR1 HK1
    generalize w1.heap.size = B0 at *
    have HPL : Hid _ := place_any m _ Rp n w2 HR2.out
    rw [HL.out] at HPL
    generalize cnt n R.L = P at *
    generalize shas n R.L = TA at *
    go_wp2_with fail
    refine Calls.mono HPL.out ?_
    rintro e w3 ⟨rfl, hb3⟩
    have HR3 : Hid (RkAt w3 m (.slice a z c) Rp) := HR2.out.below hb3
    have HK3 : Hid (Keep m w w3) := HK2.out.trans (Keep.of_below hb3)
    have HBX3 : Hid (Blk w3 B0 [.string n, .string ⟨#[]⟩, .int .i64 0]) := HBX2.out.below hb3 HBX2.out.lt
    clear hb3 HPL HR2 HK2 HBX2
    cases TA with
    | false =>
      have HFL : Hid (flAt n R.L = ⟨[], 0⟩) := HF0.out rfl
      clear HF HF0
      go_upto_region 8 with fail
      obtain ⟨w4, hw4⟩ : ∃ x, x = w3 := ⟨_, rfl⟩
      subst hw4
      have HBX : Hid (Blk w4 B0 [.string n, .string (ofB []), .int .i64 ((0 : Nat) : Int)]) := HBX3.out
      have HR4 : Hid (RkAt w4 m (.slice a z c) Rp) := HR3.out
      have HK4 : Hid (Keep m w w4) := HK3.out
      have hxb : ([] : List (BitVec 8)).length ≤ 16777216 := by simp
      clear HBX3 HR3 HK3
      obtain ⟨xb, hxb0⟩ : ∃ l : List (BitVec 8), l = [] := ⟨_, rfl⟩
      obtain ⟨xs, hxs0⟩ : ∃ l : Nat, l = 0 := ⟨_, rfl⟩
      rw [← hxb0, ← hxs0] at HBX HFL
      rw [← hxb0] at hxb
      clear hxb0 hxs0
      have HSX : Hid ((ofB xb).size = xb.length) := ofB_size xb
      have hb0 : w4.cell? ⟨B0, 0, none⟩ = some (.string n) := HBX.out.one rfl
      have hb1 : w4.cell? ⟨B0, 1, none⟩ = some (.string (ofB xb)) := HBX.out.one rfl
      have hb2 : w4.cell? ⟨B0, 2, none⟩ = some (.int .i64 xs) := HBX.out.one rfl
      have hfb1 := HBX.out.frozen 1
      have hsz : ((ofB xb).size : Int) = (xb.length : Int) := by rw [HSX.out]
      by_cases hbig : zb + xb.length ≤ 16777216
      · have hn1 : ¬ ((ofB xb).size : Int) > 16777216 - (zb : Int) := by rw [hsz]; omega
        have HA : Hid (XE = 0 ∧ XR = { Rp with L := sput n ⟨xb ++ bs, xs⟩ Rp.L }) := by
          have h1 : XE = 0 := by rw [HXE2.out, HFL.out, if_pos (by simp only; have := HV.out.2.1; omega)]
          exact ⟨h1, by rw [HXR.out, if_pos h1, HFL.out, HL.out]⟩
        have hsrc : SrcB w4 (.slice ab zb cb) bs := HV.out.1.keepR HK4.out HV.out.2.2
        have HSTR := hsrc.str
        have HCAT : Hid (ofB xb ++ ofB bs = ofB (xb ++ bs)) := ofB_app xb bs
        have hs1 : (ofB xb).size ≤ 16777216 := by rw [HSX.out]; exact hxb
        have hs2 : (ofB bs).size ≤ 50000000 := by rw [ofB_size]; have := HV.out.2.1; omega
        clear hsrc hsz
        go_upto_region 11 with fail
        rw [HCAT.out]
        generalize hw5 : World.setCell w4 _ _ = w5
        have HBX5 : Hid (Blk w5 B0 [.string n, .string (ofB (xb ++ bs)), .int .i64 xs]) := by rw [← hw5]; exact HBX.out.set 1 _
        have hk5 : Keep B0 w4 w5 := by rw [← hw5]; exact (Keep.refl _ _).setCell _ _
        have HR5 : Hid (RkAt w5 m (.slice a z c) Rp) := HR4.out.far hk5 HB0.out.2
        have HK5 : Hid (Keep m w w5) := HK4.out.far hk5 HB0.out.1
        clear hw5 hk5 hb0 hb1 hb2 hfb1 HSTR hn1
        have hb0 : w5.cell? ⟨B0, 0, none⟩ = some (.string n) := HBX5.out.one rfl
        have hb1 : w5.cell? ⟨B0, 1, none⟩ = some (.string (ofB (xb ++ bs))) := HBX5.out.one rfl
        have hb2 : w5.cell? ⟨B0, 2, none⟩ = some (.int .i64 xs) := HBX5.out.one rfl
        have HST : Hid _ := rset_any m _ Rp n (xb ++ bs) (xs) w5 HR5.out (by rw [HL.out]; have := HLEN.out; omega)
        go_wp2_with fail
        refine Calls.mono HST.out ?_
        rintro e w8 ⟨rfl, v8, hr8, hk8, hm8⟩
        have HR8 : Hid (RkAt w8 m v8 { Rp with L := sput n ⟨xb ++ bs, xs⟩ Rp.L } ∧ Keep m w w8 ∧ Mvd w (.slice a z c) v8) := ⟨hr8, HK5.out.trans hk8, (Mvd.refl _ _).trans hm8 HK5.out.size⟩
        clear hr8 hk8 hm8 HST
        go_wp2_with fail
        go_ret
        exact ⟨by rw [HA.out.1]; rfl, v8, by rw [HA.out.2]; exact HR8.out.1, HR8.out.2⟩
      · have hn1 : ((ofB xb).size : Int) > 16777216 - (zb : Int) := by rw [hsz]; omega
        have HA : Hid (XE = 3 ∧ XR = Rp) := by
          have h1 : XE = 3 := by rw [HXE2.out, HFL.out, if_neg (by simp only; have := HV.out.2.1; omega)]
          exact ⟨h1, by rw [HXR.out, if_neg (by rw [h1]; decide)]⟩
        clear hsz
        go_wp2_with fail
        go_ret
        exact ⟨by rw [HA.out.1]; rfl, _, by rw [HA.out.2]; exact HR4.out, HK4.out, Mvd.refl _ _⟩
    | true =>
      obtain ⟨hnm, hfl, hPl⟩ := HF.out rfl
      rw [← HZ.out] at hPl
      have hels : Els w3 a z c R.L := by
        obtain ⟨a', c', e', he'⟩ := HR3.out.shape
        rw [HL.out] at e' he'
        injection e' with e1 e2 e3
        rw [e1, e3, HZ.out]; exact he'
      have hcl : w3.cell? ⟨m, 0, none⟩ = some (.slice a z c) := HR3.out.blk.one rfl
      obtain ⟨b, o, ha, c0, c1, c2⟩ := hels.fil hPl
      subst ha
      generalize R.L.getD P default = el at *
      obtain ⟨nm, xb, xs⟩ := el
      simp only at hnm hfl c0 c1 c2
      have HFL : Hid (flAt n R.L = ⟨xb, xs⟩) := hfl
      have hxb : xb.length ≤ 16777216 := by have := HFIT.out.1; rw [hfl] at this; exact this
      have hxs : xs ≤ 16777216 := by have := HFIT.out.2; rw [hfl] at this; exact this
      have e0 : (0 : Int) ≤ (P : Int) := by omega
      have e1 : (P : Int) < (z : Int) := by omega
      clear hels hfl HF HF0
      rw [hnm] at c0
      clear hnm
      have hb0 : w3.cell? ⟨B0, 0, none⟩ = some (.string n) := HBX3.out.one rfl
      have hb1 : w3.cell? ⟨B0, 1, none⟩ = some (.string ⟨#[]⟩) := HBX3.out.one rfl
      have hb2 : w3.cell? ⟨B0, 2, none⟩ = some (.int .i64 0) := HBX3.out.one rfl
      have hf0 := HBX3.out.frozen 0
      have hf1 := HBX3.out.frozen 1
      have hf2 := HBX3.out.frozen 2
      go_upto_region 8 with fail
      generalize hw4 : World.setCell (World.setCell (World.setCell w3 _ _) _ _) _ _ = w4
      have HBX : Hid (Blk w4 B0 [.string n, .string (ofB xb), .int .i64 xs]) := by rw [← hw4]; exact ((HBX3.out.set 0 _).set 1 _).set 2 _
      have hk4 : Keep B0 w3 w4 := by rw [← hw4]; exact (((Keep.refl _ _).setCell _ _).setCell _ _).setCell _ _
      have HR4 : Hid (RkAt w4 m (.slice (some ⟨b, o, none⟩) z c) Rp) := HR3.out.far hk4 HB0.out.2
      have HK4 : Hid (Keep m w w4) := HK3.out.far hk4 HB0.out.1
      clear hw4 hk4 hb0 hb1 hb2 hf0 hf1 hf2 c0 c1 c2 hcl HBX3 HR3 HK3
      have HSX : Hid ((ofB xb).size = xb.length) := ofB_size xb
      have hb0 : w4.cell? ⟨B0, 0, none⟩ = some (.string n) := HBX.out.one rfl
      have hb1 : w4.cell? ⟨B0, 1, none⟩ = some (.string (ofB xb)) := HBX.out.one rfl
      have hb2 : w4.cell? ⟨B0, 2, none⟩ = some (.int .i64 xs) := HBX.out.one rfl
      have hfb1 := HBX.out.frozen 1
      have hsz : ((ofB xb).size : Int) = (xb.length : Int) := by rw [HSX.out]
      by_cases hbig : zb + xb.length ≤ 16777216
      · have hn1 : ¬ ((ofB xb).size : Int) > 16777216 - (zb : Int) := by rw [hsz]; omega
        have HA : Hid (XE = 0 ∧ XR = { Rp with L := sput n ⟨xb ++ bs, xs⟩ Rp.L }) := by
          have h1 : XE = 0 := by rw [HXE2.out, HFL.out, if_pos (by simp only; have := HV.out.2.1; omega)]
          exact ⟨h1, by rw [HXR.out, if_pos h1, HFL.out, HL.out]⟩
        have hsrc : SrcB w4 (.slice ab zb cb) bs := HV.out.1.keepR HK4.out HV.out.2.2
        have HSTR := hsrc.str
        have HCAT : Hid (ofB xb ++ ofB bs = ofB (xb ++ bs)) := ofB_app xb bs
        have hs1 : (ofB xb).size ≤ 16777216 := by rw [HSX.out]; exact hxb
        have hs2 : (ofB bs).size ≤ 50000000 := by rw [ofB_size]; have := HV.out.2.1; omega
        clear hsrc hsz
        go_upto_region 11 with fail
        rw [HCAT.out]
        generalize hw5 : World.setCell w4 _ _ = w5
        have HBX5 : Hid (Blk w5 B0 [.string n, .string (ofB (xb ++ bs)), .int .i64 xs]) := by rw [← hw5]; exact HBX.out.set 1 _
        have hk5 : Keep B0 w4 w5 := by rw [← hw5]; exact (Keep.refl _ _).setCell _ _
        have HR5 : Hid (RkAt w5 m (.slice (some ⟨b, o, none⟩) z c) Rp) := HR4.out.far hk5 HB0.out.2
        have HK5 : Hid (Keep m w w5) := HK4.out.far hk5 HB0.out.1
        clear hw5 hk5 hb0 hb1 hb2 hfb1 HSTR hn1
        have hb0 : w5.cell? ⟨B0, 0, none⟩ = some (.string n) := HBX5.out.one rfl
        have hb1 : w5.cell? ⟨B0, 1, none⟩ = some (.string (ofB (xb ++ bs))) := HBX5.out.one rfl
        have hb2 : w5.cell? ⟨B0, 2, none⟩ = some (.int .i64 xs) := HBX5.out.one rfl
        have HST : Hid _ := rset_any m _ Rp n (xb ++ bs) (xs) w5 HR5.out (by rw [HL.out]; have := HLEN.out; omega)
        go_wp2_with fail
        refine Calls.mono HST.out ?_
        rintro e w8 ⟨rfl, v8, hr8, hk8, hm8⟩
        have HR8 : Hid (RkAt w8 m v8 { Rp with L := sput n ⟨xb ++ bs, xs⟩ Rp.L } ∧ Keep m w w8 ∧ Mvd w (.slice (some ⟨b, o, none⟩) z c) v8) := ⟨hr8, HK5.out.trans hk8, (Mvd.refl _ _).trans hm8 HK5.out.size⟩
        clear hr8 hk8 hm8 HST
        go_wp2_with fail
        go_ret
        exact ⟨by rw [HA.out.1]; rfl, v8, by rw [HA.out.2]; exact HR8.out.1, HR8.out.2⟩
      · have hn1 : ((ofB xb).size : Int) > 16777216 - (zb : Int) := by rw [hsz]; omega
        have HA : Hid (XE = 3 ∧ XR = Rp) := by
          have h1 : XE = 3 := by rw [HXE2.out, HFL.out, if_neg (by simp only; have := HV.out.2.1; omega)]
          exact ⟨h1, by rw [HXR.out, if_neg (by rw [h1]; decide)]⟩
        clear hsz
        go_wp2_with fail
        go_ret
        exact ⟨by rw [HA.out.1]; rfl, _, by rw [HA.out.2]; exact HR4.out, HK4.out, Mvd.refl _ _⟩
  · have hE2 : (E == 0) = false := beq_eq_false_iff_ne.2 hE
    have HA : Hid (XE = E ∧ XR = Rp) := by
      have h1 : XE = E := by rw [HXE.out, if_neg hE]
      exact ⟨h1, by rw [HXR.out, if_neg (by rw [h1]; exact hE)]⟩
    go_wp2_with fail
    go_ret
    exact ⟨by rw [HA.out.1]; rfl, _, by rw [HA.out.2]; exact HR1.out, HK1.out, Mvd.refl _ _⟩
set_option maxRecDepth 100000 in
set_option maxHeartbeats 4000000 in
theorem rsyn_any (m : Nat) (v : Value) (R : RS) (n : ByteArray) (w : World) (h : RkAt w m v R) (hok : R.OK) :
    Calls Try.prog 18 #[.pointer (some ⟨m, 0, none⟩), .string n] w fun e w' => e = .returned (.int .i64 (R.opn n n n)) ∧ ∃ v', RkAt w' m v' (R.syn n) ∧ Keep m w w' ∧ Mvd w v v' := by
  have HBG : Hid _ := rbegin_any m v R n n w h hok.o0 hok.o1 hok.f0 hok.f1
  obtain ⟨a, c, rfl, hels0⟩ := h.shape
  have HL : Hid (R.pow.L = R.L) := R.pow_L
  have HLEN : Hid (R.L.length ≤ 99999) := hok.len
  have HFIT : Hid ((flAt n R.L).b.length ≤ 16777216 ∧ (flAt n R.L).safe ≤ 16777216) := hok.fit n
  have HXE : Hid (R.opn n n n = if R.beg n n = 0 then (if shas n R.L = true then 0 else 5) else R.beg n n) := rfl
  have HXR : Hid (R.syn n = if R.opn n n n = 0 then { R.pow with L := sput n ⟨(flAt n R.L).b, (flAt n R.L).b.length⟩ R.L } else R.pow) := rfl
  have HF : Hid (shas n R.L = true → (R.L.getD (cnt n R.L) default).1 = n ∧ flAt n R.L = (R.L.getD (cnt n R.L) default).2 ∧ cnt n R.L < R.L.length) := flAt_of
  have HF0 : Hid (shas n R.L = false → flAt n R.L = ⟨[], 0⟩) := flAt_no
  clear h hok hels0
  generalize R.opn n n n = XE at *
  generalize R.syn n = XR at *
  generalize R.beg n n = E at *
  generalize R.pow = Rp at *
  obtain ⟨z, hz0⟩ : ∃ z, z = R.L.length := ⟨_, rfl⟩
  have HZ : Hid (z = R.L.length) := hz0
  rw [← hz0] at HBG ⊢
  clear hz0
  go_enter Try.func18, Try.ntmps18
  go_wp2_with fail
  refine Calls.mono HBG.out ?_
  rintro e w1 ⟨rfl, hr1, hk1⟩
  have HR1 : Hid (RkAt w1 m (.slice a z c) Rp) := hr1
  have HK1 : Hid (Keep m w w1) := hk1
  clear hr1 hk1 HBG
  by_cases hE : E = 0
  · subst hE
    have HXE2 : Hid (XE = if shas n R.L = true then 0 else 5) := show _ = _ by rw [HXE.out, if_pos rfl]
    clear HXE
    have HPL : Hid _ := place_any m _ Rp n w1 HR1.out
    rw [HL.out] at HPL
    generalize cnt n R.L = P at *
    generalize shas n R.L = TA at *
    go_wp2_with fail
    refine Calls.mono HPL.out ?_
    rintro e w3 ⟨rfl, hb3⟩
    have HR3 : Hid (RkAt w3 m (.slice a z c) Rp) := HR1.out.below hb3
    have HK3 : Hid (Keep m w w3) := HK1.out.trans (Keep.of_below hb3)
    clear hb3 HPL HR1 HK1
    cases TA with
    | false =>
      have HA : Hid (XE = 5 ∧ XR = Rp) := by
        have h1 : XE = 5 := by rw [HXE2.out]; exact if_neg (by decide)
        exact ⟨h1, by rw [HXR.out, if_neg (by rw [h1]; decide)]⟩
      go_wp2_with fail
      go_ret
      exact ⟨by rw [HA.out.1]; rfl, _, by rw [HA.out.2]; exact HR3.out, HK3.out, Mvd.refl _ _⟩
    | true =>
      obtain ⟨hnm, hfl, hPl⟩ := HF.out rfl
      rw [← HZ.out] at hPl
      have hels : Els w3 a z c R.L := by
        obtain ⟨a', c', e', he'⟩ := HR3.out.shape
        rw [HL.out] at e' he'
        injection e' with e1 e2 e3
        rw [e1, e3, HZ.out]; exact he'
      have hcl : w3.cell? ⟨m, 0, none⟩ = some (.slice a z c) := HR3.out.blk.one rfl
      obtain ⟨b, o, ha, c0, c1, c2⟩ := hels.fil hPl
      subst ha
      generalize R.L.getD P default = el at *
      obtain ⟨nm, xb, xs⟩ := el
      simp only at hnm hfl c0 c1 c2
      have HFL : Hid (flAt n R.L = ⟨xb, xs⟩) := hfl
      have hxb : xb.length ≤ 16777216 := by have := HFIT.out.1; rw [hfl] at this; exact this
      have hxs : xs ≤ 16777216 := by have := HFIT.out.2; rw [hfl] at this; exact this
      have e0 : (0 : Int) ≤ (P : Int) := by omega
      have e1 : (P : Int) < (z : Int) := by omega
      subst hnm
      clear hels hfl HF HF0
      go_upto_region 8 with fail
      generalize hw4 : World.alloc w3 _ = w4
      have hb4 : Below w3.heap.size w3 w4 := by rw [← hw4]; exact (Below.refl _ _).alloc (Nat.le_refl _) _
      have HBX : Hid (Blk w4 w3.heap.size [.string nm, .string (ofB xb), .int .i64 xs]) := by rw [← hw4]; exact Blk.mk _ _ _ rfl rfl
      have HR4 : Hid (RkAt w4 m (.slice (some ⟨b, o, none⟩) z c) Rp) := HR3.out.below hb4
      have HK4 : Hid (Keep m w w4) := HK3.out.trans (Keep.of_below hb4)
      have HB0 : Hid (w.heap.size ≤ w3.heap.size ∧ (w3.heap.size ≠ m ∧ ∀ k, (Value.slice (some ⟨b, o, none⟩) z c).ownBlock = some k → k ≠ w3.heap.size)) := ⟨HK3.out.size, fun e => by have := HR3.out.blk.lt; omega, fun k e => by have := (HR3.out.own.lt k e).2; omega⟩
      clear hw4 hb4 c0 c1 c2 hcl HR3 HK3
      generalize w3.heap.size = B0 at *
      have hb0 : w4.cell? ⟨B0, 0, none⟩ = some (.string nm) := HBX.out.one rfl
      have hb1 : w4.cell? ⟨B0, 1, none⟩ = some (.string (ofB xb)) := HBX.out.one rfl
      have hb2 : w4.cell? ⟨B0, 2, none⟩ = some (.int .i64 xs) := HBX.out.one rfl
      have HA : Hid (XE = 0 ∧ XR = { Rp with L := sput nm ⟨xb, xb.length⟩ Rp.L }) := by
        have h1 : XE = 0 := by rw [HXE2.out]; first | exact if_pos trivial | exact if_pos rfl
        exact ⟨h1, by rw [HXR.out, if_pos h1, HFL.out, HL.out]⟩
      have HSX : Hid ((ofB xb).size = xb.length) := ofB_size xb
      have hf2 := HBX.out.frozen 2
      go_upto_region 9 with fail
      rw [HSX.out]
      generalize hw5 : World.setCell w4 _ _ = w5
      have HBX5 : Hid (Blk w5 B0 [.string nm, .string (ofB xb), .int .i64 xb.length]) := by rw [← hw5]; exact HBX.out.set 2 _
      have hk5 : Keep B0 w4 w5 := by rw [← hw5]; exact (Keep.refl _ _).setCell _ _
      have HR5 : Hid (RkAt w5 m (.slice (some ⟨b, o, none⟩) z c) Rp) := HR4.out.far hk5 HB0.out.2
      have HK5 : Hid (Keep m w w5) := HK4.out.far hk5 HB0.out.1
      clear hw5 hk5 hb0 hb1 hb2 hf2
      have hb0 : w5.cell? ⟨B0, 0, none⟩ = some (.string nm) := HBX5.out.one rfl
      have hb1 : w5.cell? ⟨B0, 1, none⟩ = some (.string (ofB xb)) := HBX5.out.one rfl
      have hb2 : w5.cell? ⟨B0, 2, none⟩ = some (.int .i64 xb.length) := HBX5.out.one rfl
      have HST : Hid _ := rset_any m _ Rp nm (xb) (xb.length) w5 HR5.out (by rw [HL.out]; have := HLEN.out; omega)
      go_wp2_with fail
      refine Calls.mono HST.out ?_
      rintro e w8 ⟨rfl, v8, hr8, hk8, hm8⟩
      have HR8 : Hid (RkAt w8 m v8 { Rp with L := sput nm ⟨xb, xb.length⟩ Rp.L } ∧ Keep m w w8 ∧ Mvd w (.slice (some ⟨b, o, none⟩) z c) v8) := ⟨hr8, HK5.out.trans hk8, (Mvd.refl _ _).trans hm8 HK5.out.size⟩
      clear hr8 hk8 hm8 HST
      go_wp2_with fail
      go_ret
      exact ⟨by rw [HA.out.1]; rfl, v8, by rw [HA.out.2]; exact HR8.out.1, HR8.out.2⟩
  · have hE2 : (E == 0) = false := beq_eq_false_iff_ne.2 hE
    have HA : Hid (XE = E ∧ XR = Rp) := by
      have h1 : XE = E := by rw [HXE.out, if_neg hE]
      exact ⟨h1, by rw [HXR.out, if_neg (by rw [h1]; exact hE)]⟩
    go_wp2_with fail
    go_ret
    exact ⟨by rw [HA.out.1]; rfl, _, by rw [HA.out.2]; exact HR1.out, HK1.out, Mvd.refl _ _⟩
set_option maxRecDepth 100000 in
set_option maxHeartbeats 4000000 in
theorem rrem_any (m : Nat) (v : Value) (R : RS) (n : ByteArray) (w : World) (h : RkAt w m v R) (hok : R.OK) :
    Calls Try.prog 22 #[.pointer (some ⟨m, 0, none⟩), .string n] w fun e w' => e = .returned (.int .i64 (R.opn n n n)) ∧ ∃ v', RkAt w' m v' (R.rem n) ∧ Keep m w w' ∧ Mvd w v v' := by
  have HBG : Hid _ := rbegin_any m v R n n w h hok.o0 hok.o1 hok.f0 hok.f1
  obtain ⟨a, c, rfl, hels0⟩ := h.shape
  have HL : Hid (R.pow.L = R.L) := R.pow_L
  have HLEN : Hid (R.L.length ≤ 99999) := hok.len
  have HFIT : Hid ((flAt n R.L).b.length ≤ 16777216 ∧ (flAt n R.L).safe ≤ 16777216) := hok.fit n
  have HXE : Hid (R.opn n n n = if R.beg n n = 0 then (if shas n R.L = true then 0 else 5) else R.beg n n) := rfl
  have HXR : Hid (R.rem n = if R.opn n n n = 0 then { R.pow with L := sdel n R.L } else R.pow) := rfl
  have HF : Hid (shas n R.L = true → (R.L.getD (cnt n R.L) default).1 = n ∧ flAt n R.L = (R.L.getD (cnt n R.L) default).2 ∧ cnt n R.L < R.L.length) := flAt_of
  have HF0 : Hid (shas n R.L = false → flAt n R.L = ⟨[], 0⟩) := flAt_no
  clear h hok hels0
  generalize R.opn n n n = XE at *
  generalize R.rem n = XR at *
  generalize R.beg n n = E at *
  generalize R.pow = Rp at *
  obtain ⟨z, hz0⟩ : ∃ z, z = R.L.length := ⟨_, rfl⟩
  have HZ : Hid (z = R.L.length) := hz0
  rw [← hz0] at HBG ⊢
  clear hz0
  go_enter Try.func22, Try.ntmps22
  go_wp2_with fail
  refine Calls.mono HBG.out ?_
  rintro e w1 ⟨rfl, hr1, hk1⟩
  have HR1 : Hid (RkAt w1 m (.slice a z c) Rp) := hr1
  have HK1 : Hid (Keep m w w1) := hk1
  clear hr1 hk1 HBG
  by_cases hE : E = 0
  · subst hE
    have HXE2 : Hid (XE = if shas n R.L = true then 0 else 5) := show _ = _ by rw [HXE.out, if_pos rfl]
    clear HXE
    have HPL : Hid _ := place_any m _ Rp n w1 HR1.out
    rw [HL.out] at HPL
    generalize cnt n R.L = P at *
    generalize shas n R.L = TA at *
    go_wp2_with fail
    refine Calls.mono HPL.out ?_
    rintro e w3 ⟨rfl, hb3⟩
    have HR3 : Hid (RkAt w3 m (.slice a z c) Rp) := HR1.out.below hb3
    have HK3 : Hid (Keep m w w3) := HK1.out.trans (Keep.of_below hb3)
    clear hb3 HPL HR1 HK1
    cases TA with
    | false =>
      have HA : Hid (XE = 5 ∧ XR = Rp) := by
        have h1 : XE = 5 := by rw [HXE2.out]; exact if_neg (by decide)
        exact ⟨h1, by rw [HXR.out, if_neg (by rw [h1]; decide)]⟩
      go_wp2_with fail
      go_ret
      exact ⟨by rw [HA.out.1]; rfl, _, by rw [HA.out.2]; exact HR3.out, HK3.out, Mvd.refl _ _⟩
    | true =>
      have HA : Hid (XE = 0 ∧ XR = { Rp with L := sdel n Rp.L }) := by
        have h1 : XE = 0 := by rw [HXE2.out]; first | exact if_pos trivial | exact if_pos rfl
        exact ⟨h1, by rw [HXR.out, if_pos h1, HL.out]⟩
      have HGO : Hid _ := rgone_any m _ Rp n w3 HR3.out (by rw [HL.out]; have := HLEN.out; omega)
      go_wp2_with fail
      refine Calls.mono HGO.out ?_
      rintro e w8 ⟨rfl, v8, hr8, hk8, hm8⟩
      have HR8 : Hid (RkAt w8 m v8 { Rp with L := sdel n Rp.L } ∧ Keep m w w8 ∧ Mvd w (.slice a z c) v8) := ⟨hr8, HK3.out.trans hk8, (Mvd.refl _ _).trans hm8 HK3.out.size⟩
      clear hr8 hk8 hm8 HGO
      go_wp2_with fail
      go_ret
      exact ⟨by rw [HA.out.1]; rfl, v8, by rw [HA.out.2]; exact HR8.out.1, HR8.out.2⟩
  · have hE2 : (E == 0) = false := beq_eq_false_iff_ne.2 hE
    have HA : Hid (XE = E ∧ XR = Rp) := by
      have h1 : XE = E := by rw [HXE.out, if_neg hE]
      exact ⟨h1, by rw [HXR.out, if_neg (by rw [h1]; exact hE)]⟩
    go_wp2_with fail
    go_ret
    exact ⟨by rw [HA.out.1]; rfl, _, by rw [HA.out.2]; exact HR1.out, HK1.out, Mvd.refl _ _⟩
set_option maxRecDepth 100000 in
set_option maxHeartbeats 4000000 in
theorem rren_any (m : Nat) (v : Value) (R : RS) (n dst : ByteArray) (w : World) (h : RkAt w m v R) (hok : R.OK) :
    Calls Try.prog 20 #[.pointer (some ⟨m, 0, none⟩), .string n, .string dst] w fun e w' => e = .returned (.int .i64 (R.opn n dst n)) ∧ ∃ v', RkAt w' m v' (R.ren n dst) ∧ Keep m w w' ∧ Mvd w v v' := by
  have HBG : Hid _ := rbegin_any m v R n dst w h hok.o0 hok.o1 hok.f0 hok.f1
  obtain ⟨a, c, rfl, hels0⟩ := h.shape
  have HL : Hid (R.pow.L = R.L) := R.pow_L
  have HLEN : Hid (R.L.length ≤ 99999) := hok.len
  have HFIT : Hid ((flAt n R.L).b.length ≤ 16777216 ∧ (flAt n R.L).safe ≤ 16777216) := hok.fit n
  have HXE : Hid (R.opn n dst n = if R.beg n dst = 0 then (if shas n R.L = true then 0 else 5) else R.beg n dst) := rfl
  have HXR : Hid (R.ren n dst = if R.opn n dst n = 0 then { R.pow with L := sput dst (flAt n R.L) (sdel n R.L) } else R.pow) := rfl
  have HF : Hid (shas n R.L = true → (R.L.getD (cnt n R.L) default).1 = n ∧ flAt n R.L = (R.L.getD (cnt n R.L) default).2 ∧ cnt n R.L < R.L.length) := flAt_of
  have HF0 : Hid (shas n R.L = false → flAt n R.L = ⟨[], 0⟩) := flAt_no
  clear h hok hels0
  generalize R.opn n dst n = XE at *
  generalize R.ren n dst = XR at *
  generalize R.beg n dst = E at *
  generalize R.pow = Rp at *
  obtain ⟨z, hz0⟩ : ∃ z, z = R.L.length := ⟨_, rfl⟩
  have HZ : Hid (z = R.L.length) := hz0
  rw [← hz0] at HBG ⊢
  clear hz0
  go_enter Try.func20, Try.ntmps20
  go_wp2_with fail
  refine Calls.mono HBG.out ?_
  rintro e w1 ⟨rfl, hr1, hk1⟩
  have HR1 : Hid (RkAt w1 m (.slice a z c) Rp) := hr1
  have HK1 : Hid (Keep m w w1) := hk1
  clear hr1 hk1 HBG
  by_cases hE : E = 0
  · subst hE
    have HXE2 : Hid (XE = if shas n R.L = true then 0 else 5) := show _ = _ by rw [HXE.out, if_pos rfl]
    clear HXE
    have HPL : Hid _ := place_any m _ Rp n w1 HR1.out
    rw [HL.out] at HPL
    generalize cnt n R.L = P at *
    generalize shas n R.L = TA at *
    go_wp2_with fail
    refine Calls.mono HPL.out ?_
    rintro e w3 ⟨rfl, hb3⟩
    have HR3 : Hid (RkAt w3 m (.slice a z c) Rp) := HR1.out.below hb3
    have HK3 : Hid (Keep m w w3) := HK1.out.trans (Keep.of_below hb3)
    clear hb3 HPL HR1 HK1
    cases TA with
    | false =>
      have HA : Hid (XE = 5 ∧ XR = Rp) := by
        have h1 : XE = 5 := by rw [HXE2.out]; exact if_neg (by decide)
        exact ⟨h1, by rw [HXR.out, if_neg (by rw [h1]; decide)]⟩
      go_wp2_with fail
      go_ret
      exact ⟨by rw [HA.out.1]; rfl, _, by rw [HA.out.2]; exact HR3.out, HK3.out, Mvd.refl _ _⟩
    | true =>
      obtain ⟨hnm, hfl, hPl⟩ := HF.out rfl
      rw [← HZ.out] at hPl
      have hels : Els w3 a z c R.L := by
        obtain ⟨a', c', e', he'⟩ := HR3.out.shape
        rw [HL.out] at e' he'
        injection e' with e1 e2 e3
        rw [e1, e3, HZ.out]; exact he'
      have hcl : w3.cell? ⟨m, 0, none⟩ = some (.slice a z c) := HR3.out.blk.one rfl
      obtain ⟨b, o, ha, c0, c1, c2⟩ := hels.fil hPl
      subst ha
      generalize R.L.getD P default = el at *
      obtain ⟨nm, xb, xs⟩ := el
      simp only at hnm hfl c0 c1 c2
      have HFL : Hid (flAt n R.L = ⟨xb, xs⟩) := hfl
      have hxb : xb.length ≤ 16777216 := by have := HFIT.out.1; rw [hfl] at this; exact this
      have hxs : xs ≤ 16777216 := by have := HFIT.out.2; rw [hfl] at this; exact this
      have e0 : (0 : Int) ≤ (P : Int) := by omega
      have e1 : (P : Int) < (z : Int) := by omega
      subst hnm
      clear hels hfl HF HF0
      go_upto_region 8 with fail
      generalize hw4 : World.alloc w3 _ = w4
      have hb4 : Below w3.heap.size w3 w4 := by rw [← hw4]; exact (Below.refl _ _).alloc (Nat.le_refl _) _
      have HBX : Hid (Blk w4 w3.heap.size [.string nm, .string (ofB xb), .int .i64 xs]) := by rw [← hw4]; exact Blk.mk _ _ _ rfl rfl
      have HR4 : Hid (RkAt w4 m (.slice (some ⟨b, o, none⟩) z c) Rp) := HR3.out.below hb4
      have HK4 : Hid (Keep m w w4) := HK3.out.trans (Keep.of_below hb4)
      have HB0 : Hid (w.heap.size ≤ w3.heap.size ∧ (w3.heap.size ≠ m ∧ ∀ k, (Value.slice (some ⟨b, o, none⟩) z c).ownBlock = some k → k ≠ w3.heap.size)) := ⟨HK3.out.size, fun e => by have := HR3.out.blk.lt; omega, fun k e => by have := (HR3.out.own.lt k e).2; omega⟩
      clear hw4 hb4 c0 c1 c2 hcl HR3 HK3
      generalize w3.heap.size = B0 at *
      have hb0 : w4.cell? ⟨B0, 0, none⟩ = some (.string nm) := HBX.out.one rfl
      have hb1 : w4.cell? ⟨B0, 1, none⟩ = some (.string (ofB xb)) := HBX.out.one rfl
      have hb2 : w4.cell? ⟨B0, 2, none⟩ = some (.int .i64 xs) := HBX.out.one rfl
      have HA : Hid (XE = 0 ∧ XR = { Rp with L := sput dst ⟨xb, xs⟩ (sdel nm Rp.L) }) := by
        have h1 : XE = 0 := by rw [HXE2.out]; first | exact if_pos trivial | exact if_pos rfl
        exact ⟨h1, by rw [HXR.out, if_pos h1, HFL.out, HL.out]⟩
      have HGO : Hid _ := rgone_any m _ Rp nm w4 HR4.out (by rw [HL.out]; have := HLEN.out; omega)
      clear hb0 hb1 hb2
      go_wp2_with fail
      refine Calls.mono HGO.out ?_
      rintro e w6 ⟨rfl, v6, hr6, hk6, hm6⟩
      obtain ⟨a6, c6, hv6, _⟩ := hr6.shape
      obtain ⟨z6, hz6⟩ : ∃ z, z = (sdel nm Rp.L).length := ⟨_, rfl⟩
      have HLS : Hid ((sdel nm Rp.L).length ≤ 99999) := show _ ≤ _ by have h1 := sdel_length nm Rp.L; rw [HL.out] at h1 ⊢; have := HLEN.out; omega
      simp only at hv6
      rw [← hz6] at hv6
      clear hz6
      subst hv6
      have HR6 : Hid (RkAt w6 m (.slice a6 z6 c6) { Rp with L := sdel nm Rp.L }) := hr6
      have HK6 : Hid (Keep m w w6) := HK4.out.trans hk6
      have HM6 : Hid (Mvd w (.slice (some ⟨b, o, none⟩) z c) (.slice a6 z6 c6)) := (Mvd.refl _ _).trans hm6 HK4.out.size
      have HBX6 : Hid (Blk w6 B0 [.string nm, .string (ofB xb), .int .i64 xs]) := HBX.out.keep hk6 HB0.out.2.1
      have HB6 : Hid (B0 ≠ m ∧ ∀ k, (Value.slice a6 z6 c6).ownBlock = some k → k ≠ B0) := ⟨HB0.out.2.1, fun k e => (hm6 k e).elim (HB0.out.2.2 k) fun h => by have := HBX.out.lt; omega⟩
      clear hr6 hk6 hm6 HGO HR4 HK4 HBX
      have hb0 : w6.cell? ⟨B0, 0, none⟩ = some (.string nm) := HBX6.out.one rfl
      have hf0 := HBX6.out.frozen 0
      go_upto_region 10 with fail
      generalize hw5 : World.setCell w6 _ _ = w5
      have HBX5 : Hid (Blk w5 B0 [.string dst, .string (ofB xb), .int .i64 xs]) := by rw [← hw5]; exact HBX6.out.set 0 _
      have hk5 : Keep B0 w6 w5 := by rw [← hw5]; exact (Keep.refl _ _).setCell _ _
      have HR5 : Hid (RkAt w5 m (.slice a6 z6 c6) { Rp with L := sdel nm Rp.L }) := HR6.out.far hk5 HB6.out
      have HK5 : Hid (Keep m w w5) := HK6.out.far hk5 HB0.out.1
      clear hw5 hk5 hb0 hf0
      have hb0 : w5.cell? ⟨B0, 0, none⟩ = some (.string dst) := HBX5.out.one rfl
      have hb1 : w5.cell? ⟨B0, 1, none⟩ = some (.string (ofB xb)) := HBX5.out.one rfl
      have hb2 : w5.cell? ⟨B0, 2, none⟩ = some (.int .i64 xs) := HBX5.out.one rfl
      have HST : Hid _ := rset_any m _ { Rp with L := sdel nm Rp.L } dst xb xs w5 HR5.out (by have := HLS.out; simp only; omega)
      go_wp2_with fail
      refine Calls.mono HST.out ?_
      rintro e w8 ⟨rfl, v8, hr8, hk8, hm8⟩
      have HR8 : Hid (RkAt w8 m v8 { Rp with L := sput dst ⟨xb, xs⟩ (sdel nm Rp.L) } ∧ Keep m w w8 ∧ Mvd w (.slice (some ⟨b, o, none⟩) z c) v8) := ⟨hr8, HK5.out.trans hk8, HM6.out.trans hm8 HK5.out.size⟩
      clear hr8 hk8 hm8 HST
      go_wp2_with fail
      go_ret
      exact ⟨by rw [HA.out.1]; rfl, v8, by rw [HA.out.2]; exact HR8.out.1, HR8.out.2⟩
  · have hE2 : (E == 0) = false := beq_eq_false_iff_ne.2 hE
    have HA : Hid (XE = E ∧ XR = Rp) := by
      have h1 : XE = E := by rw [HXE.out, if_neg hE]
      exact ⟨h1, by rw [HXR.out, if_neg (by rw [h1]; exact hE)]⟩
    go_wp2_with fail
    go_ret
    exact ⟨by rw [HA.out.1]; rfl, _, by rw [HA.out.2]; exact HR1.out, HK1.out, Mvd.refl _ _⟩
set_option maxRecDepth 100000 in
set_option maxHeartbeats 4000000 in
theorem rtru_any (m : Nat) (v : Value) (R : RS) (n : ByteArray) (t : Int) (w : World) (h : RkAt w m v R) (hok : R.OK) :
    Calls Try.prog 24 #[.pointer (some ⟨m, 0, none⟩), .string n, .int .i64 t] w fun e w' => e = .returned (.int .i64 (R.truE n t)) ∧ ∃ v', RkAt w' m v' (R.tru n t) ∧ Keep m w w' ∧ Mvd w v v' := by
  have HBG : Hid _ := rbegin_any m v R n n w h hok.o0 hok.o1 hok.f0 hok.f1
  obtain ⟨a, c, rfl, hels0⟩ := h.shape
  have HL : Hid (R.pow.L = R.L) := R.pow_L
  have HLEN : Hid (R.L.length ≤ 99999) := hok.len
  have HFIT : Hid ((flAt n R.L).b.length ≤ 16777216 ∧ (flAt n R.L).safe ≤ 16777216) := hok.fit n
  have HXE : Hid (R.truE n t = if R.beg n n = 0 then (if shas n R.L = true then (if 0 ≤ t ∧ t ≤ (flAt n R.L).b.length then 0 else 1) else 5) else R.beg n n) := truE_eq R n t
  have HXR : Hid (R.tru n t = if R.truE n t = 0 then { R.pow with L := sput n ⟨(flAt n R.L).b.take t.toNat, min (flAt n R.L).safe t.toNat⟩ R.L } else R.pow) := rfl
  have HF : Hid (shas n R.L = true → (R.L.getD (cnt n R.L) default).1 = n ∧ flAt n R.L = (R.L.getD (cnt n R.L) default).2 ∧ cnt n R.L < R.L.length) := flAt_of
  have HF0 : Hid (shas n R.L = false → flAt n R.L = ⟨[], 0⟩) := flAt_no
  clear h hok hels0
  generalize R.truE n t = XE at *
  generalize R.tru n t = XR at *
  generalize R.beg n n = E at *
  generalize R.pow = Rp at *
  obtain ⟨z, hz0⟩ : ∃ z, z = R.L.length := ⟨_, rfl⟩
  have HZ : Hid (z = R.L.length) := hz0
  rw [← hz0] at HBG ⊢
  clear hz0
  go_enter Try.func24, Try.ntmps24
  go_wp2_with fail
  refine Calls.mono HBG.out ?_
  rintro e w1 ⟨rfl, hr1, hk1⟩
  have HR1 : Hid (RkAt w1 m (.slice a z c) Rp) := hr1
  have HK1 : Hid (Keep m w w1) := hk1
  clear hr1 hk1 HBG
  by_cases hE : E = 0
  · subst hE
    have HXE2 : Hid (XE = if shas n R.L = true then (if 0 ≤ t ∧ t ≤ (flAt n R.L).b.length then 0 else 1) else 5) := show _ = _ by rw [HXE.out, if_pos rfl]
    clear HXE
    have HPL : Hid _ := place_any m _ Rp n w1 HR1.out
    rw [HL.out] at HPL
    generalize cnt n R.L = P at *
    generalize shas n R.L = TA at *
    go_wp2_with fail
    refine Calls.mono HPL.out ?_
    rintro e w3 ⟨rfl, hb3⟩
    have HR3 : Hid (RkAt w3 m (.slice a z c) Rp) := HR1.out.below hb3
    have HK3 : Hid (Keep m w w3) := HK1.out.trans (Keep.of_below hb3)
    clear hb3 HPL HR1 HK1
    cases TA with
    | false =>
      have HA : Hid (XE = 5 ∧ XR = Rp) := by
        have h1 : XE = 5 := by rw [HXE2.out]; rfl
        exact ⟨h1, by rw [HXR.out, if_neg (by rw [h1]; decide)]⟩
      go_wp2_with fail
      go_ret
      exact ⟨by rw [HA.out.1]; rfl, _, by rw [HA.out.2]; exact HR3.out, HK3.out, Mvd.refl _ _⟩
    | true =>
      obtain ⟨hnm, hfl, hPl⟩ := HF.out rfl
      rw [← HZ.out] at hPl
      have hels : Els w3 a z c R.L := by
        obtain ⟨a', c', e', he'⟩ := HR3.out.shape
        rw [HL.out] at e' he'
        injection e' with e1 e2 e3
        rw [e1, e3, HZ.out]; exact he'
      have hcl : w3.cell? ⟨m, 0, none⟩ = some (.slice a z c) := HR3.out.blk.one rfl
      obtain ⟨b, o, ha, c0, c1, c2⟩ := hels.fil hPl
      subst ha
      generalize R.L.getD P default = el at *
      obtain ⟨nm, xb, xs⟩ := el
      simp only at hnm hfl c0 c1 c2
      have HFL : Hid (flAt n R.L = ⟨xb, xs⟩) := hfl
      have hxb : xb.length ≤ 16777216 := by have := HFIT.out.1; rw [hfl] at this; exact this
      have hxs : xs ≤ 16777216 := by have := HFIT.out.2; rw [hfl] at this; exact this
      have e0 : (0 : Int) ≤ (P : Int) := by omega
      have e1 : (P : Int) < (z : Int) := by omega
      subst hnm
      clear hels hfl HF HF0
      go_upto_region 8 with fail
      generalize hw4 : World.alloc w3 _ = w4
      have hb4 : Below w3.heap.size w3 w4 := by rw [← hw4]; exact (Below.refl _ _).alloc (Nat.le_refl _) _
      have HBX : Hid (Blk w4 w3.heap.size [.string nm, .string (ofB xb), .int .i64 xs]) := by rw [← hw4]; exact Blk.mk _ _ _ rfl rfl
      have HR4 : Hid (RkAt w4 m (.slice (some ⟨b, o, none⟩) z c) Rp) := HR3.out.below hb4
      have HK4 : Hid (Keep m w w4) := HK3.out.trans (Keep.of_below hb4)
      have HB0 : Hid (w.heap.size ≤ w3.heap.size ∧ (w3.heap.size ≠ m ∧ ∀ k, (Value.slice (some ⟨b, o, none⟩) z c).ownBlock = some k → k ≠ w3.heap.size)) := ⟨HK3.out.size, fun e => by have := HR3.out.blk.lt; omega, fun k e => by have := (HR3.out.own.lt k e).2; omega⟩
      clear hw4 hb4 c0 c1 c2 hcl HR3 HK3
      generalize w3.heap.size = B0 at *
      have hb0 : w4.cell? ⟨B0, 0, none⟩ = some (.string nm) := HBX.out.one rfl
      have hb1 : w4.cell? ⟨B0, 1, none⟩ = some (.string (ofB xb)) := HBX.out.one rfl
      have hb2 : w4.cell? ⟨B0, 2, none⟩ = some (.int .i64 xs) := HBX.out.one rfl
      have HSX : Hid ((ofB xb).size = xb.length) := ofB_size xb
      have hsz : ((ofB xb).size : Int) = (xb.length : Int) := by rw [HSX.out]
      have HX1 : Hid (XE = if 0 ≤ t ∧ t ≤ xb.length then 0 else 1) := show _ = _ by rw [HXE2.out, HFL.out]; first | exact if_pos trivial | exact if_pos rfl
      by_cases ht : 0 ≤ t ∧ t ≤ xb.length
      · obtain ⟨k, rfl⟩ : ∃ k : Nat, t = k := ⟨t.toNat, by omega⟩
        have HA : Hid (XE = 0 ∧ XR = { Rp with L := sput nm ⟨xb.take k, min xs k⟩ Rp.L }) := by
          have h1 : XE = 0 := by rw [HX1.out, if_pos ht]
          exact ⟨h1, by rw [HXR.out, if_pos h1, HFL.out, HL.out]; rfl⟩
        have hk0 : ¬ (k : Int) < 0 := by omega
        have hk1 : ¬ (k : Int) > ((ofB xb).size : Int) := by rw [hsz]; omega
        have hk2 : k ≤ (ofB xb).size := by rw [HSX.out]; omega
        have hk3 : (0 : Int) ≤ (k : Int) := by omega
        have hk4 : (k : Int) ≤ ((ofB xb).size : Int) := by omega
        have HCUT : Hid ((ofB xb).extract 0 k = ofB (xb.take k)) := ofB_cut xb k
        have hf1 := HBX.out.frozen 1
        clear hsz
        go_upto_region 11 with fail
        rw [HCUT.out]
        generalize hw5 : World.setCell w4 _ _ = w5
        have HBX5 : Hid (Blk w5 B0 [.string nm, .string (ofB (xb.take k)), .int .i64 xs]) := by rw [← hw5]; exact HBX.out.set 1 _
        have hk5 : Keep B0 w4 w5 := by rw [← hw5]; exact (Keep.refl _ _).setCell _ _
        have HR5 : Hid (RkAt w5 m (.slice (some ⟨b, o, none⟩) z c) Rp) := HR4.out.far hk5 HB0.out.2
        have HK5 : Hid (Keep m w w5) := HK4.out.far hk5 HB0.out.1
        clear hw5 hk5 hb0 hb1 hb2 hf1 HR4 HK4 HBX hk0 hk1 hk2 hk4
        have hb2 : w5.cell? ⟨B0, 2, none⟩ = some (.int .i64 xs) := HBX5.out.one rfl
        have hf2 := HBX5.out.frozen 2
        have hmin : min (xs : Int) (k : Int) = ((min xs k : Nat) : Int) := by omega
        go_upto_region 12 with fail
        skip
        clear hmin
        generalize min xs k = q at *
        generalize hw6 : World.setCell w5 _ _ = w6
        have HBX6 : Hid (Blk w6 B0 [.string nm, .string (ofB (xb.take k)), .int .i64 q]) := by rw [← hw6]; exact HBX5.out.set 2 _
        have hk6 : Keep B0 w5 w6 := by rw [← hw6]; exact (Keep.refl _ _).setCell _ _
        have HR6 : Hid (RkAt w6 m (.slice (some ⟨b, o, none⟩) z c) Rp) := HR5.out.far hk6 HB0.out.2
        have HK6 : Hid (Keep m w w6) := HK5.out.far hk6 HB0.out.1
        clear hw6 hk6 hb2 hf2 HR5 HK5 HBX5
        have hb0 : w6.cell? ⟨B0, 0, none⟩ = some (.string nm) := HBX6.out.one rfl
        have hb1 : w6.cell? ⟨B0, 1, none⟩ = some (.string (ofB (xb.take k))) := HBX6.out.one rfl
        have hb2 : w6.cell? ⟨B0, 2, none⟩ = some (.int .i64 q) := HBX6.out.one rfl
        have HST : Hid _ := rset_any m _ Rp nm (xb.take k) (q) w6 HR6.out (by rw [HL.out]; have := HLEN.out; omega)
        go_wp2_with fail
        refine Calls.mono HST.out ?_
        rintro e w8 ⟨rfl, v8, hr8, hk8, hm8⟩
        have HR8 : Hid (RkAt w8 m v8 { Rp with L := sput nm ⟨xb.take k, q⟩ Rp.L } ∧ Keep m w w8 ∧ Mvd w (.slice (some ⟨b, o, none⟩) z c) v8) := ⟨hr8, HK6.out.trans hk8, (Mvd.refl _ _).trans hm8 HK6.out.size⟩
        clear hr8 hk8 hm8 HST
        go_wp2_with fail
        go_ret
        exact ⟨by rw [HA.out.1]; rfl, v8, by rw [HA.out.2]; exact HR8.out.1, HR8.out.2⟩
      · have HA : Hid (XE = 1 ∧ XR = Rp) := by
          have h1 : XE = 1 := by rw [HX1.out, if_neg ht]
          exact ⟨h1, by rw [HXR.out, if_neg (by rw [h1]; decide)]⟩
        by_cases h0 : t < 0
        · go_wp2_with fail
          go_ret
          exact ⟨by rw [HA.out.1]; rfl, _, by rw [HA.out.2]; exact HR4.out, HK4.out, Mvd.refl _ _⟩
        · have h1 : t > ((ofB xb).size : Int) := by rw [hsz]; omega
          go_wp2_with fail
          go_ret
          exact ⟨by rw [HA.out.1]; rfl, _, by rw [HA.out.2]; exact HR4.out, HK4.out, Mvd.refl _ _⟩
  · have hE2 : (E == 0) = false := beq_eq_false_iff_ne.2 hE
    have HA : Hid (XE = E ∧ XR = Rp) := by
      have h1 : XE = E := by rw [HXE.out, if_neg hE]
      exact ⟨h1, by rw [HXR.out, if_neg (by rw [h1]; exact hE)]⟩
    go_wp2_with fail
    go_ret
    exact ⟨by rw [HA.out.1]; rfl, _, by rw [HA.out.2]; exact HR1.out, HK1.out, Mvd.refl _ _⟩
end Go.Proofs.Ytlapnnkahijikaa
