/- file: Crash. -/
import Derived.Test.YtbbooldhfcldbaaFlO
namespace Go.Proofs.Ytbbooldhfcldbaa
open Go.ChangeShapes Go.WideShapes Go.ChangeAt Go.RowKit Go.Lib

/-- What stands while Crash goes through the names. -/
structure CrSt (w : World) (f : Nat) (S : FS) (g nb : Nat) (names : List ByteArray) (Z : List Int) (k : Nat) (ps : List Int) (T : FS) (wr : World) : Prop where
  go : crashGo S.L (names.drop k) ps T.L = crashGo S.L names Z []
  at_ : FsAt wr g T
  abs : T.abs = ⟨T.L, 0, false, 0, false⟩
  foot : ∀ i, T.foot g i → w.heap.size ≤ i
  below : Below w.heap.size w wr
  cells : ∀ j x, names[j]? = some x → wr.cell? ⟨nb, j, none⟩ = some (.string x)
  nbf : ¬ T.foot g nb
  nbl : nb < wr.heap.size
theorem keepOf_nil (fl : Fl) : keepOf fl [] = (fl.safe, []) := by
  unfold keepOf
  split <;> rfl
theorem keepOf_cons {fl : Fl} (h : fl.safe < fl.b.length) (p : Int) (ps : List Int) : keepOf fl (p :: ps) = (fl.safe + remF p (fl.b.length - fl.safe), ps) := by
  unfold keepOf
  rw [if_pos h]
theorem keepOf_no {fl : Fl} (h : ¬ fl.safe < fl.b.length) (ps : List Int) : keepOf fl ps = (fl.safe, ps) := by
  unfold keepOf
  rw [if_neg h]
theorem drop_cons {α : Type} {l : List α} {k : Nat} {x : α} (h : l[k]? = some x) : l.drop k = x :: l.drop (k + 1) := by
  obtain ⟨hk, rfl⟩ := List.getElem?_eq_some_iff.1 h
  exact List.drop_eq_getElem_cons hk
/-- One name more. -/
theorem CrSt.next {w wr w3 w4 : World} {f : Nat} {S : FS} {g nb : Nat} {names : List ByteArray} {Z : List Int} {k : Nat} {ps : List Int} {T : FS} {x : ByteArray} {v : Value} {r : Nat} (h : CrSt w f S g nb names Z k ps T wr) (hx : names[k]? = some x)
    (hb : Below wr.heap.size wr w3) (hp : Put g T r w3 w4) (hf : FsAt w4 g { T with m := some r, es := aput x (v, ⟨(flOf (alook x S.L)).b.take (keepOf (flOf (alook x S.L)) ps).1, (keepOf (flOf (alook x S.L)) ps).1⟩) T.es }) (hv : ∀ i, v.ownBlock = some i → wr.heap.size ≤ i) :
    CrSt w f S g nb names Z (k + 1) (keepOf (flOf (alook x S.L)) ps).2 { T with m := some r, es := aput x (v, ⟨(flOf (alook x S.L)).b.take (keepOf (flOf (alook x S.L)) ps).1, (keepOf (flOf (alook x S.L)) ps).1⟩) T.es } w4 := by
  have hG := (Grown.of_below (f := g) (S := T) hb).put (name := x) (fl := ⟨(flOf (alook x S.L)).b.take (keepOf (flOf (alook x S.L)) ps).1, (keepOf (flOf (alook x S.L)) ps).1⟩) hp (fun i hi => .inr (hv i hi))
  have hs := h.below.size
  refine ⟨?_, hf, ?_, fun i hi => ?_, ?_, fun j y hy => ?_, fun e => ?_, by have := hG.size; have := h.nbl; omega⟩
  · rw [← h.go, drop_cons hx]
    show _ = crashGo S.L (names.drop (k + 1)) _ (aput x _ T.L)
    unfold FS.L
    rw [aput_map]
  · have := h.abs
    unfold FS.abs at this ⊢
    injection this with _ e1 e2 e3 e4
    rw [Abs.mk.injEq]
    exact ⟨rfl, e1, e2, e3, e4⟩
  · rcases hG.foot i hi with e | e
    · exact h.foot i e
    · omega
  · exact h.below.trans (hG.below hs h.foot)
  · have := h.cells j y hy
    unfold World.cell? at *
    rw [hG.block nb h.nbl h.nbf]; exact this
  · rcases hG.foot nb e with e | e
    · exact h.nbf e
    · have := h.nbl; omega
set_option maxRecDepth 100000 in
set_option maxHeartbeats 1000000 in
theorem crash_any (f : Nat) (S : FS) (a : Option Addr) (n cap : Nat) (Z : List Int) (w : World) (h : FsAt w f S) (hs : ∀ p ∈ S.L, p.1.size ≤ 1000) (hl : S.L.length ≤ 1000000) (hz : Ints w a Z) (hn : Z.length = n) (hc : n ≤ cap) (hcm : cap ≤ maxLen) :
    Calls Try.prog 14 #[.pointer (some ⟨f, 0, none⟩), .slice a n cap] w fun e w' => ∃ g T, e = .returned (.pointer (some ⟨g, 0, none⟩)) ∧ T.abs = S.abs.crash Z ∧ FsAt w' g T ∧ (∀ k, T.foot g k → w.heap.size ≤ k) ∧ Below w.heap.size w w' := by
  have HF : Hid (FsAt w f S) := h
  have HS : Hid (∀ p ∈ S.L, p.1.size ≤ 1000) := hs
  have HZ : Hid (Ints w a Z) := hz
  have hcm' : cap ≤ 9223372036854775807 := hcm
  clear h hz hs hcm
  go_enter Try.func14, Try.ntmps14
  go_wp2_with fail
  refine Calls.mono (new_any w) ?_
  rintro e w1 ⟨rfl, hf1, hb1, hsz1⟩
  obtain ⟨g, hg⟩ : ∃ g, g = w.heap.size := ⟨_, rfl⟩
  rw [← hg] at hf1 ⊢
  have HF1 : Hid (FsAt w1 g FS.zero) := hf1
  have HB1 : Hid (Below w.heap.size w w1) := hb1
  have HG : Hid (g = w.heap.size) := hg
  clear hf1 hb1 hg
  go_wp2_with fail
  refine Calls.mono (names_any f S w1 (HF.out.below HB1.out) HS.out hl) ?_
  rintro e w2 ⟨vN, rfl, ho2, hb2⟩
  have HB2 : Hid (Below w.heap.size w w2) := HB1.out.trans (hb2.mono HB1.out.size)
  have HF2 : Hid (FsAt w2 g FS.zero) := HF1.out.below hb2
  have HX : Hid (S.abs.crash Z = ⟨crashGo S.L (sortN (S.L.map Prod.fst)) Z [], 0, false, 0, false⟩) := show _ = _ from rfl
  have HNS : Hid (∀ x ∈ sortN (S.L.map Prod.fst), x.size ≤ 1000) := fun x hx => by
    unfold sortN at hx
    obtain ⟨y, hy, rfl⟩ := List.mem_map.1 hx
    rw [List.mem_mergeSort] at hy
    obtain ⟨z, hz, rfl⟩ := List.mem_map.1 hy
    obtain ⟨p, hp, rfl⟩ := List.mem_map.1 hz
    rw [mk_bytesOf]
    exact HS.out p hp
  have hnl : (sortN (S.L.map Prod.fst)).length ≤ 1000000 := by rw [sortN_length, List.length_map]; exact hl
  generalize sortN (S.L.map Prod.fst) = names at *
  rcases ho2.src with ⟨rfl, hnil⟩ | ⟨nb, cn, rfl, hcn⟩
  · subst hnil
    clear ho2 hb2 HB1 HF1 hnl
    have hk : (0 : Nat) ≤ 0 := Nat.le_refl 0
    go_wp2_with fail
    refine wp_loop_rounds 1 ?_
    rw [rounds_succ]
    go_wp2_with fail
    go_ret
    refine ⟨g, FS.zero, rfl, by rw [HX.out]; rfl, HF2.out, fun k hk => ?_, HB2.out⟩
    rcases hk with rfl | hk | ⟨p, hp, _⟩
    · rw [HG.out]; exact Nat.le_refl _
    · cases hk
    · cases hp
  · obtain ⟨N, hN⟩ : ∃ N, N = names.length := ⟨_, rfl⟩
    rw [← hN] at hnl ⊢
    have HN : Hid (N = names.length) := hN
    have hnbl := (ho2.lt nb rfl)
    have HC0 : Hid (CrSt w f S g nb names Z 0 Z FS.zero w2) := by
      refine ⟨rfl, HF2.out, rfl, fun k hk => ?_, HB2.out, hcn, fun e => ?_, hnbl.2⟩
      · rcases hk with rfl | hk | ⟨p, hp, _⟩
        · rw [HG.out]; exact Nat.le_refl _
        · cases hk
        · cases hp
      · rcases e with e | hk | ⟨p, hp, _⟩
        · have := hnbl.1; have h3 := HG.out; omega
        · cases hk
        · cases hp
    clear ho2 hb2 HB1 HF1 HB2 HF2 hcn hN hnbl
    go_wp2_with fail
    go_loopw [1, 17] (fun pv i wr => ∃ (k : Nat) (ps : List Int) (T : FS) (a' : Option Addr) (n' c' : Nat), k ≤ N ∧ i = .int .i64 k ∧ pv = .slice a' n' c' ∧ ps.length = n' ∧ n' ≤ c' ∧ c' ≤ 9223372036854775807 ∧ Hid (Ints w a' ps) ∧ Hid (CrSt w f S g nb names Z k ps T wr)) (fun _ i _ => N - (intOf i).toNat)
    case atStart => exact ⟨0, Z, FS.zero, a, n, cap, Nat.zero_le _, rfl, rfl, hn, hc, hcm', HZ.out, HC0.out⟩
    case round =>
      obtain ⟨k, ps, T, a', n', c', hk, rfl, rfl, hn', hc', hcm2, HI, HC⟩ := hrel
      clear HC0 HZ hn hc hcm'
      by_cases hlt : k < N
      · obtain ⟨x, hx⟩ : ∃ x, names[k]? = some x := ⟨_, List.getElem?_eq_getElem (by rw [← HN.out]; exact hlt)⟩
        have HXN : Hid (names[k]? = some x) := hx
        have hxs : x.size ≤ 1000 := HNS.out x (List.mem_of_getElem? hx)
        have ck : wr.cell? ⟨nb, k, none⟩ = some (.string x) := HC.out.cells k x hx
        have hfr : FsAt wr f S := HF.out.below HC.out.below
        have HFR : Hid (FsAt wr f S) := hfr
        have cm : wr.cell? ⟨f, 0, none⟩ = some (.map S.m) := hfr.blk.one rfl
        obtain ⟨ab, cb, hlk, ho, _, hsafe, hbig⟩ := shapeOf hfr x
        generalize hfl : flOf (alook x S.L) = fl at *
        have HFl : Hid (flOf (alook x S.L) = fl) := hfl
        obtain ⟨m, hm⟩ : ∃ m, m = fl.b.length := ⟨_, rfl⟩
        rw [← hm] at hlk ho hsafe hbig
        obtain ⟨s, hs⟩ : ∃ s, s = fl.safe := ⟨_, rfl⟩
        rw [← hs] at hlk hsafe
        have HM : Hid (m = fl.b.length ∧ s = fl.safe) := ⟨hm, hs⟩
        have HO : Hid (OwnB wr 0 (.slice ab m cb) fl.b) := ho
        have HLK : Hid (((alook x S.es).map cellOf).getD zeroCV = .agg #[.slice ab m cb, .int .i64 (s : Int)]) := hlk
        obtain ⟨_, _, hab, hmc, hcb, hbn, _⟩ := ho.take (Nat.zero_le _)
        injection hab with e1 e2 e3
        subst e1
        subst e3
        rw [← e2] at hmc
        have hcb' : cb ≤ 9223372036854775807 := hcb
        clear hx hlk hfl ho e2 hcb hm hs
        go_upto_region 8 with (refine wpList_lookF rfl _ _ _ rfl HFR.out x rfl rfl ?_; simp only [Bool.false_eq_true, if_false]; rw [HLK.out])
        generalize hw1 : World.alloc wr _ = wc
        have HBc : Hid (Below wr.heap.size wr wc) := by rw [← hw1]; exact (Below.refl _ _).alloc (Nat.le_refl _) _
        have HCc : Hid (Blk wc wr.heap.size [.slice ab m cb, .int .i64 (s : Int)]) := by rw [← hw1]; exact Blk.mk wr _ _ rfl rfl
        have HOc : Hid (OwnB wc 0 (.slice ab m cb) fl.b) := HO.out.below HBc.out
        have HTc : Hid (FsAt wc g T) := HC.out.at_.below HBc.out
        have HIc : Hid (Ints wc a' ps) := (HI.out.below (HC.out.below)).below HBc.out
        clear hw1 ck cm
        have cC0 : wc.cell? ⟨wr.heap.size, 0, none⟩ = some (.slice ab m cb) := HCc.out.one rfl
        have cC1 : wc.cell? ⟨wr.heap.size, 1, none⟩ = some (.int .i64 (s : Int)) := HCc.out.one rfl
        -- what is left behind the number of bytes that are kept
        have HTail : Hid (∀ (q : Nat), q ≤ m → (keepOf fl ps).1 = q → Calls Try.prog 35 #[.slice ab q cb] wc fun e w3 => ∃ a3 c3, e = .returned (.slice a3 q c3) ∧ Hid (Below wr.heap.size wr w3) ∧ Hid (∀ r w4 v', v' = .slice a3 q c3 → Put g T r w3 w4 → FsAt w4 g { T with m := some r, es := aput x (v', ⟨fl.b.take q, q⟩) T.es } → CrSt w f S g nb names Z (k + 1) (keepOf fl ps).2 { T with m := some r, es := aput x (v', ⟨fl.b.take q, q⟩) T.es } w4) ∧ Hid (Calls Try.prog 34 #[.pointer (some ⟨g, 0, none⟩), .string x, .agg #[.slice a3 q c3, .int .i64 (q : Int)]] w3 fun e w' => e = .returned (.tuple #[]) ∧ ∃ r, FsAt w' g { T with m := some r, es := aput x (.slice a3 q c3, ⟨fl.b.take q, q⟩) T.es } ∧ Put g T r w3 w')) := fun q hq hkq => by
          have hmb := HM.out.1
          obtain ⟨_, _, hab2, _, _, _, htk⟩ := HOc.out.take (n := q) (by omega)
          injection hab2 with e1 _ e3
          subst e1
          subst e3
          have hlq : (fl.b.take q).length = q := by rw [List.length_take]; omega
          have hbc := bclone_any (.slice ab q cb) (fl.b.take q) wc htk.src (by omega)
          refine hbc.mono ?_
          rintro e w3 ⟨v3, rfl, ho3, hb3⟩
          obtain ⟨a3, c3, rfl⟩ := ho3.shape
          rw [hlq] at ho3 ⊢
          have hb13 : Below wr.heap.size wr w3 := HBc.out.trans (hb3.mono HBc.out.size)
          have hown : ∀ i, (Value.slice a3 q c3).ownBlock = some i → wr.heap.size ≤ i := fun i hi => by
            have := (ho3.lt i hi).1; have := HBc.out.size; omega
          have hft : ∀ i, T.foot g i → i < wr.heap.size := fun i hi => HC.out.at_.lt hi
          refine ⟨a3, c3, rfl, hb13, fun r w4 v' hv' hp hf => ?_, ?_⟩
          · have hd := HC.out.next (v := v') (r := r) (w3 := w3) (w4 := w4) HXN.out hb13 hp
            rw [HFl.out, hkq] at hd
            exact hd hf (by rw [hv']; exact hown)
          · refine put_any g T x a3 q c3 ⟨fl.b.take q, q⟩ q w3 (HTc.out.below hb3) hxs (ho3.less (Nat.zero_le _)) rfl (fun i hi => ?_) ⟨by show q ≤ (fl.b.take q).length; omega, by show (fl.b.take q).length ≤ 16777216; omega⟩
            have hi2 := hown i hi
            exact ⟨fun e => by have := hft g (.inl rfl); omega, fun e => by have := hft i (.inr (.inl e)); omega, fun p hp _ e => by have := hft i (.inr (.inr ⟨p, hp, e⟩)); omega⟩
        by_cases hloose : s < m
        · cases ps with
          | nil =>
            have HK1 : Hid (keepOf fl [] = (s, [])) := show _ = _ by rw [HM.out.2]; exact keepOf_nil fl
            have hn0 : n' = 0 := by rw [← hn']; rfl
            subst hn0
            have HT := HTail.out s (by omega) (by rw [HK1.out])
            clear HTail
            go_wp2_with fail
            refine Calls.mono HT ?_
            rintro e w3 ⟨a3, c3, rfl, HB3, HNx, HPu⟩
            clear HT
            go_wp2_with fail
            refine Calls.mono HPu.out ?_
            rintro e w4 ⟨rfl, r, hf4, hp4⟩
            have HC4 := HNx.out r w4 _ rfl hp4 hf4
            clear HPu HNx hf4 hp4
            go_wp2_with fail
            go_roundw
            case rel => exact ⟨k + 1, [], _, _, _, _, by omega, by go_num, rfl, rfl, hc', hcm2, .inl rfl, by rw [HK1.out] at HC4; exact HC4⟩
            case measure => simp [intOf]; omega
          | cons p ps =>
            have HK1 : Hid (keepOf fl (p :: ps) = (s + remF p (m - s), ps)) := show _ = _ by rw [HM.out.1, HM.out.2]; exact keepOf_cons (by rw [← HM.out.1, ← HM.out.2]; exact hloose) p ps
            obtain ⟨b, off, hab, hp0⟩ := HIc.out.head
            subst hab
            have hn1 : 1 ≤ n' := by rw [← hn', List.length_cons]; omega
            have hrl := remF_le p (m - s)
            have HI2 := HI.out.tail c' (by rw [List.length_cons] at hn'; omega)
            obtain ⟨adr, hadr⟩ : ∃ v, (if c' = 1 then (some ⟨b, off, none⟩ : Option Addr) else some ⟨b, off + 1, none⟩) = v := ⟨_, rfl⟩
            rw [hadr] at HI2
            have HI3 : Hid (Ints w adr ps) := HI2
            clear HI2
            have hsub : ((m : Int) - (s : Int) + 1) = ((m - s : Nat) : Int) + 1 := by omega
            have HR : Hid (∀ w', Calls Try.prog 33 #[.int .i64 p, .int .i64 (((m - s : Nat) : Int) + 1)] w' fun e w'' => e = .returned (.int .i64 (remF p (m - s))) ∧ w'' = w') := fun w' => remainder_any p (m - s) w' (by omega)
            go_wp2_with fail
            refine Calls.mono (HR.out _) ?_
            rintro e w' ⟨rfl, rfl⟩
            obtain ⟨q, hq⟩ : ∃ q, q = s + remF p (m - s) := ⟨_, rfl⟩
            rw [← hq] at HK1
            have hqm : q ≤ m := by omega
            have hqi : (s : Int) + (remF p (m - s) : Int) = (q : Int) := by omega
            clear hsub hq hrl
            have HT := HTail.out q (by omega) (by rw [HK1.out])
            clear HTail
            go_wp2_with fail
            refine Calls.mono HT ?_
            rintro e w3 ⟨a3, c3, rfl, HB3, HNx, HPu⟩
            clear HT
            go_wp2_with fail
            refine Calls.mono HPu.out ?_
            rintro e w4 ⟨rfl, r, hf4, hp4⟩
            have HC4 := HNx.out r w4 _ rfl hp4 hf4
            clear HPu HNx hf4 hp4
            go_wp2_with fail
            go_roundw
            case rel => exact ⟨k + 1, ps, _, _, _, _, by omega, by go_num, rfl, by rw [List.length_cons] at hn'; omega, by omega, by omega, HI3.out, by rw [HK1.out] at HC4; exact HC4⟩
            case measure => simp [intOf]; omega
        · have HK1 : Hid (keepOf fl ps = (s, ps)) := show _ = _ by rw [HM.out.2]; exact keepOf_no (by rw [← HM.out.1, ← HM.out.2]; exact hloose) ps
          have HT := HTail.out s (by omega) (by rw [HK1.out])
          clear HTail
          go_wp2_with fail
          refine Calls.mono HT ?_
          rintro e w3 ⟨a3, c3, rfl, HB3, HNx, HPu⟩
          clear HT
          go_wp2_with fail
          refine Calls.mono HPu.out ?_
          rintro e w4 ⟨rfl, r, hf4, hp4⟩
          have HC4 := HNx.out r w4 _ rfl hp4 hf4
          clear HPu HNx hf4 hp4
          go_wp2_with fail
          go_roundw
          case rel => exact ⟨k + 1, ps, _, _, _, _, by omega, by go_num, rfl, hn', hc', hcm2, HI.out, by rw [HK1.out] at HC4; exact HC4⟩
          case measure => simp [intOf]; omega
      · obtain rfl : k = N := by omega
        go_wp2_with fail
        go_ret
        refine ⟨g, T, rfl, ?_, HC.out.at_, HC.out.foot, HC.out.below⟩
        rw [HX.out, HC.out.abs, ← HC.out.go, HN.out, List.drop_length]
        rfl
end Go.Proofs.Ytbbooldhfcldbaa
