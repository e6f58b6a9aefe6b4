/- file: Crash. file: what is done with no files at all (nil). coraclelaw7: awake; a few numbers of small files. coraclelaw7.FileSafe: its walk. -/
import Derived.Test.YtlapnnkahijikaaZF5
import Derived.Lib.SlBytesConst
namespace Go.Proofs.Ytlapnnkahijikaa
open Go.ChangeShapes Go.WideShapes Go.ChangeAt Go.RowKit Go.Lib

/-- What stands while Crash goes through the names. -/
structure CrSt (w : World) (f : Nat) (S : FS) (g nb : Nat) (names : List ByteArray) (Z : List Int) (k : Nat) (ps : List Int) (T : FS) (wr : World) : Prop where
  go : crashGo S.L (names.drop k) ps T.L = crashGo S.L names Z []
  at_ : FsAt wr g T
  abs : T.abs = ⟨T.L, 0, false, 0, false⟩
  foot : ∀ i, T.foot g i → w.heap.size ≤ i
  below : Below w.heap.size w wr
  cells : ∀ j x, names[j]? = some x → wr.cell? ⟨nb, j, none⟩ = some (.string x)
  nbf : ¬ T.foot g nb
  nbl : nb < wr.heap.size
theorem keepOf_nil (fl : Fl) : keepOf fl [] = (fl.safe, []) := by
  unfold keepOf
  split <;> rfl
theorem keepOf_cons {fl : Fl} (h : fl.safe < fl.b.length) (p : Int) (ps : List Int) : keepOf fl (p :: ps) = (fl.safe + remF p (fl.b.length - fl.safe), ps) := by
  unfold keepOf
  rw [if_pos h]
theorem keepOf_no {fl : Fl} (h : ¬ fl.safe < fl.b.length) (ps : List Int) : keepOf fl ps = (fl.safe, ps) := by
  unfold keepOf
  rw [if_neg h]
theorem drop_cons {α : Type} {l : List α} {k : Nat} {x : α} (h : l[k]? = some x) : l.drop k = x :: l.drop (k + 1) := by
  obtain ⟨hk, rfl⟩ := List.getElem?_eq_some_iff.1 h
  exact List.drop_eq_getElem_cons hk
/-- One name more. -/
theorem CrSt.next {w wr w3 w4 : World} {f : Nat} {S : FS} {g nb : Nat} {names : List ByteArray} {Z : List Int} {k : Nat} {ps : List Int} {T : FS} {x : ByteArray} {v : Value} {r : Nat} (h : CrSt w f S g nb names Z k ps T wr) (hx : names[k]? = some x)
    (hb : Below wr.heap.size wr w3) (hp : Put g T r w3 w4) (hf : FsAt w4 g { T with m := some r, es := aput x (v, ⟨(flOf (alook x S.L)).b.take (keepOf (flOf (alook x S.L)) ps).1, (keepOf (flOf (alook x S.L)) ps).1⟩) T.es }) (hv : ∀ i, v.ownBlock = some i → wr.heap.size ≤ i) :
    CrSt w f S g nb names Z (k + 1) (keepOf (flOf (alook x S.L)) ps).2 { T with m := some r, es := aput x (v, ⟨(flOf (alook x S.L)).b.take (keepOf (flOf (alook x S.L)) ps).1, (keepOf (flOf (alook x S.L)) ps).1⟩) T.es } w4 := by
  have hG := (Grown.of_below (f := g) (S := T) hb).put (name := x) (fl := ⟨(flOf (alook x S.L)).b.take (keepOf (flOf (alook x S.L)) ps).1, (keepOf (flOf (alook x S.L)) ps).1⟩) hp (fun i hi => .inr (hv i hi))
  have hs := h.below.size
  refine ⟨?_, hf, ?_, fun i hi => ?_, ?_, fun j y hy => ?_, fun e => ?_, by have := hG.size; have := h.nbl; omega⟩
  · rw [← h.go, drop_cons hx]
    show _ = crashGo S.L (names.drop (k + 1)) _ (aput x _ T.L)
    unfold FS.L
    rw [aput_map]
  · have := h.abs
    unfold FS.abs at this ⊢
    injection this with _ e1 e2 e3 e4
    rw [Abs.mk.injEq]
    exact ⟨rfl, e1, e2, e3, e4⟩
  · rcases hG.foot i hi with e | e
    · exact h.foot i e
    · omega
  · exact h.below.trans (hG.below hs h.foot)
  · have := h.cells j y hy
    unfold World.cell? at *
    rw [hG.block nb h.nbl h.nbf]; exact this
  · rcases hG.foot nb e with e | e
    · exact h.nbf e
    · have := h.nbl; omega
set_option maxRecDepth 100000 in
set_option maxHeartbeats 1000000 in
theorem crash_any (f : Nat) (S : FS) (a : Option Addr) (n cap : Nat) (Z : List Int) (w : World) (h : FsAt w f S) (hs : ∀ p ∈ S.L, p.1.size ≤ 1000) (hl : S.L.length ≤ 1000000) (hz : Ints w a Z) (hn : Z.length = n) (hc : n ≤ cap) (hcm : cap ≤ maxLen) :
    Calls Try.prog 11 #[.pointer (some ⟨f, 0, none⟩), .slice a n cap] w fun e w' => ∃ g T, e = .returned (.pointer (some ⟨g, 0, none⟩)) ∧ T.abs = S.abs.crash Z ∧ FsAt w' g T ∧ (∀ k, T.foot g k → w.heap.size ≤ k) ∧ Below w.heap.size w w' := by
  have HF : Hid (FsAt w f S) := h
  have HS : Hid (∀ p ∈ S.L, p.1.size ≤ 1000) := hs
  have HZ : Hid (Ints w a Z) := hz
  have hcm' : cap ≤ 9223372036854775807 := hcm
  clear h hz hs hcm
  go_enter Try.func11, Try.ntmps11
  go_wp2_with fail
  refine Calls.mono (new_any w) ?_
  rintro e w1 ⟨rfl, hf1, hb1, hsz1⟩
  obtain ⟨g, hg⟩ : ∃ g, g = w.heap.size := ⟨_, rfl⟩
  rw [← hg] at hf1 ⊢
  have HF1 : Hid (FsAt w1 g FS.zero) := hf1
  have HB1 : Hid (Below w.heap.size w w1) := hb1
  have HG : Hid (g = w.heap.size) := hg
  clear hf1 hb1 hg
  go_wp2_with fail
  refine Calls.mono (names_any f S w1 (HF.out.below HB1.out) HS.out hl) ?_
  rintro e w2 ⟨vN, rfl, ho2, hb2⟩
  have HB2 : Hid (Below w.heap.size w w2) := HB1.out.trans (hb2.mono HB1.out.size)
  have HF2 : Hid (FsAt w2 g FS.zero) := HF1.out.below hb2
  have HX : Hid (S.abs.crash Z = ⟨crashGo S.L (sortN (S.L.map Prod.fst)) Z [], 0, false, 0, false⟩) := show _ = _ from rfl
  have HNS : Hid (∀ x ∈ sortN (S.L.map Prod.fst), x.size ≤ 1000) := fun x hx => by
    unfold sortN at hx
    obtain ⟨y, hy, rfl⟩ := List.mem_map.1 hx
    rw [List.mem_mergeSort] at hy
    obtain ⟨z, hz, rfl⟩ := List.mem_map.1 hy
    obtain ⟨p, hp, rfl⟩ := List.mem_map.1 hz
    rw [mk_bytesOf]
    exact HS.out p hp
  have hnl : (sortN (S.L.map Prod.fst)).length ≤ 1000000 := by rw [sortN_length, List.length_map]; exact hl
  generalize sortN (S.L.map Prod.fst) = names at *
  rcases ho2.src with ⟨rfl, hnil⟩ | ⟨nb, cn, rfl, hcn⟩
  · subst hnil
    clear ho2 hb2 HB1 HF1 hnl
    have hk : (0 : Nat) ≤ 0 := Nat.le_refl 0
    go_wp2_with fail
    refine wp_loop_rounds 1 ?_
    rw [rounds_succ]
    go_wp2_with fail
    go_ret
    refine ⟨g, FS.zero, rfl, by rw [HX.out]; rfl, HF2.out, fun k hk => ?_, HB2.out⟩
    rcases hk with rfl | hk | ⟨p, hp, _⟩
    · rw [HG.out]; exact Nat.le_refl _
    · cases hk
    · cases hp
  · obtain ⟨N, hN⟩ : ∃ N, N = names.length := ⟨_, rfl⟩
    rw [← hN] at hnl ⊢
    have HN : Hid (N = names.length) := hN
    have hnbl := (ho2.lt nb rfl)
    have HC0 : Hid (CrSt w f S g nb names Z 0 Z FS.zero w2) := by
      refine ⟨rfl, HF2.out, rfl, fun k hk => ?_, HB2.out, hcn, fun e => ?_, hnbl.2⟩
      · rcases hk with rfl | hk | ⟨p, hp, _⟩
        · rw [HG.out]; exact Nat.le_refl _
        · cases hk
        · cases hp
      · rcases e with e | hk | ⟨p, hp, _⟩
        · have := hnbl.1; have h3 := HG.out; omega
        · cases hk
        · cases hp
    clear ho2 hb2 HB1 HF1 HB2 HF2 hcn hN hnbl
    go_wp2_with fail
    go_loopw [1, 17] (fun pv i wr => ∃ (k : Nat) (ps : List Int) (T : FS) (a' : Option Addr) (n' c' : Nat), k ≤ N ∧ i = .int .i64 k ∧ pv = .slice a' n' c' ∧ ps.length = n' ∧ n' ≤ c' ∧ c' ≤ 9223372036854775807 ∧ Hid (Ints w a' ps) ∧ Hid (CrSt w f S g nb names Z k ps T wr)) (fun _ i _ => N - (intOf i).toNat)
    case atStart => exact ⟨0, Z, FS.zero, a, n, cap, Nat.zero_le _, rfl, rfl, hn, hc, hcm', HZ.out, HC0.out⟩
    case round =>
      obtain ⟨k, ps, T, a', n', c', hk, rfl, rfl, hn', hc', hcm2, HI, HC⟩ := hrel
      clear HC0 HZ hn hc hcm'
      by_cases hlt : k < N
      · obtain ⟨x, hx⟩ : ∃ x, names[k]? = some x := ⟨_, List.getElem?_eq_getElem (by rw [← HN.out]; exact hlt)⟩
        have HXN : Hid (names[k]? = some x) := hx
        have hxs : x.size ≤ 1000 := HNS.out x (List.mem_of_getElem? hx)
        have ck : wr.cell? ⟨nb, k, none⟩ = some (.string x) := HC.out.cells k x hx
        have hfr : FsAt wr f S := HF.out.below HC.out.below
        have HFR : Hid (FsAt wr f S) := hfr
        have cm : wr.cell? ⟨f, 0, none⟩ = some (.map S.m) := hfr.blk.one rfl
        obtain ⟨ab, cb, hlk, ho, _, hsafe, hbig⟩ := shapeOf hfr x
        generalize hfl : flOf (alook x S.L) = fl at *
        have HFl : Hid (flOf (alook x S.L) = fl) := hfl
        obtain ⟨m, hm⟩ : ∃ m, m = fl.b.length := ⟨_, rfl⟩
        rw [← hm] at hlk ho hsafe hbig
        obtain ⟨s, hs⟩ : ∃ s, s = fl.safe := ⟨_, rfl⟩
        rw [← hs] at hlk hsafe
        have HM : Hid (m = fl.b.length ∧ s = fl.safe) := ⟨hm, hs⟩
        have HO : Hid (OwnB wr 0 (.slice ab m cb) fl.b) := ho
        have HLK : Hid (((alook x S.es).map cellOf).getD zeroCV = .agg #[.slice ab m cb, .int .i64 (s : Int)]) := hlk
        obtain ⟨_, _, hab, hmc, hcb, hbn, _⟩ := ho.take (Nat.zero_le _)
        injection hab with e1 e2 e3
        subst e1
        subst e3
        rw [← e2] at hmc
        have hcb' : cb ≤ 9223372036854775807 := hcb
        clear hx hlk hfl ho e2 hcb hm hs
        go_upto_region 8 with (refine wpList_lookF rfl _ _ _ rfl HFR.out x rfl rfl ?_; simp only [Bool.false_eq_true, if_false]; rw [HLK.out])
        generalize hw1 : World.alloc wr _ = wc
        have HBc : Hid (Below wr.heap.size wr wc) := by rw [← hw1]; exact (Below.refl _ _).alloc (Nat.le_refl _) _
        have HCc : Hid (Blk wc wr.heap.size [.slice ab m cb, .int .i64 (s : Int)]) := by rw [← hw1]; exact Blk.mk wr _ _ rfl rfl
        have HOc : Hid (OwnB wc 0 (.slice ab m cb) fl.b) := HO.out.below HBc.out
        have HTc : Hid (FsAt wc g T) := HC.out.at_.below HBc.out
        have HIc : Hid (Ints wc a' ps) := (HI.out.below (HC.out.below)).below HBc.out
        clear hw1 ck cm
        have cC0 : wc.cell? ⟨wr.heap.size, 0, none⟩ = some (.slice ab m cb) := HCc.out.one rfl
        have cC1 : wc.cell? ⟨wr.heap.size, 1, none⟩ = some (.int .i64 (s : Int)) := HCc.out.one rfl
        -- what is left behind the number of bytes that are kept
        have HTail : Hid (∀ (q : Nat), q ≤ m → (keepOf fl ps).1 = q → Calls Try.prog 31 #[.slice ab q cb] wc fun e w3 => ∃ a3 c3, e = .returned (.slice a3 q c3) ∧ Hid (Below wr.heap.size wr w3) ∧ Hid (∀ r w4 v', v' = .slice a3 q c3 → Put g T r w3 w4 → FsAt w4 g { T with m := some r, es := aput x (v', ⟨fl.b.take q, q⟩) T.es } → CrSt w f S g nb names Z (k + 1) (keepOf fl ps).2 { T with m := some r, es := aput x (v', ⟨fl.b.take q, q⟩) T.es } w4) ∧ Hid (Calls Try.prog 30 #[.pointer (some ⟨g, 0, none⟩), .string x, .agg #[.slice a3 q c3, .int .i64 (q : Int)]] w3 fun e w' => e = .returned (.tuple #[]) ∧ ∃ r, FsAt w' g { T with m := some r, es := aput x (.slice a3 q c3, ⟨fl.b.take q, q⟩) T.es } ∧ Put g T r w3 w')) := fun q hq hkq => by
          have hmb := HM.out.1
          obtain ⟨_, _, hab2, _, _, _, htk⟩ := HOc.out.take (n := q) (by omega)
          injection hab2 with e1 _ e3
          subst e1
          subst e3
          have hlq : (fl.b.take q).length = q := by rw [List.length_take]; omega
          have hbc := bclone_any (.slice ab q cb) (fl.b.take q) wc htk.src (by omega)
          refine hbc.mono ?_
          rintro e w3 ⟨v3, rfl, ho3, hb3⟩
          obtain ⟨a3, c3, rfl⟩ := ho3.shape
          rw [hlq] at ho3 ⊢
          have hb13 : Below wr.heap.size wr w3 := HBc.out.trans (hb3.mono HBc.out.size)
          have hown : ∀ i, (Value.slice a3 q c3).ownBlock = some i → wr.heap.size ≤ i := fun i hi => by
            have := (ho3.lt i hi).1; have := HBc.out.size; omega
          have hft : ∀ i, T.foot g i → i < wr.heap.size := fun i hi => HC.out.at_.lt hi
          refine ⟨a3, c3, rfl, hb13, fun r w4 v' hv' hp hf => ?_, ?_⟩
          · have hd := HC.out.next (v := v') (r := r) (w3 := w3) (w4 := w4) HXN.out hb13 hp
            rw [HFl.out, hkq] at hd
            exact hd hf (by rw [hv']; exact hown)
          · refine fput_any g T x a3 q c3 ⟨fl.b.take q, q⟩ q w3 (HTc.out.below hb3) hxs (ho3.less (Nat.zero_le _)) rfl (fun i hi => ?_) ⟨by show q ≤ (fl.b.take q).length; omega, by show (fl.b.take q).length ≤ 16777216; omega⟩
            have hi2 := hown i hi
            exact ⟨fun e => by have := hft g (.inl rfl); omega, fun e => by have := hft i (.inr (.inl e)); omega, fun p hp _ e => by have := hft i (.inr (.inr ⟨p, hp, e⟩)); omega⟩
        by_cases hloose : s < m
        · cases ps with
          | nil =>
            have HK1 : Hid (keepOf fl [] = (s, [])) := show _ = _ by rw [HM.out.2]; exact keepOf_nil fl
            have hn0 : n' = 0 := by rw [← hn']; rfl
            subst hn0
            have HT := HTail.out s (by omega) (by rw [HK1.out])
            clear HTail
            go_wp2_with fail
            refine Calls.mono HT ?_
            rintro e w3 ⟨a3, c3, rfl, HB3, HNx, HPu⟩
            clear HT
            go_wp2_with fail
            refine Calls.mono HPu.out ?_
            rintro e w4 ⟨rfl, r, hf4, hp4⟩
            have HC4 := HNx.out r w4 _ rfl hp4 hf4
            clear HPu HNx hf4 hp4
            go_wp2_with fail
            go_roundw
            case rel => exact ⟨k + 1, [], _, _, _, _, by omega, by go_num, rfl, rfl, hc', hcm2, .inl rfl, by rw [HK1.out] at HC4; exact HC4⟩
            case measure => simp [intOf]; omega
          | cons p ps =>
            have HK1 : Hid (keepOf fl (p :: ps) = (s + remF p (m - s), ps)) := show _ = _ by rw [HM.out.1, HM.out.2]; exact keepOf_cons (by rw [← HM.out.1, ← HM.out.2]; exact hloose) p ps
            obtain ⟨b, off, hab, hp0⟩ := HIc.out.head
            subst hab
            have hn1 : 1 ≤ n' := by rw [← hn', List.length_cons]; omega
            have hrl := remF_le p (m - s)
            have HI2 := HI.out.tail c' (by rw [List.length_cons] at hn'; omega)
            obtain ⟨adr, hadr⟩ : ∃ v, (if c' = 1 then (some ⟨b, off, none⟩ : Option Addr) else some ⟨b, off + 1, none⟩) = v := ⟨_, rfl⟩
            rw [hadr] at HI2
            have HI3 : Hid (Ints w adr ps) := HI2
            clear HI2
            have hsub : ((m : Int) - (s : Int) + 1) = ((m - s : Nat) : Int) + 1 := by omega
            have HR : Hid (∀ w', Calls Try.prog 29 #[.int .i64 p, .int .i64 (((m - s : Nat) : Int) + 1)] w' fun e w'' => e = .returned (.int .i64 (remF p (m - s))) ∧ w'' = w') := fun w' => remainder_any p (m - s) w' (by omega)
            go_wp2_with fail
            refine Calls.mono (HR.out _) ?_
            rintro e w' ⟨rfl, rfl⟩
            obtain ⟨q, hq⟩ : ∃ q, q = s + remF p (m - s) := ⟨_, rfl⟩
            rw [← hq] at HK1
            have hqm : q ≤ m := by omega
            have hqi : (s : Int) + (remF p (m - s) : Int) = (q : Int) := by omega
            clear hsub hq hrl
            have HT := HTail.out q (by omega) (by rw [HK1.out])
            clear HTail
            go_wp2_with fail
            refine Calls.mono HT ?_
            rintro e w3 ⟨a3, c3, rfl, HB3, HNx, HPu⟩
            clear HT
            go_wp2_with fail
            refine Calls.mono HPu.out ?_
            rintro e w4 ⟨rfl, r, hf4, hp4⟩
            have HC4 := HNx.out r w4 _ rfl hp4 hf4
            clear HPu HNx hf4 hp4
            go_wp2_with fail
            go_roundw
            case rel => exact ⟨k + 1, ps, _, _, _, _, by omega, by go_num, rfl, by rw [List.length_cons] at hn'; omega, by omega, by omega, HI3.out, by rw [HK1.out] at HC4; exact HC4⟩
            case measure => simp [intOf]; omega
        · have HK1 : Hid (keepOf fl ps = (s, ps)) := show _ = _ by rw [HM.out.2]; exact keepOf_no (by rw [← HM.out.1, ← HM.out.2]; exact hloose) ps
          have HT := HTail.out s (by omega) (by rw [HK1.out])
          clear HTail
          go_wp2_with fail
          refine Calls.mono HT ?_
          rintro e w3 ⟨a3, c3, rfl, HB3, HNx, HPu⟩
          clear HT
          go_wp2_with fail
          refine Calls.mono HPu.out ?_
          rintro e w4 ⟨rfl, r, hf4, hp4⟩
          have HC4 := HNx.out r w4 _ rfl hp4 hf4
          clear HPu HNx hf4 hp4
          go_wp2_with fail
          go_roundw
          case rel => exact ⟨k + 1, ps, _, _, _, _, by omega, by go_num, rfl, hn', hc', hcm2, HI.out, by rw [HK1.out] at HC4; exact HC4⟩
          case measure => simp [intOf]; omega
      · obtain rfl : k = N := by omega
        go_wp2_with fail
        go_ret
        refine ⟨g, T, rfl, ?_, HC.out.at_, HC.out.foot, HC.out.below⟩
        rw [HX.out, HC.out.abs, ← HC.out.go, HN.out, List.drop_length]
        rfl
end Go.Proofs.Ytlapnnkahijikaa
namespace Go.Proofs.Ytlapnnkahijikaa
open Go.ChangeShapes Go.WideShapes Go.ChangeAt Go.RowKit Go.Lib

set_option maxRecDepth 100000 in
set_option maxHeartbeats 2000000 in
theorem begin_nil (a : Option Addr) (n cap : Nat) (w : World) :
    Calls Try.prog 32 #[.pointer none, .slice a n cap] w fun e w' => e = .returned (.int .i64 7) ∧ w' = w := by
  go_enter Try.func32, Try.ntmps32
  go_wp2_with fail
  refine wp_scope_hops 1 ?_
  go_hide hQ
  go_wp2_with fail
  refine Calls.mono (powered_nil w) ?_
  rintro e w1 ⟨rfl, rfl⟩
  go_wp2_with fail
  go_step3
  simp only [Exit.then]
  subst hQ
  rw [hops_goto]
  refine ⟨_, rfl, ?_⟩
  go_hide hQ
  go_wp2_with fail
  subst hQ
  rw [hops_ret]
  go_ret
  exact ⟨rfl, rfl⟩
set_option maxRecDepth 100000 in
set_option maxHeartbeats 2000000 in
theorem open_nil (name : ByteArray) (w : World) :
    Calls Try.prog 34 #[.pointer none, .string name, .slice none 0 0] w fun e w' => e = .returned (.tuple #[zeroCV, .int .i64 7]) ∧ Below w.heap.size w w' := by
  go_enter Try.func34, Try.ntmps34
  go_wp2_with fail
  refine wp_scope_hops 1 ?_
  go_hide hQ
  go_wp2_with fail
  generalize hw4 : World.alloc (World.alloc (World.alloc (World.alloc w _) _) _) _ = w4
  have HR4 : Hid (Blk w4 w.heap.size [.slice none 0 0, .int .i64 0]) := by rw [← hw4]; exact (((Blk.mk w _ _ rfl rfl).alloc _).alloc _).alloc _
  have HC4 : Hid (Blk w4 (w.heap.size + 1) [.slice none 0 0, .int .i64 0]) := by
    have h : Blk ((w.alloc (.cells #[.slice none 0 0, .int .i64 0] 64)).alloc (.cells #[.slice none 0 0, .int .i64 0] 64)) (w.heap.size + 1) [.slice none 0 0, .int .i64 0] := Blk.mk _ _ _ (by simp) rfl
    rw [← hw4]; exact (h.alloc _).alloc _
  have HB4 : Hid (Below w.heap.size w w4) := by rw [← hw4]; exact (((((Below.refl _ _).alloc (Nat.le_refl _) _).alloc (by simp) _).alloc (by simp; omega) _).alloc (by simp; omega) _)
  have c0 : w4.cell? ⟨w.heap.size + 1 + 1 + 1, 0, none⟩ = some (.slice none 0 0) := by rw [← hw4]; exact (Blk.mk (b := w.heap.size + 1 + 1 + 1) _ _ _ (by simp) rfl).one (i := 0) rfl
  have c1 : w4.cell? ⟨w.heap.size + 1 + 1 + 1, 1, none⟩ = some (.slice (some ⟨w.heap.size + 1 + 1, 0, none⟩) 1 1) := by rw [← hw4]; exact (Blk.mk (b := w.heap.size + 1 + 1 + 1) _ _ _ (by simp) rfl).one (i := 1) rfl
  have c2 : w4.cell? ⟨w.heap.size + 1 + 1, 0, none⟩ = some (.string name) := by rw [← hw4]; exact ((Blk.mk (b := w.heap.size + 1 + 1) _ _ _ (by simp) rfl).alloc _).one (i := 0) rfl
  clear hw4
  refine Calls.mono (concat_any _ _ _ [] name w4 (.inl ⟨rfl, rfl⟩) (Nat.zero_le _) c0 c1 c2) ?_
  rintro e w5 ⟨v5, rfl, h5, hb5⟩
  obtain ⟨a5, k5, hv5⟩ := h5.shape
  subst hv5
  have HR5 : Hid (Blk w5 w.heap.size [.slice none 0 0, .int .i64 0]) := HR4.out.below hb5 HR4.out.lt
  have HC5 : Hid (Blk w5 (w.heap.size + 1) [.slice none 0 0, .int .i64 0]) := HC4.out.below hb5 HC4.out.lt
  have HB5 : Hid (Below w.heap.size w w5) := HB4.out.trans (hb5.mono HB4.out.size)
  clear c0 c1 c2 HR4 HC4 HB4 h5 hb5
  go_wp2_with fail
  refine Calls.mono (begin_nil _ _ _ w5) ?_
  rintro e w6 ⟨rfl, rfl⟩
  have cC0 : w6.cell? ⟨w.heap.size + 1, 0, none⟩ = some (.slice none 0 0) := HC5.out.one rfl
  have cC1 : w6.cell? ⟨w.heap.size + 1, 1, none⟩ = some (.int .i64 0) := HC5.out.one rfl
  have cR0 : w6.cell? ⟨w.heap.size, 0, none⟩ = some (.slice none 0 0) := HR5.out.one rfl
  have cR1 : w6.cell? ⟨w.heap.size, 1, none⟩ = some (.int .i64 0) := HR5.out.one rfl
  have gR0 : w6.frozen? ⟨w.heap.size, 0, none⟩ = false := HR5.out.frozen 0
  have gR1 : w6.frozen? ⟨w.heap.size, 1, none⟩ = false := HR5.out.frozen 1
  go_wp2_with fail
  go_step3
  simp only [Exit.then]
  subst hQ
  rw [hops_goto]
  refine ⟨_, rfl, ?_⟩
  go_hide hQ
  go_wp2_with fail
  subst hQ
  rw [hops_ret]
  refine bodyPost_ret (v := .tuple #[zeroCV, .int .i64 7]) ?_ rfl ⟨rfl, (HB5.out.setCell (Nat.le_refl _) _).setCell (Nat.le_refl _) _⟩
  obtain ⟨t, hb⟩ := (HR5.out.set 0 (.slice none 0 0)).set 1 (.int .i64 0)
  exact results_row_tmp Try.results34 _ _ w.heap.size t _ _ _ rfl hb Try.underlying64 rfl sizeC
set_option maxRecDepth 100000 in
set_option maxHeartbeats 2000000 in
theorem sync_nil (name : ByteArray) (w : World) :
    Calls Try.prog 16 #[.pointer none, .string name] w fun e w' => e = .returned (.int .i64 7) ∧ Below w.heap.size w w' := by
  go_enter Try.func16, Try.ntmps16
  go_wp2_with fail
  refine wp_scope_hops 1 ?_
  go_hide hQ
  go_wp2_with fail
  refine Calls.mono (open_nil name w) ?_
  rintro e w1 ⟨rfl, hb1⟩
  have HZ : Hid (zeroCV = .agg #[.slice none 0 0, .int .i64 0]) := show _ = _ from rfl
  rw [HZ.out]
  go_wp2_with fail
  go_step3
  simp only [Exit.then]
  subst hQ
  rw [hops_goto]
  refine ⟨_, rfl, ?_⟩
  go_hide hQ
  go_wp2_with fail
  subst hQ
  rw [hops_ret]
  go_ret
  exact ⟨rfl, hb1.alloc hb1.size _⟩
set_option maxRecDepth 100000 in
set_option maxHeartbeats 2000000 in
theorem find_nil (name : ByteArray) (w : World) :
    Calls Try.prog 33 #[.pointer none, .string name] w fun e w' => e = .returned (found none) ∧ Below w.heap.size w w' := by
  go_enter Try.func33, Try.ntmps33
  go_wp2_with fail
  refine bodyPost_ret (v := .tuple #[.agg #[.slice none 0 0, .int .i64 0], .bool false]) ?_ rfl ⟨rfl, ?_⟩
  · obtain ⟨t, hb⟩ := Blk.mk (b := w.heap.size) w #[.slice none 0 0, .int .i64 0] 64 rfl rfl
    exact results_row_tmp Try.results33 _ _ w.heap.size t _ _ _ rfl hb Try.underlying64 rfl sizeC
  · exact (Below.refl _ _).alloc (Nat.le_refl _) _
set_option maxRecDepth 100000 in
set_option maxHeartbeats 2000000 in
theorem safe_nil (name : ByteArray) (w : World) :
    Calls Try.prog 15 #[.pointer none, .string name] w fun e w' => e = .returned (.int .i64 (-1)) ∧ Below w.heap.size w w' := by
  have HV : Hid (found none = .tuple #[.agg #[.slice none 0 0, .int .i64 0], .bool false]) := show _ = _ from rfl
  go_enter Try.func15, Try.ntmps15
  go_wp2_with fail
  refine wp_scope_hops 1 ?_
  go_hide hQ
  go_wp2_with fail
  refine Calls.mono (find_nil name w) ?_
  rintro e w1 ⟨rfl, hb1⟩
  rw [HV.out]
  go_wp2_with fail
  go_step3
  simp only [Exit.then]
  subst hQ
  rw [hops_goto]
  refine ⟨_, rfl, ?_⟩
  go_hide hQ
  go_wp2_with fail
  subst hQ
  rw [hops_ret]
  go_ret
  exact ⟨rfl, hb1.alloc hb1.size _⟩
set_option maxHeartbeats 2000000 in
theorem crash_nil (a : Option Addr) (n cap : Nat) (w : World) :
    Calls Try.prog 11 #[.pointer none, .slice a n cap] w fun e w' => e = .returned (.pointer none) ∧ w' = w := by
  go_enter Try.func11, Try.ntmps11
  go_wp2_with fail
  go_ret
  exact ⟨rfl, rfl⟩
end Go.Proofs.Ytlapnnkahijikaa
namespace Go.Proofs.Ytlapnnkahijikaa
open Go.ChangeShapes Go.WideShapes Go.ChangeAt Go.RowKit Go.Lib

theorem wpList_str_if {ops : Array Oper} {rest : List Oper} {o : Oper} {a : Act} {w : World} {Q : Exit → Act → World → Prop} (hw : Region.wanted o (yielded ops a.tmps) = true) (x : Operand) (ho : o.op = .convert 40 9 x) (v : Value) (bs : List (BitVec 8)) (hx : a.eval x = v) (hs : SrcB w v bs)
    (h : wpList Try.prog ops Q rest (a.put o.dst (.string (ofB bs))) w) : wpList Try.prog ops Q (o :: rest) a w :=
  wpList_step fun _ hK => by
    rw [if_pos hw]
    unfold Oper.wp execOp
    simp only [ho, hx, Sem.run_bind, Sem.run_pure, hs.str, Result.andThen_ok]
    exact hK _ _ h
theorem FsAt.keepB {w w' : World} {f : Nat} {S : FS} (h : FsAt w f S) (hb : Below w.heap.size w w') : FsAt w' f S := h.below hb
theorem sortN_one (x : ByteArray) : sortN [x] = [x] := by
  unfold sortN
  simp [mk_bytesOf]
theorem crash_one (A : Abs) (x : ByteArray) (fl : Fl) (ps : List Int) (h : A.L = [(x, fl)]) : A.crash ps = ⟨[(x, ⟨fl.b.take (keepOf fl ps).1, (keepOf fl ps).1⟩)], 0, false, 0, false⟩ := by
  unfold Abs.crash
  rw [h]
  show Abs.mk (crashGo _ (sortN [x]) ps []) _ _ _ _ = _
  rw [sortN_one]
  show Abs.mk (aput x ⟨(flOf (alook x [(x, fl)])).b.take (keepOf (flOf (alook x [(x, fl)])) ps).1, _⟩ []) _ _ _ _ = _
  have : flOf (alook x [(x, fl)]) = fl := by unfold alook; rw [if_pos rfl]; rfl
  rw [this]; rfl
def awA : ByteArray := ⟨#[97]⟩
def aw1 : Abs := ⟨[(⟨#[97]⟩, ⟨[120, 121], 0⟩)], 1, false, 0, false⟩
def aw2 : Abs := ⟨[(⟨#[97]⟩, ⟨[120, 121], 0⟩)], 2, false, 0, false⟩
theorem aw_app1 : FS.zero.abs.app ⟨#[97]⟩ [120, 121] = aw1 ∧ FS.zero.abs.appE ⟨#[97]⟩ [120, 121] = 0 := ⟨rfl, rfl⟩
theorem aw_app2 : aw1.app ⟨#[]⟩ [] = aw2 ∧ aw1.appE ⟨#[]⟩ [] = 1 := ⟨rfl, rfl⟩
theorem aw_cr0 : aw2.crash [] = ⟨[(⟨#[97]⟩, ⟨[], 0⟩)], 0, false, 0, false⟩ := crash_one aw2 ⟨#[97]⟩ ⟨[120, 121], 0⟩ [] rfl
theorem aw_cr1 : aw2.crash [1] = ⟨[(⟨#[97]⟩, ⟨[120], 1⟩)], 0, false, 0, false⟩ := crash_one aw2 ⟨#[97]⟩ ⟨[120, 121], 0⟩ [1] rfl
theorem alook_one {β : Type} (x : ByteArray) (v : β) : alook x [(x, v)] = some v := by unfold alook; rw [if_pos rfl]
theorem aw_a : alook ⟨#[97]⟩ aw2.L = some ⟨[120, 121], 0⟩ := rfl
theorem aw_b : alook ⟨#[98]⟩ aw2.L = none := rfl
theorem zero_L : FS.zero.abs = ⟨[], 0, false, 0, false⟩ := rfl
theorem FS.sane_of {S : FS} {A : Abs} (h : S.abs = A) (h0 : 0 ≤ A.ops) (h1 : A.ops ≤ 4611686018427387904) (h2 : -9223372036854775808 ≤ A.left) (h3 : A.left ≤ 9223372036854775807) : S.Sane := by
  subst h
  exact ⟨h0, h1, h2, h3⟩
set_option maxRecDepth 100000 in
set_option maxHeartbeats 2000000 in
theorem awake_any (w : World) : Calls Try.prog 6 #[] w fun e w' => e = .returned (.bool true) ∧ Below w.heap.size w w' := by
  have kc := fun (w : World) (C : Array Value) (n c : Nat) => Lib.run_convert_bytes_const (P := Try.prog) w 40 5 C n c Try.underlying40 Try.underlying5
  go_enter Try.func6, Try.ntmps6
  go_wp2_with fail
  refine Calls.mono (new_any w) ?_
  rintro e w1 ⟨rfl, hf1, hb1, hsz1⟩
  obtain ⟨f, hf⟩ : ∃ f, f = w.heap.size := ⟨_, rfl⟩
  rw [← hf] at hf1 ⊢
  have HF1 : Hid (FsAt w1 f FS.zero) := hf1
  have HB1 : Hid (Below w.heap.size w w1) := hb1
  have HFf : Hid (f = w.heap.size) := hf
  have HS1 : Hid (w1.heap.size = f + 1) := show _ = _ by rw [hsz1, hf]
  clear hf1 hb1 hsz1 hf
  go_wp2_with fail
  clear kc
  generalize hw2 : World.alloc w1 _ = w2
  have hb2 : Below w1.heap.size w1 w2 := by rw [← hw2]; exact (Below.refl _ _).alloc (Nat.le_refl _) _
  have hbk : ∀ j, w2.cell? ⟨w1.heap.size, j, none⟩ = (#[Value.int .u8 120, Value.int .u8 121] : Array Value)[j]? := fun j => by rw [← hw2]; exact World.cell?_alloc_mark _ _ _ _ _
  have hv2 : SrcB w2 (.slice (some ⟨w1.heap.size, 0, none⟩) 2 2) [120, 121] := .inr ⟨w1.heap.size, 0, 2, rfl, fun j u hu => by
    rw [Nat.zero_add]
    match j, hu with
    | 0, hu => rw [← hu]; exact hbk 0
    | 1, hu => rw [← hu]; exact hbk 1
    | j + 2, hu => cases hu⟩
  clear hw2
  refine Calls.mono (append_any f FS.zero ⟨#[97]⟩ _ [120, 121] w2 (HF1.out.below hb2) (FS.sane_of rfl (by decide) (by decide) (by decide) (by decide)) hv2 (by decide) (fun k hk e => by
    injection hk with hk
    rcases e with e | e | ⟨p, hp, _⟩
    · have := HS1.out; simp only at hk; omega
    · cases e
    · cases hp)) ?_
  rintro e w3 ⟨rfl, S3, ha3, hf3, hg3⟩
  rw [aw_app1.1] at ha3
  rw [aw_app1.2]
  have hft3 : ∀ k, FS.zero.foot f k → w.heap.size ≤ k := fun k e => by
    rcases e with e | e | ⟨p, hp, _⟩
    · rw [e, HFf.out]; exact Nat.le_refl _
    · cases e
    · cases hp
  have HB2 : Below w.heap.size w w2 := HB1.out.trans (hb2.mono HB1.out.size)
  have HB3 : Hid (Below w.heap.size w w3) := HB2.trans (hg3.below HB2.size hft3)
  have HF3 : Hid (FsAt w3 f S3 ∧ S3.abs = aw1 ∧ ∀ k, S3.foot f k → w.heap.size ≤ k) := ⟨hf3, ha3, fun k hk => (hg3.foot k hk).elim (hft3 k) fun e => Nat.le_trans HB2.size e⟩
  clear HF1 HB1 HS1 hb2 hv2 ha3 hf3 hg3 hft3 HB2
  go_wp2_with fail
  refine Calls.mono (append_any f S3 ⟨#[]⟩ _ [] w3 HF3.out.1 (FS.sane_of HF3.out.2.1 (by decide) (by decide) (by decide) (by decide)) (.inl ⟨rfl, rfl⟩) (by decide) (fun k hk => by cases hk)) ?_
  rintro e w4 ⟨rfl, S4, ha4, hf4, hg4⟩
  rw [HF3.out.2.1, aw_app2.1] at ha4
  rw [HF3.out.2.1, aw_app2.2]
  have HB4 : Hid (Below w.heap.size w w4) := HB3.out.trans (hg4.below HB3.out.size HF3.out.2.2)
  have HF4 : Hid (FsAt w4 f S4 ∧ S4.abs = aw2 ∧ ∀ k, S4.foot f k → w.heap.size ≤ k) := ⟨hf4, ha4, fun k hk => (hg4.foot k hk).elim (HF3.out.2.2 k) fun e => Nat.le_trans HB3.out.size e⟩
  clear ha4 hf4 hg4 HF3 HB3
  go_wp2_with fail
  have hL4 : S4.L = aw2.L := congrArg Abs.L HF4.out.2.1
  refine Calls.mono (crash_any f S4 none 0 0 [] w4 HF4.out.1 (by rw [hL4]; decide) (by rw [hL4]; decide) (.inl rfl) rfl (Nat.le_refl _) (Nat.zero_le _)) ?_
  rintro e w5 ⟨g5, T5, rfl, ha5, hf5, hg5, hb5⟩
  rw [HF4.out.2.1, aw_cr0] at ha5
  have HB5 : Hid (Below w.heap.size w w5) := HB4.out.trans (hb5.mono HB4.out.size)
  have HF5 : Hid (FsAt w5 f S4) := HF4.out.1.below hb5
  have HT5 : Hid (FsAt w5 g5 T5 ∧ T5.abs = ⟨[(⟨#[97]⟩, ⟨[], 0⟩)], 0, false, 0, false⟩) := ⟨hf5, ha5⟩
  clear ha5 hf5 hg5 hb5
  go_wp2_with fail
  generalize hw6 : World.alloc w5 _ = w6
  have hb6 : Below w5.heap.size w5 w6 := by rw [← hw6]; exact (Below.refl _ _).alloc (Nat.le_refl _) _
  have hi6 : Ints w6 (some ⟨w5.heap.size, 0, none⟩) [1] := .inr ⟨_, _, rfl, fun i hi => by
    have : i = 0 := by simpa using hi
    subst this
    rw [← hw6]; simp⟩
  clear hw6
  refine Calls.mono (crash_any f S4 (some ⟨w5.heap.size, 0, none⟩) 1 1 [1] w6 (HF5.out.below hb6) (by rw [hL4]; decide) (by rw [hL4]; decide) hi6 rfl (Nat.le_refl _) (by decide)) ?_
  rintro e w7 ⟨g7, T7, rfl, ha7, hf7, hg7, hb7⟩
  rw [HF4.out.2.1, aw_cr1] at ha7
  have hb67 : Below w5.heap.size w5 w7 := hb6.trans (hb7.mono hb6.size)
  have HB7 : Hid (Below w.heap.size w w7) := HB5.out.trans (hb67.mono HB5.out.size)
  have HF7 : Hid (FsAt w7 f S4) := HF5.out.below hb67
  have HT7 : Hid (FsAt w7 g5 T5 ∧ T5.abs = ⟨[(⟨#[97]⟩, ⟨[], 0⟩)], 0, false, 0, false⟩) := ⟨HT5.out.1.below hb67, HT5.out.2⟩
  have HU7 : Hid (FsAt w7 g7 T7 ∧ T7.abs = ⟨[(⟨#[97]⟩, ⟨[120], 1⟩)], 0, false, 0, false⟩) := ⟨hf7, ha7⟩
  have HA : Hid (S4.abs = aw2) := HF4.out.2.1
  clear ha7 hf7 hg7 hb7 hb67 hb6 hi6 HB5 HF5 HT5 HF4 HB4 hL4
  go_wp2_with fail
  refine Calls.mono (read_any g5 T5 ⟨#[97]⟩ w7 HT7.out.1) ?_
  rw [show T5.L = [(⟨#[97]⟩, ⟨[], 0⟩)] from congrArg Abs.L HT7.out.2, alook_one]
  rintro e w8 ⟨v8, rfl, ho8, hb8⟩
  obtain ⟨a8, c8, hv8⟩ := ho8.shape
  have hv8' : v8 = .slice a8 0 c8 := hv8
  subst hv8'
  simp only [Option.isSome_some, if_true]
  have HB8 : Hid (Below w.heap.size w w8) := HB7.out.trans (hb8.mono HB7.out.size)
  have HF8 : Hid (FsAt w8 f S4) := HF7.out.below hb8
  have HU8 : Hid (FsAt w8 g7 T7 ∧ T7.L = [(⟨#[97]⟩, ⟨[120], 1⟩)]) := ⟨HU7.out.1.below hb8, congrArg Abs.L HU7.out.2⟩
  clear ho8 hv8 hb8 HB7 HF7 HT7 HU7
  go_wp2_with fail
  refine Calls.mono (read_any g7 T7 ⟨#[97]⟩ w8 HU8.out.1) ?_
  rw [HU8.out.2, alook_one]
  rintro e w9 ⟨v9, rfl, ho9, hb9⟩
  obtain ⟨a9, c9, hv9⟩ := ho9.shape
  have hv9' : v9 = .slice a9 1 c9 := hv9
  subst hv9'
  simp only [Option.isSome_some, if_true]
  have HB9 : Hid (Below w.heap.size w w9) := HB8.out.trans (hb9.mono HB8.out.size)
  have HF9 : Hid (FsAt w9 f S4) := HF8.out.below hb9
  have HO9 : Hid (OwnB w9 w8.heap.size (.slice a9 1 c9) [120]) := ho9
  clear ho9 hv9 hb9 HB8 HF8 HU8
  go_wp2_with fail
  refine Calls.mono (read_any f S4 ⟨#[98]⟩ w9 HF9.out) ?_
  rw [show S4.L = aw2.L from congrArg Abs.L HA.out, aw_b]
  rintro e w10 ⟨v10, rfl, ho10, hb10⟩
  obtain ⟨a10, c10, hv10⟩ := ho10.shape
  have hv10' : v10 = .slice a10 0 c10 := hv10
  subst hv10'
  simp only [Option.isSome_none, Bool.false_eq_true, if_false]
  have HB10 : Hid (Below w.heap.size w w10) := HB9.out.trans (hb10.mono HB9.out.size)
  have HF10 : Hid (FsAt w10 f S4) := HF9.out.below hb10
  have HS10 : Hid (SrcB w10 (.slice a9 1 c9) [120]) := (HO9.out.below hb10).src
  have HX : Hid (ofB [120] = ⟨#[120]⟩) := show _ = _ from rfl
  clear ho10 hv10 hb10 HB9 HF9 HO9
  go_wp2_with (refine wpList_str_if (by rfl) _ rfl _ [120] rfl HS10.out ?_; rw [HX.out])
  refine Calls.mono (safe_any f S4 ⟨#[97]⟩ w10 HF10.out) ?_
  rw [show S4.L = aw2.L from congrArg Abs.L HA.out, aw_a]
  rintro e w11 ⟨rfl, hb11⟩
  have HB11 : Hid (Below w.heap.size w w11) := HB10.out.trans (hb11.mono HB10.out.size)
  have hs0 : safeOf (some ⟨[120, 121], 0⟩) = 0 := rfl
  rw [hs0]
  clear hb11 HB10 HF10 HS10 hs0
  go_wp2_with fail
  refine Calls.mono (sync_nil ⟨#[97]⟩ w11) ?_
  rintro e w12 ⟨rfl, hb12⟩
  have HB12 : Hid (Below w.heap.size w w12) := HB11.out.trans (hb12.mono HB11.out.size)
  clear hb12 HB11
  go_wp2_with fail
  refine Calls.mono (safe_nil ⟨#[97]⟩ w12) ?_
  rintro e w13 ⟨rfl, hb13⟩
  have HB13 : Hid (Below w.heap.size w w13) := HB12.out.trans (hb13.mono HB12.out.size)
  clear hb13 HB12
  go_wp2_with fail
  refine Calls.mono (crash_nil none 0 0 w13) ?_
  rintro e w14 ⟨rfl, rfl⟩
  go_wp2_with fail
  go_ret
  exact ⟨rfl, HB13.out⟩
end Go.Proofs.Ytlapnnkahijikaa
namespace Go.Proofs.Ytlapnnkahijikaa
open Go.ChangeShapes Go.WideShapes Go.ChangeAt Go.RowKit Go.Lib

theorem wpList_toBytes_if {ops : Array Oper} {rest : List Oper} {o : Oper} {a : Act} {w : World} {Q : Exit → Act → World → Prop} (hw : Region.wanted o (yielded ops a.tmps) = true) (x : Operand) (ho : o.op = .convert 9 40 x) (s : ByteArray) (hx : a.eval x = .string s)
    (hK : ∀ c w', Hid (SrcB w' (.slice (some ⟨w.heap.size, 0, none⟩) s.size c) (strB s)) → Hid (Below w.heap.size w w') → wpList Try.prog ops Q rest (a.put o.dst (.slice (some ⟨w.heap.size, 0, none⟩) s.size c)) w') : wpList Try.prog ops Q (o :: rest) a w := by
  refine wpList_step fun K hK' => ?_
  rw [if_pos hw]
  unfold Oper.wp execOp
  simp only [ho, hx, Sem.run_bind, Sem.run_pure, Go.Lib.run_convert_string_bytes w 9 40 5 s Try.underlying9 Try.underlying40 Try.underlying5, Result.andThen_ok]
  refine hK' _ _ (hK _ _ ?_ ?_)
  · show SrcB _ _ _
    refine .inr ⟨w.heap.size, 0, grownCap w s.size 0 5, ?_, fun j u hu => ?_⟩
    · rw [show (strB s).length = s.size from strB_length s]
    · have hj : j < (strB s).length := by have := (List.getElem?_eq_some_iff.1 hu).1; rwa [u8s_length] at this
      have hj' : j < s.size := by rwa [strB_length] at hj
      rw [u8s_get _ j hj] at hu
      rw [Nat.zero_add, Go.Lib.bytesWorld_cell w 5 s j hj', ← hu]
      have hd : j < s.data.toList.length := by simpa using hj'
      unfold strB Y
      rw [List.getD_eq_getElem?_getD, List.getD_eq_getElem?_getD, List.getElem?_map, List.getElem?_eq_getElem hd]
      rfl
  · show Below _ _ _
    exact ⟨rfl, rfl, rfl, by rw [Go.Lib.bytesWorld_size]; omega, fun k hk => Go.Lib.bytesWorld_at_old w _ s k hk⟩
theorem sortN_two (x y : ByteArray) (h : bytesOf x ≤ bytesOf y) : sortN [x, y] = [x, y] := by
  unfold sortN
  rw [List.map_cons, List.map_cons, List.map_nil, List.mergeSort_of_pairwise]
  · simp [mk_bytesOf]
  · simp [h]
theorem beg_ok {A : Abs} {l : List ByteArray} (h1 : A.counted = false) (h2 : A.off = false) (h3 : l.all nameOK = true) : A.beg l = 0 ∧ A.pow = { A with ops := A.ops + 1 } := by
  have hp : A.pow = { A with ops := A.ops + 1 } := by unfold Abs.pow; rw [if_pos h1]
  refine ⟨?_, hp⟩
  unfold Abs.beg
  rw [hp]
  simp [h2, h3]
def nF : ByteArray := ⟨#[102]⟩
def nG : ByteArray := ⟨#[103]⟩
def nH : ByteArray := ⟨#[104]⟩
theorem app_plain (L : List (ByteArray × Fl)) (n : Int) (name : ByteArray) (bs : List (BitVec 8)) (h3 : nameOK name = true) (hb : bs.length + (flOf (alook name L)).b.length ≤ 16777216) :
    Abs.appE ⟨L, n, false, 0, false⟩ name bs = 0 ∧ Abs.app ⟨L, n, false, 0, false⟩ name bs = ⟨aput name ⟨(flOf (alook name L)).b ++ bs, (flOf (alook name L)).safe⟩ L, n + 1, false, 0, false⟩ := by
  obtain ⟨h1, h2⟩ := beg_ok (A := ⟨L, n, false, 0, false⟩) (l := [name]) rfl rfl (by simp [h3])
  have he : Abs.appE ⟨L, n, false, 0, false⟩ name bs = 0 := by unfold Abs.appE; rw [if_pos h1, if_pos hb]
  refine ⟨he, ?_⟩
  unfold Abs.app
  rw [if_pos he, h2]
theorem opn_plain (L : List (ByteArray × Fl)) (n : Int) (l : List ByteArray) (name : ByteArray) (fl : Fl) (h3 : l.all nameOK = true) (ha : alook name L = some fl) : Abs.opn ⟨L, n, false, 0, false⟩ l name = 0 := by
  obtain ⟨h1, _⟩ := beg_ok (A := ⟨L, n, false, 0, false⟩) (l := l) rfl rfl h3
  unfold Abs.opn
  rw [if_pos h1, ha]; rfl
theorem syn_plain (L : List (ByteArray × Fl)) (n : Int) (name : ByteArray) (fl : Fl) (h3 : nameOK name = true) (ha : alook name L = some fl) : Abs.opn ⟨L, n, false, 0, false⟩ [name] name = 0 ∧ Abs.syn ⟨L, n, false, 0, false⟩ name = ⟨aput name ⟨fl.b, fl.b.length⟩ L, n + 1, false, 0, false⟩ := by
  have he := opn_plain L n [name] name fl (by simp [h3]) ha
  obtain ⟨_, h2⟩ := beg_ok (A := ⟨L, n, false, 0, false⟩) (l := [name]) rfl rfl (by simp [h3])
  refine ⟨he, ?_⟩
  unfold Abs.syn
  rw [if_pos he, h2, ha]; rfl
theorem ren_plain (L : List (ByteArray × Fl)) (n : Int) (name dest : ByteArray) (fl : Fl) (h3 : nameOK name = true) (h4 : nameOK dest = true) (ha : alook name L = some fl) : Abs.opn ⟨L, n, false, 0, false⟩ [dest, name] name = 0 ∧ Abs.ren ⟨L, n, false, 0, false⟩ name dest = ⟨aput dest fl (adel name L), n + 1, false, 0, false⟩ := by
  have he := opn_plain L n [dest, name] name fl (by simp [h3, h4]) ha
  obtain ⟨_, h2⟩ := beg_ok (A := ⟨L, n, false, 0, false⟩) (l := [dest, name]) rfl rfl (by simp [h3, h4])
  refine ⟨he, ?_⟩
  unfold Abs.ren
  rw [if_pos he, h2, ha]; rfl
/-- The files of the law, act by act. -/
theorem safe_acts (A B : List (BitVec 8)) (hA : A.length ≤ 500) (hB : B.length ≤ 500) :
    (Abs.appE ⟨[], 0, false, 0, false⟩ nF A = 0 ∧ Abs.app ⟨[], 0, false, 0, false⟩ nF A = ⟨[(nF, ⟨A, 0⟩)], 1, false, 0, false⟩) ∧
    (Abs.opn ⟨[(nF, ⟨A, 0⟩)], 1, false, 0, false⟩ [nF] nF = 0 ∧ Abs.syn ⟨[(nF, ⟨A, 0⟩)], 1, false, 0, false⟩ nF = ⟨[(nF, ⟨A, A.length⟩)], 2, false, 0, false⟩) ∧
    (Abs.appE ⟨[(nF, ⟨A, A.length⟩)], 2, false, 0, false⟩ nF B = 0 ∧ Abs.app ⟨[(nF, ⟨A, A.length⟩)], 2, false, 0, false⟩ nF B = ⟨[(nF, ⟨A ++ B, A.length⟩)], 3, false, 0, false⟩) ∧
    (Abs.appE ⟨[(nF, ⟨A ++ B, A.length⟩)], 3, false, 0, false⟩ nG B = 0 ∧ Abs.app ⟨[(nF, ⟨A ++ B, A.length⟩)], 3, false, 0, false⟩ nG B = ⟨[(nF, ⟨A ++ B, A.length⟩), (nG, ⟨B, 0⟩)], 4, false, 0, false⟩) ∧
    (Abs.opn ⟨[(nF, ⟨A ++ B, A.length⟩), (nG, ⟨B, 0⟩)], 4, false, 0, false⟩ [nH, nG] nG = 0 ∧ Abs.ren ⟨[(nF, ⟨A ++ B, A.length⟩), (nG, ⟨B, 0⟩)], 4, false, 0, false⟩ nG nH = ⟨[(nF, ⟨A ++ B, A.length⟩), (nH, ⟨B, 0⟩)], 5, false, 0, false⟩) :=
  ⟨app_plain [] 0 nF A rfl (by show A.length + 0 ≤ _; omega), syn_plain _ 1 nF ⟨A, 0⟩ rfl rfl, app_plain _ 2 nF B rfl (by show B.length + A.length ≤ _; omega), app_plain _ 3 nG B rfl (by show B.length + 0 ≤ _; omega), ren_plain _ 4 nG nH ⟨B, 0⟩ rfl rfl rfl⟩
theorem safe_crash (A B : List (BitVec 8)) (p : Int) : Abs.crash ⟨[(nF, ⟨A ++ B, A.length⟩), (nH, ⟨B, 0⟩)], 5, false, 0, false⟩ [p, p] = ⟨[(nF, ⟨A ++ B.take (remF p B.length), A.length + remF p B.length⟩), (nH, ⟨B.take (remF p B.length), remF p B.length⟩)], 0, false, 0, false⟩ := by
  have hs : sortN [nF, nH] = [nF, nH] := sortN_two _ _ (by decide)
  have hk : ∃ ps, keepOf ⟨A ++ B, A.length⟩ [p, p] = (A.length + remF p B.length, ps) ∧ (keepOf ⟨B, 0⟩ ps).1 = remF p B.length := by
    by_cases hb : 0 < B.length
    · refine ⟨[p], ?_, ?_⟩
      · rw [keepOf_cons (by simp only [List.length_append]; omega)]
        simp only [List.length_append, Nat.add_sub_cancel_left]
      · rw [keepOf_cons (by simp only; omega)]
        simp
    · have h0 : B = [] := List.eq_nil_of_length_eq_zero (by omega)
      subst h0
      have hr : remF p 0 = 0 := by have := remF_le p 0; omega
      refine ⟨[p, p], ?_, ?_⟩
      · rw [keepOf_no (by simp)]
        simp only [List.length_nil, hr, Nat.add_zero]
      · rw [keepOf_no (by simp)]
        simp [hr]
  obtain ⟨ps, h1, h2⟩ := hk
  unfold Abs.crash
  show Abs.mk (crashGo _ (sortN [nF, nH]) [p, p] []) _ _ _ _ = _
  rw [hs]
  have e1 : flOf (alook nF [(nF, (⟨A ++ B, A.length⟩ : Fl)), (nH, ⟨B, 0⟩)]) = ⟨A ++ B, A.length⟩ := rfl
  have e2 : flOf (alook nH [(nF, (⟨A ++ B, A.length⟩ : Fl)), (nH, ⟨B, 0⟩)]) = ⟨B, 0⟩ := rfl
  unfold crashGo
  rw [e1, h1]
  unfold crashGo
  rw [e2, h2]
  unfold crashGo
  show Abs.mk [(nF, ⟨(A ++ B).take _, _⟩), (nH, _)] _ _ _ _ = _
  rw [List.take_length_add_append]
theorem strB_take (s : ByteArray) (n : Nat) : strB (s.extract 0 n) = (strB s).take n := by
  unfold strB
  rw [ByteArray.data_extract, ← List.map_take]
  congr 1
  rw [Array.toList_extract]
  simp [List.extract]
theorem names_two (x y : Fl) : ∀ q ∈ [(nF, x), (nH, y)], q.1.size ≤ 1000 := by
  intro q hq
  rcases List.mem_cons.1 hq with e | hq
  · rw [e]; exact of_decide_eq_true rfl
  · rcases List.mem_cons.1 hq with e | hq
    · rw [e]; exact of_decide_eq_true rfl
    · cases hq
/-- Files of the law's own. -/
def Own7 (w wi : World) (f : Nat) (A : Abs) : Prop := Below w.heap.size w wi ∧ ∃ S, FsAt wi f S ∧ S.abs = A ∧ ∀ k, S.foot f k → w.heap.size ≤ k
theorem Own7.after {w wi wj : World} {f : Nat} {S : FS} {A : Abs} (hb : Below w.heap.size w wi) (hf : ∀ k, S.foot f k → w.heap.size ≤ k) (h : After f S A wi wj) : Own7 w wj f A := by
  obtain ⟨S', h1, h2, h3⟩ := h
  exact ⟨hb.trans (h3.below hb.size hf), S', h2, h1, fun k hk => (h3.foot k hk).elim (hf k) fun e => Nat.le_trans hb.size e⟩
theorem Own7.below {w wi wj : World} {f : Nat} {A : Abs} (h : Own7 w wi f A) (hb : Below wi.heap.size wi wj) : Own7 w wj f A := by
  obtain ⟨h1, S, h2, h3, h4⟩ := h
  exact ⟨h1.trans (hb.mono h1.size), S, h2.below hb, h3, h4⟩
theorem Own7.new {w w1 : World} (hf : FsAt w1 w.heap.size FS.zero) (hb : Below w.heap.size w w1) : Own7 w w1 w.heap.size ⟨[], 0, false, 0, false⟩ :=
  ⟨hb, FS.zero, hf, rfl, fun k hk => by
    rcases hk with e | e | ⟨p, hp, _⟩
    · rw [e]; exact Nat.le_refl _
    · cases e
    · cases hp⟩
theorem Own7.drewB {w wi : World} {f : Nat} {A : Abs} (h : Own7 w wi f A) : Own7 w wi.drew f A := by
  obtain ⟨h1, S, h2, h3, h4⟩ := h
  exact ⟨h1.drew, S, h2.same fun _ _ => rfl, h3, h4⟩
theorem SrcB.drewB {w : World} {v : Value} {bs : List (BitVec 8)} (h : SrcB w v bs) : SrcB w.drew v bs := h
/-- Append, at files of the law's own, of bytes that lie elsewhere. -/
theorem own_append {w wi wj : World} {f : Nat} {A : Abs} (h : Own7 w wi f A) (hb : Below wi.heap.size wi wj) (name : ByteArray) (b c n : Nat) (bs : List (BitVec 8)) (hn : n = bs.length) (hbn : wi.heap.size ≤ b) (hs : SrcB wj (.slice (some ⟨b, 0, none⟩) n c) bs) (hl : bs.length ≤ 50000000)
    (h0 : 0 ≤ A.ops) (h1 : A.ops ≤ 4611686018427387904) (h2 : -9223372036854775808 ≤ A.left) (h3 : A.left ≤ 9223372036854775807) :
    Calls Try.prog 13 #[.pointer (some ⟨f, 0, none⟩), .string name, .slice (some ⟨b, 0, none⟩) n c] wj fun e w' => e = .returned (.int .i64 (A.appE name bs)) ∧ Own7 w w' f (A.app name bs) := by
  subst hn
  obtain ⟨hb1, S, hf, ha, hfo⟩ := h
  refine (append_any f S name _ bs wj (hf.below hb) (FS.sane_of ha h0 h1 h2 h3) hs hl fun k hk e => ?_).mono ?_
  · injection hk with hk
    have := hf.lt e
    simp only at hk
    omega
  · rintro e w' ⟨rfl, h⟩
    rw [ha] at h ⊢
    exact ⟨rfl, Own7.after (hb1.trans (hb.mono hb1.size)) hfo h⟩
theorem own_sync {w wi : World} {f : Nat} {A : Abs} (h : Own7 w wi f A) (name : ByteArray) (h0 : 0 ≤ A.ops) (h1 : A.ops ≤ 4611686018427387904) (h2 : -9223372036854775808 ≤ A.left) (h3 : A.left ≤ 9223372036854775807) :
    Calls Try.prog 16 #[.pointer (some ⟨f, 0, none⟩), .string name] wi fun e w' => e = .returned (.int .i64 (A.opn [name] name)) ∧ Own7 w w' f (A.syn name) := by
  obtain ⟨hb1, S, hf, ha, hfo⟩ := h
  refine (sync_any f S name wi hf (FS.sane_of ha h0 h1 h2 h3)).mono ?_
  rintro e w' ⟨rfl, h⟩
  rw [ha] at h ⊢
  exact ⟨rfl, Own7.after hb1 hfo h⟩
theorem own_rename {w wi : World} {f : Nat} {A : Abs} (h : Own7 w wi f A) (name dest : ByteArray) (h0 : 0 ≤ A.ops) (h1 : A.ops ≤ 4611686018427387904) (h2 : -9223372036854775808 ≤ A.left) (h3 : A.left ≤ 9223372036854775807) :
    Calls Try.prog 19 #[.pointer (some ⟨f, 0, none⟩), .string name, .string dest] wi fun e w' => e = .returned (.int .i64 (A.opn [dest, name] name)) ∧ Own7 w w' f (A.ren name dest) := by
  obtain ⟨hb1, S, hf, ha, hfo⟩ := h
  refine (rename_any f S name dest wi hf (FS.sane_of ha h0 h1 h2 h3)).mono ?_
  rintro e w' ⟨rfl, h⟩
  rw [ha] at h ⊢
  exact ⟨rfl, Own7.after hb1 hfo h⟩
theorem own_read {w wi : World} {f : Nat} {A : Abs} (h : Own7 w wi f A) (name : ByteArray) :
    Calls Try.prog 14 #[.pointer (some ⟨f, 0, none⟩), .string name] wi fun e w' => ∃ a c, e = .returned (.tuple #[.slice a (flOf (alook name A.L)).b.length c, .int .i64 (if (alook name A.L).isSome then 0 else 5)]) ∧ OwnB w' wi.heap.size (.slice a (flOf (alook name A.L)).b.length c) (flOf (alook name A.L)).b ∧ Below wi.heap.size wi w' := by
  obtain ⟨hb1, S, hf, ha, hfo⟩ := h
  refine (read_any f S name wi hf).mono ?_
  rw [show S.L = A.L from congrArg Abs.L ha]
  rintro e w' ⟨v, rfl, ho, hb⟩
  obtain ⟨a, c, rfl⟩ := ho.shape
  exact ⟨a, c, rfl, ho, hb⟩
theorem own_safe {w wi : World} {f : Nat} {A : Abs} (h : Own7 w wi f A) (name : ByteArray) :
    Calls Try.prog 15 #[.pointer (some ⟨f, 0, none⟩), .string name] wi fun e w' => e = .returned (.int .i64 (safeOf (alook name A.L))) ∧ Below wi.heap.size wi w' := by
  obtain ⟨hb1, S, hf, ha, hfo⟩ := h
  have := safe_any f S name wi hf
  rw [show S.L = A.L from congrArg Abs.L ha] at this
  exact this
/-- Crash: the old files stay, the new ones are the law's own, too. -/
theorem own_crash {w wi wj : World} {f : Nat} {A : Abs} (h : Own7 w wi f A) (hb : Below wi.heap.size wi wj) (a : Option Addr) (n cap : Nat) (Z : List Int) (hs : ∀ p ∈ A.L, p.1.size ≤ 1000) (hl : A.L.length ≤ 1000000) (hz : Ints wj a Z) (hn : Z.length = n) (hc : n ≤ cap) (hcm : cap ≤ maxLen) :
    Calls Try.prog 11 #[.pointer (some ⟨f, 0, none⟩), .slice a n cap] wj fun e w' => ∃ g, e = .returned (.pointer (some ⟨g, 0, none⟩)) ∧ Below wj.heap.size wj w' ∧ Own7 w w' g (A.crash Z) := by
  obtain ⟨hb1, S, hf, ha, hfo⟩ := h
  have hL : S.L = A.L := congrArg Abs.L ha
  refine (crash_any f S a n cap Z wj (hf.below hb) (by rw [hL]; exact hs) (by rw [hL]; exact hl) hz hn hc hcm).mono ?_
  rintro e w' ⟨g, T, rfl, hT, hfT, hg, hb2⟩
  have hbw : Below w.heap.size w wj := hb1.trans (hb.mono hb1.size)
  rw [ha] at hT
  exact ⟨g, rfl, hb2, hbw.trans (hb2.mono hbw.size), T, hfT, hT, fun k hk => Nat.le_trans hbw.size (hg k hk)⟩
end Go.Proofs.Ytlapnnkahijikaa
