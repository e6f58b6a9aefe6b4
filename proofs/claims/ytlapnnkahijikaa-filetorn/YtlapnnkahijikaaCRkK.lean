/- coraclelaw7.FileTorn: its walk. -/
import Derived.Test.YtlapnnkahijikaaCRkI
import Derived.Test.YtlapnnkahijikaaCRkJ
namespace Go.Proofs.Ytlapnnkahijikaa
open Go.ChangeShapes Go.WideShapes Go.ChangeAt Go.RowKit Go.Lib

section
variable {w wi w1 w2 : World} {f : Nat} {S : FS} {m : Nat} {v : Value} {R : RS} {q : Nat}
theorem Bo.filesLe (h : Bo w wi f S m v R q) (hq : q ≤ 1000000) : S.L.length ≤ 1000000 := by
  have h1 := congrArg List.length h.tw.names
  rw [sortN_length, List.length_map, List.length_map] at h1
  have h2 : S.abs.L.length = S.L.length := rfl
  have := h.len
  omega
theorem Bo.fit (h : Bo w wi f S m v R q) : ∀ p ∈ R.L, p.2.safe ≤ p.2.b.length ∧ p.2.b.length ≤ 16777216 := fun p hp => by
  have h1 := alook_of_mem h.tw.srt.nodup hp
  rw [h.tw.look] at h1
  have h2 := h.sys.fs.flOf_le p.1
  rw [h1] at h2
  exact h2
theorem Bo.smallR (h : Bo w wi f S m v R q) : Small R.L := fun p hp => by
  have h1 := alook_of_mem h.tw.srt.nodup hp
  rw [h.tw.look] at h1
  exact h.small _ (mem_of_alook h1)
theorem small_go {A : List Fil} : ∀ (ns : List ByteArray) (ps : List Int) (acc : List Fil), (∀ n ∈ ns, n.size ≤ 1000) → Small acc → Small (crashGo A ns ps acc)
  | [], _, _, _, h => h
  | n :: ns, ps, acc, hn, h => small_go ns _ _ (fun x hx => hn x (List.mem_cons_of_mem _ hx)) fun p hp => by
    rcases mem_put hp with rfl | ⟨hp, _⟩
    · exact hn n (List.mem_cons_self ..)
    · exact h p hp
theorem Bo.smallC (h : Bo w wi f S m v R q) (Z : List Int) : Small (S.abs.crash Z).L := by
  show Small (crashGo S.abs.L (sortN (S.abs.L.map Prod.fst)) Z [])
  rw [h.tw.names]
  refine small_go _ _ _ (fun n hn => ?_) (fun p hp => by cases hp)
  obtain ⟨p, hp, rfl⟩ := List.mem_map.1 hn
  exact h.smallR p hp
theorem Bo.crashF (h : Bo w wi f S m v R q) (hq : q ≤ 1000000) (a : Option Addr) (n c : Nat) (Z : List Int) (hz : Ints wi a Z) (hn : Z.length = n) (hc : n ≤ c) (hcm : c ≤ maxLen) :
    Calls Try.prog 11 #[.pointer (some ⟨f, 0, none⟩), .slice a n c] wi fun e w' => ∃ g T, e = .returned (.pointer (some ⟨g, 0, none⟩)) ∧ T.abs = S.abs.crash Z ∧ Sys wi w' g T [] := by
  refine (crash_any f S a n c Z wi h.sys.fs h.small (h.filesLe hq) hz hn hc hcm).mono ?_
  rintro e w' ⟨g, T, rfl, hT, hf, hg, hb⟩
  exact ⟨g, T, rfl, hT, hb, hf, hg, (fun p hp => by cases hp), List.nodup_nil⟩
/-- Both behind a crash. -/
theorem Bo.born (h : Bo w wi f S m v R q) {g m2 : Nat} {T : FS} {v2 : Value} {Z : List Int} (hT : T.abs = S.abs.crash Z) (hs : Sys wi w1 g T []) (hr : RkAt w2 m2 v2 ⟨scrash R.L Z, -1, false, 0⟩) (hm : w1.heap.size ≤ m2) (hv : ∀ k, v2.ownBlock = some k → w1.heap.size ≤ k) (hb : Below w1.heap.size w1 w2) : Bo wi w2 g T m2 v2 ⟨scrash R.L Z, -1, false, 0⟩ q := by
  have hf : ∀ k, w1.heap.size ≤ k → ¬ T.foot g k ∧ wi.heap.size ≤ k := fun k hk => ⟨fun e => by have := hs.fs.lt e; omega, Nat.le_trans hs.base.size hk⟩
  refine ⟨hs.below hb, hr, hf m2 hm, fun k e => hf k (hv k e), by rw [hT]; exact h.tw.crash Z, ?_, by rw [scrash_length]; exact h.len, ⟨by show (-1 : Int) ≤ -1; omega, by show (-1 : Int) ≤ 9223372036854775807; omega⟩, by rw [hT]; exact h.smallC Z⟩
  rw [hT]
  exact ⟨Int.le_refl _, by show (0 : Int) ≤ q; omega, by show (-9223372036854775808 : Int) ≤ 0; omega, by show (0 : Int) ≤ 9223372036854775807; omega⟩
end
set_option maxRecDepth 100000 in
set_option maxHeartbeats 8000000 in
theorem ftorn_any (a0 a1 a2 a3 : Option Addr) (n0 c0 n1 c1 n2 c2 n3 c3 : Nat) (L M : List Deed) (P G : List Int) (w : World) (h0 : DeedsB w a0 L) (hn0 : L.length = n0) (hc0 : n0 ≤ c0) (hm0 : c0 ≤ maxLen) (h1 : Ints w a1 P) (hn1 : P.length = n1) (hc1 : n1 ≤ c1) (hm1 : c1 ≤ maxLen)
    (h2 : DeedsB w a2 M) (hn2 : M.length = n2) (hc2 : n2 ≤ c2) (hm2 : c2 ≤ maxLen) (h3 : Ints w a3 G) (hn3 : G.length = n3) (hc3 : n3 ≤ c3) (hm3 : c3 ≤ maxLen) :
    Calls Try.prog 4 #[.slice a0 n0 c0, .slice a1 n1 c1, .slice a2 n2 c2, .slice a3 n3 c3] w fun e w' => e = .returned (.bool true) ∧ Below w.heap.size w w' := by
  have HFW : Hid (Calls Try.prog 5 #[.slice a0 n0 c0] w fun e w' => e = .returned (.bool (fewB L)) ∧ w' = w) := few_any a0 n0 c0 L w h0.1 hn0 hc0 hm0
  have HFM : Hid (Calls Try.prog 5 #[.slice a2 n2 c2] w fun e w' => e = .returned (.bool (fewB M)) ∧ w' = w) := few_any a2 n2 c2 M w h2.1 hn2 hc2 hm2
  have HD : Hid (DeedsB w a0 L ∧ n0 = L.length) := ⟨h0, hn0.symm⟩
  have HM : Hid (DeedsB w a2 M ∧ n2 = M.length) := ⟨h2, hn2.symm⟩
  have HP : Hid (Ints w a1 P ∧ P.length = n1 ∧ n1 ≤ c1 ∧ c1 ≤ maxLen) := ⟨h1, hn1, hc1, hm1⟩
  have HG : Hid (Ints w a3 G ∧ G.length = n3 ∧ n3 ≤ c3 ∧ c3 ≤ maxLen) := ⟨h3, hn3, hc3, hm3⟩
  have HFD : Hid (fewB L = true → L.length ≤ 60 ∧ ∀ d ∈ L, d.b.size ≤ 200) := few_deed
  have HFE : Hid (fewB M = true → M.length ≤ 60 ∧ ∀ d ∈ M, d.b.size ≤ 200) := few_deed
  have hn63 : n1 ≤ 9223372036854775807 := by unfold maxLen at hm1; omega
  have hn64 : n3 ≤ 9223372036854775807 := by unfold maxLen at hm3; omega
  have hn65 : n0 ≤ 9223372036854775807 := by unfold maxLen at hm0; omega
  have hn66 : n2 ≤ 9223372036854775807 := by unfold maxLen at hm2; omega
  clear h0 hn0 hc0 hm0 h1 hn1 hc1 hm1 h2 hn2 hc2 hm2 h3 hn3 hc3 hm3
  go_enter Try.func4, Try.ntmps4
  go_wp2_with fail
  refine Calls.mono HFW.out ?_
  rintro e w0 ⟨rfl, rfl⟩
  clear HFW
  generalize fewB L = F1 at *
  cases F1 with
  | false =>
    go_wp2_with fail
    refine Calls.mono (awake_any w0) ?_
    rintro e w1 ⟨rfl, hb1⟩
    have HB1 : Hid (Below w0.heap.size w0 w1) := hb1
    clear hb1
    go_wp2_with fail
    go_ret
    exact ⟨rfl, HB1.out⟩
  | true =>
  go_wp2_with fail
  refine Calls.mono HFM.out ?_
  rintro e w9 ⟨rfl, rfl⟩
  clear HFM
  generalize fewB M = F2 at *
  cases F2 with
  | false =>
    go_wp2_with fail
    refine Calls.mono (awake_any w9) ?_
    rintro e w1 ⟨rfl, hb1⟩
    have HB1 : Hid (Below w9.heap.size w9 w1) := hb1
    clear hb1
    go_wp2_with fail
    go_ret
    exact ⟨rfl, HB1.out⟩
  | true =>
  have HD2 : Hid (L.length ≤ 60 ∧ ∀ d ∈ L, d.b.size ≤ 200) := HFD.out (by first | rfl | trivial)
  have HM2 : Hid (M.length ≤ 60 ∧ ∀ d ∈ M, d.b.size ≤ 200) := HFE.out (by first | rfl | trivial)
  have h60 : n0 ≤ 60 := by rw [HD.out.2]; exact HD2.out.1
  have h61 : n2 ≤ 60 := by rw [HM.out.2]; exact HM2.out.1
  clear HFD HFE hn65 hn66
  by_cases hs1 : n1 ≤ 20
  · have s1 : ¬ (n1 : Int) > 20 := by omega
    by_cases hs3 : n3 ≤ 20
    · have s3 : ¬ (n3 : Int) > 20 := by omega
      go_wp2_with fail
      refine Calls.mono (new_R w9) ?_
      rintro e w1 ⟨f, S1, rfl, hs1, ha1⟩
      have HNF : Hid _ := newFS_any w1
      have HS1 : Hid (Sys w9 w1 f S1 [] ∧ S1.abs = ⟨[], 0, false, 0, false⟩) := ⟨hs1, ha1⟩
      clear hs1 ha1 s1 s3 hn63 hn64
      go_wp2_with fail
      refine Calls.mono HNF.out ?_
      rintro e w2 ⟨rfl, hr2, hb2⟩
      have HBO : Hid (Bo w9 w2 f S1 w1.heap.size (.slice none 0 0) ⟨[], -1, false, 0⟩ 0) := Bo.zero HS1.out.1 HS1.out.2 hr2 hb2
      clear hr2 hb2 HNF HS1
      generalize w1.heap.size = m at *
      go_wp2_with fail
      go_loopw [11] (fun i wr => ∃ (k : Nat), k ≤ n0 ∧ i = .int .i64 k ∧ Hid (∃ S v R, Bo w9 wr f S m v R k)) (fun i _ => n0 - (intOf i).toNat)
      case atStart => exact ⟨0, Nat.zero_le _, rfl, ⟨_, _, _, HBO.out⟩⟩
      case round =>
        obtain ⟨k, hk, rfl, HBK⟩ := hrel
        clear HBO
        obtain ⟨S, v, R, hbo⟩ := HBK.out
        have HB : Hid (Bo w9 wr f S m v R k) := hbo
        clear hbo HBK
        by_cases hlt : k < n0
        · have e0 : (0 : Int) ≤ (k : Int) := by omega
          have e1 : (k : Int) < (n0 : Int) := by omega
          have hkl : k < L.length := by rw [← HD.out.2]; exact hlt
          obtain ⟨b, o, rfl, d0, d1, d2, d3⟩ := HD.out.1.at hkl
          have hdb := HD2.out.2 _ (List.getElem_mem hkl)
          have hdn := HD.out.1.2 _ (List.getElem_mem hkl)
          generalize L[k] = d at *
          have HBT : Hid _ := both_any w9 wr f S m v R k d HB.out (by omega) hdb hdn.1 hdn.2
          have q0 := cell_below HB.out.sys.base d0
          have q1 := cell_below HB.out.sys.base d1
          have q2 := cell_below HB.out.sys.base d2
          have q3 := cell_below HB.out.sys.base d3
          clear d0 d1 d2 d3 hdb hdn
          go_wp2_with fail
          refine Calls.mono HBT.out ?_
          rintro e w3 ⟨x, S3, v3, R3, rfl, hbo3⟩
          have HB3 : Hid (Bo w9 w3 f S3 m v3 R3 (k + 1)) := hbo3
          clear hbo3 HBT HB q0 q1 q2 q3
          go_wp2_with fail
          go_roundw
          case rel => exact ⟨k + 1, by omega, by go_num, ⟨S3, v3, R3, HB3.out⟩⟩
          case measure => simp [intOf]; omega
        · obtain rfl : k = n0 := by omega
          have e1 : ¬ (k : Int) < (k : Int) := by omega
          obtain ⟨wb, hwb⟩ : ∃ x, x = wr := ⟨_, rfl⟩
          subst hwb
          have HCF : Hid _ := HB.out.crashF (by omega) a1 n1 c1 P (HP.out.1.below HB.out.sys.base) HP.out.2.1 HP.out.2.2.1 HP.out.2.2.2
          go_wp2_with fail
          refine Calls.mono HCF.out ?_
          rintro e w3 ⟨g, T, rfl, hT, hsT⟩
          have HT : Hid (T.abs = S.abs.crash P ∧ Sys wb w3 g T []) := ⟨hT, hsT⟩
          have HCR : Hid _ := rcrash_any m v R a1 n1 c1 P w3 (HB.out.below hsT.base).rk HB.out.fit (by have := HB.out.len; omega) ((HP.out.1.below HB.out.sys.base).below hsT.base) HP.out.2.1 HP.out.2.2.1 HP.out.2.2.2
          clear hT hsT HCF
          go_wp2_with fail
          refine Calls.mono HCR.out ?_
          rintro e w4 ⟨g2, v4, rfl, hr4, hg4, hv4, hb4⟩
          have HN4 : Hid (Bo wb w4 g T g2 v4 ⟨scrash R.L P, -1, false, 0⟩ k) := HB.out.born HT.out.1 HT.out.2 hr4 hg4 hv4 hb4
          have HB4 : Hid (Bo w9 w4 f S m v R k) := (HB.out.below HT.out.2.base).below hb4
          clear hr4 hg4 hv4 hb4 HCR HT
          have HSH : Hid _ := shows_any7 wb w4 g T g2 v4 _ k HN4.out (by omega)
          go_wp2_with fail
          refine Calls.mono HSH.out ?_
          rintro e w5 ⟨rfl, hb5⟩
          have HN5 : Hid _ := HN4.out.below hb5
          have HB5 : Hid _ := HB4.out.below hb5
          have HSH2 : Hid _ := shows_any7 w9 w5 f S m v R k HB5.out (by omega)
          clear hb5 HSH HN4 HB4
          go_wp2_with fail
          refine Calls.mono HSH2.out ?_
          rintro e w6 ⟨rfl, hb6⟩
          have HN6 : Hid (Bo wb w6 g T g2 v4 ⟨scrash R.L P, -1, false, 0⟩ (k + 0)) := HN5.out.below hb6
          have HWB : Hid (Below w9.heap.size w9 wb) := HB.out.sys.base
          clear hb6 HSH2 HN5 HB5 HB
          go_wp2_with fail
          go_loopw [16] (fun i wr => ∃ (j : Nat), j ≤ n2 ∧ i = .int .i64 j ∧ Hid (∃ S v R, Bo wb wr g S g2 v R (k + j))) (fun i _ => n2 - (intOf i).toNat)
          case atStart => exact ⟨0, Nat.zero_le _, rfl, ⟨_, _, _, HN6.out⟩⟩
          case round =>
            obtain ⟨j, hj, rfl, HBJ⟩ := hrel
            clear HN6
            obtain ⟨S7, v7, R7, hbo⟩ := HBJ.out
            have HJ : Hid (Bo wb wr g S7 g2 v7 R7 (k + j)) := hbo
            clear hbo HBJ
            by_cases hlj : j < n2
            · have e2 : (0 : Int) ≤ (j : Int) := by omega
              have e3 : (j : Int) < (n2 : Int) := by omega
              have hkl : j < M.length := by rw [← HM.out.2]; exact hlj
              obtain ⟨b, o, rfl, d0, d1, d2, d3⟩ := HM.out.1.at hkl
              have hdb := HM2.out.2 _ (List.getElem_mem hkl)
              have hdn := HM.out.1.2 _ (List.getElem_mem hkl)
              generalize M[j] = d at *
              have HBT : Hid _ := both_any wb wr g S7 g2 v7 R7 (k + j) d HJ.out (by omega) hdb hdn.1 hdn.2
              have HBR : Hid (Below w9.heap.size w9 wr) := HWB.out.trans (HJ.out.sys.base.mono HWB.out.size)
              have q0 := cell_below HBR.out d0
              have q1 := cell_below HBR.out d1
              have q2 := cell_below HBR.out d2
              have q3 := cell_below HBR.out d3
              clear d0 d1 d2 d3 hdb hdn HBR
              go_wp2_with fail
              refine Calls.mono HBT.out ?_
              rintro e w7 ⟨x, S8, v8, R8, rfl, hbo8⟩
              have HJ8 : Hid (Bo wb w7 g S8 g2 v8 R8 (k + (j + 1))) := hbo8
              clear hbo8 HBT HJ q0 q1 q2 q3
              go_wp2_with fail
              go_roundw
              case rel => exact ⟨j + 1, by omega, by go_num, ⟨S8, v8, R8, HJ8.out⟩⟩
              case measure => simp [intOf]; omega
            · obtain rfl : j = n2 := by omega
              have e3 : ¬ (j : Int) < (j : Int) := by omega
              obtain ⟨wc, hwc⟩ : ∃ x, x = wr := ⟨_, rfl⟩
              subst hwc
              have HBR : Hid (Below w9.heap.size w9 wc) := HWB.out.trans (HJ.out.sys.base.mono HWB.out.size)
              have HCF : Hid _ := HJ.out.crashF (by omega) a3 n3 c3 G (HG.out.1.below HBR.out) HG.out.2.1 HG.out.2.2.1 HG.out.2.2.2
              go_wp2_with fail
              refine Calls.mono HCF.out ?_
              rintro e w3 ⟨g3, T3, rfl, hT, hsT⟩
              have HT : Hid (T3.abs = S7.abs.crash G ∧ Sys wc w3 g3 T3 []) := ⟨hT, hsT⟩
              have HCR : Hid _ := rcrash_any g2 v7 R7 a3 n3 c3 G w3 (HJ.out.below hsT.base).rk HJ.out.fit (by have := HJ.out.len; omega) ((HG.out.1.below HBR.out).below hsT.base) HG.out.2.1 HG.out.2.2.1 HG.out.2.2.2
              clear hT hsT HCF
              go_wp2_with fail
              refine Calls.mono HCR.out ?_
              rintro e w4 ⟨g4, v4, rfl, hr4, hg4, hv4, hb4⟩
              have HN4 : Hid (Bo wc w4 g3 T3 g4 v4 ⟨scrash R7.L G, -1, false, 0⟩ (k + j)) := HJ.out.born HT.out.1 HT.out.2 hr4 hg4 hv4 hb4
              have HB4 : Hid (Bo wb w4 g S7 g2 v7 R7 (k + j)) := (HJ.out.below HT.out.2.base).below hb4
              clear hr4 hg4 hv4 hb4 HCR HT
              have HSH : Hid _ := shows_any7 wc w4 g3 T3 g4 v4 _ (k + j) HN4.out (by omega)
              go_wp2_with fail
              refine Calls.mono HSH.out ?_
              rintro e w5 ⟨rfl, hb5⟩
              have HB5 : Hid _ := HB4.out.below hb5
              have HSH2 : Hid _ := shows_any7 wb w5 g S7 g2 v7 R7 (k + j) HB5.out (by omega)
              clear hb5 HSH HN4 HB4
              go_wp2_with fail
              refine Calls.mono HSH2.out ?_
              rintro e w6 ⟨rfl, hb6⟩
              have HBQ : Hid (Below wb.heap.size wb w6) := HB5.out.sys.base.trans (hb6.mono HB5.out.sys.base.size)
              have HBZ : Hid (Below w9.heap.size w9 w6) := HWB.out.trans (HBQ.out.mono HWB.out.size)
              clear hb6 HSH2 HB5 HJ HBQ HBR
              go_wp2_with fail
              refine Calls.mono (awake_any w6) ?_
              rintro e w7 ⟨rfl, hb7⟩
              have HBY : Hid (Below w9.heap.size w9 w7) := HBZ.out.trans (hb7.mono HBZ.out.size)
              clear hb7
              go_wp2_with fail
              go_ret
              exact ⟨rfl, HBY.out⟩
    · have s3 : (n3 : Int) > 20 := by omega
      go_wp2_with fail
      refine Calls.mono (awake_any w9) ?_
      rintro e w1 ⟨rfl, hb1⟩
      have HB1 : Hid (Below w9.heap.size w9 w1) := hb1
      clear hb1
      go_wp2_with fail
      go_ret
      exact ⟨rfl, HB1.out⟩
  · have s1 : (n1 : Int) > 20 := by omega
    go_wp2_with fail
    refine Calls.mono (awake_any w9) ?_
    rintro e w1 ⟨rfl, hb1⟩
    have HB1 : Hid (Below w9.heap.size w9 w1) := hb1
    clear hb1
    go_wp2_with fail
    go_ret
    exact ⟨rfl, HB1.out⟩
end Go.Proofs.Ytlapnnkahijikaa
