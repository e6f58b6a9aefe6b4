/- coraclelaw8.WalCrash: its walk. -/
import Derived.Test.YtlapnnkahijikaaDoorZW9
import Derived.Test.YtlapnnkahijikaaDoorZB
namespace Go.Proofs.YtlapnnkahijikaaDoor
open Go.ChangeShapes Go.WideShapes Go.ChangeAt Go.RowKit Go.Lib

theorem Turns.at2 {w : World} {a : Option Addr} {L : List Turn} (h : Turns w a L) {k : Nat} (hk : k < L.length) : ∃ b o, a = some ⟨b, o, none⟩ ∧ b < w.heap.size ∧ w.cell? ⟨b, o + k * 3, none⟩ = some (.int .i64 L[k].k) ∧ w.cell? ⟨b, o + k * 3 + 1, none⟩ = some (.int .i64 L[k].n) ∧ w.cell? ⟨b, o + k * 3 + 2, none⟩ = some (.int .i64 L[k].m) := by
  rcases h with h | ⟨b, o, ha, hc⟩
  · subst h; simp at hk
  · have := hc k L[k] (List.getElem?_eq_getElem hk)
    exact ⟨b, o, ha, World.block_lt_of_cell? w _ this.1, this⟩
theorem int_hi {k : Int} (h : (Lit.int .i64 k).wf = true) : k ≤ 9223372036854775807 := by
  have := bounds_i64 h
  omega
theorem AllW.snoc {w : World} {xs : List Value} {rs : List (List (BitVec 8))} {x : Value} {r : List (BitVec 8)} (h : AllW w xs rs) (hx : Bw w x r) : AllW w (xs ++ [x]) (rs ++ [r]) := by
  refine ⟨by simp [h.1], fun i y hy => ?_⟩
  by_cases hi : i < xs.length
  · rw [List.getElem?_append_left hi] at hy
    rw [List.getD_eq_getElem?_getD, List.getElem?_append_left (by rw [← h.1]; exact hi), ← List.getD_eq_getElem?_getD]
    exact h.2 i y hy
  · obtain rfl : i = xs.length := by
      have := (List.getElem?_eq_some_iff.1 hy).1
      simp at this; omega
    have e1 : y = x := by simpa using hy.symm
    rw [e1, h.1]
    simpa using hx
/-- A mark: the first of two alike. -/
def PhA : Prop := True
/-- A state of the turns. -/
def Alive (w wr : World) (f : Nat) (S : FS) (l : Nat) (X Z : List (List (BitVec 8))) (m : Nat) : Prop := Lq w wr f S l ⟨#[119]⟩ X [] m ∨ Lz w wr f S l ⟨#[119]⟩ X Z [] m
set_option maxRecDepth 100000 in
set_option maxHeartbeats 4000000 in
theorem wcrash_any (a1 a2 a3 : Option Addr) (n1 c1 n2 c2 n3 c3 : Nat) (L : List Turn) (cut again : Int) (P2 P3 : List Int) (w : World) (hK : Kw w) (hL : Turns w a1 L) (h1 : L.length = n1)
    (hc0 : cut ≤ 9223372036854775807) (hz2 : Ints w a2 P2) (hn2 : P2.length = n2) (hc2 : n2 ≤ c2) (hm2 : c2 ≤ maxLen) (hg0 : again ≤ 9223372036854775807) (hz3 : Ints w a3 P3) (hn3 : P3.length = n3) (hc3 : n3 ≤ c3) (hm3 : c3 ≤ maxLen) :
    Calls Tryd.prog 3 #[.slice a1 n1 c1, .int .i64 cut, .slice a2 n2 c2, .int .i64 again, .slice a3 n3 c3] w fun e w' => e = .returned (.bool true) ∧ Below w.heap.size w w' := by
  have HK : Hid (Kw w) := hK
  have HT : Hid (Turns w a1 L) := hL
  have HN1 : Hid (n1 = L.length) := h1.symm
  have HP2 : Hid (Ints w a2 P2 ∧ P2.length = n2 ∧ n2 ≤ c2 ∧ c2 ≤ maxLen) := ⟨hz2, hn2, hc2, hm2⟩
  have HP3 : Hid (Ints w a3 P3 ∧ P3.length = n3 ∧ n3 ≤ c3 ∧ c3 ≤ maxLen) := ⟨hz3, hn3, hc3, hm3⟩
  have HCU : Hid (cut ≤ 9223372036854775807 ∧ again ≤ 9223372036854775807) := ⟨hc0, hg0⟩
  clear hK hL h1 hz2 hn2 hc2 hm2 hz3 hn3 hc3 hm3 hc0 hg0
  by_cases hsz : n1 ≤ 25 ∧ 0 ≤ cut ∧ 0 ≤ again ∧ n2 ≤ 5 ∧ n3 ≤ 5
  · obtain ⟨g1, g2, g3, g4, g5⟩ := hsz
    have g1' : ¬ (n1 : Int) > 25 := by omega
    have g2' : ¬ cut < 0 := by omega
    have g3' : ¬ again < 0 := by omega
    have g4' : ¬ (n2 : Int) > 5 := by omega
    have g5' : ¬ (n3 : Int) > 5 := by omega
    go_enter Tryd.func3, Tryd.ntmps3
    go_wp2_with fail
    refine Calls.mono (new_lg w) ?_
    rintro e w1 ⟨f, S1, rfl, hs1, hg1, hl1, hL1⟩
    have HOP : Hid (Calls Tryd.prog 6 #[.pointer (some ⟨f, 0, none⟩), .string ⟨#[119]⟩] w1 fun e w' => ∃ l, e = .returned (.tuple #[.pointer (some ⟨l, 0, none⟩), .int .i64 0]) ∧ w1.heap.size ≤ l ∧ LgStep w w1 f S1 l ⟨#[119]⟩ (([] : List (Nat × List Value)).map Prod.fst) [] [] 4 w') :=
      lg_open (X := []) (t := []) (s := 0) HK.out hs1 hg1 hl1 (by omega) nameL_w (fun r hr => by cases hr) firstR_nil (by rw [hL1]; rfl) (by simp [frs])
    clear hs1 hg1 hl1 hL1
    go_wp2_with fail
    refine Calls.mono HOP.out ?_
    rintro e w2 ⟨la, rfl, _, S2, hL2, _, _⟩
    have HL2 : Hid (Lq w w2 f S2 la ⟨#[119]⟩ [] [] 4) := hL2.lq
    clear hL2 HOP
    go_wp2_with fail
    refine Calls.mono (lq_cut HL2.out cut g2 HCU.out.1) ?_
    rintro e w3 ⟨rfl, S3, hL3, _⟩
    have HL3 : Hid (Lq w w3 f S3 la ⟨#[119]⟩ [] [] (4 + 3 * 0)) := hL3
    clear hL3 HL2
    go_wp2_with fail
    go_loopw [14, 15, 16] (fun sv mv i wr => ∃ (k : Nat) (S : FS) (X Z : List (List (BitVec 8))) (ax : Option Addr) (cx : Nat) (az : Option Addr) (cz : Nat), k ≤ n1 ∧ i = .int .i64 k ∧ sv = .slice ax X.length cx ∧ mv = .slice az Z.length cz ∧ Hid (RowsP (Free f S [la] wr) wr (.slice ax X.length cx) X) ∧ Hid (RowsP (Free f S [la] wr) wr (.slice az Z.length cz) Z) ∧ X.length ≤ k + 4 ∧ (∀ r ∈ X, r.length ≤ 399) ∧ Z.length ≤ k + 4 ∧ (∀ r ∈ Z, r.length ≤ 399) ∧ Hid (Alive w wr f S la X Z (4 + 3 * k))) (fun _ _ i _ => n1 - (intOf i).toNat)
    case atStart => exact ⟨0, S3, [], [], none, 0, none, 0, Nat.zero_le _, rfl, rfl, rfl, RowsP.nil _ _, RowsP.nil _ _, Nat.zero_le _, (fun r hr => by cases hr), Nat.zero_le _, (fun r hr => by cases hr), .inl HL3.out⟩
    case round =>
      obtain ⟨k, S, X, Z, ax, cx, az, cz, hk, rfl, rfl, rfl, HX, HZ, hXl, hXs, hZl, hZs, HLL⟩ := hrel
      clear HL3
      have hXs1 : ∀ r ∈ X, r.length ≤ 1048576 := fun r hr => by have := hXs r hr; omega
      have hZs1 : ∀ r ∈ Z, r.length ≤ 1048576 := fun r hr => by have := hZs r hr; omega
      have HSM : Hid ((∀ r ∈ X, r.length ≤ 1048576) ∧ ∀ r ∈ Z, r.length ≤ 1048576) := ⟨hXs1, hZs1⟩
      clear hXs1 hZs1
      rcases HLL.out with hq | hz
      · have HQ : Hid (Lq w wr f S la ⟨#[119]⟩ X [] (4 + 3 * k)) := hq
        clear hq HLL
        by_cases hlt : k < n1
        · have e0 : (0 : Int) ≤ (k : Int) := by omega
          have e1 : (k : Int) < (n1 : Int) := by omega
          have hkL : k < L.length := by rw [← HN1.out]; exact hlt
          obtain ⟨ba, oa, haa, halt, d0, d1, d2⟩ := HT.out.at2 hkL
          obtain ⟨ta, hta⟩ : ∃ t, t = L[k] := ⟨_, rfl⟩
          rw [← hta] at d0 d1 d2
          subst haa
          have HDA : Hid (w.cell? ⟨ba, oa + k * 3, none⟩ = some (.int .i64 ta.k) ∧ w.cell? ⟨ba, oa + k * 3 + 1, none⟩ = some (.int .i64 ta.n) ∧ w.cell? ⟨ba, oa + k * 3 + 2, none⟩ = some (.int .i64 ta.m)) := ⟨d0, d1, d2⟩
          clear d0 d1 d2 hta hkL
          obtain ⟨pk, pn, pm⟩ := ta
          have f0 := cell_below HQ.out.sys.base HDA.out.1
          have f1 := cell_below HQ.out.sys.base HDA.out.2.1
          have f2 := cell_below HQ.out.sys.base HDA.out.2.2
          have hsmX := thenR_small (X := X) (i := k) pk pn pm hXl hXs
          have hna := lq_now HK.out HQ.out (by omega) nameL_w (by omega) hXs pk pn pm
          have HNA : Hid (Calls Tryd.prog 9 #[.pointer (some ⟨la, 0, none⟩), .agg #[.int .i64 pk, .int .i64 pn, .int .i64 pm]] wr fun e w' => ∃ S', GrB f [la] S S' wr w' ∧ ((e = .returned (.int .i64 0) ∧ Lq w w' f S' la ⟨#[119]⟩ (thenR X pk pn pm) [] (4 + 3 * k + 3)) ∨ (e = .returned (.int .i64 7) ∧ Lz w w' f S' la ⟨#[119]⟩ X (thenR X pk pn pm) [] (4 + 3 * k + 3)))) := hna
          have HXS : Hid ((thenR X pk pn pm).length ≤ k + 1 + 4 ∧ ∀ r ∈ thenR X pk pn pm, r.length ≤ 399) := hsmX
          clear hna hsmX HZ
          go_wp2_with fail
          refine Calls.mono (dead_any la f ⟨#[119]⟩ _ false wr HQ.out.sys.blk) ?_
          rintro e wd ⟨rfl, rfl⟩
          go_wp2_with fail
          refine Calls.mono HNA.out ?_
          rintro e wa1 ⟨Sa, hGa, ⟨rfl, hLa⟩ | ⟨rfl, hLa⟩⟩
          · have HLa : Hid (Lq w wa1 f Sa la ⟨#[119]⟩ (thenR X pk pn pm) [] (4 + 3 * k + 3)) := hLa
            have HXa : Hid (RowsP (Free f Sa [la] wa1) wa1 (.slice ax X.length cx) X) := HX.out.step hGa
            clear hLa hGa HNA f0 f1 f2 HQ HX
            have f0 := cell_below HLa.out.sys.base HDA.out.1
            have f1 := cell_below HLa.out.sys.base HDA.out.2.1
            have f2 := cell_below HLa.out.sys.base HDA.out.2.2
            have HTA : Hid (Calls Tryd.prog 10 #[.slice ax X.length cx, .agg #[.int .i64 pk, .int .i64 pn, .int .i64 pm]] wa1 fun e w' => ∃ v', e = .returned v' ∧ RowsP (fun j => Free f Sa [la] wa1 j ∨ (wa1.heap.size ≤ j ∧ j < w'.heap.size)) w' v' (thenR X pk pn pm) ∧ Below wa1.heap.size wa1 w') := then_any _ _ _ pk pn pm wa1 HXa.out (by omega)
            go_wp2_with fail
            refine Calls.mono HTA.out ?_
            rintro e wa2 ⟨xva, rfl, hxa, hba⟩
            obtain ⟨axa, cxa, hxva⟩ := hxa.shape
            subst hxva
            have HLd : Hid (Lq w wa2 f Sa la ⟨#[119]⟩ (thenR X pk pn pm) [] (4 + 3 * k + 3)) := HLa.out.below hba
            have HXd : Hid (RowsP (Free f Sa [la] wa2) wa2 (.slice axa (thenR X pk pn pm).length cxa) (thenR X pk pn pm)) := RowsP.fresh HLa.out.sys hba hxa
            have hXl' := HXS.out.1
            have hXs' := HXS.out.2
            clear hxa hba HTA HLa HXa f0 f1 f2 HXS
            generalize thenR X pk pn pm = X9 at *
            go_wp2_with fail
            go_roundw
            case rel => exact ⟨k + 1, Sa, X9, X9, axa, cxa, axa, cxa, by omega, by go_num, rfl, rfl, HXd.out, HXd.out, by omega, hXs', by omega, hXs', .inl HLd.out⟩
            case measure => simp [intOf]; omega
          · have HLa : Hid (Lz w wa1 f Sa la ⟨#[119]⟩ X (thenR X pk pn pm) [] (4 + 3 * k + 3)) := hLa
            have HXa : Hid (RowsP (Free f Sa [la] wa1) wa1 (.slice ax X.length cx) X) := HX.out.step hGa
            clear hLa hGa HNA f0 f1 f2 HQ HX
            obtain ⟨sz, hsz, _⟩ := HLa.out
            have f0 := cell_below hsz.base HDA.out.1
            have f1 := cell_below hsz.base HDA.out.2.1
            have f2 := cell_below hsz.base HDA.out.2.2
            have HSY : Hid (Sys w wa1 f Sa [(la, lgC f ⟨#[119]⟩ sz true)]) := hsz
            clear hsz
            have HTA : Hid (Calls Tryd.prog 10 #[.slice ax X.length cx, .agg #[.int .i64 pk, .int .i64 pn, .int .i64 pm]] wa1 fun e w' => ∃ v', e = .returned v' ∧ RowsP (fun j => Free f Sa [la] wa1 j ∨ (wa1.heap.size ≤ j ∧ j < w'.heap.size)) w' v' (thenR X pk pn pm) ∧ Below wa1.heap.size wa1 w') := then_any _ _ _ pk pn pm wa1 HXa.out (by omega)
            go_wp2_with fail
            refine Calls.mono HTA.out ?_
            rintro e wa2 ⟨xva, rfl, hxa, hba⟩
            obtain ⟨axa, cxa, hxva⟩ := hxa.shape
            subst hxva
            have HLd : Hid (Lz w wa2 f Sa la ⟨#[119]⟩ X (thenR X pk pn pm) [] (4 + 3 * k + 3)) := HLa.out.below hba
            have HSZ : Hid (Sys w wa2 f Sa [(la, lgC f ⟨#[119]⟩ sz true)]) := HSY.out.below hba
            have HZd : Hid (RowsP (Free f Sa [la] wa2) wa2 (.slice axa (thenR X pk pn pm).length cxa) (thenR X pk pn pm)) := RowsP.fresh HSY.out hba hxa
            have HXd : Hid (RowsP (Free f Sa [la] wa2) wa2 (.slice ax X.length cx) X) := HXa.out.step (GrB.of_below hba)
            have hXl' := HXS.out.1
            have hXs' := HXS.out.2
            clear hxa hba HTA HLa HXa f0 f1 f2 HXS HSY
            generalize thenR X pk pn pm = Z9 at *
            go_wp2_with fail
            refine Calls.mono (dead_any la f ⟨#[119]⟩ _ true wa2 HSZ.out.blk) ?_
            rintro e wd ⟨rfl, rfl⟩
            go_wp2_with fail
            refine Calls.mono (lz_append HK.out HLd.out (by omega) nameL_w) ?_
            rintro e wa4 ⟨rfl, Sb, hLb, hGb⟩
            have HLe : Hid (Lz w wa4 f Sb la ⟨#[119]⟩ X Z9 [] (4 + 3 * k + 3)) := hLb
            have HZe : Hid (RowsP (Free f Sb [la] wa4) wa4 (.slice axa Z9.length cxa) Z9) := HZd.out.step (hGb 0)
            have HXe : Hid (RowsP (Free f Sb [la] wa4) wa4 (.slice ax X.length cx) X) := HXd.out.step (hGb 0)
            clear hLb hGb HLd HZd HXd HSZ
            go_wp2_with fail
            go_roundw
            case rel => exact ⟨k + 1, Sb, X, Z9, ax, cx, axa, cxa, by omega, by go_num, rfl, rfl, HXe.out, HZe.out, by omega, hXs, by omega, hXs', .inr HLe.out⟩
            case measure => simp [intOf]; omega
        · obtain rfl : k = n1 := by omega
          have e1 : ¬ (k : Int) < (k : Int) := by omega
          have hfX : (frs X).length ≤ 440 * 40 := by
            have h1 := frs_bound hXs
            have h2 : (399 + 41) * X.length ≤ 440 * 40 := Nat.mul_le_mul_left _ (by omega)
            omega
          have HEN : Hid (Good S.abs (4 + 3 * k) ∧ Ends S.abs ⟨#[119]⟩ X X) := ⟨HQ.out.good, (HQ.out.file.torn (by omega)).ends⟩
          have HSYS : Hid (Sys w wr f S [(la, lgC f ⟨#[119]⟩ (frs X).length false)]) := HQ.out.sys
          clear hfX HQ HZ
          go_wp2_with fail
          refine Calls.mono (dead_any la f ⟨#[119]⟩ _ false wr HSYS.out.blk) ?_
          rintro e wd ⟨rfl, rfl⟩
          go_wp2_with fail
          obtain ⟨wb, hwb⟩ : ∃ x, x = wd := ⟨_, rfl⟩
          subst hwb
          refine Calls.mono (lz_crash HSYS.out HEN.out.1 HEN.out.2 (by omega) a2 n2 c2 P2 (HP2.out.1.below HSYS.out.base) HP2.out.2.1 HP2.out.2.2.1 HP2.out.2.2.2) ?_
          rintro e wc ⟨g, T, rfl, hor⟩
          obtain ⟨Y, hY, htq⟩ : ∃ Y, (Y = X ∨ Y = X) ∧ Tq wb wc g T ⟨#[119]⟩ Y [] (4 + 3 * k) := by
            rcases hor with h | h
            · exact ⟨_, .inl rfl, h⟩
            · exact ⟨_, .inr rfl, h⟩
          have HY : Hid (Y = X ∨ Y = X) := hY
          have HYS : Hid (∀ r ∈ Y, r.length ≤ 1048576) := by
            rcases hY with e | e
            · rw [e]; exact HSM.out.1
            · rw [e]; exact HSM.out.1
          have HFY : Hid ((frs Y).length ≤ 440 * 40 ∧ Y.length ≤ 40) := by
            rcases hY with e | e
            · have h1 := frs_bound hXs
              have h2 : (399 + 41) * X.length ≤ 440 * 40 := Nat.mul_le_mul_left _ (by omega)
              rw [e]; exact ⟨by omega, by omega⟩
            · have h1 := frs_bound hXs
              have h2 : (399 + 41) * X.length ≤ 440 * 40 := Nat.mul_le_mul_left _ (by omega)
              rw [e]; exact ⟨by omega, by omega⟩
          have HT1 : Hid (Tq wb wc g T ⟨#[119]⟩ Y [] (4 + 3 * k)) := htq
          have HBW : Hid (Below w.heap.size w wb) := HSYS.out.base
          have HKW : Hid (Kw wb) := HBW.out |> fun h => HK.out.below h HK.out.pos
          have HSX : Hid (RowsB wb (.slice ax X.length cx) X) := HX.out.rows
          have HSZ : Hid (RowsB wb (.slice ax X.length cx) X) := HX.out.rows
          clear hY htq hor HSYS HEN HX
          go_wp2_with fail
          refine Calls.mono (tq_cut HT1.out again g3 HCU.out.2) ?_
          rintro e wc2 ⟨rfl, T2, hT2⟩
          have HT2 : Hid (Tq wb wc2 g T2 ⟨#[119]⟩ Y [] (4 + 3 * k)) := hT2
          clear hT2 HT1
          go_wp2_with fail
          refine Calls.mono (tq_open HKW.out HT2.out (by omega) nameL_w HYS.out) ?_
          rintro e wc3 ⟨pp, px, T3, Bl3, rfl, hT3⟩
          have HT3 : Hid (Tq wb wc3 g T3 ⟨#[119]⟩ Y Bl3 (4 + 3 * k + 4)) := hT3
          clear hT3 HT2
          go_wp2_with fail
          refine Calls.mono (tq_crash HT3.out (by omega) a3 n3 c3 P3 ((HP3.out.1.below HBW.out).below HT3.out.sys.base) HP3.out.2.1 HP3.out.2.2.1 HP3.out.2.2.2) ?_
          rintro e wc4 ⟨g9, T4, rfl, hT4, hlv4⟩
          have HB4 : Hid (Below wb.heap.size wb wc3) := HT3.out.sys.base
          have HK3 : Hid (Kw wc3) := HT3.out.sys.kw HKW.out
          have HSX3 : Hid (RowsB wc3 (.slice ax X.length cx) X) := HSX.out.below HB4.out
          have HSZ3 : Hid (RowsB wc3 (.slice ax X.length cx) X) := HSZ.out.below HB4.out
          have hop := tq_lg HK3.out hT4 hlv4 (by omega) nameL_w HYS.out
          have HOP : Hid (Calls Tryd.prog 6 #[.pointer (some ⟨g9, 0, none⟩), .string ⟨#[119]⟩] wc4 fun e w' => ∃ l, e = .returned (.tuple #[.pointer (some ⟨l, 0, none⟩), .int .i64 0]) ∧ wc4.heap.size ≤ l ∧ LgStep wc3 wc4 g9 T4 l ⟨#[119]⟩ (([] : List (Nat × List Value)).map Prod.fst) Y [] (4 + 3 * k + 4 + 4) w') := hop
          clear hop hT4 hlv4 HT3
          go_wp2_with fail
          refine Calls.mono HOP.out ?_
          rintro e wc5 ⟨lb, rfl, _, T5, hL5, _, _⟩
          have HL5 : Hid (Lg wc3 wc5 g9 T5 lb ⟨#[119]⟩ Y [] (4 + 3 * k + 4 + 4)) := hL5
          clear hL5 HOP
          have HSX5 : Hid (RowsB wc5 (.slice ax X.length cx) X) := HSX3.out.below HL5.out.sys.base
          have HSZ5 : Hid (RowsB wc5 (.slice ax X.length cx) X) := HSZ3.out.below HL5.out.sys.base
          clear HSX HSZ
          by_cases hYX : Y = X
          · subst hYX
            have HA1 : Hid (Calls Tryd.prog 13 #[.pointer (some ⟨lb, 0, none⟩), .slice ax Y.length cx] wc5 fun e w' => e = .returned (.bool true) ∧ Below wc5.heap.size wc5 w') := by
              have := lg_has HK3.out HL5.out _ Y HSX5.out (by omega)
              rw [show decide (Y = Y) = true by simp] at this
              exact this
            go_wp2_with fail
            refine Calls.mono HA1.out ?_
            rintro e wd1 ⟨rfl, hb⟩
            have HL6 : Hid (Lg wc3 wd1 g9 T5 lb ⟨#[119]⟩ Y [] (4 + 3 * k + 4 + 4)) := HL5.out.below hb
            have HS6 : Hid (RowsB wd1 (.slice ax Y.length cx) Y) := HSX5.out.below hb
            clear hb HA1 HSX5 HSZ5 HL5
            have HA2 : Hid (Calls Tryd.prog 13 #[.pointer (some ⟨lb, 0, none⟩), .slice ax Y.length cx] wd1 fun e w' => e = .returned (.bool true) ∧ Below wd1.heap.size wd1 w') := by
              have := lg_has HK3.out HL6.out _ Y HS6.out (by omega)
              rw [show decide (Y = Y) = true by simp] at this
              exact this
            go_wp2_with fail
            refine Calls.mono HA2.out ?_
            rintro e wd2 ⟨rfl, hb⟩
            have HL7 : Hid (Lg wc3 wd2 g9 T5 lb ⟨#[119]⟩ Y [] (4 + 3 * k + 4 + 4)) := HL6.out.below hb
            have HS7 : Hid (RowsB wd2 (.slice ax Y.length cx) Y) := HS6.out.below hb
            clear hb HA2 HS6 HL6
            have hop := lg_open (X := Y) (t := []) (s := (frs Y).length) (nm := ⟨#[119]⟩) HK3.out HL7.out.sys HL7.out.good HL7.out.live (by omega) nameL_w HL7.out.small firstR_nil (by rw [HL7.out.file.1, List.append_nil]; rfl) (by rw [List.append_nil]; have := HFY.out; omega)
            have HOP : Hid (Calls Tryd.prog 6 #[.pointer (some ⟨g9, 0, none⟩), .string ⟨#[119]⟩] wd2 fun e w' => ∃ l, e = .returned (.tuple #[.pointer (some ⟨l, 0, none⟩), .int .i64 0]) ∧ wd2.heap.size ≤ l ∧ LgStep wc3 wd2 g9 T5 l ⟨#[119]⟩ [lb] Y [(lb, lgC g9 ⟨#[119]⟩ (frs Y).length false)] (4 + 3 * k + 4 + 4 + 4) w') := hop
            clear hop HL7
            go_wp2_with fail
            refine Calls.mono HOP.out ?_
            rintro e we1 ⟨lc, rfl, _, T6, hL8, _, _⟩
            have HL8 : Hid (Lg wc3 we1 g9 T6 lc ⟨#[119]⟩ Y [(lb, lgC g9 ⟨#[119]⟩ (frs Y).length false)] (4 + 3 * k + 4 + 4 + 4)) := hL8
            have HS8 : Hid (RowsB we1 (.slice ax Y.length cx) Y) := HSX3.out.below hL8.sys.base
            clear hL8 HOP HS7
            have HA4 : Hid (Calls Tryd.prog 13 #[.pointer (some ⟨lc, 0, none⟩), .slice ax Y.length cx] we1 fun e w' => e = .returned (.bool true) ∧ Below we1.heap.size we1 w') := by
              have := lg_has HK3.out HL8.out _ Y HS8.out (by have := HFY.out; omega)
              rw [show decide (Y = Y) = true by simp] at this
              exact this
            go_wp2_with fail
            refine Calls.mono HA4.out ?_
            rintro e we2 ⟨rfl, hb⟩
            have HL9 : Hid (Lg wc3 we2 g9 T6 lc ⟨#[119]⟩ Y [(lb, lgC g9 ⟨#[119]⟩ (frs Y).length false)] (4 + 3 * k + 4 + 4 + 4)) := HL8.out.below hb
            clear hb HA4 HS8 HL8
            have kc := fun (w : World) (C : Array Value) (n c : Nat) => Lib.run_convert_bytes_const (P := Tryd.prog) w 40 5 C n c Tryd.underlying40 Tryd.underlying5
            go_wp2_with fail
            clear kc
            generalize hwf : World.alloc we2 _ = wf1
            have HC5 : Hid (Bs wf1 (.slice (some ⟨we2.heap.size, 0, none⟩) 2 2) onC) := bs_on fun j => by rw [← hwf]; exact World.cell?_alloc_mark _ _ _ _ _
            have HB5 : Hid (Below we2.heap.size we2 wf1) := by rw [← hwf]; exact (Below.refl _ _).alloc (Nat.le_refl _) _
            clear hwf
            have hap := lg_append HK3.out (HL9.out.below HB5.out) (by omega) nameL_w _ onC (.inl HC5.out) (by decide) (by have h1 := onC_len; have h2 := HFY.out; omega)
            have HAP : Hid (Calls Tryd.prog 11 #[.pointer (some ⟨lc, 0, none⟩), .slice (some ⟨we2.heap.size, 0, none⟩) 2 2] wf1 fun e w' => e = .returned (.int .i64 0) ∧ LgStep wc3 wf1 g9 T6 lc ⟨#[119]⟩ [lc, lb] (Y ++ [onC]) [(lb, lgC g9 ⟨#[119]⟩ (frs Y).length false)] (4 + 3 * k + 4 + 4 + 4 + 2) w') := hap
            clear hap HL9
            refine Calls.mono HAP.out ?_
            rintro e wf2 ⟨rfl, T7, hL10, _, _⟩
            have HL10 : Hid (Lg wc3 wf2 g9 T7 lc ⟨#[119]⟩ (Y ++ [onC]) [(lb, lgC g9 ⟨#[119]⟩ (frs Y).length false)] (4 + 3 * k + 4 + 4 + 4 + 2)) := hL10
            obtain ⟨xs, hsx, hax⟩ := HSX3.out.below hL10.sys.base
            have hxl : xs.length = Y.length := hax.1
            have HSX9 : Hid (SrcX wf2 (.slice ax Y.length cx) xs) := hsx
            have HAX9 : Hid (AllW wf2 xs Y) := hax
            have HXN : Hid (xs.length = Y.length) := hxl
            clear hL10 hsx hax hxl HAP HC5 HB5
            have HLN : Hid (([] : List Value).length + xs.length ≤ 100000000 ∧ wf2.heap.size ≤ (wf2.alloc (.cells #[] 40)).heap.size) := ⟨by have h1 := HXN.out; have h2 := HFY.out; simp; omega, by simp⟩
            have kc := fun (w : World) (C : Array Value) (n c : Nat) => Lib.run_convert_bytes_const (P := Tryd.prog) w 40 5 C n c Tryd.underlying40 Tryd.underlying5
            have HPA : PhA := trivial
            go_wp2_with (first
              | (at_builtin; have hpa : PhA := (by assumption); clear hpa HPA; refine wpList_append_x rfl _ _ rfl wf2.heap.size _ [] rfl (OwnX.lit0 wf2) _ xs rfl (HSX9.out.below ((Below.refl _ _).alloc (Nat.le_refl _) _)) HAX9.out.cells HLN.out.1 HLN.out.2 ?_; intro v3 w3 HO3 HG3 _; rw [List.nil_append] at HO3; have HW3 : Hid (Below wf2.heap.size wf2 w3) := (((Below.refl wf2.heap.size wf2).alloc (Nat.le_refl _) _).grown HG3.out (by simp) fun j hj => (by (injection hj with hj; simp only at hj; omega))); clear HG3)
              | (at_builtin; refine wpList_append_x rfl _ _ rfl wf2.heap.size _ xs rfl (HO3.out.below (((Below.refl _ _).alloc (Nat.le_refl _) _).alloc (by simp) _)) _ [.slice (some ⟨w3.heap.size, 0, none⟩) 2 2] rfl (srcX_lit1 _ _ _ (by simp)) (by simp [Value.oneCell']) (by have h1 := HXN.out; have h2 := HFY.out; simp; omega) (by have h1 := HW3.out.size; simp; omega) ?_; intro v6 w6 HO6 HG6 _; obtain ⟨a6, c6, hv6⟩ := HO6.out.shape; obtain ⟨n6, hn6⟩ : ∃ n, n = (xs ++ [Value.slice (some ⟨w3.heap.size, 0, none⟩) 2 2]).length := ⟨_, rfl⟩; rw [← hn6] at hv6; clear hn6; subst hv6))
            clear kc
            generalize hw5 : World.alloc (World.alloc w3 _) _ = w5 at HG6
            have HC6 : Hid (Bs w5 (.slice (some ⟨w3.heap.size, 0, none⟩) 2 2) onC ∧ Below wf2.heap.size wf2 w5) := by
              rw [← hw5]
              exact ⟨(bs_on fun j => World.cell?_alloc_mark _ _ _ _ _).below ((Below.refl _ _).alloc (Nat.le_refl _) _), (HW3.out.alloc HW3.out.size _).alloc (by have := HW3.out.size; simp; omega) _⟩
            have hs5 : w3.heap.size < w5.heap.size := by rw [← hw5]; simp; omega
            have HB6 : Hid (Below wf2.heap.size wf2 w6) := HC6.out.2.grown HG6.out (by have := HC6.out.2.size; omega) fun z e => (HO3.out.lt z e).1
            have HR6 : Hid (RowsB w6 (.slice a6 n6 c6) (Y ++ [onC])) := ⟨_, HO6.out.src, (HAX9.out.below HB6.out).snoc (.inl (HC6.out.1.same fun z e => HG6.out.5 z (by injection e with e; simp only at e; omega) fun e2 => by have h1 := (HO3.out.lt z e2.symm).2; injection e with e; simp only at e; omega))⟩
            have HL11 : Hid (Lg wc3 w6 g9 T7 lc ⟨#[119]⟩ (Y ++ [onC]) [(lb, lgC g9 ⟨#[119]⟩ (frs Y).length false)] (4 + 3 * k + 4 + 4 + 4 + 2)) := HL10.out.below HB6.out
            have HA6 : Hid (Calls Tryd.prog 13 #[.pointer (some ⟨lc, 0, none⟩), .slice a6 n6 c6] w6 fun e w' => e = .returned (.bool true) ∧ Below w6.heap.size w6 w') := by
              have := lg_has HK3.out HL11.out _ (Y ++ [onC]) HR6.out (by have := HFY.out; simp; omega)
              rw [show decide (Y ++ [onC] = Y ++ [onC]) = true by simp] at this
              exact this
            clear hw5 hs5 HG6 HO6 HO3 HW3 HC6 HB6 HR6 HL10 HAX9 HSX9 HXN HLN
            go_wp2_with fail
            refine Calls.mono HA6.out ?_
            rintro e w7 ⟨rfl, hb7⟩
            have HB7 : Hid (Below wc3.heap.size wc3 w7) := HL11.out.sys.base.trans (hb7.mono HL11.out.sys.base.size)
            clear hb7 HA6 HL11
            go_wp2_with fail
            refine Calls.mono (wawake_any w7 (HK3.out.below HB7.out HK3.out.pos)) ?_
            rintro e w8 ⟨rfl, hb8⟩
            have HBZ : Hid (Below w.heap.size w w8) := HBW.out.trans ((HB4.out.trans ((HB7.out.trans (hb8.mono HB7.out.size)).mono HB4.out.size)).mono HBW.out.size)
            clear hb8
            go_wp2_with fail
            go_ret
            exact ⟨rfl, HBZ.out⟩
          · skip
            exact absurd (HY.out.elim id id) hYX
      · have HZZ : Hid (Lz w wr f S la ⟨#[119]⟩ X Z [] (4 + 3 * k)) := hz
        clear hz HLL
        obtain ⟨sz, hs0, hsz, hgd, hen⟩ := HZZ.out
        have HEN : Hid (Good S.abs (4 + 3 * k) ∧ Ends S.abs ⟨#[119]⟩ X Z) := ⟨hgd, hen⟩
        have HSYS : Hid (Sys w wr f S [(la, lgC f ⟨#[119]⟩ sz true)]) := hs0
        clear hs0 hsz hgd hen HZZ
        have hk25 : k ≤ 25 := by omega
        by_cases hlt : k < n1
        · have e1 : (k : Int) < (n1 : Int) := by omega
          go_wp2_with fail
          refine Calls.mono (dead_any la f ⟨#[119]⟩ _ true wr HSYS.out.blk) ?_
          rintro e wd ⟨rfl, rfl⟩
          go_wp2_with fail
          refine Calls.mono (dead_any la f ⟨#[119]⟩ _ true _ HSYS.out.blk) ?_
          rintro e wd ⟨rfl, rfl⟩
          go_wp2_with fail
          obtain ⟨wb, hwb⟩ : ∃ x, x = wd := ⟨_, rfl⟩
          subst hwb
          refine Calls.mono (lz_crash HSYS.out HEN.out.1 HEN.out.2 (by omega) a2 n2 c2 P2 (HP2.out.1.below HSYS.out.base) HP2.out.2.1 HP2.out.2.2.1 HP2.out.2.2.2) ?_
          rintro e wc ⟨g, T, rfl, hor⟩
          obtain ⟨Y, hY, htq⟩ : ∃ Y, (Y = X ∨ Y = Z) ∧ Tq wb wc g T ⟨#[119]⟩ Y [] (4 + 3 * k) := by
            rcases hor with h | h
            · exact ⟨_, .inl rfl, h⟩
            · exact ⟨_, .inr rfl, h⟩
          have HY : Hid (Y = X ∨ Y = Z) := hY
          have HYS : Hid (∀ r ∈ Y, r.length ≤ 1048576) := by
            rcases hY with e | e
            · rw [e]; exact HSM.out.1
            · rw [e]; exact HSM.out.2
          have HFY : Hid ((frs Y).length ≤ 440 * 40 ∧ Y.length ≤ 40) := by
            rcases hY with e | e
            · have h1 := frs_bound hXs
              have h2 : (399 + 41) * X.length ≤ 440 * 40 := Nat.mul_le_mul_left _ (by omega)
              rw [e]; exact ⟨by omega, by omega⟩
            · have h1 := frs_bound hZs
              have h2 : (399 + 41) * Z.length ≤ 440 * 40 := Nat.mul_le_mul_left _ (by omega)
              rw [e]; exact ⟨by omega, by omega⟩
          have HT1 : Hid (Tq wb wc g T ⟨#[119]⟩ Y [] (4 + 3 * k)) := htq
          have HBW : Hid (Below w.heap.size w wb) := HSYS.out.base
          have HKW : Hid (Kw wb) := HBW.out |> fun h => HK.out.below h HK.out.pos
          have HSX : Hid (RowsB wb (.slice ax X.length cx) X) := HX.out.rows
          have HSZ : Hid (RowsB wb (.slice az Z.length cz) Z) := HZ.out.rows
          clear hY htq hor HSYS HEN HX
          go_wp2_with fail
          refine Calls.mono (tq_cut HT1.out again g3 HCU.out.2) ?_
          rintro e wc2 ⟨rfl, T2, hT2⟩
          have HT2 : Hid (Tq wb wc2 g T2 ⟨#[119]⟩ Y [] (4 + 3 * k)) := hT2
          clear hT2 HT1
          go_wp2_with fail
          refine Calls.mono (tq_open HKW.out HT2.out (by omega) nameL_w HYS.out) ?_
          rintro e wc3 ⟨pp, px, T3, Bl3, rfl, hT3⟩
          have HT3 : Hid (Tq wb wc3 g T3 ⟨#[119]⟩ Y Bl3 (4 + 3 * k + 4)) := hT3
          clear hT3 HT2
          go_wp2_with fail
          refine Calls.mono (tq_crash HT3.out (by omega) a3 n3 c3 P3 ((HP3.out.1.below HBW.out).below HT3.out.sys.base) HP3.out.2.1 HP3.out.2.2.1 HP3.out.2.2.2) ?_
          rintro e wc4 ⟨g9, T4, rfl, hT4, hlv4⟩
          have HB4 : Hid (Below wb.heap.size wb wc3) := HT3.out.sys.base
          have HK3 : Hid (Kw wc3) := HT3.out.sys.kw HKW.out
          have HSX3 : Hid (RowsB wc3 (.slice ax X.length cx) X) := HSX.out.below HB4.out
          have HSZ3 : Hid (RowsB wc3 (.slice az Z.length cz) Z) := HSZ.out.below HB4.out
          have hop := tq_lg HK3.out hT4 hlv4 (by omega) nameL_w HYS.out
          have HOP : Hid (Calls Tryd.prog 6 #[.pointer (some ⟨g9, 0, none⟩), .string ⟨#[119]⟩] wc4 fun e w' => ∃ l, e = .returned (.tuple #[.pointer (some ⟨l, 0, none⟩), .int .i64 0]) ∧ wc4.heap.size ≤ l ∧ LgStep wc3 wc4 g9 T4 l ⟨#[119]⟩ (([] : List (Nat × List Value)).map Prod.fst) Y [] (4 + 3 * k + 4 + 4) w') := hop
          clear hop hT4 hlv4 HT3
          go_wp2_with fail
          refine Calls.mono HOP.out ?_
          rintro e wc5 ⟨lb, rfl, _, T5, hL5, _, _⟩
          have HL5 : Hid (Lg wc3 wc5 g9 T5 lb ⟨#[119]⟩ Y [] (4 + 3 * k + 4 + 4)) := hL5
          clear hL5 HOP
          have HSX5 : Hid (RowsB wc5 (.slice ax X.length cx) X) := HSX3.out.below HL5.out.sys.base
          have HSZ5 : Hid (RowsB wc5 (.slice az Z.length cz) Z) := HSZ3.out.below HL5.out.sys.base
          clear HSX HSZ
          by_cases hYX : Y = X
          · subst hYX
            have HA1 : Hid (Calls Tryd.prog 13 #[.pointer (some ⟨lb, 0, none⟩), .slice ax Y.length cx] wc5 fun e w' => e = .returned (.bool true) ∧ Below wc5.heap.size wc5 w') := by
              have := lg_has HK3.out HL5.out _ Y HSX5.out (by omega)
              rw [show decide (Y = Y) = true by simp] at this
              exact this
            go_wp2_with fail
            refine Calls.mono HA1.out ?_
            rintro e wd1 ⟨rfl, hb⟩
            have HL6 : Hid (Lg wc3 wd1 g9 T5 lb ⟨#[119]⟩ Y [] (4 + 3 * k + 4 + 4)) := HL5.out.below hb
            have HS6 : Hid (RowsB wd1 (.slice ax Y.length cx) Y) := HSX5.out.below hb
            clear hb HA1 HSX5 HSZ5 HL5
            have HA2 : Hid (Calls Tryd.prog 13 #[.pointer (some ⟨lb, 0, none⟩), .slice ax Y.length cx] wd1 fun e w' => e = .returned (.bool true) ∧ Below wd1.heap.size wd1 w') := by
              have := lg_has HK3.out HL6.out _ Y HS6.out (by omega)
              rw [show decide (Y = Y) = true by simp] at this
              exact this
            go_wp2_with fail
            refine Calls.mono HA2.out ?_
            rintro e wd2 ⟨rfl, hb⟩
            have HL7 : Hid (Lg wc3 wd2 g9 T5 lb ⟨#[119]⟩ Y [] (4 + 3 * k + 4 + 4)) := HL6.out.below hb
            have HS7 : Hid (RowsB wd2 (.slice ax Y.length cx) Y) := HS6.out.below hb
            clear hb HA2 HS6 HL6
            have hop := lg_open (X := Y) (t := []) (s := (frs Y).length) (nm := ⟨#[119]⟩) HK3.out HL7.out.sys HL7.out.good HL7.out.live (by omega) nameL_w HL7.out.small firstR_nil (by rw [HL7.out.file.1, List.append_nil]; rfl) (by rw [List.append_nil]; have := HFY.out; omega)
            have HOP : Hid (Calls Tryd.prog 6 #[.pointer (some ⟨g9, 0, none⟩), .string ⟨#[119]⟩] wd2 fun e w' => ∃ l, e = .returned (.tuple #[.pointer (some ⟨l, 0, none⟩), .int .i64 0]) ∧ wd2.heap.size ≤ l ∧ LgStep wc3 wd2 g9 T5 l ⟨#[119]⟩ [lb] Y [(lb, lgC g9 ⟨#[119]⟩ (frs Y).length false)] (4 + 3 * k + 4 + 4 + 4) w') := hop
            clear hop HL7
            go_wp2_with fail
            refine Calls.mono HOP.out ?_
            rintro e we1 ⟨lc, rfl, _, T6, hL8, _, _⟩
            have HL8 : Hid (Lg wc3 we1 g9 T6 lc ⟨#[119]⟩ Y [(lb, lgC g9 ⟨#[119]⟩ (frs Y).length false)] (4 + 3 * k + 4 + 4 + 4)) := hL8
            have HS8 : Hid (RowsB we1 (.slice ax Y.length cx) Y) := HSX3.out.below hL8.sys.base
            clear hL8 HOP HS7
            have HA4 : Hid (Calls Tryd.prog 13 #[.pointer (some ⟨lc, 0, none⟩), .slice ax Y.length cx] we1 fun e w' => e = .returned (.bool true) ∧ Below we1.heap.size we1 w') := by
              have := lg_has HK3.out HL8.out _ Y HS8.out (by have := HFY.out; omega)
              rw [show decide (Y = Y) = true by simp] at this
              exact this
            go_wp2_with fail
            refine Calls.mono HA4.out ?_
            rintro e we2 ⟨rfl, hb⟩
            have HL9 : Hid (Lg wc3 we2 g9 T6 lc ⟨#[119]⟩ Y [(lb, lgC g9 ⟨#[119]⟩ (frs Y).length false)] (4 + 3 * k + 4 + 4 + 4)) := HL8.out.below hb
            clear hb HA4 HS8 HL8
            have kc := fun (w : World) (C : Array Value) (n c : Nat) => Lib.run_convert_bytes_const (P := Tryd.prog) w 40 5 C n c Tryd.underlying40 Tryd.underlying5
            go_wp2_with fail
            clear kc
            generalize hwf : World.alloc we2 _ = wf1
            have HC5 : Hid (Bs wf1 (.slice (some ⟨we2.heap.size, 0, none⟩) 2 2) onC) := bs_on fun j => by rw [← hwf]; exact World.cell?_alloc_mark _ _ _ _ _
            have HB5 : Hid (Below we2.heap.size we2 wf1) := by rw [← hwf]; exact (Below.refl _ _).alloc (Nat.le_refl _) _
            clear hwf
            have hap := lg_append HK3.out (HL9.out.below HB5.out) (by omega) nameL_w _ onC (.inl HC5.out) (by decide) (by have h1 := onC_len; have h2 := HFY.out; omega)
            have HAP : Hid (Calls Tryd.prog 11 #[.pointer (some ⟨lc, 0, none⟩), .slice (some ⟨we2.heap.size, 0, none⟩) 2 2] wf1 fun e w' => e = .returned (.int .i64 0) ∧ LgStep wc3 wf1 g9 T6 lc ⟨#[119]⟩ [lc, lb] (Y ++ [onC]) [(lb, lgC g9 ⟨#[119]⟩ (frs Y).length false)] (4 + 3 * k + 4 + 4 + 4 + 2) w') := hap
            clear hap HL9
            refine Calls.mono HAP.out ?_
            rintro e wf2 ⟨rfl, T7, hL10, _, _⟩
            have HL10 : Hid (Lg wc3 wf2 g9 T7 lc ⟨#[119]⟩ (Y ++ [onC]) [(lb, lgC g9 ⟨#[119]⟩ (frs Y).length false)] (4 + 3 * k + 4 + 4 + 4 + 2)) := hL10
            obtain ⟨xs, hsx, hax⟩ := HSX3.out.below hL10.sys.base
            have hxl : xs.length = Y.length := hax.1
            have HSX9 : Hid (SrcX wf2 (.slice ax Y.length cx) xs) := hsx
            have HAX9 : Hid (AllW wf2 xs Y) := hax
            have HXN : Hid (xs.length = Y.length) := hxl
            clear hL10 hsx hax hxl HAP HC5 HB5
            have HLN : Hid (([] : List Value).length + xs.length ≤ 100000000 ∧ wf2.heap.size ≤ (wf2.alloc (.cells #[] 40)).heap.size) := ⟨by have h1 := HXN.out; have h2 := HFY.out; simp; omega, by simp⟩
            have kc := fun (w : World) (C : Array Value) (n c : Nat) => Lib.run_convert_bytes_const (P := Tryd.prog) w 40 5 C n c Tryd.underlying40 Tryd.underlying5
            have HPA : PhA := trivial
            go_wp2_with (first
              | (at_builtin; have hpa : PhA := (by assumption); clear hpa HPA; refine wpList_append_x rfl _ _ rfl wf2.heap.size _ [] rfl (OwnX.lit0 wf2) _ xs rfl (HSX9.out.below ((Below.refl _ _).alloc (Nat.le_refl _) _)) HAX9.out.cells HLN.out.1 HLN.out.2 ?_; intro v3 w3 HO3 HG3 _; rw [List.nil_append] at HO3; have HW3 : Hid (Below wf2.heap.size wf2 w3) := (((Below.refl wf2.heap.size wf2).alloc (Nat.le_refl _) _).grown HG3.out (by simp) fun j hj => (by (injection hj with hj; simp only at hj; omega))); clear HG3)
              | (at_builtin; refine wpList_append_x rfl _ _ rfl wf2.heap.size _ xs rfl (HO3.out.below (((Below.refl _ _).alloc (Nat.le_refl _) _).alloc (by simp) _)) _ [.slice (some ⟨w3.heap.size, 0, none⟩) 2 2] rfl (srcX_lit1 _ _ _ (by simp)) (by simp [Value.oneCell']) (by have h1 := HXN.out; have h2 := HFY.out; simp; omega) (by have h1 := HW3.out.size; simp; omega) ?_; intro v6 w6 HO6 HG6 _; obtain ⟨a6, c6, hv6⟩ := HO6.out.shape; obtain ⟨n6, hn6⟩ : ∃ n, n = (xs ++ [Value.slice (some ⟨w3.heap.size, 0, none⟩) 2 2]).length := ⟨_, rfl⟩; rw [← hn6] at hv6; clear hn6; subst hv6))
            clear kc
            generalize hw5 : World.alloc (World.alloc w3 _) _ = w5 at HG6
            have HC6 : Hid (Bs w5 (.slice (some ⟨w3.heap.size, 0, none⟩) 2 2) onC ∧ Below wf2.heap.size wf2 w5) := by
              rw [← hw5]
              exact ⟨(bs_on fun j => World.cell?_alloc_mark _ _ _ _ _).below ((Below.refl _ _).alloc (Nat.le_refl _) _), (HW3.out.alloc HW3.out.size _).alloc (by have := HW3.out.size; simp; omega) _⟩
            have hs5 : w3.heap.size < w5.heap.size := by rw [← hw5]; simp; omega
            have HB6 : Hid (Below wf2.heap.size wf2 w6) := HC6.out.2.grown HG6.out (by have := HC6.out.2.size; omega) fun z e => (HO3.out.lt z e).1
            have HR6 : Hid (RowsB w6 (.slice a6 n6 c6) (Y ++ [onC])) := ⟨_, HO6.out.src, (HAX9.out.below HB6.out).snoc (.inl (HC6.out.1.same fun z e => HG6.out.5 z (by injection e with e; simp only at e; omega) fun e2 => by have h1 := (HO3.out.lt z e2.symm).2; injection e with e; simp only at e; omega))⟩
            have HL11 : Hid (Lg wc3 w6 g9 T7 lc ⟨#[119]⟩ (Y ++ [onC]) [(lb, lgC g9 ⟨#[119]⟩ (frs Y).length false)] (4 + 3 * k + 4 + 4 + 4 + 2)) := HL10.out.below HB6.out
            have HA6 : Hid (Calls Tryd.prog 13 #[.pointer (some ⟨lc, 0, none⟩), .slice a6 n6 c6] w6 fun e w' => e = .returned (.bool true) ∧ Below w6.heap.size w6 w') := by
              have := lg_has HK3.out HL11.out _ (Y ++ [onC]) HR6.out (by have := HFY.out; simp; omega)
              rw [show decide (Y ++ [onC] = Y ++ [onC]) = true by simp] at this
              exact this
            clear hw5 hs5 HG6 HO6 HO3 HW3 HC6 HB6 HR6 HL10 HAX9 HSX9 HXN HLN
            go_wp2_with fail
            refine Calls.mono HA6.out ?_
            rintro e w7 ⟨rfl, hb7⟩
            have HB7 : Hid (Below wc3.heap.size wc3 w7) := HL11.out.sys.base.trans (hb7.mono HL11.out.sys.base.size)
            clear hb7 HA6 HL11
            go_wp2_with fail
            refine Calls.mono (wawake_any w7 (HK3.out.below HB7.out HK3.out.pos)) ?_
            rintro e w8 ⟨rfl, hb8⟩
            have HBZ : Hid (Below w.heap.size w w8) := HBW.out.trans ((HB4.out.trans ((HB7.out.trans (hb8.mono HB7.out.size)).mono HB4.out.size)).mono HBW.out.size)
            clear hb8
            go_wp2_with fail
            go_ret
            exact ⟨rfl, HBZ.out⟩
          · skip
            have hYZ : Y = Z := HY.out.resolve_left hYX
            have HA1 : Hid (Calls Tryd.prog 13 #[.pointer (some ⟨lb, 0, none⟩), .slice ax X.length cx] wc5 fun e w' => e = .returned (.bool false) ∧ Below wc5.heap.size wc5 w') := by
              have := lg_has HK3.out HL5.out _ X HSX5.out (by omega)
              rw [show decide (Y = X) = false by simpa using hYX] at this
              exact this
            go_wp2_with fail
            refine Calls.mono HA1.out ?_
            rintro e wd0 ⟨rfl, hb⟩
            have HL6 : Hid (Lg wc3 wd0 g9 T5 lb ⟨#[119]⟩ Y [] (4 + 3 * k + 4 + 4)) := HL5.out.below hb
            have HS6 : Hid (RowsB wd0 (.slice ax X.length cx) X) := HSX5.out.below hb
            have HR6 : Hid (RowsB wd0 (.slice az Z.length cz) Z) := HSZ5.out.below hb
            clear hb HA1 HSX5 HSZ5 HL5
            have HA2 : Hid (Calls Tryd.prog 13 #[.pointer (some ⟨lb, 0, none⟩), .slice az Z.length cz] wd0 fun e w' => e = .returned (.bool true) ∧ Below wd0.heap.size wd0 w') := by
              have := lg_has HK3.out HL6.out _ Z HR6.out (by omega)
              rw [show decide (Y = Z) = true by simpa using hYZ] at this
              exact this
            go_wp2_with fail
            refine Calls.mono HA2.out ?_
            rintro e wd1 ⟨rfl, hb⟩
            have HL61 : Hid (Lg wc3 wd1 g9 T5 lb ⟨#[119]⟩ Y [] (4 + 3 * k + 4 + 4)) := HL6.out.below hb
            have HS61 : Hid (RowsB wd1 (.slice ax X.length cx) X) := HS6.out.below hb
            have HR61 : Hid (RowsB wd1 (.slice az Z.length cz) Z) := HR6.out.below hb
            clear hb HA2 HS6 HL6 HR6
            have HA3 : Hid (Calls Tryd.prog 13 #[.pointer (some ⟨lb, 0, none⟩), .slice ax X.length cx] wd1 fun e w' => e = .returned (.bool false) ∧ Below wd1.heap.size wd1 w') := by
              have := lg_has HK3.out HL61.out _ X HS61.out (by omega)
              rw [show decide (Y = X) = false by simpa using hYX] at this
              exact this
            go_wp2_with fail
            refine Calls.mono HA3.out ?_
            rintro e wd2 ⟨rfl, hb⟩
            have HL7 : Hid (Lg wc3 wd2 g9 T5 lb ⟨#[119]⟩ Y [] (4 + 3 * k + 4 + 4)) := HL61.out.below hb
            have HS7 : Hid (RowsB wd2 (.slice az Y.length cz) Y) := by { have h := HR61.out.below hb; rw [← hYZ] at h; exact h }
            clear hb HA3 HS61 HL61 HR61
            have HSY3 : Hid (RowsB wc3 (.slice az Y.length cz) Y) := by { have h := HSZ3.out; rw [← hYZ] at h; exact h }
            rw [← hYZ]
            clear hYZ
            have hop := lg_open (X := Y) (t := []) (s := (frs Y).length) (nm := ⟨#[119]⟩) HK3.out HL7.out.sys HL7.out.good HL7.out.live (by omega) nameL_w HL7.out.small firstR_nil (by rw [HL7.out.file.1, List.append_nil]; rfl) (by rw [List.append_nil]; have := HFY.out; omega)
            have HOP : Hid (Calls Tryd.prog 6 #[.pointer (some ⟨g9, 0, none⟩), .string ⟨#[119]⟩] wd2 fun e w' => ∃ l, e = .returned (.tuple #[.pointer (some ⟨l, 0, none⟩), .int .i64 0]) ∧ wd2.heap.size ≤ l ∧ LgStep wc3 wd2 g9 T5 l ⟨#[119]⟩ [lb] Y [(lb, lgC g9 ⟨#[119]⟩ (frs Y).length false)] (4 + 3 * k + 4 + 4 + 4) w') := hop
            clear hop HL7
            go_wp2_with fail
            refine Calls.mono HOP.out ?_
            rintro e we1 ⟨lc, rfl, _, T6, hL8, _, _⟩
            have HL8 : Hid (Lg wc3 we1 g9 T6 lc ⟨#[119]⟩ Y [(lb, lgC g9 ⟨#[119]⟩ (frs Y).length false)] (4 + 3 * k + 4 + 4 + 4)) := hL8
            have HS8 : Hid (RowsB we1 (.slice az Y.length cz) Y) := HSY3.out.below hL8.sys.base
            clear hL8 HOP HS7
            have HA4 : Hid (Calls Tryd.prog 13 #[.pointer (some ⟨lc, 0, none⟩), .slice az Y.length cz] we1 fun e w' => e = .returned (.bool true) ∧ Below we1.heap.size we1 w') := by
              have := lg_has HK3.out HL8.out _ Y HS8.out (by have := HFY.out; omega)
              rw [show decide (Y = Y) = true by simp] at this
              exact this
            go_wp2_with fail
            refine Calls.mono HA4.out ?_
            rintro e we2 ⟨rfl, hb⟩
            have HL9 : Hid (Lg wc3 we2 g9 T6 lc ⟨#[119]⟩ Y [(lb, lgC g9 ⟨#[119]⟩ (frs Y).length false)] (4 + 3 * k + 4 + 4 + 4)) := HL8.out.below hb
            clear hb HA4 HS8 HL8
            have kc := fun (w : World) (C : Array Value) (n c : Nat) => Lib.run_convert_bytes_const (P := Tryd.prog) w 40 5 C n c Tryd.underlying40 Tryd.underlying5
            go_wp2_with fail
            clear kc
            generalize hwf : World.alloc we2 _ = wf1
            have HC5 : Hid (Bs wf1 (.slice (some ⟨we2.heap.size, 0, none⟩) 2 2) onC) := bs_on fun j => by rw [← hwf]; exact World.cell?_alloc_mark _ _ _ _ _
            have HB5 : Hid (Below we2.heap.size we2 wf1) := by rw [← hwf]; exact (Below.refl _ _).alloc (Nat.le_refl _) _
            clear hwf
            have hap := lg_append HK3.out (HL9.out.below HB5.out) (by omega) nameL_w _ onC (.inl HC5.out) (by decide) (by have h1 := onC_len; have h2 := HFY.out; omega)
            have HAP : Hid (Calls Tryd.prog 11 #[.pointer (some ⟨lc, 0, none⟩), .slice (some ⟨we2.heap.size, 0, none⟩) 2 2] wf1 fun e w' => e = .returned (.int .i64 0) ∧ LgStep wc3 wf1 g9 T6 lc ⟨#[119]⟩ [lc, lb] (Y ++ [onC]) [(lb, lgC g9 ⟨#[119]⟩ (frs Y).length false)] (4 + 3 * k + 4 + 4 + 4 + 2) w') := hap
            clear hap HL9
            refine Calls.mono HAP.out ?_
            rintro e wf2 ⟨rfl, T7, hL10, _, _⟩
            have HL10 : Hid (Lg wc3 wf2 g9 T7 lc ⟨#[119]⟩ (Y ++ [onC]) [(lb, lgC g9 ⟨#[119]⟩ (frs Y).length false)] (4 + 3 * k + 4 + 4 + 4 + 2)) := hL10
            obtain ⟨xs, hsx, hax⟩ := HSY3.out.below hL10.sys.base
            have hxl : xs.length = Y.length := hax.1
            have HSX9 : Hid (SrcX wf2 (.slice az Y.length cz) xs) := hsx
            have HAX9 : Hid (AllW wf2 xs Y) := hax
            have HXN : Hid (xs.length = Y.length) := hxl
            clear hL10 hsx hax hxl HAP HC5 HB5
            have HLN : Hid (([] : List Value).length + xs.length ≤ 100000000 ∧ wf2.heap.size ≤ (wf2.alloc (.cells #[] 40)).heap.size) := ⟨by have h1 := HXN.out; have h2 := HFY.out; simp; omega, by simp⟩
            have kc := fun (w : World) (C : Array Value) (n c : Nat) => Lib.run_convert_bytes_const (P := Tryd.prog) w 40 5 C n c Tryd.underlying40 Tryd.underlying5
            have HPA : PhA := trivial
            go_wp2_with (first
              | (at_builtin; have hpa : PhA := (by assumption); clear hpa HPA; refine wpList_append_x rfl _ _ rfl wf2.heap.size _ [] rfl (OwnX.lit0 wf2) _ xs rfl (HSX9.out.below ((Below.refl _ _).alloc (Nat.le_refl _) _)) HAX9.out.cells HLN.out.1 HLN.out.2 ?_; intro v3 w3 HO3 HG3 _; rw [List.nil_append] at HO3; have HW3 : Hid (Below wf2.heap.size wf2 w3) := (((Below.refl wf2.heap.size wf2).alloc (Nat.le_refl _) _).grown HG3.out (by simp) fun j hj => (by (injection hj with hj; simp only at hj; omega))); clear HG3)
              | (at_builtin; refine wpList_append_x rfl _ _ rfl wf2.heap.size _ xs rfl (HO3.out.below (((Below.refl _ _).alloc (Nat.le_refl _) _).alloc (by simp) _)) _ [.slice (some ⟨w3.heap.size, 0, none⟩) 2 2] rfl (srcX_lit1 _ _ _ (by simp)) (by simp [Value.oneCell']) (by have h1 := HXN.out; have h2 := HFY.out; simp; omega) (by have h1 := HW3.out.size; simp; omega) ?_; intro v6 w6 HO6 HG6 _; obtain ⟨a6, c6, hv6⟩ := HO6.out.shape; obtain ⟨n6, hn6⟩ : ∃ n, n = (xs ++ [Value.slice (some ⟨w3.heap.size, 0, none⟩) 2 2]).length := ⟨_, rfl⟩; rw [← hn6] at hv6; clear hn6; subst hv6))
            clear kc
            generalize hw5 : World.alloc (World.alloc w3 _) _ = w5 at HG6
            have HC6 : Hid (Bs w5 (.slice (some ⟨w3.heap.size, 0, none⟩) 2 2) onC ∧ Below wf2.heap.size wf2 w5) := by
              rw [← hw5]
              exact ⟨(bs_on fun j => World.cell?_alloc_mark _ _ _ _ _).below ((Below.refl _ _).alloc (Nat.le_refl _) _), (HW3.out.alloc HW3.out.size _).alloc (by have := HW3.out.size; simp; omega) _⟩
            have hs5 : w3.heap.size < w5.heap.size := by rw [← hw5]; simp; omega
            have HB6 : Hid (Below wf2.heap.size wf2 w6) := HC6.out.2.grown HG6.out (by have := HC6.out.2.size; omega) fun z e => (HO3.out.lt z e).1
            have HR6 : Hid (RowsB w6 (.slice a6 n6 c6) (Y ++ [onC])) := ⟨_, HO6.out.src, (HAX9.out.below HB6.out).snoc (.inl (HC6.out.1.same fun z e => HG6.out.5 z (by injection e with e; simp only at e; omega) fun e2 => by have h1 := (HO3.out.lt z e2.symm).2; injection e with e; simp only at e; omega))⟩
            have HL11 : Hid (Lg wc3 w6 g9 T7 lc ⟨#[119]⟩ (Y ++ [onC]) [(lb, lgC g9 ⟨#[119]⟩ (frs Y).length false)] (4 + 3 * k + 4 + 4 + 4 + 2)) := HL10.out.below HB6.out
            have HA6 : Hid (Calls Tryd.prog 13 #[.pointer (some ⟨lc, 0, none⟩), .slice a6 n6 c6] w6 fun e w' => e = .returned (.bool true) ∧ Below w6.heap.size w6 w') := by
              have := lg_has HK3.out HL11.out _ (Y ++ [onC]) HR6.out (by have := HFY.out; simp; omega)
              rw [show decide (Y ++ [onC] = Y ++ [onC]) = true by simp] at this
              exact this
            clear hw5 hs5 HG6 HO6 HO3 HW3 HC6 HB6 HR6 HL10 HAX9 HSX9 HXN HLN
            go_wp2_with fail
            refine Calls.mono HA6.out ?_
            rintro e w7 ⟨rfl, hb7⟩
            have HB7 : Hid (Below wc3.heap.size wc3 w7) := HL11.out.sys.base.trans (hb7.mono HL11.out.sys.base.size)
            clear hb7 HA6 HL11
            go_wp2_with fail
            refine Calls.mono (wawake_any w7 (HK3.out.below HB7.out HK3.out.pos)) ?_
            rintro e w8 ⟨rfl, hb8⟩
            have HBZ : Hid (Below w.heap.size w w8) := HBW.out.trans ((HB4.out.trans ((HB7.out.trans (hb8.mono HB7.out.size)).mono HB4.out.size)).mono HBW.out.size)
            clear hb8
            go_wp2_with fail
            go_ret
            exact ⟨rfl, HBZ.out⟩
        · have e1 : ¬ (k : Int) < (n1 : Int) := by omega
          go_wp2_with fail
          refine Calls.mono (dead_any la f ⟨#[119]⟩ _ true _ HSYS.out.blk) ?_
          rintro e wd ⟨rfl, rfl⟩
          go_wp2_with fail
          obtain ⟨wb, hwb⟩ : ∃ x, x = wd := ⟨_, rfl⟩
          subst hwb
          refine Calls.mono (lz_crash HSYS.out HEN.out.1 HEN.out.2 (by omega) a2 n2 c2 P2 (HP2.out.1.below HSYS.out.base) HP2.out.2.1 HP2.out.2.2.1 HP2.out.2.2.2) ?_
          rintro e wc ⟨g, T, rfl, hor⟩
          obtain ⟨Y, hY, htq⟩ : ∃ Y, (Y = X ∨ Y = Z) ∧ Tq wb wc g T ⟨#[119]⟩ Y [] (4 + 3 * k) := by
            rcases hor with h | h
            · exact ⟨_, .inl rfl, h⟩
            · exact ⟨_, .inr rfl, h⟩
          have HY : Hid (Y = X ∨ Y = Z) := hY
          have HYS : Hid (∀ r ∈ Y, r.length ≤ 1048576) := by
            rcases hY with e | e
            · rw [e]; exact HSM.out.1
            · rw [e]; exact HSM.out.2
          have HFY : Hid ((frs Y).length ≤ 440 * 40 ∧ Y.length ≤ 40) := by
            rcases hY with e | e
            · have h1 := frs_bound hXs
              have h2 : (399 + 41) * X.length ≤ 440 * 40 := Nat.mul_le_mul_left _ (by omega)
              rw [e]; exact ⟨by omega, by omega⟩
            · have h1 := frs_bound hZs
              have h2 : (399 + 41) * Z.length ≤ 440 * 40 := Nat.mul_le_mul_left _ (by omega)
              rw [e]; exact ⟨by omega, by omega⟩
          have HT1 : Hid (Tq wb wc g T ⟨#[119]⟩ Y [] (4 + 3 * k)) := htq
          have HBW : Hid (Below w.heap.size w wb) := HSYS.out.base
          have HKW : Hid (Kw wb) := HBW.out |> fun h => HK.out.below h HK.out.pos
          have HSX : Hid (RowsB wb (.slice ax X.length cx) X) := HX.out.rows
          have HSZ : Hid (RowsB wb (.slice az Z.length cz) Z) := HZ.out.rows
          clear hY htq hor HSYS HEN HX
          go_wp2_with fail
          refine Calls.mono (tq_cut HT1.out again g3 HCU.out.2) ?_
          rintro e wc2 ⟨rfl, T2, hT2⟩
          have HT2 : Hid (Tq wb wc2 g T2 ⟨#[119]⟩ Y [] (4 + 3 * k)) := hT2
          clear hT2 HT1
          go_wp2_with fail
          refine Calls.mono (tq_open HKW.out HT2.out (by omega) nameL_w HYS.out) ?_
          rintro e wc3 ⟨pp, px, T3, Bl3, rfl, hT3⟩
          have HT3 : Hid (Tq wb wc3 g T3 ⟨#[119]⟩ Y Bl3 (4 + 3 * k + 4)) := hT3
          clear hT3 HT2
          go_wp2_with fail
          refine Calls.mono (tq_crash HT3.out (by omega) a3 n3 c3 P3 ((HP3.out.1.below HBW.out).below HT3.out.sys.base) HP3.out.2.1 HP3.out.2.2.1 HP3.out.2.2.2) ?_
          rintro e wc4 ⟨g9, T4, rfl, hT4, hlv4⟩
          have HB4 : Hid (Below wb.heap.size wb wc3) := HT3.out.sys.base
          have HK3 : Hid (Kw wc3) := HT3.out.sys.kw HKW.out
          have HSX3 : Hid (RowsB wc3 (.slice ax X.length cx) X) := HSX.out.below HB4.out
          have HSZ3 : Hid (RowsB wc3 (.slice az Z.length cz) Z) := HSZ.out.below HB4.out
          have hop := tq_lg HK3.out hT4 hlv4 (by omega) nameL_w HYS.out
          have HOP : Hid (Calls Tryd.prog 6 #[.pointer (some ⟨g9, 0, none⟩), .string ⟨#[119]⟩] wc4 fun e w' => ∃ l, e = .returned (.tuple #[.pointer (some ⟨l, 0, none⟩), .int .i64 0]) ∧ wc4.heap.size ≤ l ∧ LgStep wc3 wc4 g9 T4 l ⟨#[119]⟩ (([] : List (Nat × List Value)).map Prod.fst) Y [] (4 + 3 * k + 4 + 4) w') := hop
          clear hop hT4 hlv4 HT3
          go_wp2_with fail
          refine Calls.mono HOP.out ?_
          rintro e wc5 ⟨lb, rfl, _, T5, hL5, _, _⟩
          have HL5 : Hid (Lg wc3 wc5 g9 T5 lb ⟨#[119]⟩ Y [] (4 + 3 * k + 4 + 4)) := hL5
          clear hL5 HOP
          have HSX5 : Hid (RowsB wc5 (.slice ax X.length cx) X) := HSX3.out.below HL5.out.sys.base
          have HSZ5 : Hid (RowsB wc5 (.slice az Z.length cz) Z) := HSZ3.out.below HL5.out.sys.base
          clear HSX HSZ
          by_cases hYX : Y = X
          · subst hYX
            have HA1 : Hid (Calls Tryd.prog 13 #[.pointer (some ⟨lb, 0, none⟩), .slice ax Y.length cx] wc5 fun e w' => e = .returned (.bool true) ∧ Below wc5.heap.size wc5 w') := by
              have := lg_has HK3.out HL5.out _ Y HSX5.out (by omega)
              rw [show decide (Y = Y) = true by simp] at this
              exact this
            go_wp2_with fail
            refine Calls.mono HA1.out ?_
            rintro e wd1 ⟨rfl, hb⟩
            have HL6 : Hid (Lg wc3 wd1 g9 T5 lb ⟨#[119]⟩ Y [] (4 + 3 * k + 4 + 4)) := HL5.out.below hb
            have HS6 : Hid (RowsB wd1 (.slice ax Y.length cx) Y) := HSX5.out.below hb
            clear hb HA1 HSX5 HSZ5 HL5
            have HA2 : Hid (Calls Tryd.prog 13 #[.pointer (some ⟨lb, 0, none⟩), .slice ax Y.length cx] wd1 fun e w' => e = .returned (.bool true) ∧ Below wd1.heap.size wd1 w') := by
              have := lg_has HK3.out HL6.out _ Y HS6.out (by omega)
              rw [show decide (Y = Y) = true by simp] at this
              exact this
            go_wp2_with fail
            refine Calls.mono HA2.out ?_
            rintro e wd2 ⟨rfl, hb⟩
            have HL7 : Hid (Lg wc3 wd2 g9 T5 lb ⟨#[119]⟩ Y [] (4 + 3 * k + 4 + 4)) := HL6.out.below hb
            have HS7 : Hid (RowsB wd2 (.slice ax Y.length cx) Y) := HS6.out.below hb
            clear hb HA2 HS6 HL6
            have hop := lg_open (X := Y) (t := []) (s := (frs Y).length) (nm := ⟨#[119]⟩) HK3.out HL7.out.sys HL7.out.good HL7.out.live (by omega) nameL_w HL7.out.small firstR_nil (by rw [HL7.out.file.1, List.append_nil]; rfl) (by rw [List.append_nil]; have := HFY.out; omega)
            have HOP : Hid (Calls Tryd.prog 6 #[.pointer (some ⟨g9, 0, none⟩), .string ⟨#[119]⟩] wd2 fun e w' => ∃ l, e = .returned (.tuple #[.pointer (some ⟨l, 0, none⟩), .int .i64 0]) ∧ wd2.heap.size ≤ l ∧ LgStep wc3 wd2 g9 T5 l ⟨#[119]⟩ [lb] Y [(lb, lgC g9 ⟨#[119]⟩ (frs Y).length false)] (4 + 3 * k + 4 + 4 + 4) w') := hop
            clear hop HL7
            go_wp2_with fail
            refine Calls.mono HOP.out ?_
            rintro e we1 ⟨lc, rfl, _, T6, hL8, _, _⟩
            have HL8 : Hid (Lg wc3 we1 g9 T6 lc ⟨#[119]⟩ Y [(lb, lgC g9 ⟨#[119]⟩ (frs Y).length false)] (4 + 3 * k + 4 + 4 + 4)) := hL8
            have HS8 : Hid (RowsB we1 (.slice ax Y.length cx) Y) := HSX3.out.below hL8.sys.base
            clear hL8 HOP HS7
            have HA4 : Hid (Calls Tryd.prog 13 #[.pointer (some ⟨lc, 0, none⟩), .slice ax Y.length cx] we1 fun e w' => e = .returned (.bool true) ∧ Below we1.heap.size we1 w') := by
              have := lg_has HK3.out HL8.out _ Y HS8.out (by have := HFY.out; omega)
              rw [show decide (Y = Y) = true by simp] at this
              exact this
            go_wp2_with fail
            refine Calls.mono HA4.out ?_
            rintro e we2 ⟨rfl, hb⟩
            have HL9 : Hid (Lg wc3 we2 g9 T6 lc ⟨#[119]⟩ Y [(lb, lgC g9 ⟨#[119]⟩ (frs Y).length false)] (4 + 3 * k + 4 + 4 + 4)) := HL8.out.below hb
            clear hb HA4 HS8 HL8
            have kc := fun (w : World) (C : Array Value) (n c : Nat) => Lib.run_convert_bytes_const (P := Tryd.prog) w 40 5 C n c Tryd.underlying40 Tryd.underlying5
            go_wp2_with fail
            clear kc
            generalize hwf : World.alloc we2 _ = wf1
            have HC5 : Hid (Bs wf1 (.slice (some ⟨we2.heap.size, 0, none⟩) 2 2) onC) := bs_on fun j => by rw [← hwf]; exact World.cell?_alloc_mark _ _ _ _ _
            have HB5 : Hid (Below we2.heap.size we2 wf1) := by rw [← hwf]; exact (Below.refl _ _).alloc (Nat.le_refl _) _
            clear hwf
            have hap := lg_append HK3.out (HL9.out.below HB5.out) (by omega) nameL_w _ onC (.inl HC5.out) (by decide) (by have h1 := onC_len; have h2 := HFY.out; omega)
            have HAP : Hid (Calls Tryd.prog 11 #[.pointer (some ⟨lc, 0, none⟩), .slice (some ⟨we2.heap.size, 0, none⟩) 2 2] wf1 fun e w' => e = .returned (.int .i64 0) ∧ LgStep wc3 wf1 g9 T6 lc ⟨#[119]⟩ [lc, lb] (Y ++ [onC]) [(lb, lgC g9 ⟨#[119]⟩ (frs Y).length false)] (4 + 3 * k + 4 + 4 + 4 + 2) w') := hap
            clear hap HL9
            refine Calls.mono HAP.out ?_
            rintro e wf2 ⟨rfl, T7, hL10, _, _⟩
            have HL10 : Hid (Lg wc3 wf2 g9 T7 lc ⟨#[119]⟩ (Y ++ [onC]) [(lb, lgC g9 ⟨#[119]⟩ (frs Y).length false)] (4 + 3 * k + 4 + 4 + 4 + 2)) := hL10
            obtain ⟨xs, hsx, hax⟩ := HSX3.out.below hL10.sys.base
            have hxl : xs.length = Y.length := hax.1
            have HSX9 : Hid (SrcX wf2 (.slice ax Y.length cx) xs) := hsx
            have HAX9 : Hid (AllW wf2 xs Y) := hax
            have HXN : Hid (xs.length = Y.length) := hxl
            clear hL10 hsx hax hxl HAP HC5 HB5
            have HLN : Hid (([] : List Value).length + xs.length ≤ 100000000 ∧ wf2.heap.size ≤ (wf2.alloc (.cells #[] 40)).heap.size) := ⟨by have h1 := HXN.out; have h2 := HFY.out; simp; omega, by simp⟩
            have kc := fun (w : World) (C : Array Value) (n c : Nat) => Lib.run_convert_bytes_const (P := Tryd.prog) w 40 5 C n c Tryd.underlying40 Tryd.underlying5
            have HPA : PhA := trivial
            go_wp2_with (first
              | (at_builtin; have hpa : PhA := (by assumption); clear hpa HPA; refine wpList_append_x rfl _ _ rfl wf2.heap.size _ [] rfl (OwnX.lit0 wf2) _ xs rfl (HSX9.out.below ((Below.refl _ _).alloc (Nat.le_refl _) _)) HAX9.out.cells HLN.out.1 HLN.out.2 ?_; intro v3 w3 HO3 HG3 _; rw [List.nil_append] at HO3; have HW3 : Hid (Below wf2.heap.size wf2 w3) := (((Below.refl wf2.heap.size wf2).alloc (Nat.le_refl _) _).grown HG3.out (by simp) fun j hj => (by (injection hj with hj; simp only at hj; omega))); clear HG3)
              | (at_builtin; refine wpList_append_x rfl _ _ rfl wf2.heap.size _ xs rfl (HO3.out.below (((Below.refl _ _).alloc (Nat.le_refl _) _).alloc (by simp) _)) _ [.slice (some ⟨w3.heap.size, 0, none⟩) 2 2] rfl (srcX_lit1 _ _ _ (by simp)) (by simp [Value.oneCell']) (by have h1 := HXN.out; have h2 := HFY.out; simp; omega) (by have h1 := HW3.out.size; simp; omega) ?_; intro v6 w6 HO6 HG6 _; obtain ⟨a6, c6, hv6⟩ := HO6.out.shape; obtain ⟨n6, hn6⟩ : ∃ n, n = (xs ++ [Value.slice (some ⟨w3.heap.size, 0, none⟩) 2 2]).length := ⟨_, rfl⟩; rw [← hn6] at hv6; clear hn6; subst hv6))
            clear kc
            generalize hw5 : World.alloc (World.alloc w3 _) _ = w5 at HG6
            have HC6 : Hid (Bs w5 (.slice (some ⟨w3.heap.size, 0, none⟩) 2 2) onC ∧ Below wf2.heap.size wf2 w5) := by
              rw [← hw5]
              exact ⟨(bs_on fun j => World.cell?_alloc_mark _ _ _ _ _).below ((Below.refl _ _).alloc (Nat.le_refl _) _), (HW3.out.alloc HW3.out.size _).alloc (by have := HW3.out.size; simp; omega) _⟩
            have hs5 : w3.heap.size < w5.heap.size := by rw [← hw5]; simp; omega
            have HB6 : Hid (Below wf2.heap.size wf2 w6) := HC6.out.2.grown HG6.out (by have := HC6.out.2.size; omega) fun z e => (HO3.out.lt z e).1
            have HR6 : Hid (RowsB w6 (.slice a6 n6 c6) (Y ++ [onC])) := ⟨_, HO6.out.src, (HAX9.out.below HB6.out).snoc (.inl (HC6.out.1.same fun z e => HG6.out.5 z (by injection e with e; simp only at e; omega) fun e2 => by have h1 := (HO3.out.lt z e2.symm).2; injection e with e; simp only at e; omega))⟩
            have HL11 : Hid (Lg wc3 w6 g9 T7 lc ⟨#[119]⟩ (Y ++ [onC]) [(lb, lgC g9 ⟨#[119]⟩ (frs Y).length false)] (4 + 3 * k + 4 + 4 + 4 + 2)) := HL10.out.below HB6.out
            have HA6 : Hid (Calls Tryd.prog 13 #[.pointer (some ⟨lc, 0, none⟩), .slice a6 n6 c6] w6 fun e w' => e = .returned (.bool true) ∧ Below w6.heap.size w6 w') := by
              have := lg_has HK3.out HL11.out _ (Y ++ [onC]) HR6.out (by have := HFY.out; simp; omega)
              rw [show decide (Y ++ [onC] = Y ++ [onC]) = true by simp] at this
              exact this
            clear hw5 hs5 HG6 HO6 HO3 HW3 HC6 HB6 HR6 HL10 HAX9 HSX9 HXN HLN
            go_wp2_with fail
            refine Calls.mono HA6.out ?_
            rintro e w7 ⟨rfl, hb7⟩
            have HB7 : Hid (Below wc3.heap.size wc3 w7) := HL11.out.sys.base.trans (hb7.mono HL11.out.sys.base.size)
            clear hb7 HA6 HL11
            go_wp2_with fail
            refine Calls.mono (wawake_any w7 (HK3.out.below HB7.out HK3.out.pos)) ?_
            rintro e w8 ⟨rfl, hb8⟩
            have HBZ : Hid (Below w.heap.size w w8) := HBW.out.trans ((HB4.out.trans ((HB7.out.trans (hb8.mono HB7.out.size)).mono HB4.out.size)).mono HBW.out.size)
            clear hb8
            go_wp2_with fail
            go_ret
            exact ⟨rfl, HBZ.out⟩
          · skip
            have hYZ : Y = Z := HY.out.resolve_left hYX
            have HA1 : Hid (Calls Tryd.prog 13 #[.pointer (some ⟨lb, 0, none⟩), .slice ax X.length cx] wc5 fun e w' => e = .returned (.bool false) ∧ Below wc5.heap.size wc5 w') := by
              have := lg_has HK3.out HL5.out _ X HSX5.out (by omega)
              rw [show decide (Y = X) = false by simpa using hYX] at this
              exact this
            go_wp2_with fail
            refine Calls.mono HA1.out ?_
            rintro e wd0 ⟨rfl, hb⟩
            have HL6 : Hid (Lg wc3 wd0 g9 T5 lb ⟨#[119]⟩ Y [] (4 + 3 * k + 4 + 4)) := HL5.out.below hb
            have HS6 : Hid (RowsB wd0 (.slice ax X.length cx) X) := HSX5.out.below hb
            have HR6 : Hid (RowsB wd0 (.slice az Z.length cz) Z) := HSZ5.out.below hb
            clear hb HA1 HSX5 HSZ5 HL5
            have HA2 : Hid (Calls Tryd.prog 13 #[.pointer (some ⟨lb, 0, none⟩), .slice az Z.length cz] wd0 fun e w' => e = .returned (.bool true) ∧ Below wd0.heap.size wd0 w') := by
              have := lg_has HK3.out HL6.out _ Z HR6.out (by omega)
              rw [show decide (Y = Z) = true by simpa using hYZ] at this
              exact this
            go_wp2_with fail
            refine Calls.mono HA2.out ?_
            rintro e wd1 ⟨rfl, hb⟩
            have HL61 : Hid (Lg wc3 wd1 g9 T5 lb ⟨#[119]⟩ Y [] (4 + 3 * k + 4 + 4)) := HL6.out.below hb
            have HS61 : Hid (RowsB wd1 (.slice ax X.length cx) X) := HS6.out.below hb
            have HR61 : Hid (RowsB wd1 (.slice az Z.length cz) Z) := HR6.out.below hb
            clear hb HA2 HS6 HL6 HR6
            have HA3 : Hid (Calls Tryd.prog 13 #[.pointer (some ⟨lb, 0, none⟩), .slice ax X.length cx] wd1 fun e w' => e = .returned (.bool false) ∧ Below wd1.heap.size wd1 w') := by
              have := lg_has HK3.out HL61.out _ X HS61.out (by omega)
              rw [show decide (Y = X) = false by simpa using hYX] at this
              exact this
            go_wp2_with fail
            refine Calls.mono HA3.out ?_
            rintro e wd2 ⟨rfl, hb⟩
            have HL7 : Hid (Lg wc3 wd2 g9 T5 lb ⟨#[119]⟩ Y [] (4 + 3 * k + 4 + 4)) := HL61.out.below hb
            have HS7 : Hid (RowsB wd2 (.slice az Y.length cz) Y) := by { have h := HR61.out.below hb; rw [← hYZ] at h; exact h }
            clear hb HA3 HS61 HL61 HR61
            have HSY3 : Hid (RowsB wc3 (.slice az Y.length cz) Y) := by { have h := HSZ3.out; rw [← hYZ] at h; exact h }
            rw [← hYZ]
            clear hYZ
            have hop := lg_open (X := Y) (t := []) (s := (frs Y).length) (nm := ⟨#[119]⟩) HK3.out HL7.out.sys HL7.out.good HL7.out.live (by omega) nameL_w HL7.out.small firstR_nil (by rw [HL7.out.file.1, List.append_nil]; rfl) (by rw [List.append_nil]; have := HFY.out; omega)
            have HOP : Hid (Calls Tryd.prog 6 #[.pointer (some ⟨g9, 0, none⟩), .string ⟨#[119]⟩] wd2 fun e w' => ∃ l, e = .returned (.tuple #[.pointer (some ⟨l, 0, none⟩), .int .i64 0]) ∧ wd2.heap.size ≤ l ∧ LgStep wc3 wd2 g9 T5 l ⟨#[119]⟩ [lb] Y [(lb, lgC g9 ⟨#[119]⟩ (frs Y).length false)] (4 + 3 * k + 4 + 4 + 4) w') := hop
            clear hop HL7
            go_wp2_with fail
            refine Calls.mono HOP.out ?_
            rintro e we1 ⟨lc, rfl, _, T6, hL8, _, _⟩
            have HL8 : Hid (Lg wc3 we1 g9 T6 lc ⟨#[119]⟩ Y [(lb, lgC g9 ⟨#[119]⟩ (frs Y).length false)] (4 + 3 * k + 4 + 4 + 4)) := hL8
            have HS8 : Hid (RowsB we1 (.slice az Y.length cz) Y) := HSY3.out.below hL8.sys.base
            clear hL8 HOP HS7
            have HA4 : Hid (Calls Tryd.prog 13 #[.pointer (some ⟨lc, 0, none⟩), .slice az Y.length cz] we1 fun e w' => e = .returned (.bool true) ∧ Below we1.heap.size we1 w') := by
              have := lg_has HK3.out HL8.out _ Y HS8.out (by have := HFY.out; omega)
              rw [show decide (Y = Y) = true by simp] at this
              exact this
            go_wp2_with fail
            refine Calls.mono HA4.out ?_
            rintro e we2 ⟨rfl, hb⟩
            have HL9 : Hid (Lg wc3 we2 g9 T6 lc ⟨#[119]⟩ Y [(lb, lgC g9 ⟨#[119]⟩ (frs Y).length false)] (4 + 3 * k + 4 + 4 + 4)) := HL8.out.below hb
            clear hb HA4 HS8 HL8
            have kc := fun (w : World) (C : Array Value) (n c : Nat) => Lib.run_convert_bytes_const (P := Tryd.prog) w 40 5 C n c Tryd.underlying40 Tryd.underlying5
            go_wp2_with fail
            clear kc
            generalize hwf : World.alloc we2 _ = wf1
            have HC5 : Hid (Bs wf1 (.slice (some ⟨we2.heap.size, 0, none⟩) 2 2) onC) := bs_on fun j => by rw [← hwf]; exact World.cell?_alloc_mark _ _ _ _ _
            have HB5 : Hid (Below we2.heap.size we2 wf1) := by rw [← hwf]; exact (Below.refl _ _).alloc (Nat.le_refl _) _
            clear hwf
            have hap := lg_append HK3.out (HL9.out.below HB5.out) (by omega) nameL_w _ onC (.inl HC5.out) (by decide) (by have h1 := onC_len; have h2 := HFY.out; omega)
            have HAP : Hid (Calls Tryd.prog 11 #[.pointer (some ⟨lc, 0, none⟩), .slice (some ⟨we2.heap.size, 0, none⟩) 2 2] wf1 fun e w' => e = .returned (.int .i64 0) ∧ LgStep wc3 wf1 g9 T6 lc ⟨#[119]⟩ [lc, lb] (Y ++ [onC]) [(lb, lgC g9 ⟨#[119]⟩ (frs Y).length false)] (4 + 3 * k + 4 + 4 + 4 + 2) w') := hap
            clear hap HL9
            refine Calls.mono HAP.out ?_
            rintro e wf2 ⟨rfl, T7, hL10, _, _⟩
            have HL10 : Hid (Lg wc3 wf2 g9 T7 lc ⟨#[119]⟩ (Y ++ [onC]) [(lb, lgC g9 ⟨#[119]⟩ (frs Y).length false)] (4 + 3 * k + 4 + 4 + 4 + 2)) := hL10
            obtain ⟨xs, hsx, hax⟩ := HSY3.out.below hL10.sys.base
            have hxl : xs.length = Y.length := hax.1
            have HSX9 : Hid (SrcX wf2 (.slice az Y.length cz) xs) := hsx
            have HAX9 : Hid (AllW wf2 xs Y) := hax
            have HXN : Hid (xs.length = Y.length) := hxl
            clear hL10 hsx hax hxl HAP HC5 HB5
            have HLN : Hid (([] : List Value).length + xs.length ≤ 100000000 ∧ wf2.heap.size ≤ (wf2.alloc (.cells #[] 40)).heap.size) := ⟨by have h1 := HXN.out; have h2 := HFY.out; simp; omega, by simp⟩
            have kc := fun (w : World) (C : Array Value) (n c : Nat) => Lib.run_convert_bytes_const (P := Tryd.prog) w 40 5 C n c Tryd.underlying40 Tryd.underlying5
            have HPA : PhA := trivial
            go_wp2_with (first
              | (at_builtin; have hpa : PhA := (by assumption); clear hpa HPA; refine wpList_append_x rfl _ _ rfl wf2.heap.size _ [] rfl (OwnX.lit0 wf2) _ xs rfl (HSX9.out.below ((Below.refl _ _).alloc (Nat.le_refl _) _)) HAX9.out.cells HLN.out.1 HLN.out.2 ?_; intro v3 w3 HO3 HG3 _; rw [List.nil_append] at HO3; have HW3 : Hid (Below wf2.heap.size wf2 w3) := (((Below.refl wf2.heap.size wf2).alloc (Nat.le_refl _) _).grown HG3.out (by simp) fun j hj => (by (injection hj with hj; simp only at hj; omega))); clear HG3)
              | (at_builtin; refine wpList_append_x rfl _ _ rfl wf2.heap.size _ xs rfl (HO3.out.below (((Below.refl _ _).alloc (Nat.le_refl _) _).alloc (by simp) _)) _ [.slice (some ⟨w3.heap.size, 0, none⟩) 2 2] rfl (srcX_lit1 _ _ _ (by simp)) (by simp [Value.oneCell']) (by have h1 := HXN.out; have h2 := HFY.out; simp; omega) (by have h1 := HW3.out.size; simp; omega) ?_; intro v6 w6 HO6 HG6 _; obtain ⟨a6, c6, hv6⟩ := HO6.out.shape; obtain ⟨n6, hn6⟩ : ∃ n, n = (xs ++ [Value.slice (some ⟨w3.heap.size, 0, none⟩) 2 2]).length := ⟨_, rfl⟩; rw [← hn6] at hv6; clear hn6; subst hv6))
            clear kc
            generalize hw5 : World.alloc (World.alloc w3 _) _ = w5 at HG6
            have HC6 : Hid (Bs w5 (.slice (some ⟨w3.heap.size, 0, none⟩) 2 2) onC ∧ Below wf2.heap.size wf2 w5) := by
              rw [← hw5]
              exact ⟨(bs_on fun j => World.cell?_alloc_mark _ _ _ _ _).below ((Below.refl _ _).alloc (Nat.le_refl _) _), (HW3.out.alloc HW3.out.size _).alloc (by have := HW3.out.size; simp; omega) _⟩
            have hs5 : w3.heap.size < w5.heap.size := by rw [← hw5]; simp; omega
            have HB6 : Hid (Below wf2.heap.size wf2 w6) := HC6.out.2.grown HG6.out (by have := HC6.out.2.size; omega) fun z e => (HO3.out.lt z e).1
            have HR6 : Hid (RowsB w6 (.slice a6 n6 c6) (Y ++ [onC])) := ⟨_, HO6.out.src, (HAX9.out.below HB6.out).snoc (.inl (HC6.out.1.same fun z e => HG6.out.5 z (by injection e with e; simp only at e; omega) fun e2 => by have h1 := (HO3.out.lt z e2.symm).2; injection e with e; simp only at e; omega))⟩
            have HL11 : Hid (Lg wc3 w6 g9 T7 lc ⟨#[119]⟩ (Y ++ [onC]) [(lb, lgC g9 ⟨#[119]⟩ (frs Y).length false)] (4 + 3 * k + 4 + 4 + 4 + 2)) := HL10.out.below HB6.out
            have HA6 : Hid (Calls Tryd.prog 13 #[.pointer (some ⟨lc, 0, none⟩), .slice a6 n6 c6] w6 fun e w' => e = .returned (.bool true) ∧ Below w6.heap.size w6 w') := by
              have := lg_has HK3.out HL11.out _ (Y ++ [onC]) HR6.out (by have := HFY.out; simp; omega)
              rw [show decide (Y ++ [onC] = Y ++ [onC]) = true by simp] at this
              exact this
            clear hw5 hs5 HG6 HO6 HO3 HW3 HC6 HB6 HR6 HL10 HAX9 HSX9 HXN HLN
            go_wp2_with fail
            refine Calls.mono HA6.out ?_
            rintro e w7 ⟨rfl, hb7⟩
            have HB7 : Hid (Below wc3.heap.size wc3 w7) := HL11.out.sys.base.trans (hb7.mono HL11.out.sys.base.size)
            clear hb7 HA6 HL11
            go_wp2_with fail
            refine Calls.mono (wawake_any w7 (HK3.out.below HB7.out HK3.out.pos)) ?_
            rintro e w8 ⟨rfl, hb8⟩
            have HBZ : Hid (Below w.heap.size w w8) := HBW.out.trans ((HB4.out.trans ((HB7.out.trans (hb8.mono HB7.out.size)).mono HB4.out.size)).mono HBW.out.size)
            clear hb8
            go_wp2_with fail
            go_ret
            exact ⟨rfl, HBZ.out⟩
  · rcases (show (25 < n1) ∨ (n1 ≤ 25 ∧ cut < 0) ∨ (n1 ≤ 25 ∧ 0 ≤ cut ∧ again < 0) ∨ (n1 ≤ 25 ∧ 0 ≤ cut ∧ 0 ≤ again ∧ 5 < n2) ∨ (n1 ≤ 25 ∧ 0 ≤ cut ∧ 0 ≤ again ∧ n2 ≤ 5 ∧ 5 < n3) by omega) with h | h | h | h | h
    · have k0 : (n1 : Int) > 25 := by omega
      go_enter Tryd.func3, Tryd.ntmps3
      go_wp2_with fail
      refine Calls.mono (wawake_any w HK.out) ?_
      rintro e w1 ⟨rfl, hb1⟩
      have HB1 : Hid (Below w.heap.size w w1) := hb1
      clear hb1
      go_wp2_with fail
      go_ret
      exact ⟨rfl, HB1.out⟩
    · have k0 : ¬ (n1 : Int) > 25 := by omega
      have k1 : cut < 0 := by omega
      go_enter Tryd.func3, Tryd.ntmps3
      go_wp2_with fail
      refine Calls.mono (wawake_any w HK.out) ?_
      rintro e w1 ⟨rfl, hb1⟩
      have HB1 : Hid (Below w.heap.size w w1) := hb1
      clear hb1
      go_wp2_with fail
      go_ret
      exact ⟨rfl, HB1.out⟩
    · have k0 : ¬ (n1 : Int) > 25 := by omega
      have k1 : ¬ cut < 0 := by omega
      have k2 : again < 0 := by omega
      go_enter Tryd.func3, Tryd.ntmps3
      go_wp2_with fail
      refine Calls.mono (wawake_any w HK.out) ?_
      rintro e w1 ⟨rfl, hb1⟩
      have HB1 : Hid (Below w.heap.size w w1) := hb1
      clear hb1
      go_wp2_with fail
      go_ret
      exact ⟨rfl, HB1.out⟩
    · have k0 : ¬ (n1 : Int) > 25 := by omega
      have k1 : ¬ cut < 0 := by omega
      have k2 : ¬ again < 0 := by omega
      have k3 : (n2 : Int) > 5 := by omega
      go_enter Tryd.func3, Tryd.ntmps3
      go_wp2_with fail
      refine Calls.mono (wawake_any w HK.out) ?_
      rintro e w1 ⟨rfl, hb1⟩
      have HB1 : Hid (Below w.heap.size w w1) := hb1
      clear hb1
      go_wp2_with fail
      go_ret
      exact ⟨rfl, HB1.out⟩
    · have k0 : ¬ (n1 : Int) > 25 := by omega
      have k1 : ¬ cut < 0 := by omega
      have k2 : ¬ again < 0 := by omega
      have k3 : ¬ (n2 : Int) > 5 := by omega
      have k4 : (n3 : Int) > 5 := by omega
      go_enter Tryd.func3, Tryd.ntmps3
      go_wp2_with fail
      refine Calls.mono (wawake_any w HK.out) ?_
      rintro e w1 ⟨rfl, hb1⟩
      have HB1 : Hid (Below w.heap.size w w1) := hb1
      clear hb1
      go_wp2_with fail
      go_ret
      exact ⟨rfl, HB1.out⟩
end Go.Proofs.YtlapnnkahijikaaDoor
