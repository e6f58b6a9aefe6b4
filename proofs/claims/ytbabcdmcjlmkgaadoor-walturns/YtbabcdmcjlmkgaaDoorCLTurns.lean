/- coraclelaw8.WalTurns: its walk. -/
import Derived.Test.YtbabcdmcjlmkgaaDoorZW7
import Derived.Test.YtbabcdmcjlmkgaaDoorZB
namespace Go.Proofs.YtbabcdmcjlmkgaaDoor
open Go.ChangeShapes Go.WideShapes Go.ChangeAt Go.RowKit Go.Lib

theorem nameL_a : NameL ⟨#[97]⟩ := ⟨by decide, by decide⟩
theorem nameL_b : NameL ⟨#[98]⟩ := ⟨by decide, by decide⟩
theorem apart_ab : Apart ⟨#[97]⟩ ⟨#[98]⟩ := ⟨by decide, by decide, by decide, by decide⟩
theorem Turns.at {w : World} {a : Option Addr} {L : List Turn} (h : Turns w a L) {k : Nat} (hk : k < L.length) : ∃ b o, a = some ⟨b, o, none⟩ ∧ b < w.heap.size ∧ w.cell? ⟨b, o + k * 3, none⟩ = some (.int .i64 L[k].k) ∧ w.cell? ⟨b, o + k * 3 + 1, none⟩ = some (.int .i64 L[k].n) ∧ w.cell? ⟨b, o + k * 3 + 2, none⟩ = some (.int .i64 L[k].m) := by
  rcases h with h | ⟨b, o, ha, hc⟩
  · subst h; simp at hk
  · have := hc k L[k] (List.getElem?_eq_getElem hk)
    exact ⟨b, o, ha, World.block_lt_of_cell? w _ this.1, this⟩
set_option maxRecDepth 100000 in
set_option maxHeartbeats 8000000 in
theorem wturns_any (a1 a2 : Option Addr) (n1 c1 n2 c2 : Nat) (L O : List Turn) (w : World) (hK : Kw w) (hL : Turns w a1 L) (h1 : L.length = n1) (hO : Turns w a2 O) (h2 : O.length = n2) :
    Calls Tryd.prog 3 #[.slice a1 n1 c1, .slice a2 n2 c2] w fun e w' => e = .returned (.bool true) ∧ Below w.heap.size w w' := by
  have HK : Hid (Kw w) := hK
  have HT : Hid (Turns w a1 L) := hL
  have HO : Hid (Turns w a2 O) := hO
  have HN1 : Hid (n1 = L.length) := h1.symm
  have HN2 : Hid (n2 = O.length) := h2.symm
  clear hK hL hO h1 h2
  by_cases hsz : n1 ≤ 30 ∧ n2 ≤ 30
  · obtain ⟨g1, g2⟩ := hsz
    have g1' : ¬ (n1 : Int) > 30 := by omega
    have g2' : ¬ (n2 : Int) > 30 := by omega
    obtain ⟨M, hM⟩ : ∃ M, M = max n1 n2 := ⟨_, rfl⟩
    have hMi : max (n1 : Int) (n2 : Int) = (M : Int) := by omega
    have hM30 : M ≤ 30 := by omega
    have hMa : n1 ≤ M := by omega
    have hMb : n2 ≤ M := by omega
    clear hM
    go_enter Tryd.func3, Tryd.ntmps3
    go_wp2_with fail
    refine Calls.mono (new_lg w) ?_
    rintro e w1 ⟨f, S1, rfl, hs1, hg1, hl1, hL1⟩
    have HOP : Hid (Calls Tryd.prog 9 #[.pointer (some ⟨f, 0, none⟩), .string ⟨#[97]⟩] w1 fun e w' => ∃ l, e = .returned (.tuple #[.pointer (some ⟨l, 0, none⟩), .int .i64 0]) ∧ w1.heap.size ≤ l ∧ LgStep w w1 f S1 l ⟨#[97]⟩ (([] : List (Nat × List Value)).map Prod.fst) [] [] 4 w') :=
      lg_open (X := []) (t := []) (s := 0) HK.out hs1 hg1 hl1 (by omega) nameL_a (fun r hr => by cases hr) firstR_nil (by rw [hL1]; rfl) (by simp [frs])
    clear hs1 hg1 hl1
    have HL1 : Hid (S1.abs.L = []) := hL1
    clear hL1
    go_wp2_with fail
    refine Calls.mono HOP.out ?_
    rintro e w2 ⟨la0, rfl, _, S2, hL2, _, hoth⟩
    have HL2 : Hid (Lg w w2 f S2 la0 ⟨#[97]⟩ [] [] 4) := hL2
    have HN2' : Hid (alook ⟨#[98]⟩ S2.abs.L = none) := by
      have := hoth ⟨#[98]⟩ (by decide) (by decide)
      rw [HL1.out] at this
      exact this
    have HOP2 : Hid (Calls Tryd.prog 9 #[.pointer (some ⟨f, 0, none⟩), .string ⟨#[98]⟩] w2 fun e w' => ∃ l, e = .returned (.tuple #[.pointer (some ⟨l, 0, none⟩), .int .i64 0]) ∧ w2.heap.size ≤ l ∧ LgStep w w2 f S2 l ⟨#[98]⟩ ([(la0, lgC f ⟨#[97]⟩ (frs []).length false)].map Prod.fst) [] [(la0, lgC f ⟨#[97]⟩ (frs []).length false)] (4 + 4) w') :=
      lg_open (X := []) (t := []) (s := 0) HK.out HL2.out.sys HL2.out.good HL2.out.live (by omega) nameL_b (fun r hr => by cases hr) firstR_nil (by rw [HN2'.out]; rfl) (by simp [frs])
    clear hL2 hoth HOP HL1
    go_wp2_with fail
    refine Calls.mono HOP2.out ?_
    rintro e w3 ⟨lb, rfl, _, hst3⟩
    obtain ⟨S3, hL3, _⟩ := HL2.out.second apart_ab hst3
    have HL3 : Hid (Lg2 w w3 f S3 la0 ⟨#[97]⟩ [] lb ⟨#[98]⟩ [] (8 + 10 * 0)) := hL3
    clear hL3 hst3 HOP2 HL2 HN2'
    go_wp2_with fail
    go_loopw [6, 10, 11, 12] (fun pa xv yv i wr => ∃ (k la : Nat) (S : FS) (X Y : List (List (BitVec 8))) (ax : Option Addr) (cx : Nat) (ay : Option Addr) (cy : Nat), k ≤ M ∧ i = .int .i64 k ∧ pa = .pointer (some ⟨la, 0, none⟩) ∧ Hid (Lg2 w wr f S la ⟨#[97]⟩ X lb ⟨#[98]⟩ Y (8 + 10 * k)) ∧ xv = .slice ax X.length cx ∧ yv = .slice ay Y.length cy ∧ Hid (RowsP (Free f S [la, lb] wr) wr (.slice ax X.length cx) X) ∧ Hid (RowsP (Free f S [la, lb] wr) wr (.slice ay Y.length cy) Y) ∧ X.length ≤ k + 4 ∧ (∀ r ∈ X, r.length ≤ 399) ∧ Y.length ≤ k + 4 ∧ (∀ r ∈ Y, r.length ≤ 399)) (fun _ _ _ i _ => M - (intOf i).toNat)
    case atStart => exact ⟨0, la0, S3, [], [], none, 0, none, 0, Nat.zero_le _, rfl, rfl, HL3.out, rfl, rfl, RowsP.nil _ _, RowsP.nil _ _, Nat.zero_le _, (fun r hr => by cases hr), Nat.zero_le _, (fun r hr => by cases hr)⟩
    case round =>
      obtain ⟨k, la, S, X, Y, ax, cx, ay, cy, hk, rfl, rfl, HL, rfl, rfl, HX, HY, hXl, hXs, hYl, hYs⟩ := hrel
      clear HL3
      by_cases hlt : k < M
      · have e0 : (0 : Int) ≤ (k : Int) := by omega
        have e1 : (k : Int) < (M : Int) := by omega
        by_cases ha1 : k < n1
        · have e3 : (k : Int) < (n1 : Int) := by omega
          have hkL : k < L.length := by rw [← HN1.out]; exact ha1
          obtain ⟨ba, oa, haa, halt, d0, d1, d2⟩ := HT.out.at hkL
          obtain ⟨ta, hta⟩ : ∃ t, t = L[k] := ⟨_, rfl⟩
          rw [← hta] at d0 d1 d2
          subst haa
          have HDA : Hid (w.cell? ⟨ba, oa + k * 3, none⟩ = some (.int .i64 ta.k) ∧ w.cell? ⟨ba, oa + k * 3 + 1, none⟩ = some (.int .i64 ta.n) ∧ w.cell? ⟨ba, oa + k * 3 + 2, none⟩ = some (.int .i64 ta.m)) := ⟨d0, d1, d2⟩
          clear d0 d1 d2 hta hkL
          obtain ⟨pk, pn, pm⟩ := ta
          have f0 := cell_below HL.out.one.sys.base HDA.out.1
          have f1 := cell_below HL.out.one.sys.base HDA.out.2.1
          have f2 := cell_below HL.out.one.sys.base HDA.out.2.2
          have hsmX := thenR_small (X := X) (i := k) pk pn pm hXl hXs
          have hna := lg_now HK.out HL.out.one (by omega) nameL_a (by omega) hXs pk pn pm
          have HNA : Hid (Calls Tryd.prog 10 #[.pointer (some ⟨la, 0, none⟩), .agg #[.int .i64 pk, .int .i64 pn, .int .i64 pm]] wr fun e w' => e = .returned (.int .i64 0) ∧ LgStep w wr f S la ⟨#[97]⟩ [la, lb] (thenR X pk pn pm) [(lb, lgC f ⟨#[98]⟩ (frs Y).length false)] (8 + 10 * k + 3) w') := hna
          have HXS : Hid ((thenR X pk pn pm).length ≤ k + 1 + 4 ∧ ∀ r ∈ thenR X pk pn pm, r.length ≤ 399) := hsmX
          clear hna hsmX
          go_wp2_with fail
          refine Calls.mono HNA.out ?_
          rintro e wa1 ⟨rfl, hsta⟩
          obtain ⟨Sa, hLa, hGa⟩ := HL.out.step apart_ab hsta
          have HLa : Hid (Lg2 w wa1 f Sa la ⟨#[97]⟩ (thenR X pk pn pm) lb ⟨#[98]⟩ Y (8 + 10 * k + 3)) := hLa
          have HXa : Hid (RowsP (Free f Sa [la, lb] wa1) wa1 (.slice ax X.length cx) X) := HX.out.step hGa
          have HYa : Hid (RowsP (Free f Sa [la, lb] wa1) wa1 (.slice ay Y.length cy) Y) := HY.out.step hGa
          clear hsta hLa hGa HNA f0 f1 f2
          have f0 := cell_below HLa.out.one.sys.base HDA.out.1
          have f1 := cell_below HLa.out.one.sys.base HDA.out.2.1
          have f2 := cell_below HLa.out.one.sys.base HDA.out.2.2
          have HTA : Hid (Calls Tryd.prog 11 #[.slice ax X.length cx, .agg #[.int .i64 pk, .int .i64 pn, .int .i64 pm]] wa1 fun e w' => ∃ v', e = .returned v' ∧ RowsP (fun j => Free f Sa [la, lb] wa1 j ∨ (wa1.heap.size ≤ j ∧ j < w'.heap.size)) w' v' (thenR X pk pn pm) ∧ Below wa1.heap.size wa1 w') := then_any _ _ _ pk pn pm wa1 HXa.out (by omega)
          go_wp2_with fail
          refine Calls.mono HTA.out ?_
          rintro e wa2 ⟨xva, rfl, hxa, hba⟩
          obtain ⟨axa, cxa, hxva⟩ := hxa.shape
          subst hxva
          have HLd : Hid (Lg2 w wa2 f Sa la ⟨#[97]⟩ (thenR X pk pn pm) lb ⟨#[98]⟩ Y (8 + 10 * k + 3)) := HLa.out.below hba
          have HYd : Hid (RowsP (Free f Sa [la, lb] wa2) wa2 (.slice ay Y.length cy) Y) := HYa.out.step (GrB.of_below hba)
          have HXd : Hid (RowsP (Free f Sa [la, lb] wa2) wa2 (.slice axa (thenR X pk pn pm).length cxa) (thenR X pk pn pm)) := RowsP.fresh HLa.out.one.sys hba hxa
          have hXl' := HXS.out.1
          have hXs' := HXS.out.2
          clear hxa hba HTA HLa HXa HYa f0 f1 f2 HL HX HY HXS
          obtain ⟨X9, hX9⟩ : ∃ X9, X9 = thenR X pk pn pm := ⟨_, rfl⟩
          rw [← hX9] at HLd HXd hXl' hXs' ⊢
          clear hX9
          have f0 := cell_below HLd.out.one.sys.base HDA.out.1
          by_cases hk3 : pk = 3
          · subst hk3
            have hfX : (frs X9).length ≤ 440 * 1000 := by
              have h1 := frs_bound hXs'
              have h2 : (399 + 41) * X9.length ≤ 440 * 1000 := Nat.mul_le_mul_left _ (by omega)
              omega
            have hop := lg_open (X := X9) (t := []) (s := (frs X9).length) (nm := ⟨#[97]⟩) HK.out HLd.out.one.sys HLd.out.one.good HLd.out.one.live (by omega) nameL_a HLd.out.one.small firstR_nil (by rw [HLd.out.one.file.1, List.append_nil]; rfl) (by rw [List.append_nil]; omega)
            have HOP : Hid (Calls Tryd.prog 9 #[.pointer (some ⟨f, 0, none⟩), .string ⟨#[97]⟩] wa2 fun e w' => ∃ l, e = .returned (.tuple #[.pointer (some ⟨l, 0, none⟩), .int .i64 0]) ∧ wa2.heap.size ≤ l ∧ LgStep w wa2 f Sa l ⟨#[97]⟩ [la, lb] X9 [(la, lgC f ⟨#[97]⟩ (frs X9).length false), (lb, lgC f ⟨#[98]⟩ (frs Y).length false)] (8 + 10 * k + 3 + 4) w') := hop
            clear hop hfX
            go_wp2_with fail
            refine Calls.mono HOP.out ?_
            rintro e wa3 ⟨la9, rfl, hla9, S9, hL9, hG9, hoth⟩
            have HLe : Hid (Lg2 w wa3 f S9 la9 ⟨#[97]⟩ X9 lb ⟨#[98]⟩ Y (8 + 10 * k + 3 + 4)) :=
              ⟨⟨hL9.sys.swap.less, hL9.file, hL9.good, hL9.live, hL9.small⟩, ⟨by rw [hoth _ apart_ab.n1 apart_ab.n2]; exact HLd.out.file2.1, by rw [hoth _ apart_ab.n3 apart_ab.n4]; exact HLd.out.file2.2⟩, HLd.out.small2⟩
            have hid9 : ∀ j : Nat, j < wa2.heap.size → j ∉ [la, lb] → j ∉ [la9, lb] := fun j h1 h2 => by
              simp only [List.mem_cons, List.not_mem_nil, or_false, not_or] at h2 ⊢
              exact ⟨by omega, h2.2⟩
            have HXe : Hid (RowsP (Free f S9 [la9, lb] wa3) wa3 (.slice axa X9.length cxa) X9) := HXd.out.step2 hG9 hid9
            have HYe : Hid (RowsP (Free f S9 [la9, lb] wa3) wa3 (.slice ay Y.length cy) Y) := HYd.out.step2 hG9 hid9
            clear hla9 hL9 hG9 hoth hid9 HOP HLd HXd HYd f0
            by_cases hb2 : k < n2
            · have e2 : (k : Int) < (n2 : Int) := by omega
              have hkO : k < O.length := by rw [← HN2.out]; exact hb2
              obtain ⟨bb, ob, hab, hblt, d0, d1, d2⟩ := HO.out.at hkO
              obtain ⟨tb, htb⟩ : ∃ t, t = O[k] := ⟨_, rfl⟩
              rw [← htb] at d0 d1 d2
              subst hab
              have HD : Hid (w.cell? ⟨bb, ob + k * 3, none⟩ = some (.int .i64 tb.k) ∧ w.cell? ⟨bb, ob + k * 3 + 1, none⟩ = some (.int .i64 tb.n) ∧ w.cell? ⟨bb, ob + k * 3 + 2, none⟩ = some (.int .i64 tb.m)) := ⟨d0, d1, d2⟩
              clear d0 d1 d2 htb hkO
              obtain ⟨qk, qn, qm⟩ := tb
              have f0 := cell_below HLe.out.one.sys.base HD.out.1
              have f1 := cell_below HLe.out.one.sys.base HD.out.2.1
              have f2 := cell_below HLe.out.one.sys.base HD.out.2.2
              have hsmY := thenR_small (X := Y) (i := k) qk qn qm hYl hYs
              have hnb := lg_now HK.out HLe.out.swap.one (by omega) nameL_b (by omega) hYs qk qn qm
              have HNB : Hid (Calls Tryd.prog 10 #[.pointer (some ⟨lb, 0, none⟩), .agg #[.int .i64 qk, .int .i64 qn, .int .i64 qm]] wa3 fun e w' => e = .returned (.int .i64 0) ∧ LgStep w wa3 f S9 lb ⟨#[98]⟩ [lb, la9] (thenR Y qk qn qm) [(la9, lgC f ⟨#[97]⟩ (frs X9).length false)] (8 + 10 * k + 3 + 4 + 3) w') := hnb
              have HYS : Hid ((thenR Y qk qn qm).length ≤ k + 1 + 4 ∧ ∀ r ∈ thenR Y qk qn qm, r.length ≤ 399) := hsmY
              clear hnb hsmY
              go_wp2_with fail
              refine Calls.mono HNB.out ?_
              rintro e wb1 ⟨rfl, hstb⟩
              obtain ⟨Sb, hLb, hGb⟩ := HLe.out.swap.step apart_ab.symm hstb
              have HLb : Hid (Lg2 w wb1 f Sb la9 ⟨#[97]⟩ X9 lb ⟨#[98]⟩ (thenR Y qk qn qm) (8 + 10 * k + 3 + 4 + 3)) := hLb.swap
              have hidB : ∀ j : Nat, j < wa3.heap.size → j ∉ [lb, la9] → j ∉ [la9, lb] := fun j _ h => by simpa [and_comm] using h
              have hidB' : ∀ j : Nat, j < wa3.heap.size → j ∉ [la9, lb] → j ∉ [lb, la9] := fun j _ h => by simpa [and_comm] using h
              have HXb : Hid (RowsP (Free f Sb [la9, lb] wb1) wb1 (.slice axa X9.length cxa) X9) := (HXe.out.reids hidB').step2 hGb hidB
              have HYb : Hid (RowsP (Free f Sb [la9, lb] wb1) wb1 (.slice ay Y.length cy) Y) := (HYe.out.reids hidB').step2 hGb hidB
              clear hstb hLb hGb HNB hidB hidB' f0 f1 f2
              have f0 := cell_below HLb.out.one.sys.base HD.out.1
              have f1 := cell_below HLb.out.one.sys.base HD.out.2.1
              have f2 := cell_below HLb.out.one.sys.base HD.out.2.2
              have HTB : Hid (Calls Tryd.prog 11 #[.slice ay Y.length cy, .agg #[.int .i64 qk, .int .i64 qn, .int .i64 qm]] wb1 fun e w' => ∃ v', e = .returned v' ∧ RowsP (fun j => Free f Sb [la9, lb] wb1 j ∨ (wb1.heap.size ≤ j ∧ j < w'.heap.size)) w' v' (thenR Y qk qn qm) ∧ Below wb1.heap.size wb1 w') := then_any _ _ _ qk qn qm wb1 HYb.out (by omega)
              go_wp2_with fail
              refine Calls.mono HTB.out ?_
              rintro e wb2 ⟨yvb, rfl, hyb, hbb⟩
              obtain ⟨ayb, cyb, hyvb⟩ := hyb.shape
              subst hyvb
              have HLce : Hid (Lg2 w wb2 f Sb la9 ⟨#[97]⟩ X9 lb ⟨#[98]⟩ (thenR Y qk qn qm) (8 + 10 * k + 3 + 4 + 3)) := HLb.out.below hbb
              have HXce : Hid (RowsP (Free f Sb [la9, lb] wb2) wb2 (.slice axa X9.length cxa) X9) := HXb.out.step (GrB.of_below hbb)
              have HYce : Hid (RowsP (Free f Sb [la9, lb] wb2) wb2 (.slice ayb (thenR Y qk qn qm).length cyb) (thenR Y qk qn qm)) := RowsP.fresh HLb.out.one.sys hbb hyb
              have hYl' := HYS.out.1
              have hYs' := HYS.out.2
              clear hyb hbb HTB HLb HXb HYb f0 f1 f2 HLe HXe HYe HYS
              obtain ⟨Y9, hY9⟩ : ∃ Y9, Y9 = thenR Y qk qn qm := ⟨_, rfl⟩
              rw [← hY9] at HLce HYce hYl' hYs' ⊢
              clear hY9
              have HSX : Hid (RowsB wb2 (.slice axa X9.length cxa) X9) := HXce.out.rows
              have HSY : Hid (RowsB wb2 (.slice ayb Y9.length cyb) Y9) := HYce.out.rows
              have hha := lg_has HK.out HLce.out.one _ _ HSX.out (by omega)
              rw [show decide (X9 = X9) = true by simp] at hha
              have HHA : Hid (Calls Tryd.prog 12 #[.pointer (some ⟨la9, 0, none⟩), .slice axa X9.length cxa] wb2 fun e w' => e = .returned (.bool true) ∧ Below wb2.heap.size wb2 w') := hha
              clear hha
              go_wp2_with fail
              refine Calls.mono HHA.out ?_
              rintro e wh ⟨rfl, hbh⟩
              have HLh : Hid (Lg2 w wh f Sb la9 ⟨#[97]⟩ X9 lb ⟨#[98]⟩ Y9 (8 + 10 * k + 3 + 4 + 3)) := HLce.out.below hbh
              have hhb := lg_has HK.out HLh.out.swap.one _ _ (HSY.out.below hbh) (by omega)
              rw [show decide (Y9 = Y9) = true by simp] at hhb
              have HHB : Hid (Calls Tryd.prog 12 #[.pointer (some ⟨lb, 0, none⟩), .slice ayb Y9.length cyb] wh fun e w' => e = .returned (.bool true) ∧ Below wh.heap.size wh w') := hhb
              have HXh : Hid (RowsP (Free f Sb [la9, lb] wh) wh (.slice axa X9.length cxa) X9) := HXce.out.step (GrB.of_below hbh)
              have HYh : Hid (RowsP (Free f Sb [la9, lb] wh) wh (.slice ayb Y9.length cyb) Y9) := HYce.out.step (GrB.of_below hbh)
              clear hhb hbh HHA HSX HSY
              go_wp2_with fail
              refine Calls.mono HHB.out ?_
              rintro e wg ⟨rfl, hbg⟩
              have HLg : Hid (Lg2 w wg f Sb la9 ⟨#[97]⟩ X9 lb ⟨#[98]⟩ Y9 (8 + 10 * k + 3 + 4 + 3)) := HLh.out.below hbg
              have HXg : Hid (RowsP (Free f Sb [la9, lb] wg) wg (.slice axa X9.length cxa) X9) := HXh.out.step (GrB.of_below hbg)
              have HYg : Hid (RowsP (Free f Sb [la9, lb] wg) wg (.slice ayb Y9.length cyb) Y9) := HYh.out.step (GrB.of_below hbg)
              clear hbg HHB HLh HXh HYh
              go_wp2_with fail
              go_roundw
              case rel => exact ⟨k + 1, la9, Sb, X9, Y9, axa, cxa, ayb, cyb, by omega, by go_num, rfl, ⟨⟨HLg.out.one.sys, HLg.out.one.file, HLg.out.one.good.mono (by omega), HLg.out.one.live, HLg.out.one.small⟩, HLg.out.file2, HLg.out.small2⟩, rfl, rfl, HXg.out, HYg.out, by omega, hXs', by omega, hYs'⟩
              case measure => simp [intOf]; omega
            · have e2 : ¬ (k : Int) < (n2 : Int) := by omega
              have HSX : Hid (RowsB wa3 (.slice axa X9.length cxa) X9) := HXe.out.rows
              have HSY : Hid (RowsB wa3 (.slice ay Y.length cy) Y) := HYe.out.rows
              have hha := lg_has HK.out HLe.out.one _ _ HSX.out (by omega)
              rw [show decide (X9 = X9) = true by simp] at hha
              have HHA : Hid (Calls Tryd.prog 12 #[.pointer (some ⟨la9, 0, none⟩), .slice axa X9.length cxa] wa3 fun e w' => e = .returned (.bool true) ∧ Below wa3.heap.size wa3 w') := hha
              clear hha
              go_wp2_with fail
              refine Calls.mono HHA.out ?_
              rintro e wh ⟨rfl, hbh⟩
              have HLh : Hid (Lg2 w wh f S9 la9 ⟨#[97]⟩ X9 lb ⟨#[98]⟩ Y (8 + 10 * k + 3 + 4)) := HLe.out.below hbh
              have hhb := lg_has HK.out HLh.out.swap.one _ _ (HSY.out.below hbh) (by omega)
              rw [show decide (Y = Y) = true by simp] at hhb
              have HHB : Hid (Calls Tryd.prog 12 #[.pointer (some ⟨lb, 0, none⟩), .slice ay Y.length cy] wh fun e w' => e = .returned (.bool true) ∧ Below wh.heap.size wh w') := hhb
              have HXh : Hid (RowsP (Free f S9 [la9, lb] wh) wh (.slice axa X9.length cxa) X9) := HXe.out.step (GrB.of_below hbh)
              have HYh : Hid (RowsP (Free f S9 [la9, lb] wh) wh (.slice ay Y.length cy) Y) := HYe.out.step (GrB.of_below hbh)
              clear hhb hbh HHA HSX HSY
              go_wp2_with fail
              refine Calls.mono HHB.out ?_
              rintro e wg ⟨rfl, hbg⟩
              have HLg : Hid (Lg2 w wg f S9 la9 ⟨#[97]⟩ X9 lb ⟨#[98]⟩ Y (8 + 10 * k + 3 + 4)) := HLh.out.below hbg
              have HXg : Hid (RowsP (Free f S9 [la9, lb] wg) wg (.slice axa X9.length cxa) X9) := HXh.out.step (GrB.of_below hbg)
              have HYg : Hid (RowsP (Free f S9 [la9, lb] wg) wg (.slice ay Y.length cy) Y) := HYh.out.step (GrB.of_below hbg)
              clear hbg HHB HLh HXh HYh
              go_wp2_with fail
              go_roundw
              case rel => exact ⟨k + 1, la9, S9, X9, Y, axa, cxa, ay, cy, by omega, by go_num, rfl, ⟨⟨HLg.out.one.sys, HLg.out.one.file, HLg.out.one.good.mono (by omega), HLg.out.one.live, HLg.out.one.small⟩, HLg.out.file2, HLg.out.small2⟩, rfl, rfl, HXg.out, HYg.out, by omega, hXs', by omega, hYs⟩
              case measure => simp [intOf]; omega
          · have hk3' : (pk == 3) = false := beq_eq_false_iff_ne.2 hk3
            by_cases hb2 : k < n2
            · have e2 : (k : Int) < (n2 : Int) := by omega
              have hkO : k < O.length := by rw [← HN2.out]; exact hb2
              obtain ⟨bb, ob, hab, hblt, d0, d1, d2⟩ := HO.out.at hkO
              obtain ⟨tb, htb⟩ : ∃ t, t = O[k] := ⟨_, rfl⟩
              rw [← htb] at d0 d1 d2
              subst hab
              have HD : Hid (w.cell? ⟨bb, ob + k * 3, none⟩ = some (.int .i64 tb.k) ∧ w.cell? ⟨bb, ob + k * 3 + 1, none⟩ = some (.int .i64 tb.n) ∧ w.cell? ⟨bb, ob + k * 3 + 2, none⟩ = some (.int .i64 tb.m)) := ⟨d0, d1, d2⟩
              clear d0 d1 d2 htb hkO
              obtain ⟨qk, qn, qm⟩ := tb
              have f0 := cell_below HLd.out.one.sys.base HD.out.1
              have f1 := cell_below HLd.out.one.sys.base HD.out.2.1
              have f2 := cell_below HLd.out.one.sys.base HD.out.2.2
              have hsmY := thenR_small (X := Y) (i := k) qk qn qm hYl hYs
              have hnb := lg_now HK.out HLd.out.swap.one (by omega) nameL_b (by omega) hYs qk qn qm
              have HNB : Hid (Calls Tryd.prog 10 #[.pointer (some ⟨lb, 0, none⟩), .agg #[.int .i64 qk, .int .i64 qn, .int .i64 qm]] wa2 fun e w' => e = .returned (.int .i64 0) ∧ LgStep w wa2 f Sa lb ⟨#[98]⟩ [lb, la] (thenR Y qk qn qm) [(la, lgC f ⟨#[97]⟩ (frs X9).length false)] (8 + 10 * k + 3 + 3) w') := hnb
              have HYS : Hid ((thenR Y qk qn qm).length ≤ k + 1 + 4 ∧ ∀ r ∈ thenR Y qk qn qm, r.length ≤ 399) := hsmY
              clear hnb hsmY
              go_wp2_with fail
              refine Calls.mono HNB.out ?_
              rintro e wb1 ⟨rfl, hstb⟩
              obtain ⟨Sb, hLb, hGb⟩ := HLd.out.swap.step apart_ab.symm hstb
              have HLb : Hid (Lg2 w wb1 f Sb la ⟨#[97]⟩ X9 lb ⟨#[98]⟩ (thenR Y qk qn qm) (8 + 10 * k + 3 + 3)) := hLb.swap
              have hidB : ∀ j : Nat, j < wa2.heap.size → j ∉ [lb, la] → j ∉ [la, lb] := fun j _ h => by simpa [and_comm] using h
              have hidB' : ∀ j : Nat, j < wa2.heap.size → j ∉ [la, lb] → j ∉ [lb, la] := fun j _ h => by simpa [and_comm] using h
              have HXb : Hid (RowsP (Free f Sb [la, lb] wb1) wb1 (.slice axa X9.length cxa) X9) := (HXd.out.reids hidB').step2 hGb hidB
              have HYb : Hid (RowsP (Free f Sb [la, lb] wb1) wb1 (.slice ay Y.length cy) Y) := (HYd.out.reids hidB').step2 hGb hidB
              clear hstb hLb hGb HNB hidB hidB' f0 f1 f2
              have f0 := cell_below HLb.out.one.sys.base HD.out.1
              have f1 := cell_below HLb.out.one.sys.base HD.out.2.1
              have f2 := cell_below HLb.out.one.sys.base HD.out.2.2
              have HTB : Hid (Calls Tryd.prog 11 #[.slice ay Y.length cy, .agg #[.int .i64 qk, .int .i64 qn, .int .i64 qm]] wb1 fun e w' => ∃ v', e = .returned v' ∧ RowsP (fun j => Free f Sb [la, lb] wb1 j ∨ (wb1.heap.size ≤ j ∧ j < w'.heap.size)) w' v' (thenR Y qk qn qm) ∧ Below wb1.heap.size wb1 w') := then_any _ _ _ qk qn qm wb1 HYb.out (by omega)
              go_wp2_with fail
              refine Calls.mono HTB.out ?_
              rintro e wb2 ⟨yvb, rfl, hyb, hbb⟩
              obtain ⟨ayb, cyb, hyvb⟩ := hyb.shape
              subst hyvb
              have HLcd : Hid (Lg2 w wb2 f Sb la ⟨#[97]⟩ X9 lb ⟨#[98]⟩ (thenR Y qk qn qm) (8 + 10 * k + 3 + 3)) := HLb.out.below hbb
              have HXcd : Hid (RowsP (Free f Sb [la, lb] wb2) wb2 (.slice axa X9.length cxa) X9) := HXb.out.step (GrB.of_below hbb)
              have HYcd : Hid (RowsP (Free f Sb [la, lb] wb2) wb2 (.slice ayb (thenR Y qk qn qm).length cyb) (thenR Y qk qn qm)) := RowsP.fresh HLb.out.one.sys hbb hyb
              have hYl' := HYS.out.1
              have hYs' := HYS.out.2
              clear hyb hbb HTB HLb HXb HYb f0 f1 f2 HLd HXd HYd HYS
              obtain ⟨Y9, hY9⟩ : ∃ Y9, Y9 = thenR Y qk qn qm := ⟨_, rfl⟩
              rw [← hY9] at HLcd HYcd hYl' hYs' ⊢
              clear hY9
              have HSX : Hid (RowsB wb2 (.slice axa X9.length cxa) X9) := HXcd.out.rows
              have HSY : Hid (RowsB wb2 (.slice ayb Y9.length cyb) Y9) := HYcd.out.rows
              have hha := lg_has HK.out HLcd.out.one _ _ HSX.out (by omega)
              rw [show decide (X9 = X9) = true by simp] at hha
              have HHA : Hid (Calls Tryd.prog 12 #[.pointer (some ⟨la, 0, none⟩), .slice axa X9.length cxa] wb2 fun e w' => e = .returned (.bool true) ∧ Below wb2.heap.size wb2 w') := hha
              clear hha
              go_wp2_with fail
              refine Calls.mono HHA.out ?_
              rintro e wh ⟨rfl, hbh⟩
              have HLh : Hid (Lg2 w wh f Sb la ⟨#[97]⟩ X9 lb ⟨#[98]⟩ Y9 (8 + 10 * k + 3 + 3)) := HLcd.out.below hbh
              have hhb := lg_has HK.out HLh.out.swap.one _ _ (HSY.out.below hbh) (by omega)
              rw [show decide (Y9 = Y9) = true by simp] at hhb
              have HHB : Hid (Calls Tryd.prog 12 #[.pointer (some ⟨lb, 0, none⟩), .slice ayb Y9.length cyb] wh fun e w' => e = .returned (.bool true) ∧ Below wh.heap.size wh w') := hhb
              have HXh : Hid (RowsP (Free f Sb [la, lb] wh) wh (.slice axa X9.length cxa) X9) := HXcd.out.step (GrB.of_below hbh)
              have HYh : Hid (RowsP (Free f Sb [la, lb] wh) wh (.slice ayb Y9.length cyb) Y9) := HYcd.out.step (GrB.of_below hbh)
              clear hhb hbh HHA HSX HSY
              go_wp2_with fail
              refine Calls.mono HHB.out ?_
              rintro e wg ⟨rfl, hbg⟩
              have HLg : Hid (Lg2 w wg f Sb la ⟨#[97]⟩ X9 lb ⟨#[98]⟩ Y9 (8 + 10 * k + 3 + 3)) := HLh.out.below hbg
              have HXg : Hid (RowsP (Free f Sb [la, lb] wg) wg (.slice axa X9.length cxa) X9) := HXh.out.step (GrB.of_below hbg)
              have HYg : Hid (RowsP (Free f Sb [la, lb] wg) wg (.slice ayb Y9.length cyb) Y9) := HYh.out.step (GrB.of_below hbg)
              clear hbg HHB HLh HXh HYh
              go_wp2_with fail
              go_roundw
              case rel => exact ⟨k + 1, la, Sb, X9, Y9, axa, cxa, ayb, cyb, by omega, by go_num, rfl, ⟨⟨HLg.out.one.sys, HLg.out.one.file, HLg.out.one.good.mono (by omega), HLg.out.one.live, HLg.out.one.small⟩, HLg.out.file2, HLg.out.small2⟩, rfl, rfl, HXg.out, HYg.out, by omega, hXs', by omega, hYs'⟩
              case measure => simp [intOf]; omega
            · have e2 : ¬ (k : Int) < (n2 : Int) := by omega
              have HSX : Hid (RowsB wa2 (.slice axa X9.length cxa) X9) := HXd.out.rows
              have HSY : Hid (RowsB wa2 (.slice ay Y.length cy) Y) := HYd.out.rows
              have hha := lg_has HK.out HLd.out.one _ _ HSX.out (by omega)
              rw [show decide (X9 = X9) = true by simp] at hha
              have HHA : Hid (Calls Tryd.prog 12 #[.pointer (some ⟨la, 0, none⟩), .slice axa X9.length cxa] wa2 fun e w' => e = .returned (.bool true) ∧ Below wa2.heap.size wa2 w') := hha
              clear hha
              go_wp2_with fail
              refine Calls.mono HHA.out ?_
              rintro e wh ⟨rfl, hbh⟩
              have HLh : Hid (Lg2 w wh f Sa la ⟨#[97]⟩ X9 lb ⟨#[98]⟩ Y (8 + 10 * k + 3)) := HLd.out.below hbh
              have hhb := lg_has HK.out HLh.out.swap.one _ _ (HSY.out.below hbh) (by omega)
              rw [show decide (Y = Y) = true by simp] at hhb
              have HHB : Hid (Calls Tryd.prog 12 #[.pointer (some ⟨lb, 0, none⟩), .slice ay Y.length cy] wh fun e w' => e = .returned (.bool true) ∧ Below wh.heap.size wh w') := hhb
              have HXh : Hid (RowsP (Free f Sa [la, lb] wh) wh (.slice axa X9.length cxa) X9) := HXd.out.step (GrB.of_below hbh)
              have HYh : Hid (RowsP (Free f Sa [la, lb] wh) wh (.slice ay Y.length cy) Y) := HYd.out.step (GrB.of_below hbh)
              clear hhb hbh HHA HSX HSY
              go_wp2_with fail
              refine Calls.mono HHB.out ?_
              rintro e wg ⟨rfl, hbg⟩
              have HLg : Hid (Lg2 w wg f Sa la ⟨#[97]⟩ X9 lb ⟨#[98]⟩ Y (8 + 10 * k + 3)) := HLh.out.below hbg
              have HXg : Hid (RowsP (Free f Sa [la, lb] wg) wg (.slice axa X9.length cxa) X9) := HXh.out.step (GrB.of_below hbg)
              have HYg : Hid (RowsP (Free f Sa [la, lb] wg) wg (.slice ay Y.length cy) Y) := HYh.out.step (GrB.of_below hbg)
              clear hbg HHB HLh HXh HYh
              go_wp2_with fail
              go_roundw
              case rel => exact ⟨k + 1, la, Sa, X9, Y, axa, cxa, ay, cy, by omega, by go_num, rfl, ⟨⟨HLg.out.one.sys, HLg.out.one.file, HLg.out.one.good.mono (by omega), HLg.out.one.live, HLg.out.one.small⟩, HLg.out.file2, HLg.out.small2⟩, rfl, rfl, HXg.out, HYg.out, by omega, hXs', by omega, hYs⟩
              case measure => simp [intOf]; omega
        · have e3 : ¬ (k : Int) < (n1 : Int) := by omega
          by_cases hb2 : k < n2
          · have e2 : (k : Int) < (n2 : Int) := by omega
            have hkO : k < O.length := by rw [← HN2.out]; exact hb2
            obtain ⟨bb, ob, hab, hblt, d0, d1, d2⟩ := HO.out.at hkO
            obtain ⟨tb, htb⟩ : ∃ t, t = O[k] := ⟨_, rfl⟩
            rw [← htb] at d0 d1 d2
            subst hab
            have HD : Hid (w.cell? ⟨bb, ob + k * 3, none⟩ = some (.int .i64 tb.k) ∧ w.cell? ⟨bb, ob + k * 3 + 1, none⟩ = some (.int .i64 tb.n) ∧ w.cell? ⟨bb, ob + k * 3 + 2, none⟩ = some (.int .i64 tb.m)) := ⟨d0, d1, d2⟩
            clear d0 d1 d2 htb hkO
            obtain ⟨qk, qn, qm⟩ := tb
            have f0 := cell_below HL.out.one.sys.base HD.out.1
            have f1 := cell_below HL.out.one.sys.base HD.out.2.1
            have f2 := cell_below HL.out.one.sys.base HD.out.2.2
            have hsmY := thenR_small (X := Y) (i := k) qk qn qm hYl hYs
            have hnb := lg_now HK.out HL.out.swap.one (by omega) nameL_b (by omega) hYs qk qn qm
            have HNB : Hid (Calls Tryd.prog 10 #[.pointer (some ⟨lb, 0, none⟩), .agg #[.int .i64 qk, .int .i64 qn, .int .i64 qm]] wr fun e w' => e = .returned (.int .i64 0) ∧ LgStep w wr f S lb ⟨#[98]⟩ [lb, la] (thenR Y qk qn qm) [(la, lgC f ⟨#[97]⟩ (frs X).length false)] (8 + 10 * k + 3) w') := hnb
            have HYS : Hid ((thenR Y qk qn qm).length ≤ k + 1 + 4 ∧ ∀ r ∈ thenR Y qk qn qm, r.length ≤ 399) := hsmY
            clear hnb hsmY
            go_wp2_with fail
            refine Calls.mono HNB.out ?_
            rintro e wb1 ⟨rfl, hstb⟩
            obtain ⟨Sb, hLb, hGb⟩ := HL.out.swap.step apart_ab.symm hstb
            have HLb : Hid (Lg2 w wb1 f Sb la ⟨#[97]⟩ X lb ⟨#[98]⟩ (thenR Y qk qn qm) (8 + 10 * k + 3)) := hLb.swap
            have hidB : ∀ j : Nat, j < wr.heap.size → j ∉ [lb, la] → j ∉ [la, lb] := fun j _ h => by simpa [and_comm] using h
            have hidB' : ∀ j : Nat, j < wr.heap.size → j ∉ [la, lb] → j ∉ [lb, la] := fun j _ h => by simpa [and_comm] using h
            have HXb : Hid (RowsP (Free f Sb [la, lb] wb1) wb1 (.slice ax X.length cx) X) := (HX.out.reids hidB').step2 hGb hidB
            have HYb : Hid (RowsP (Free f Sb [la, lb] wb1) wb1 (.slice ay Y.length cy) Y) := (HY.out.reids hidB').step2 hGb hidB
            clear hstb hLb hGb HNB hidB hidB' f0 f1 f2
            have f0 := cell_below HLb.out.one.sys.base HD.out.1
            have f1 := cell_below HLb.out.one.sys.base HD.out.2.1
            have f2 := cell_below HLb.out.one.sys.base HD.out.2.2
            have HTB : Hid (Calls Tryd.prog 11 #[.slice ay Y.length cy, .agg #[.int .i64 qk, .int .i64 qn, .int .i64 qm]] wb1 fun e w' => ∃ v', e = .returned v' ∧ RowsP (fun j => Free f Sb [la, lb] wb1 j ∨ (wb1.heap.size ≤ j ∧ j < w'.heap.size)) w' v' (thenR Y qk qn qm) ∧ Below wb1.heap.size wb1 w') := then_any _ _ _ qk qn qm wb1 HYb.out (by omega)
            go_wp2_with fail
            refine Calls.mono HTB.out ?_
            rintro e wb2 ⟨yvb, rfl, hyb, hbb⟩
            obtain ⟨ayb, cyb, hyvb⟩ := hyb.shape
            subst hyvb
            have HLc : Hid (Lg2 w wb2 f Sb la ⟨#[97]⟩ X lb ⟨#[98]⟩ (thenR Y qk qn qm) (8 + 10 * k + 3)) := HLb.out.below hbb
            have HXc : Hid (RowsP (Free f Sb [la, lb] wb2) wb2 (.slice ax X.length cx) X) := HXb.out.step (GrB.of_below hbb)
            have HYc : Hid (RowsP (Free f Sb [la, lb] wb2) wb2 (.slice ayb (thenR Y qk qn qm).length cyb) (thenR Y qk qn qm)) := RowsP.fresh HLb.out.one.sys hbb hyb
            have hYl' := HYS.out.1
            have hYs' := HYS.out.2
            clear hyb hbb HTB HLb HXb HYb f0 f1 f2 HL HX HY HYS
            obtain ⟨Y9, hY9⟩ : ∃ Y9, Y9 = thenR Y qk qn qm := ⟨_, rfl⟩
            rw [← hY9] at HLc HYc hYl' hYs' ⊢
            clear hY9
            have HSX : Hid (RowsB wb2 (.slice ax X.length cx) X) := HXc.out.rows
            have HSY : Hid (RowsB wb2 (.slice ayb Y9.length cyb) Y9) := HYc.out.rows
            have hha := lg_has HK.out HLc.out.one _ _ HSX.out (by omega)
            rw [show decide (X = X) = true by simp] at hha
            have HHA : Hid (Calls Tryd.prog 12 #[.pointer (some ⟨la, 0, none⟩), .slice ax X.length cx] wb2 fun e w' => e = .returned (.bool true) ∧ Below wb2.heap.size wb2 w') := hha
            clear hha
            go_wp2_with fail
            refine Calls.mono HHA.out ?_
            rintro e wh ⟨rfl, hbh⟩
            have HLh : Hid (Lg2 w wh f Sb la ⟨#[97]⟩ X lb ⟨#[98]⟩ Y9 (8 + 10 * k + 3)) := HLc.out.below hbh
            have hhb := lg_has HK.out HLh.out.swap.one _ _ (HSY.out.below hbh) (by omega)
            rw [show decide (Y9 = Y9) = true by simp] at hhb
            have HHB : Hid (Calls Tryd.prog 12 #[.pointer (some ⟨lb, 0, none⟩), .slice ayb Y9.length cyb] wh fun e w' => e = .returned (.bool true) ∧ Below wh.heap.size wh w') := hhb
            have HXh : Hid (RowsP (Free f Sb [la, lb] wh) wh (.slice ax X.length cx) X) := HXc.out.step (GrB.of_below hbh)
            have HYh : Hid (RowsP (Free f Sb [la, lb] wh) wh (.slice ayb Y9.length cyb) Y9) := HYc.out.step (GrB.of_below hbh)
            clear hhb hbh HHA HSX HSY
            go_wp2_with fail
            refine Calls.mono HHB.out ?_
            rintro e wg ⟨rfl, hbg⟩
            have HLg : Hid (Lg2 w wg f Sb la ⟨#[97]⟩ X lb ⟨#[98]⟩ Y9 (8 + 10 * k + 3)) := HLh.out.below hbg
            have HXg : Hid (RowsP (Free f Sb [la, lb] wg) wg (.slice ax X.length cx) X) := HXh.out.step (GrB.of_below hbg)
            have HYg : Hid (RowsP (Free f Sb [la, lb] wg) wg (.slice ayb Y9.length cyb) Y9) := HYh.out.step (GrB.of_below hbg)
            clear hbg HHB HLh HXh HYh
            go_wp2_with fail
            go_roundw
            case rel => exact ⟨k + 1, la, Sb, X, Y9, ax, cx, ayb, cyb, by omega, by go_num, rfl, ⟨⟨HLg.out.one.sys, HLg.out.one.file, HLg.out.one.good.mono (by omega), HLg.out.one.live, HLg.out.one.small⟩, HLg.out.file2, HLg.out.small2⟩, rfl, rfl, HXg.out, HYg.out, by omega, hXs, by omega, hYs'⟩
            case measure => simp [intOf]; omega
          · have e2 : ¬ (k : Int) < (n2 : Int) := by omega
            have HSX : Hid (RowsB wr (.slice ax X.length cx) X) := HX.out.rows
            have HSY : Hid (RowsB wr (.slice ay Y.length cy) Y) := HY.out.rows
            have hha := lg_has HK.out HL.out.one _ _ HSX.out (by omega)
            rw [show decide (X = X) = true by simp] at hha
            have HHA : Hid (Calls Tryd.prog 12 #[.pointer (some ⟨la, 0, none⟩), .slice ax X.length cx] wr fun e w' => e = .returned (.bool true) ∧ Below wr.heap.size wr w') := hha
            clear hha
            go_wp2_with fail
            refine Calls.mono HHA.out ?_
            rintro e wh ⟨rfl, hbh⟩
            have HLh : Hid (Lg2 w wh f S la ⟨#[97]⟩ X lb ⟨#[98]⟩ Y (8 + 10 * k)) := HL.out.below hbh
            have hhb := lg_has HK.out HLh.out.swap.one _ _ (HSY.out.below hbh) (by omega)
            rw [show decide (Y = Y) = true by simp] at hhb
            have HHB : Hid (Calls Tryd.prog 12 #[.pointer (some ⟨lb, 0, none⟩), .slice ay Y.length cy] wh fun e w' => e = .returned (.bool true) ∧ Below wh.heap.size wh w') := hhb
            have HXh : Hid (RowsP (Free f S [la, lb] wh) wh (.slice ax X.length cx) X) := HX.out.step (GrB.of_below hbh)
            have HYh : Hid (RowsP (Free f S [la, lb] wh) wh (.slice ay Y.length cy) Y) := HY.out.step (GrB.of_below hbh)
            clear hhb hbh HHA HSX HSY
            go_wp2_with fail
            refine Calls.mono HHB.out ?_
            rintro e wg ⟨rfl, hbg⟩
            have HLg : Hid (Lg2 w wg f S la ⟨#[97]⟩ X lb ⟨#[98]⟩ Y (8 + 10 * k)) := HLh.out.below hbg
            have HXg : Hid (RowsP (Free f S [la, lb] wg) wg (.slice ax X.length cx) X) := HXh.out.step (GrB.of_below hbg)
            have HYg : Hid (RowsP (Free f S [la, lb] wg) wg (.slice ay Y.length cy) Y) := HYh.out.step (GrB.of_below hbg)
            clear hbg HHB HLh HXh HYh
            go_wp2_with fail
            go_roundw
            case rel => exact ⟨k + 1, la, S, X, Y, ax, cx, ay, cy, by omega, by go_num, rfl, ⟨⟨HLg.out.one.sys, HLg.out.one.file, HLg.out.one.good.mono (by omega), HLg.out.one.live, HLg.out.one.small⟩, HLg.out.file2, HLg.out.small2⟩, rfl, rfl, HXg.out, HYg.out, by omega, hXs, by omega, hYs⟩
            case measure => simp [intOf]; omega
      · obtain rfl : k = M := by omega
        have e1 : ¬ (k : Int) < (k : Int) := by omega
        go_wp2_with fail
        refine Calls.mono (wawake_any wr (HL.out.one.sys.kw HK.out)) ?_
        rintro e w4 ⟨rfl, hb4⟩
        have HB4 : Hid (Below w.heap.size w w4) := HL.out.one.sys.base.trans (hb4.mono HL.out.one.sys.base.size)
        clear hb4
        go_wp2_with fail
        go_ret
        exact ⟨rfl, HB4.out⟩
  · rcases (show 30 < n1 ∨ (n1 ≤ 30 ∧ 30 < n2) by omega) with h | ⟨h, h'⟩
    · have g1 : (n1 : Int) > 30 := by omega
      go_enter Tryd.func3, Tryd.ntmps3
      go_wp2_with fail
      refine Calls.mono (wawake_any w HK.out) ?_
      rintro e w1 ⟨rfl, hb1⟩
      have HB1 : Hid (Below w.heap.size w w1) := hb1
      clear hb1
      go_wp2_with fail
      go_ret
      exact ⟨rfl, HB1.out⟩
    · have g1 : ¬ (n1 : Int) > 30 := by omega
      have g2 : (n2 : Int) > 30 := by omega
      go_enter Tryd.func3, Tryd.ntmps3
      go_wp2_with fail
      refine Calls.mono (wawake_any w HK.out) ?_
      rintro e w1 ⟨rfl, hb1⟩
      have HB1 : Hid (Below w.heap.size w w1) := hb1
      clear hb1
      go_wp2_with fail
      go_ret
      exact ⟨rfl, HB1.out⟩
end Go.Proofs.YtbabcdmcjlmkgaaDoor
