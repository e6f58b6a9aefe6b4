/- coraclelaw7.FileDeeds: its walk. -/
import Derived.Test.YtlapnnkahijikaaZR5
import Derived.Test.YtlapnnkahijikaaZL2
namespace Go.Proofs.Ytlapnnkahijikaa
open Go.ChangeShapes Go.WideShapes Go.ChangeAt Go.RowKit Go.Lib

/-- Deeds of which the numbers are ints. -/
def DeedsB (w : World) (a : Option Addr) (l : List Deed) : Prop := Deeds w a l ∧ ∀ d ∈ l, -9223372036854775808 ≤ d.n ∧ d.n ≤ 9223372036854775807
theorem DeedsB.at {w : World} {a : Option Addr} {l : List Deed} (h : DeedsB w a l) {k : Nat} (hk : k < l.length) : ∃ b o, a = some ⟨b, o, none⟩ ∧ w.cell? ⟨b, o + k * 4, none⟩ = some (.int .i64 l[k].k) ∧ w.cell? ⟨b, o + k * 4 + 1, none⟩ = some (.string l[k].a) ∧ w.cell? ⟨b, o + k * 4 + 2, none⟩ = some (.string l[k].b) ∧ w.cell? ⟨b, o + k * 4 + 3, none⟩ = some (.int .i64 l[k].n) := by
  rcases h.1 with h1 | ⟨b, o, ha, hc⟩
  · subst h1; simp at hk
  · exact ⟨b, o, ha, hc k l[k] (List.getElem?_eq_getElem hk)⟩
theorem few_deed {l : List Deed} (h : fewB l = true) : l.length ≤ 60 ∧ ∀ d ∈ l, d.b.size ≤ 200 := by
  unfold fewB at h
  simp only [Bool.and_eq_true, List.all_eq_true, decide_eq_true_eq] at h
  refine ⟨h.2.1, fun d hd => ?_⟩
  have := h.1 d (by rw [List.take_of_length_le (by omega)]; exact hd)
  unfold Deed.ok at this
  simp only [Bool.and_eq_true, decide_eq_true_eq] at this
  exact this.2
theorem new_R (w : World) :
    Calls Try.prog 7 #[] w fun e w' => ∃ f S, e = .returned (.pointer (some ⟨f, 0, none⟩)) ∧ Sys w w' f S [] ∧ S.abs = ⟨[], 0, false, 0, false⟩ := by
  refine (new_any w).mono ?_
  rintro _ w' ⟨rfl, hf, hb, _⟩
  refine ⟨w.heap.size, FS.zero, rfl, ⟨hb, hf, fun k hk => ?_, (fun p hp => by cases hp), List.nodup_nil⟩, rfl⟩
  rcases hk with e | e | ⟨p, hp, _⟩
  · omega
  · cases e
  · cases hp
theorem Bo.zero {w w1 w2 : World} {f : Nat} {S : FS} (hs : Sys w w1 f S []) (ha : S.abs = ⟨[], 0, false, 0, false⟩) (hr : RkAt w2 w1.heap.size (.slice none 0 0) ⟨[], -1, false, 0⟩) (hb : Below w1.heap.size w1 w2) : Bo w w2 f S w1.heap.size (.slice none 0 0) ⟨[], -1, false, 0⟩ 0 := by
  refine ⟨hs.below hb, hr, ⟨fun e => by have := hs.fs.lt e; omega, hs.base.size⟩, (fun k e => by cases e), ?_, ?_, Nat.le_refl _, ⟨by decide, by decide⟩, ?_⟩
  · rw [ha]
    exact ⟨List.Pairwise.nil, List.nodup_nil, fun _ => rfl, rfl, .inr (.inl ⟨rfl, rfl⟩), rfl⟩
  · rw [ha]
    exact ⟨Int.le_refl _, Int.le_refl _, by decide, by decide⟩
  · rw [ha]; intro p hp; cases hp
set_option maxRecDepth 100000 in
set_option maxHeartbeats 4000000 in
theorem fdeeds_any (a : Option Addr) (n c : Nat) (l : List Deed) (w : World) (h : DeedsB w a l) (hn : l.length = n) (hc : n ≤ c) (hcm : c ≤ maxLen) :
    Calls Try.prog 3 #[.slice a n c] w fun e w' => e = .returned (.bool true) ∧ Below w.heap.size w w' := by
  have HFW : Hid (Calls Try.prog 5 #[.slice a n c] w fun e w' => e = .returned (.bool (fewB l)) ∧ w' = w) := few_any a n c l w h.1 hn hc hcm
  have HD : Hid (DeedsB w a l ∧ n = l.length) := ⟨h, hn.symm⟩
  have HFD : Hid (fewB l = true → l.length ≤ 60 ∧ ∀ d ∈ l, d.b.size ≤ 200) := few_deed
  have hn63 : n ≤ 9223372036854775807 := by unfold maxLen at hcm; omega
  clear h hn hc hcm
  go_enter Try.func3, Try.ntmps3
  go_wp2_with fail
  refine Calls.mono HFW.out ?_
  rintro e w0 ⟨rfl, rfl⟩
  clear HFW
  generalize fewB l = F at *
  cases F with
  | false =>
    go_wp2_with fail
    refine Calls.mono (awake_any w0) ?_
    rintro e w1 ⟨rfl, hb1⟩
    have HB1 : Hid (Below w0.heap.size w0 w1) := hb1
    clear hb1
    go_wp2_with fail
    go_ret
    exact ⟨rfl, HB1.out⟩
  | true =>
    have HFD2 : Hid (l.length ≤ 60 ∧ ∀ d ∈ l, d.b.size ≤ 200) := HFD.out rfl
    have hn60 : n ≤ 60 := by rw [HD.out.2]; exact HFD2.out.1
    clear HFD hn63
    go_wp2_with fail
    refine Calls.mono (new_R w0) ?_
    rintro e w1 ⟨f, S1, rfl, hs1, ha1⟩
    have HNF : Hid _ := newFS_any w1
    have HS1 : Hid (Sys w0 w1 f S1 [] ∧ S1.abs = ⟨[], 0, false, 0, false⟩) := ⟨hs1, ha1⟩
    clear hs1 ha1
    go_wp2_with fail
    refine Calls.mono HNF.out ?_
    rintro e w2 ⟨rfl, hr2, hb2⟩
    have HBO : Hid (Bo w0 w2 f S1 w1.heap.size (.slice none 0 0) ⟨[], -1, false, 0⟩ 0) := Bo.zero HS1.out.1 HS1.out.2 hr2 hb2
    clear hr2 hb2 HNF HS1
    generalize w1.heap.size = m at *
    go_wp2_with fail
    go_loopw [5] (fun i wr => ∃ (k : Nat), k ≤ n ∧ i = .int .i64 k ∧ Hid (∃ S v R, Bo w0 wr f S m v R k)) (fun i _ => n - (intOf i).toNat)
    case atStart => exact ⟨0, Nat.zero_le _, rfl, ⟨_, _, _, HBO.out⟩⟩
    case round =>
      obtain ⟨k, hk, rfl, HBK⟩ := hrel
      clear HBO
      obtain ⟨S, v, R, hbo⟩ := HBK.out
      have HB : Hid (Bo w0 wr f S m v R k) := hbo
      clear hbo HBK
      by_cases hlt : k < n
      · have e0 : (0 : Int) ≤ (k : Int) := by omega
        have e1 : (k : Int) < (n : Int) := by omega
        have hkl : k < l.length := by rw [← HD.out.2]; exact hlt
        obtain ⟨b, o, rfl, d0, d1, d2, d3⟩ := HD.out.1.at hkl
        have hdb := HFD2.out.2 _ (List.getElem_mem hkl)
        have hdn := HD.out.1.2 _ (List.getElem_mem hkl)
        generalize l[k] = d at *
        have HBT : Hid _ := both_any w0 wr f S m v R k d HB.out (by omega) hdb hdn.1 hdn.2
        have c0 := cell_below HB.out.sys.base d0
        have c1 := cell_below HB.out.sys.base d1
        have c2 := cell_below HB.out.sys.base d2
        have c3 := cell_below HB.out.sys.base d3
        clear d0 d1 d2 d3 hdb hdn
        go_wp2_with fail
        refine Calls.mono HBT.out ?_
        rintro e w3 ⟨x, S3, v3, R3, rfl, hbo3⟩
        have HB3 : Hid (Bo w0 w3 f S3 m v3 R3 (k + 1)) := hbo3
        have HSH : Hid _ := shows_any7 w0 w3 f S3 m v3 R3 (k + 1) hbo3 (by omega)
        clear hbo3 HBT HB c0 c1 c2 c3
        go_wp2_with fail
        refine Calls.mono HSH.out ?_
        rintro e w4 ⟨rfl, hb4⟩
        have HB4 : Hid (Bo w0 w4 f S3 m v3 R3 (k + 1)) := HB3.out.below hb4
        clear hb4 HSH HB3
        go_wp2_with fail
        go_roundw
        case rel => exact ⟨k + 1, by omega, by go_num, ⟨S3, v3, R3, HB4.out⟩⟩
        case measure => simp [intOf]; omega
      · obtain rfl : k = n := by omega
        have e1 : ¬ (k : Int) < (k : Int) := by omega
        have HBB : Hid (Below w0.heap.size w0 wr) := HB.out.sys.base
        go_wp2_with fail
        refine Calls.mono (awake_any wr) ?_
        rintro e w3 ⟨rfl, hb3⟩
        have HBZ : Hid (Below w0.heap.size w0 w3) := HBB.out.trans (hb3.mono HBB.out.size)
        clear hb3
        go_wp2_with fail
        go_ret
        exact ⟨rfl, HBZ.out⟩
section
variable {H : Type} {enc : TypeId × Value → H}
variable {w : World} {base : Nat} {spare : Nat → Bool} {held : Bool} {fuel : Nat}
theorem open_int2 {cs : List Value} {o m : Nat} {x : Option (DataW H × List MemPlace)} {y : DataW H × List MemPlace} (hx : x = some y) (h : DataW.trod enc Try.prog w base spare held m 3 ((cs.drop o).take (Try.prog.cellsOf 3)) = x) : ∃ n, cs[o]? = some (.int .i64 n) ∧ (Lit.int .i64 n).wf = true := by
  have c3 : Try.prog.cellsOf 3 = 1 := by kernel_rfl
  rw [c3, hx] at h
  obtain ⟨n, e, _, hw⟩ := DataW.trod_int Try.underlying3 h
  exact ⟨n, take_one e, hw⟩
abbrev DeedZ : Type := { d : Deed // -9223372036854775808 ≤ d.n ∧ d.n ≤ 9223372036854775807 }
theorem open_deed2 {cs : List Value} {x : DataW H × List MemPlace} (h : DataW.trod enc Try.prog w base spare held fuel 32 cs = some x) : ∃ d : DeedZ, cs = [.int .i64 d.1.k, .string d.1.a, .string d.1.b, .int .i64 d.1.n] := by
  obtain ⟨xs, m, _, _, hl, hx, hel⟩ := DataW.trod_struct Try.underlying32 h
  have c : Try.prog.cellsOf 32 = 4 := by kernel_rfl
  rw [c] at hl
  have hx3 : xs.length = 4 := hx
  obtain ⟨k, e0, _⟩ := open_int2 (List.getElem?_eq_getElem (show 0 < xs.length by omega)) (hel 0 _ rfl)
  obtain ⟨a, e1⟩ := open_str1 (List.getElem?_eq_getElem (show 1 < xs.length by omega)) (hel 1 _ rfl)
  obtain ⟨b, e2⟩ := open_str1 (List.getElem?_eq_getElem (show 2 < xs.length by omega)) (hel 2 _ rfl)
  obtain ⟨n, e3, hw⟩ := open_int2 (List.getElem?_eq_getElem (show 3 < xs.length by omega)) (hel 3 _ rfl)
  refine ⟨⟨⟨k, a, b, n⟩, bounds_i64 hw⟩, List.ext_getElem? fun i => ?_⟩
  rcases i with _ | _ | _ | _ | i
  · exact e0
  · exact e1
  · exact e2
  · exact e3
  · rw [List.getElem?_eq_none (by omega), List.getElem?_eq_none (by simp)]
theorem open_deeds2 {a : Option Addr} {len cap : Nat} {x : DataW H × List MemPlace} (h : DataW.trod enc Try.prog w base spare held fuel 22 [.slice a len cap] = some x) : ∃ l : List Deed, l.length = len ∧ len ≤ cap ∧ cap ≤ maxLen ∧ DeedsB w a l := by
  obtain ⟨a', len', cap', l, e, h1, h2, h3, h4⟩ := open_row (α := DeedZ) (K := 4) Try.underlying22 (by kernel_rfl) (by decide) (fun d => [.int .i64 d.1.k, .string d.1.a, .string d.1.b, .int .i64 d.1.n]) (fun _ => rfl) ⟨⟨0, ByteArray.empty, ByteArray.empty, 0⟩, by decide⟩ (fun _ _ _ h => open_deed2 h) h
  injection e with e _
  injection e with e1 e2 e3
  subst e1 e2 e3
  refine ⟨l.map Subtype.val, by rw [List.length_map]; exact h1, h2, h3, ?_, fun d hd => ?_⟩
  · rcases h4 with h4 | ⟨b, o, rfl, hc⟩
    · left; rw [h4]; rfl
    · refine .inr ⟨b, o, rfl, fun j d hd => ?_⟩
      rw [List.getElem?_map] at hd
      cases hl : l[j]? with
      | none => rw [hl] at hd; cases hd
      | some y =>
        rw [hl] at hd
        injection hd with hd
        subst hd
        have hj : j < len := by rw [← h1]; exact (List.getElem?_eq_some_iff.1 hl).1
        have hg : l.getD j ⟨⟨0, ByteArray.empty, ByteArray.empty, 0⟩, by decide⟩ = y := by rw [List.getD_eq_getElem?_getD, hl]; rfl
        have hcj := hc j hj
        rw [hg] at hcj
        exact ⟨hcj 0 (by decide), hcj 1 (by decide), hcj 2 (by decide), hcj 3 (by decide)⟩
  · obtain ⟨y, _, rfl⟩ := List.mem_map.1 hd
    exact y.2
end
end Go.Proofs.Ytlapnnkahijikaa
