/- coraclelaw8.WalKeeps: its walk. -/
import Derived.Test.YtbabcdmcjlmkgaaDoorZW8
import Derived.Test.YtbabcdmcjlmkgaaDoorZB
namespace Go.Proofs.YtbabcdmcjlmkgaaDoor
open Go.ChangeShapes Go.WideShapes Go.ChangeAt Go.RowKit Go.Lib

theorem Some8.same {w w' : World} {g n : Nat} (h : Some8 w g n) (hb : w'.heap[g]? = w.heap[g]?) : Some8 w' g n := fun j hj => by
  obtain ⟨⟨z, hz⟩, hf⟩ := h j hj
  refine ⟨⟨z, ?_⟩, ?_⟩
  · unfold World.cell? at *
    rw [hb]; exact hz
  · unfold World.frozen? at *
    rw [hb]; exact hf
/-- Bytes of the law's own, apart from files and logs. -/
def B8 (w0 : World) (f : Nat) (S : FS) (ids : List Nat) (w : World) (a : Option Addr) (m : Nat) : Prop := m = 0 ∨ ∃ g, a = some ⟨g, 0, none⟩ ∧ Free f S ids w g ∧ w0.heap.size ≤ g ∧ Some8 w g m
theorem B8.set {w0 w : World} {f : Nat} {S : FS} {ids : List Nat} {a : Option Addr} {m g i : Nat} (h : B8 w0 f S ids w a m) (z : Int) : B8 w0 f S ids (w.setCell ⟨g, i, none⟩ (.int .u8 z)) a m :=
  h.imp id fun ⟨g', h1, h2, h3, h4⟩ => ⟨g', h1, h2.apart _ _, h3, h4.set z⟩
def E8 (w0 : World) (f : Nat) (S : FS) (ids : List Nat) (w : World) (v : Value) (xs : List Value) : Prop := ∀ (i : Nat) (x : Value), xs[i]? = some x → ∃ ax m cx, x = Value.slice ax m cx ∧ B8 w0 f S ids w ax m ∧ m ≤ 9223372036854775807 ∧ ∀ g, ax = some ⟨g, 0, none⟩ → v.ownBlock ≠ some g
theorem E8.set {w0 w : World} {f : Nat} {S : FS} {ids : List Nat} {v : Value} {xs : List Value} {g i : Nat} (h : E8 w0 f S ids w v xs) (z : Int) : E8 w0 f S ids (w.setCell ⟨g, i, none⟩ (.int .u8 z)) v xs := fun j x hx => by
  obtain ⟨ax, m, cx, h1, h2, h3⟩ := h j x hx
  exact ⟨ax, m, cx, h1, h2.set z, h3⟩
theorem OwnB.few {w : World} {B : Nat} {v : Value} {bs : List (BitVec 8)} (h : OwnB w B v bs) : bs.length ≤ 9223372036854775807 := by
  obtain ⟨a, c, _, h1, h2, _⟩ := h.take (Nat.zero_le _)
  unfold maxLen at h2
  omega
theorem OwnX.few {w : World} {B : Nat} {v : Value} {xs : List Value} (h : OwnX w B v xs) : xs.length ≤ 9223372036854775807 := by
  rcases h.src with ⟨_, rfl⟩ | ⟨_, _, c, _, h1, h2, _⟩
  · exact Nat.zero_le _
  · unfold maxLen at h2
    omega
set_option maxRecDepth 100000 in
set_option maxHeartbeats 8000000 in
theorem wkeeps_any (v : Value) (L : List (List (BitVec 8))) (w : World) (hK : Kw w) (ho : RowsB w v L) :
    Calls Tryd.prog 5 #[v] w fun e w' => e = .returned (.bool true) ∧ Below w.heap.size w w' := by
  obtain ⟨a, c, rfl⟩ := ho.shape
  obtain ⟨n, hn⟩ : ∃ n, n = L.length := ⟨_, rfl⟩
  rw [← hn] at ho ⊢
  have HK : Hid (Kw w) := hK
  have HO : Hid (RowsB w (.slice a n c) L) := ho
  have HN : Hid (n = L.length) := hn
  clear hK ho hn
  by_cases hsz : n ≤ 20
  · have hsz' : ¬ (n : Int) > 20 := by omega
    go_enter Tryd.func5, Tryd.ntmps5
    go_wp2_with fail
    refine Calls.mono (new_lg w) ?_
    rintro e w1 ⟨f, S1, rfl, hs1, hg1, hl1, hL1⟩
    have HOP : Hid (Calls Tryd.prog 9 #[.pointer (some ⟨f, 0, none⟩), .string ⟨#[119]⟩] w1 fun e w' => ∃ l, e = .returned (.tuple #[.pointer (some ⟨l, 0, none⟩), .int .i64 0]) ∧ w1.heap.size ≤ l ∧ LgStep w w1 f S1 l ⟨#[119]⟩ (([] : List (Nat × List Value)).map Prod.fst) [] [] 4 w') :=
      lg_open (X := []) (t := []) (s := 0) HK.out hs1 hg1 hl1 (by omega) nameL_w (fun r hr => by cases hr) firstR_nil (by rw [hL1]; rfl) (by simp [frs])
    clear hs1 hg1 hl1 hL1
    go_wp2_with fail
    refine Calls.mono HOP.out ?_
    rintro e w2 ⟨la, rfl, _, S2, hL2, _, _⟩
    have HL2 : Hid (Lg w w2 f S2 la ⟨#[119]⟩ (L.take 0) [] (4 + 2 * 0)) := by rw [List.take_zero]; exact hL2
    clear hL2 HOP
    go_wp2_with fail
    go_loopw [6] (fun i wr => ∃ (k : Nat) (S : FS), k ≤ n ∧ i = .int .i64 k ∧ Hid (Lg w wr f S la ⟨#[119]⟩ (L.take k) [] (4 + 2 * k)) ∧ Hid (∀ j, j < k → (L.getD j []).length ≤ 300)) (fun i _ => n - (intOf i).toNat)
    case atStart => exact ⟨0, S2, Nat.zero_le _, rfl, HL2.out, fun j hj => absurd hj (Nat.not_lt_zero _)⟩
    case round =>
      obtain ⟨k, S, hk, rfl, HL, HALL⟩ := hrel
      clear HL2
      have HBD : Hid (k ≤ 20 → (frs (L.take k)).length ≤ 341 * 20) := fun h => by
        have h1 : ∀ r ∈ L.take k, r.length ≤ 300 := mem_getD fun j hj => by
          rw [List.length_take] at hj
          have := HALL.out j (by omega)
          rw [List.getD_eq_getElem?_getD, List.getElem?_take_of_lt (by omega), ← List.getD_eq_getElem?_getD]
          exact this
        have h2 := frs_bound h1
        have h3 : (300 + 41) * (L.take k).length ≤ 341 * 20 := Nat.mul_le_mul_left _ (by rw [List.length_take]; omega)
        omega
      by_cases hlt : k < n
      · have e0 : (0 : Int) ≤ (k : Int) := by omega
        have e1 : (k : Int) < (n : Int) := by omega
        have hkL : k < L.length := by rw [← HN.out]; exact hlt
        obtain ⟨b, o, x, hao, hcx, hbx⟩ := HO.out.at (k := k) hkL
        subst hao
        have hcx' := cell_below HL.out.sys.base hcx
        have hbx' := hbx.below HL.out.sys.base
        obtain ⟨ax, cx, rfl, _⟩ := hbx.shape
        obtain ⟨r, hr⟩ : ∃ r, r = L.getD k [] := ⟨_, rfl⟩
        rw [← hr] at hcx' hbx'
        have HR : Hid (r = L.getD k []) := hr
        have HKL : Hid (k < L.length) := hkL
        obtain ⟨mm, hm⟩ : ∃ m, m = r.length := ⟨_, rfl⟩
        rw [← hm] at hcx' hbx'
        have HM : Hid (mm = r.length) := hm
        have HBX : Hid (Bw wr (.slice ax mm cx) r) := hbx'
        clear hcx hbx hbx' hm hr hkL
        by_cases hbig : mm ≤ 300
        · have hb' : ¬ ((mm : Int) > 300) := by omega
          have hsrc : SrcW (wr.alloc (.cells #[] 5)) (.slice ax mm cx) r := HBX.out.src.below ((Below.refl _ _).alloc (Nat.le_refl _) _)
          have HSRC : Hid (SrcW (wr.alloc (.cells #[] 5)) (.slice ax mm cx) r) := hsrc
          clear hsrc
          have hca : (wr.alloc (.cells #[] 5)).cell? ⟨b, o + k, none⟩ = some (.slice ax mm cx) := cell_below ((Below.refl _ _).alloc (Nat.le_refl _) _) hcx'
          go_wp2_with (at_builtin; refine wpList_append_w rfl _ _ rfl wr.heap.size _ [] rfl (OwnB.lit0 wr) _ r rfl HSRC.out (by rw [← HM.out]; simp; omega) (by simp) ?_; intro v2 w2 HO2 HG2; rw [List.nil_append] at HO2; obtain ⟨a2, c2, hv2⟩ := HO2.out.shape; rw [← HM.out] at hv2; subst hv2)
          have hB2 : Below wr.heap.size wr w2 := ((Below.refl wr.heap.size wr).alloc (Nat.le_refl _) _).grown HG2.out (by simp) fun j hj => by injection hj with hj; simp only at hj; omega
          have hap := lg_append HK.out (HL.out.below hB2) (by omega) nameL_w _ r (.inl HO2.out.toBs) (by rw [← HM.out]; omega) (by have := HBD.out (by omega); have := frB_le r; have := HM.out; omega)
          rw [HR.out, ← takeB_next L k [] HKL.out] at hap
          have HAP : Hid (Calls Tryd.prog 15 #[.pointer (some ⟨la, 0, none⟩), .slice a2 mm c2] w2 fun e w' => e = .returned (.int .i64 0) ∧ LgStep w w2 f S la ⟨#[119]⟩ [la] (L.take (k + 1)) [] (4 + 2 * k + 2) w') := hap
          have HB8 : Hid (B8 w f S [la] w2 a2 mm) := by
            rcases HO2.out.some8 with ⟨hv, hb⟩ | ⟨g, cc, hv, hg, hgl, h8⟩
            · exact .inl (by rw [HM.out, hb]; rfl)
            · injection hv with ea en ec
              have hsb := HL.out.sys.base.size
              refine .inr ⟨g, ea, ⟨hgl, fun e => by have := HL.out.sys.fs.lt e; omega, fun e => ?_⟩, by omega, by rw [HM.out]; exact h8⟩
              rw [List.mem_singleton] at e
              have := HL.out.sys.blk.lt
              omega
          clear hap hB2 HBX HSRC HO2 HG2 HL hcx' hca
          go_wp2_with fail
          refine Calls.mono HAP.out ?_
          rintro e w3 ⟨rfl, S3, hL3, hG3, _⟩
          have HL3 : Hid (Lg w w3 f S3 la ⟨#[119]⟩ (L.take (k + 1)) [] (4 + 2 * k + 2)) := hL3
          have HB3 : Hid (B8 w f S3 [la] w3 a2 mm) := by
            rcases HB8.out with h0 | ⟨g, h1, h2, h3, h4⟩
            · exact .inl h0
            · exact .inr ⟨g, h1, h2.step hG3, h3, h4.same (h2.same hG3)⟩
          clear hL3 hG3 HAP HB8
          go_wp2_with fail
          go_loopw [8] (fun i wr => ∃ (j : Nat), j ≤ mm ∧ i = .int .i64 j ∧ Hid (Lg w wr f S3 la ⟨#[119]⟩ (L.take (k + 1)) [] (4 + 2 * k + 2)) ∧ Hid (B8 w f S3 [la] wr a2 mm)) (fun i _ => mm - (intOf i).toNat)
          case atStart => exact ⟨0, Nat.zero_le _, rfl, HL3.out, HB3.out⟩
          case round =>
            obtain ⟨j, hj, rfl, HL, HB⟩ := hrel
            clear HL3 HB3
            by_cases hjm : j < mm
            · have e2 : (0 : Int) ≤ (j : Int) := by omega
              have e3 : (j : Int) < (mm : Int) := by omega
              obtain ⟨g, hg, hfr, hwg, h8⟩ := HB.out.resolve_left (by omega)
              subst hg
              obtain ⟨⟨z, hz⟩, hf⟩ := h8 j hjm
              have HFR : Hid (Free f S3 [la] wr g ∧ w.heap.size ≤ g) := ⟨hfr, hwg⟩
              clear hfr hwg h8
              go_wp2_with fail
              go_roundw
              case rel => exact ⟨j + 1, by omega, by go_num, HL.out.apart HFR.out.1 HFR.out.2 _ _, HB.out.set _⟩
              case measure => simp [intOf]; omega
            · obtain rfl : j = mm := by omega
              have e3 : ¬ (j : Int) < (j : Int) := by omega
              go_wp2_with fail
              refine Calls.mono (records_own HK.out la ⟨#[119]⟩ _ false HL.out.sys) ?_
              rintro e w4 ⟨v4, xs, rfl, hx4, he4, hb4⟩
              obtain ⟨a4, c4, rfl⟩ := hx4.shape
              obtain ⟨q, hq⟩ : ∃ q, q = xs.length := ⟨_, rfl⟩
              rw [← hq] at hx4 he4 ⊢
              have HQ : Hid (q = xs.length) := hq
              have HL4 : Hid (Lg w w4 f S3 la ⟨#[119]⟩ (L.take (k + 1)) [] (4 + 2 * k + 2)) := HL.out.below hb4
              have hq63 : q ≤ 9223372036854775807 := by rw [hq]; exact hx4.few
              have HX4 : Hid (OwnX w4 wr.heap.size (.slice a4 q c4) xs) := hx4
              have HE4 : Hid (E8 w f S3 [la] w4 (.slice a4 q c4) xs) := fun i x hx => by
                obtain ⟨bs, hbs, hne⟩ := he4 x (List.mem_of_getElem? hx)
                rcases hbs.some8 with ⟨hv, hb⟩ | ⟨g, cc, hv, hg, hgl, h8⟩
                · exact ⟨none, 0, 0, hv, .inl rfl, Nat.zero_le _, fun g hg => by cases hg⟩
                · refine ⟨_, _, _, hv, .inr ⟨g, rfl, ⟨hgl, fun e => by have := HL.out.sys.fs.lt e; omega, fun e => ?_⟩, by have := HL.out.sys.base.size; omega, h8⟩, hbs.few, fun g' hg' => hne g' (by rw [hv]; injection hg' with hg'; injection hg' with hg'; rw [← hg']; rfl)⟩
                  rw [List.mem_singleton] at e
                  have := HL.out.sys.blk.lt
                  omega
              clear hx4 he4 hb4 hq HL HB
              go_wp2_with fail
              go_loopw [10] (fun i wx => ∃ (k2 : Nat), k2 ≤ q ∧ i = .int .i64 k2 ∧ Hid (Lg w wx f S3 la ⟨#[119]⟩ (L.take (k + 1)) [] (4 + 2 * k + 2)) ∧ Hid (∃ B, OwnX wx B (.slice a4 q c4) xs) ∧ Hid (E8 w f S3 [la] wx (.slice a4 q c4) xs)) (fun i _ => q - (intOf i).toNat)
              case atStart => exact ⟨0, Nat.zero_le _, rfl, HL4.out, ⟨_, HX4.out⟩, HE4.out⟩
              case round =>
                obtain ⟨k2, hk2, rfl, HL, HX, HE⟩ := hrel
                clear HL4 HX4 HE4
                by_cases hkq : k2 < q
                · have e4 : (0 : Int) ≤ (k2 : Int) := by omega
                  have e5 : (k2 : Int) < (q : Int) := by omega
                  obtain ⟨x, hx⟩ : ∃ x, xs[k2]? = some x := ⟨_, List.getElem?_eq_getElem (by rw [← HQ.out]; exact hkq)⟩
                  obtain ⟨ay, my, cy, hxv, _, hmy, _⟩ := HE.out k2 x hx
                  subst hxv
                  have HXK : Hid (xs[k2]? = some (.slice ay my cy)) := hx
                  have HQK : Hid (0 < xs.length) := show 0 < _ by rw [← HQ.out]; omega
                  clear hx
                  go_wp2_with fail
                  go_loopw [11] (fun i wy => ∃ (j2 : Nat), j2 ≤ my ∧ i = .int .i64 j2 ∧ Hid (Lg w wy f S3 la ⟨#[119]⟩ (L.take (k + 1)) [] (4 + 2 * k + 2)) ∧ Hid (∃ B, OwnX wy B (.slice a4 q c4) xs) ∧ Hid (E8 w f S3 [la] wy (.slice a4 q c4) xs)) (fun i _ => my - (intOf i).toNat)
                  case atStart => exact ⟨0, Nat.zero_le _, rfl, HL.out, HX.out, HE.out⟩
                  case round =>
                    obtain ⟨j2, hj2, rfl, HL, HX, HE⟩ := hrel
                    obtain ⟨B, hB⟩ := HX.out
                    obtain ⟨gr, cr, hv, _, _, _, hcell⟩ := hB.block HQK.out
                    injection hv with ea _ _
                    subst ea
                    have hck := hcell k2 _ HXK.out
                    have HB : Hid (OwnX wr B (.slice (some ⟨gr, 0, none⟩) q c4) xs) := hB
                    clear hB hcell
                    by_cases hjy : j2 < my
                    · have e6 : (0 : Int) ≤ (j2 : Int) := by omega
                      have e7 : (j2 : Int) < (my : Int) := by omega
                      obtain ⟨ax', m', cx', hxv, hb8, _, hne⟩ := HE.out k2 _ HXK.out
                      injection hxv with e8 e9 e10
                      subst e8
                      subst e9
                      obtain ⟨g, hg, hfr, hwg, h8⟩ := hb8.resolve_left (by omega)
                      subst hg
                      obtain ⟨⟨z, hz⟩, hf⟩ := h8 j2 hjy
                      have HFR : Hid (Free f S3 [la] wr g ∧ w.heap.size ≤ g) := ⟨hfr, hwg⟩
                      have HNE : Hid (gr ≠ g) := fun e => hne g rfl (by rw [← e]; rfl)
                      clear hfr hwg h8 hne hb8 e10
                      go_wp2_with fail
                      go_roundw
                      case rel => exact ⟨j2 + 1, by omega, by go_num, HL.out.apart HFR.out.1 HFR.out.2 _ _, ⟨B, HB.out.same fun i hi => by injection hi with hi; simp only at hi; exact Below.heap_setCell _ _ _ _ (by simp only [ne_eq]; rw [← hi]; exact HNE.out)⟩, HE.out.set _⟩
                      case measure => simp [intOf]; omega
                    · obtain rfl : j2 = my := by omega
                      have e7 : ¬ (j2 : Int) < (j2 : Int) := by omega
                      go_wp2_with fail
                      go_roundw
                      case rel => exact ⟨k2 + 1, by omega, by go_num, HL.out, ⟨B, HB.out⟩, HE.out⟩
                      case measure => simp [intOf]; omega
                · obtain rfl : k2 = q := by omega
                  have e5 : ¬ (k2 : Int) < (k2 : Int) := by omega
                  go_wp2_with fail
                  go_roundw
                  case rel =>
                    refine ⟨k + 1, S3, by omega, by go_num, HL.out, fun i hi => ?_⟩
                    by_cases e : i = k
                    · rw [e, ← HR.out, ← HM.out]; exact hbig
                    · exact HALL.out i (by omega)
                  case measure => simp [intOf]; omega
        · have hb' : (mm : Int) > 300 := by omega
          go_wp2_with fail
          refine Calls.mono (wawake_any wr (HL.out.sys.kw HK.out)) ?_
          rintro e w4 ⟨rfl, hb4⟩
          have HB4 : Hid (Below w.heap.size w w4) := HL.out.sys.base.trans (hb4.mono HL.out.sys.base.size)
          clear hb4
          go_wp2_with fail
          go_ret
          exact ⟨rfl, HB4.out⟩
      · obtain rfl : k = n := by omega
        have e1 : ¬ (k : Int) < (k : Int) := by omega
        have htk : L.take k = L := by rw [HN.out, List.take_length]
        rw [htk] at HL HBD
        have hfl := HBD.out hsz
        have hop := lg_open (X := L) (t := []) (s := (frs L).length) (nm := ⟨#[119]⟩) HK.out HL.out.sys HL.out.good HL.out.live (by omega) nameL_w HL.out.small firstR_nil (by rw [HL.out.file.1, List.append_nil]; rfl) (by rw [List.append_nil]; omega)
        have HOP : Hid (Calls Tryd.prog 9 #[.pointer (some ⟨f, 0, none⟩), .string ⟨#[119]⟩] wr fun e w' => ∃ l, e = .returned (.tuple #[.pointer (some ⟨l, 0, none⟩), .int .i64 0]) ∧ wr.heap.size ≤ l ∧ LgStep w wr f S l ⟨#[119]⟩ [la] L [(la, lgC f ⟨#[119]⟩ (frs L).length false)] (4 + 2 * k + 4) w') := hop
        have hLn : L.length ≤ 1000000 := by rw [← HN.out]; omega
        clear hop hfl htk
        go_wp2_with fail
        refine Calls.mono HOP.out ?_
        rintro e w5 ⟨lx, rfl, _, S5, hL5, _, _⟩
        have HLX : Hid (Lg w w5 f S5 lx ⟨#[119]⟩ L [(la, lgC f ⟨#[119]⟩ (frs L).length false)] (4 + 2 * k + 4)) := hL5
        have HLA : Hid (Lg w w5 f S5 la ⟨#[119]⟩ L [(lx, lgC f ⟨#[119]⟩ (frs L).length false)] (4 + 2 * k + 4)) := ⟨hL5.sys.swap, hL5.file, hL5.good, hL5.live, hL5.small⟩
        have HH1 : Hid (Calls Tryd.prog 12 #[.pointer (some ⟨la, 0, none⟩), .slice a k c] w5 fun e w' => e = .returned (.bool true) ∧ Below w5.heap.size w5 w') := by
          have := lg_has HK.out HLA.out _ L (HO.out.below HLA.out.sys.base) hLn
          rw [show decide (L = L) = true by simp] at this
          exact this
        clear hL5 HOP HL
        go_wp2_with fail
        refine Calls.mono HH1.out ?_
        rintro e w6 ⟨rfl, hb6⟩
        have HLX6 : Hid (Lg w w6 f S5 lx ⟨#[119]⟩ L [(la, lgC f ⟨#[119]⟩ (frs L).length false)] (4 + 2 * k + 4)) := HLX.out.below hb6
        have HH2 : Hid (Calls Tryd.prog 12 #[.pointer (some ⟨lx, 0, none⟩), .slice a k c] w6 fun e w' => e = .returned (.bool true) ∧ Below w6.heap.size w6 w') := by
          have := lg_has HK.out HLX6.out _ L (HO.out.below HLX6.out.sys.base) hLn
          rw [show decide (L = L) = true by simp] at this
          exact this
        clear hb6 HH1 HLX HLA
        go_wp2_with fail
        refine Calls.mono HH2.out ?_
        rintro e w7 ⟨rfl, hb7⟩
        have HLX7 : Hid (Lg w w7 f S5 lx ⟨#[119]⟩ L [(la, lgC f ⟨#[119]⟩ (frs L).length false)] (4 + 2 * k + 4)) := HLX6.out.below hb7
        clear hb7 HH2 HLX6
        go_wp2_with fail
        refine Calls.mono (wawake_any w7 (HLX7.out.sys.kw HK.out)) ?_
        rintro e w8 ⟨rfl, hb8⟩
        have HB8 : Hid (Below w.heap.size w w8) := HLX7.out.sys.base.trans (hb8.mono HLX7.out.sys.base.size)
        clear hb8 HLX7
        go_wp2_with fail
        go_ret
        exact ⟨rfl, HB8.out⟩
  · have g1 : (n : Int) > 20 := by omega
    go_enter Tryd.func5, Tryd.ntmps5
    go_wp2_with fail
    refine Calls.mono (wawake_any w HK.out) ?_
    rintro e w1 ⟨rfl, hb1⟩
    have HB1 : Hid (Below w.heap.size w w1) := hb1
    clear hb1
    go_wp2_with fail
    go_ret
    exact ⟨rfl, HB1.out⟩
end Go.Proofs.YtbabcdmcjlmkgaaDoor
