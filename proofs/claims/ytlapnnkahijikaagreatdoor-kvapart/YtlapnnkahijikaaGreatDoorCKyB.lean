/- coraclelaw9.KvApart: its walk (printed by tools/mkapart.py). -/
import Derived.Test.YtlapnnkahijikaaGreatDoorCKyT
namespace Go.Proofs.YtlapnnkahijikaaGreatDoor
open Go.ChangeShapes Go.WideShapes Go.ChangeAt Go.RowKit Go.Lib

theorem nameL_a : NameL ⟨#[97]⟩ := ⟨by decide, by decide⟩
theorem nameL_b : NameL ⟨#[98]⟩ := ⟨by decide, by decide⟩
theorem apart_ab : Apart ⟨#[97]⟩ ⟨#[98]⟩ := ⟨by decide, by decide, by decide, by decide⟩
theorem OwnP.lit0 (w : World) : OwnP (w.alloc (.cells #[] 48)) w.heap.size (.slice (some ⟨w.heap.size, 0, none⟩) 0 0) [] :=
  World.ownsRow_lit w #[] 0 (Nat.le_refl _) (by unfold maxLen; omega) (by rfl)
theorem thist_lenA {H : List (List Pr)} : (thist H).length ≤ H.flatten.length := by
  have := thist_length (H := H) (T := [])
  simpa [thist] using this
theorem OwnP.rowW {w wi : World} {f : Nat} {S : FS} {ids : List Nat} {X Y N : Nat} {kv vv ku vu : Value} {a : Option Addr} {c : Nat} {T : List Pr} (h : OwnP wi N (.slice a T.length c) T) (hf : ∀ g, N ≤ g → g < wi.heap.size → Off w wi f S ids X Y kv vv ku vu g) : RowW w wi f S ids X Y kv vv ku vu a T.length := by
  by_cases hT : T = []
  · left; rw [hT]; rfl
  · obtain ⟨g, c', cs, e, hb, hl, hn⟩ := h.blk hT
    injection e with e _ _
    exact .inr ⟨g, cs, e, hf g hn hb.lt, hb, hl⟩
/-- The law's stores and tables behind so many rounds. -/
structure Ap (w wi : World) (f l s r l2 s2 r2 X Y k : Nat) : Prop where
  st : ∃ (S : FS) (m m2 : Int) (H H2 : List (List Pr)) (q : Nat) (kv vv ku vu : Value), Duo w wi f S l s r ⟨#[97]⟩ m H l2 s2 r2 ⟨#[98]⟩ m2 H2 q X Y kv vv (thist H) ku vu (thist H2) ∧ q ≤ 8 + 2 * k ∧ (0 ≤ m ∧ m ≤ k) ∧ (0 ≤ m2 ∧ m2 ≤ k) ∧ H.flatten.length ≤ 10 * k ∧ H2.flatten.length ≤ 10 * k
set_option maxRecDepth 100000 in
set_option maxHeartbeats 16000000 in
theorem kapart_any (vl : Value) (L : List (List Pr)) (w : World) (hK : Kw w) (hL : Bats w vl L) :
    Calls Tryz.prog 6 #[vl] w fun e w' => e = .returned (.bool true) ∧ Below w.heap.size w w' := by
  have HMO : Hid (Tryz.prog.follows .mixedOrders = true) := show _ = _ by kernel_rfl
  have HK : Hid (Kw w) := hK
  have HAW : Hid (∀ w', Kw w' → Calls Tryz.prog 8 #[] w' fun e w'' => e = .returned (.bool true) ∧ Below w'.heap.size w' w'') := fun w' h => kawake_any w' h
  have HSM : Hid (Calls Tryz.prog 7 #[vl] w fun e w' => SmOut e L ∧ w' = w) := small_any vl L w hL
  obtain ⟨al, cl, rfl⟩ := hL.shape
  obtain ⟨p, hp⟩ : ∃ p, p = L.length := ⟨_, rfl⟩
  rw [← hp] at hL HSM ⊢
  have HL : Hid (Bats w (.slice al p cl) L) := hL
  have HP : Hid (p = L.length) := hp
  clear hK hL hp
  go_enter Tryz.func6, Tryz.ntmps6
  go_wp2_with fail
  refine Calls.mono HSM.out ?_
  rintro e w0 ⟨⟨x, rfl, hsm⟩, rfl⟩
  clear HSM
  cases x with
  | false =>
    clear hsm
    have HA : Hid _ := HAW.out w0 HK.out
    go_wp2_with fail
    refine Calls.mono HA.out ?_
    rintro e w1 ⟨rfl, hb1⟩
    have HB1 : Hid (Below w0.heap.size w0 w1) := hb1
    clear hb1
    go_wp2_with fail
    go_ret
    exact ⟨rfl, HB1.out⟩
  | true =>
    have HS : Hid (SmL L) := hsm rfl
    have hp25 : p ≤ 25 := by rw [HP.out]; exact HS.out.1
    clear hsm
    go_wp2_with fail
    refine Calls.mono (new_lg w0) ?_
    rintro e w1 ⟨f, S1, rfl, hs1, hg1, hl1, hL1⟩
    have HO : Hid _ := kv_open (nm := ⟨#[97]⟩) (H := []) (t := []) (z := 0) HK.out hs1 hg1 hl1 (by omega) nameL_a Hist.nil firstR_nil (by rw [hL1]; rfl) (by simp)
    have HL1 : Hid (S1.abs.L = []) := hL1
    clear hs1 hg1 hl1 hL1
    go_wp2_with fail
    refine Calls.mono HO.out ?_
    rintro e w2 ⟨s, l, r, rfl, _, S2, hk2, _, hx2⟩
    have HK2 : Hid (Kv w0 w2 f S2 l s r ⟨#[97]⟩ 0 [] 4) := hk2
    have HO2 : Hid _ := kv_open (nm := ⟨#[98]⟩) (H := []) (t := []) (z := 0) HK.out hk2.shut hk2.lg.good hk2.lg.live (by omega) nameL_b Hist.nil firstR_nil (by rw [hx2 _ (by decide) (by decide), HL1.out]; rfl) (by simp)
    clear hk2 hx2 HO HL1
    go_wp2_with fail
    refine Calls.mono HO2.out ?_
    rintro e w3 ⟨s2, l2, r2, rfl, hlt3, S3, hk3, hg3, hx3⟩
    have HD3 : Hid (Kv w0 w3 f S3 l s r ⟨#[97]⟩ 0 [] 8 ∧ Beside w0 w3 f S3 [l, s, r] l2 s2 r2 ⟨#[98]⟩ 0 []) := hk3.swap (HK2.out.second apart_ab.symm hlt3 hg3 hx3)
    clear hk3 hlt3 hg3 hx3 HK2 HO2
    go_wp2_with fail
    have HX3 : Hid (w0.heap.size ≤ w3.heap.size) := HD3.out.1.lg.sys.base.size
    have HD4 : Hid _ := HD3.out.1.boxes HD3.out.2 34
    generalize World.alloc (World.alloc w3 _) _ = w4 at *
    obtain ⟨Y, hY⟩ : ∃ y, y = w3.heap.size + 1 := ⟨_, rfl⟩
    rw [← hY] at HD4 ⊢
    have HY3 : Hid (w0.heap.size ≤ Y) := show _ ≤ _ by rw [hY]; exact Nat.le_succ_of_le HX3.out
    generalize w3.heap.size = X at *
    have HAP4 : Hid (Ap w0 w4 f l s r l2 s2 r2 X Y 0) := ⟨S3, 0, 0, [], [], 8, _, _, _, _, HD4.out, by omega, by omega, by omega, by simp, by simp⟩
    clear HD3 HD4 hY
    go_loopw [10] (fun i wr => ∃ (k : Nat), k ≤ p ∧ i = .int .i64 k ∧ Hid (Ap w0 wr f l s r l2 s2 r2 X Y k)) (fun i _ => p - (intOf i).toNat)
    case atStart => exact ⟨0, Nat.zero_le _, rfl, HAP4.out⟩
    case round =>
      obtain ⟨k, hk, rfl, HAP⟩ := hrel
      clear HAP4
      obtain ⟨wb, hwb⟩ : ∃ x, x = wr := ⟨_, rfl⟩
      subst hwb
      obtain ⟨S, m, m2, H, H2, q, kv, vv, ku, vu, hduo, hq, hm, hm2, hfl, hfl2⟩ := HAP.out.st
      have HD : Hid (Duo w0 wb f S l s r ⟨#[97]⟩ m H l2 s2 r2 ⟨#[98]⟩ m2 H2 q X Y kv vv (thist H) ku vu (thist H2)) := hduo
      have HB : Hid (q ≤ 8 + 2 * k ∧ (0 ≤ m ∧ m ≤ k) ∧ (0 ≤ m2 ∧ m2 ≤ k) ∧ H.flatten.length ≤ 10 * k ∧ H2.flatten.length ≤ 10 * k ∧ k ≤ 25) := ⟨hq, hm, hm2, hfl, hfl2, by omega⟩
      clear hduo hq hm hm2 hfl hfl2 HAP
      obtain ⟨b1, d1, hv1, _⟩ := HD.out.tt.t.tab.keys.facts
      obtain ⟨b2, d2, hv2, _⟩ := HD.out.tt.t.tab.vals.facts
      obtain ⟨b3, d3, hv3, _⟩ := HD.out.tt.u.tab.keys.facts
      obtain ⟨b4, d4, hv4, _⟩ := HD.out.tt.u.tab.vals.facts
      subst hv1
      subst hv2
      subst hv3
      subst hv4
      obtain ⟨y1, hy1⟩ : ∃ y, y = ((thist H).map Pr.k).length := ⟨_, rfl⟩
      obtain ⟨y2, hy2⟩ : ∃ y, y = ((thist H).map Pr.v).length := ⟨_, rfl⟩
      obtain ⟨y3, hy3⟩ : ∃ y, y = ((thist H2).map Pr.k).length := ⟨_, rfl⟩
      obtain ⟨y4, hy4⟩ : ∃ y, y = ((thist H2).map Pr.v).length := ⟨_, rfl⟩
      rw [← hy1, ← hy2, ← hy3, ← hy4] at HD
      clear hy1 hy2 hy3 hy4
      by_cases hlt : k < p
      · have e0 : (0 : Int) ≤ (k : Int) := by omega
        have e1 : (k : Int) < (p : Int) := by omega
        obtain ⟨b, o, rfl, a', c', hc, he⟩ := HL.out.at (k := k) (by rw [← HP.out]; exact hlt)
        obtain ⟨hs1, hs2⟩ := HS.out.2 k (by rw [← HP.out]; exact hlt)
        obtain ⟨hask, hsp⟩ := may_ask hs1 hs2
        generalize L.getD k [] = bt at *
        obtain ⟨z, hz⟩ : ∃ z, z = bt.length := ⟨_, rfl⟩
        rw [← hz] at hc he
        have HE : Hid (Els w0 a' z c' bt ∧ z = bt.length ∧ bt.length ≤ 10 ∧ ∀ p ∈ bt, SmP p) := ⟨he, hz, hs1, hsp⟩
        have HC0 : Hid (w0.cell? ⟨b, o + k, none⟩ = some (.slice a' z c')) := hc
        have HASK : Hid (kask bt = mayE bt) := hask
        have HMAY : Hid _ := may_any a' z c' bt wb (he.below HD.out.a.lg.sys.base)
        have hcr : wb.cell? ⟨b, o + k, none⟩ = some (.slice a' z c') := cell_below' HD.out.a.lg.sys.base hc
        clear he hz hs1 hs2 hsp hask hc
        go_wp2_with fail
        refine Calls.mono HMAY.out ?_
        rintro e w4 ⟨rfl, hb4⟩
        have HD4 : Hid _ := HD.out.below hb4
        clear hb4 hcr HMAY HD
        by_cases hm0 : mayE bt = 0
        · rw [hm0]
          have HB5 : Hid (Below w4.heap.size w4 (w4.alloc (.cells #[] 48))) := (Below.refl _ _).alloc (Nat.le_refl _) _
          have hce : (w4.alloc (.cells #[] 48)).cell? ⟨b, o + k, none⟩ = some (.slice a' z c') := cell_below' (HD4.out.below HB5.out).a.lg.sys.base HC0.out
          have HE5 : Hid (Els (w4.alloc (.cells #[] 48)) a' z c' bt) := HE.out.1.below (HD4.out.below HB5.out).a.lg.sys.base
          by_cases h3 : k % 3 = 2
          · have ht4 : ((k : Int) % 3 == 2) = true := beq_iff_eq.2 (by omega)
            go_wp2_with (at_builtin; refine wpList_append_e elPr rfl _ _ rfl w4.heap.size _ [] rfl (OwnP.lit0 w4) a' z c' bt rfl HE5.out (by have := HE.out; simp; omega) (by simp) ?_; intro v5 w5 HO5 HG5 _; rw [List.nil_append] at HO5; obtain ⟨a5, c5, hv5, _⟩ := HO5.out.els; rw [← HE.out.2.1] at hv5; subst hv5)
            have hbn : bt ≠ [] := fun e => by rw [e] at hm0; cases hm0
            obtain ⟨g, cg, cs, e5, hblk5, hcs5, hg5⟩ := OwnP.blk HO5.out hbn
            rw [← HE.out.2.1] at e5 hcs5
            injection e5 with e5 _ e6
            subst e5
            have HW5 : Hid (Below w4.heap.size w4 w5) := HB5.out.trans ((Below.refl _ _).grown HG5.out (by simp) fun j e => by injection e with e; simp only at e; omega)
            have HD5 : Hid _ := HD4.out.below HW5.out
            have HF5 : Hid (Off w0 w5 f S [l, s, r, l2, s2, r2] X Y (.slice b1 y1 d1) (.slice b2 y2 d2) (.slice b3 y3 d3) (.slice b4 y4 d4) g) := HD4.out.fresh hg5 hblk5.lt
            have HG : Hid (Blk w5 g cs ∧ 3 * z ≤ cs.length) := ⟨hblk5, hcs5⟩
            have HEG : Hid (Els w5 (some ⟨g, 0, none⟩) z c5 bt) := by
              obtain ⟨a9, c9, e9, h9⟩ := HO5.out.els
              injection e9 with e9 _ e10
              rw [HE.out.2.1, e9, e10]; exact h9
            clear e6 hblk5 hcs5 hg5 HO5 HG5 HB5 HW5 HD4 HE5 hce hbn
            have hlen : H.flatten.length + bt.length ≤ 1000 ∧ H2.flatten.length + bt.length ≤ 1000 := by have := HB.out; have := HE.out.2; omega
            have HLEN : Hid (H.flatten.length + bt.length ≤ 1000 ∧ H2.flatten.length + bt.length ≤ 1000) := hlen
            clear hlen
            have hz0 : z ≠ 0 := fun e => by
              rw [mayE, if_pos (by have := HE.out.2.1; omega)] at hm0
              cases hm0
            have HPUT : Hid (∀ (K V : Value) (HH : List (List Pr)) wj, HH.flatten.length + bt.length ≤ 1000 → TabAt wj 0 K V (thist HH) → Els wj a' z c' bt → Calls Tryz.prog 13 #[.agg #[K, V], .slice a' z c'] wj fun e w' => ∃ kv' vv', e = .returned (.agg #[kv', vv']) ∧ TabAt w' wj.heap.size kv' vv' (thist (HH ++ [bt])) ∧ Below wj.heap.size wj w') := fun K V HH wj hl ht he => by
              have := tabput_any _ _ _ a' z c' bt 0 wj ht he (by have := thist_lenA (H := HH); have := HE.out.2; omega) (Nat.zero_le _)
              rw [show tabN z 0 wj.heap.size = wj.heap.size from if_neg hz0, ← thist_snoc] at this
              exact this
            have HK0 : Hid (kask bt = 0) := by rw [HASK.out]; exact hm0
            have HBX : Hid (b ≠ X ∧ b ≠ Y) := by
              have h1 : b < w0.heap.size := World.block_lt_of_cell? w0 _ HC0.out
              exact ⟨fun e => by have := HX3.out; omega, fun e => by have := HY3.out; omega⟩
            clear hz0 hm0 HASK
            have HDB : Hid (Duo w0 w5 f S l2 s2 r2 ⟨#[98]⟩ m2 H2 l s r ⟨#[97]⟩ m H q Y X (.slice b3 y3 d3) (.slice b4 y4 d4) (thist H2) (.slice b1 y1 d1) (.slice b2 y2 d2) (thist H)) := HD5.out.swap
            have HOF : Hid (Off w0 w5 f S [l2, s2, r2, l, s, r] Y X (.slice b3 y3 d3) (.slice b4 y4 d4) (.slice b1 y1 d1) (.slice b2 y2 d2) g) := (HF5.out.symm).reids fun j hj => .inl (by simp only [List.mem_cons, List.not_mem_nil, or_false] at hj ⊢; omega)
            clear HD5 HF5
            have x0 : w5.drew.cell? ⟨Y, 0, none⟩ = some (.slice b3 y3 d3) := HDB.out.tt.t.box.drew.one rfl
            have x1 : w5.drew.cell? ⟨Y, 1, none⟩ = some (.slice b4 y4 d4) := HDB.out.tt.t.box.drew.one rfl
            clear ht4 h3
            go_upto_region 17 with fail
            refine wp_region_noPanic ?_
            refine wp_region_held_drew (S := fun w' => w'.cell? ⟨b, o + k, none⟩ = some (.slice a' z c')) HMO.out (cell_below' HDB.out.a.lg.sys.base.drew HC0.out) (fun hHeld => ?_)
            refine wpAnyH_take (i := 1) (oi := { dst := some 75, op := .move (.tmp 0), type := 22, pos := "law.go:271", after := #[], guard := none }) (v := ?_) rfl (by kernel_rfl) (by kernel_rfl) (by kernel_rfl) (fun _ _ _ h => h) (Or.inl ⟨by rfl, ?_⟩) (by assumption) ?_
            rotate_left
            · intro _ _; go_simp; first | done | with_reducible rfl
            simp only [Act.put, List.setIfInBounds_toArray, List.set_cons_zero, List.set_cons_succ]
            refine wpAnyH_take (i := 2) (oi := { dst := some 76, op := .move (.tmp 10), type := 3, pos := "law.go:271", after := #[], guard := none }) (v := ?_) rfl (by kernel_rfl) (by kernel_rfl) (by kernel_rfl) (fun _ _ _ h => h) (Or.inl ⟨by rfl, ?_⟩) (by assumption) ?_
            rotate_left
            · intro _ _; go_simp; first | done | with_reducible rfl
            simp only [Act.put, List.setIfInBounds_toArray, List.set_cons_zero, List.set_cons_succ]
            refine wpAnyH_take (i := 3) (oi := { dst := some 77, op := .indexAddr 22 (.tmp 75) (.tmp 76), type := 0, pos := "law.go:271", after := #[{ on := 1, ground := .data }, { on := 2, ground := .data }], guard := none }) (v := ?_) rfl (by kernel_rfl) (by kernel_rfl) (by kernel_rfl) (fun _ _ _ h => h) (Or.inl ⟨by rfl, ?_⟩) (by assumption) ?_
            rotate_left
            · intro _ _; go_simp; first | done | with_reducible rfl
            simp only [Act.put, List.setIfInBounds_toArray, List.set_cons_zero, List.set_cons_succ]
            refine wpAnyH_take (i := 4) (oi := { dst := some 78, op := .load 36 (.tmp 77), type := 36, pos := "law.go:271", after := #[{ on := 3, ground := .data }], guard := none }) (v := .slice a' z c') rfl (by kernel_rfl) (by kernel_rfl) (by kernel_rfl) (fun _ _ _ h => h) (Or.inl ⟨by rfl, ?_⟩) (by assumption) ?_
            · intro _ _; rename_i wz hz; have cz := hz; go_simp
            simp only [Act.put, List.setIfInBounds_toArray, List.set_cons_zero, List.set_cons_succ]
            refine wpAnyH_ready (rs := [0]) (by kernel_rfl) (by simp) ?_
            refine AllReadyH.cons (o := { dst := some 74, op := .load 34 (.tmp 9), type := 34, pos := "law.go:271", after := #[], guard := none }) rfl (fun K hK => ?_) AllReadyH.nil
            go_simp
            skip
            go_simp
            refine hK.out _ _ (cell_below' HDB.out.a.lg.sys.base.drew HC0.out) (fun hHeld => ?_)
            clear hK K
            refine wpAnyH_ready (rs := [5]) (by kernel_rfl) (by simp) ?_
            refine AllReadyH.cons (o := { dst := some 79, op := .call { callee := .value (.func 13), args := #[.tmp 74, .tmp 78], argTypes := #[34, 36] }, type := 34, pos := "law.go:271", after := #[{ on := 0, ground := .data }, { on := 4, ground := .data }], guard := none }) rfl (fun K hK => ?_) AllReadyH.nil
            go_simp
            refine (HPUT.out _ _ H2 _ HLEN.out.2 (HDB.out.tt.t.tab.below (Below.refl _ _).drew) (HE.out.1.below HDB.out.a.lg.sys.base.drew)).mono ?_; rintro e w6 ⟨kv', vv', rfl, ht6, hb6⟩; have HB6 : Hid (Below w5.heap.size w5 w6) := below_undrew hb6; obtain ⟨b7, d7, hv7, _⟩ := ht6.keys.facts; obtain ⟨b8, d8, hv8, _⟩ := ht6.vals.facts; subst hv7; subst hv8; obtain ⟨y7, hy7⟩ : ∃ y, y = ((thist (H2 ++ [bt])).map Pr.k).length := ⟨_, rfl⟩; obtain ⟨y8, hy8⟩ : ∃ y, y = ((thist (H2 ++ [bt])).map Pr.v).length := ⟨_, rfl⟩; rw [← hy7, ← hy8] at ht6 ⊢; have HT6 : Hid (TabAt w6 w5.heap.size (.slice b7 y7 d7) (.slice b8 y8 d8) (thist (H2 ++ [bt]))) := ht6; have hf0 := (HDB.out.below HB6.out).tt.t.box.frozen 0; have hf1 := (HDB.out.below HB6.out).tt.t.box.frozen 1; clear ht6 hb6 hy7 hy8 x0 x1; have hy0 : w6.cell? ⟨Y, 0, none⟩ = some (.slice b3 y3 d3) := (HDB.out.below HB6.out).tt.t.box.one rfl; have hy1 : w6.cell? ⟨Y, 1, none⟩ = some (.slice b4 y4 d4) := (HDB.out.below HB6.out).tt.t.box.one rfl
            go_simp
            refine hK.out _ _ (cell_below' (HDB.out.below HB6.out).a.lg.sys.base HC0.out) (fun hHeld => ?_)
            clear hK K
            refine wpAnyH_ready (rs := [6]) (by kernel_rfl) (by simp) ?_
            refine AllReadyH.cons (o := { dst := none, op := .store 34 (.tmp 9) (.tmp 79), type := 0, pos := "law.go:271", after := #[{ on := 5, ground := .data }, { on := 5, ground := .chain }, { on := 0, ground := .phase }, { on := 1, ground := .phase }, { on := 2, ground := .phase }, { on := 3, ground := .phase }, { on := 4, ground := .phase }, { on := 5, ground := .phase }], guard := none }) rfl (fun K hK => ?_) AllReadyH.nil
            go_simp
            skip
            go_simp
            refine hK.out _ _ ((((Keep.refl Y _).setCell 0 _).setCell 1 _).cell HBX.out.2 (cell_below' (HDB.out.below HB6.out).a.lg.sys.base HC0.out)) (fun hHeld => ?_)
            clear hK K
            refine wpAnyH_done (by kernel_rfl) ?_ _
            refine NoPanic.normal ?_
            clear hHeld hy0 hy1 hf0 hf1
            generalize hw7 : World.setCell (World.setCell w6 _ _) _ _ = w7
            have HTK : Hid (Duo w0 w7 f S l2 s2 r2 ⟨#[98]⟩ m2 H2 l s r ⟨#[97]⟩ m H q Y X (.slice b7 y7 d7) (.slice b8 y8 d8) (thist (H2 ++ [bt])) (.slice b1 y1 d1) (.slice b2 y2 d2) (thist H) ∧ Keep Y w6 w7) := HDB.out.made HB6.out HT6.out hw7
            have HG7 : Hid (Blk w7 g cs ∧ 3 * z ≤ cs.length) := ⟨(HG.out.1.below HB6.out HG.out.1.lt).keep HTK.out.2 HOF.out.x, HG.out.2⟩
            have HOF7 : Hid (Off w0 w7 f S [l2, s2, r2, l, s, r] Y X (.slice b7 y7 d7) (.slice b8 y8 d8) (.slice b1 y1 d1) (.slice b2 y2 d2) g) := HOF.out.made HT6.out HG.out.1.lt HG7.out.1.lt
            have HE7 : Hid (Els w7 (some ⟨g, 0, none⟩) z c5 bt) := (HEG.out.below HB6.out).later fun b' o' _ e => by
              injection e with e
              injection e with e _ _
              rw [← e]
              exact HTK.out.2.block g (Nat.lt_of_lt_of_le HG.out.1.lt HB6.out.size) HOF.out.x
            have HD7 : Hid (Duo w0 w7 f S l2 s2 r2 ⟨#[98]⟩ m2 H2 l s r ⟨#[97]⟩ m H q Y X (.slice b7 y7 d7) (.slice b8 y8 d8) (thist (H2 ++ [bt])) (.slice b1 y1 d1) (.slice b2 y2 d2) (thist H)) := HTK.out.1
            clear hw7 HTK HDB HB6 HT6 HPUT HBX HG HOF HEG
            have HPU : Hid _ := kv_put HK.out HD7.out.a (by have := HB.out; omega) nameL_b (by have := HB.out; omega) (by have := HB.out; omega) (some ⟨g, 0, none⟩) z c5 bt (HE7.out.free (HOF7.out.free.reids fun j hj => .inl (by simp only [List.mem_cons, List.not_mem_nil, or_false] at hj ⊢; omega))) HK0.out HE.out.2.2.2 HLEN.out.2
            go_wp2_with fail
            refine Calls.mono HPU.out ?_
            rintro e w8 ⟨rfl, S8, hk8, hg8, hx8⟩
            have hst8 := HD7.out.step apart_ab.symm hk8 hg8 hx8
            have HD8 : Hid (Duo w0 w8 f S8 l2 s2 r2 ⟨#[98]⟩ (m2 + 1) (H2 ++ [bt]) l s r ⟨#[97]⟩ m H (q + 2) Y X (.slice b7 y7 d7) (.slice b8 y8 d8) (thist (H2 ++ [bt])) (.slice b1 y1 d1) (.slice b2 y2 d2) (thist H)) := hst8.1
            have HOF8 : Hid (Off w0 w8 f S8 [l2, s2, r2, l, s, r] Y X (.slice b7 y7 d7) (.slice b8 y8 d8) (.slice b1 y1 d1) (.slice b2 y2 d2) g) := HOF7.out.step hst8.2
            have HG8 : Hid (Blk w8 g cs ∧ 3 * z ≤ cs.length) := ⟨HG7.out.1.stepF HOF7.out.free hst8.2, HG7.out.2⟩
            have HB8 : Hid (q + 2 ≤ 8 + 2 * (k + 1) ∧ (0 ≤ m2 + 1 ∧ m2 + 1 ≤ (k : Int) + 1) ∧ (0 ≤ m ∧ m ≤ (k : Int) + 1) ∧ (H2 ++ [bt]).flatten.length ≤ 10 * (k + 1) ∧ H.flatten.length ≤ 10 * (k + 1) ∧ k ≤ 25) := by
              have h1 := HB.out
              have h2 := HE.out.2
              refine ⟨by omega, by omega, by omega, ?_, by omega, by omega⟩
              rw [List.flatten_append, List.length_append]
              simp only [List.flatten_cons, List.flatten_nil, List.append_nil]; omega
            have hz10 : z ≤ 10 := by have := HE.out.2; omega
            clear hst8 hk8 hg8 hx8 HPU HD7 HOF7 HG7 HE7 HB HLEN HK0
            generalize H2 ++ [bt] = H8 at *
            generalize m2 + 1 = m8 at *
            generalize q + 2 = q8 at *
            go_wp2_with fail
            obtain ⟨wq, hwq⟩ : ∃ x, x = w8 := ⟨_, rfl⟩
            subst hwq
            go_loopw [13] (fun i wy => ∃ (j : Nat), j ≤ z ∧ i = .int .i64 j ∧ Hid (Duo w0 wy f S8 l2 s2 r2 ⟨#[98]⟩ m8 H8 l s r ⟨#[97]⟩ m H q8 Y X (.slice b7 y7 d7) (.slice b8 y8 d8) (thist H8) (.slice b1 y1 d1) (.slice b2 y2 d2) (thist H)) ∧ Hid (∃ cs, Blk wy g cs ∧ 3 * z ≤ cs.length)) (fun i _ => z - (intOf i).toNat)
            case atStart => exact ⟨0, Nat.zero_le _, rfl, HD8.out, ⟨_, HG8.out⟩⟩
            case round =>
              obtain ⟨j, hj, rfl, HDL, HGL⟩ := hrel
              clear HD8 HG8
              by_cases hjz : j < z
              · have e2 : (0 : Int) ≤ (j : Int) := by omega
                have e3 : (j : Int) < (z : Int) := by omega
                obtain ⟨ct, hct, hcl⟩ := HGL.out
                have HBT : Hid (Blk wr g ct ∧ 3 * z ≤ ct.length) := ⟨hct, hcl⟩
                obtain ⟨u1, hu1⟩ := hct.some (i := j * 3 + 1) (by omega)
                have hf1 := hct.frozen (j * 3 + 1)
                clear hct hcl HGL
                go_upto_region 25 with fail
                generalize hwy : World.setCell wr _ _ = wy
                have HBY : Hid (Blk wy g (ct.set (j * 3 + 1) (.string ⟨#[111, 116, 104, 101, 114]⟩)) ∧ Keep g wr wy) := by rw [← hwy]; exact ⟨HBT.out.1.set _ _, Keep.of_setCell _ _ _⟩
                clear hwy hu1 hf1
                obtain ⟨u2, hu2⟩ := HBY.out.1.some (i := j * 3) (by have := HBT.out.2; simp; omega)
                have hf2 := HBY.out.1.frozen (j * 3)
                go_wp2_with fail
                go_roundw
                case rel => exact ⟨j + 1, by omega, by go_num, HDL.out.keep (HOF8.out.there HBT.out.1.lt) (HBY.out.2.setCell _ _), ⟨_, HBY.out.1.set _ _, by have := HBT.out.2; simp; omega⟩⟩
                case measure => simp [intOf]; omega
              · obtain rfl : j = z := by omega
                have e3 : ¬ (j : Int) < (j : Int) := by omega
                obtain ⟨At, hst, hsh⟩ := HDL.out.a.sto
                obtain ⟨z1, z2⟩ := hsh.sizes HDL.out.a.hist
                have HAL : Hid _ := all_any s2 r2 _ _ At (thist H8) wr hst.blk hst.map hsh z2 (by omega)
                clear hst hsh z1 z2 HGL
                go_wp2_with fail
                refine Calls.mono HAL.out ?_
                rintro e w9 ⟨v9, rfl, ho9, hb9⟩
                obtain ⟨a9, c9, hv9, _⟩ := ho9.els
                subst hv9
                have HD9 : Hid _ := HDL.out.below hb9
                have HR9 : Hid (RowW w0 w9 f S8 [l2, s2, r2, l, s, r] Y X (.slice b7 y7 d7) (.slice b8 y8 d8) (.slice b1 y1 d1) (.slice b2 y2 d2) a9 (thist H8).length) := OwnP.rowW ho9 fun g' h1 h2 => HDL.out.fresh h1 h2
                have hn9 : (thist H8).length ≤ 1000 := by have := thist_lenA (H := H8); have := HB8.out; omega
                obtain ⟨n9, hn⟩ : ∃ n, n = (thist H8).length := ⟨_, rfl⟩
                rw [← hn] at HR9 hn9 ⊢
                clear ho9 hb9 hn HAL HDL
                go_wp2_with fail
                go_loopw [15] (fun i wy => ∃ (j : Nat), j ≤ n9 ∧ i = .int .i64 j ∧ Hid (Duo w0 wy f S8 l2 s2 r2 ⟨#[98]⟩ m8 H8 l s r ⟨#[97]⟩ m H q8 Y X (.slice b7 y7 d7) (.slice b8 y8 d8) (thist H8) (.slice b1 y1 d1) (.slice b2 y2 d2) (thist H)) ∧ Hid (RowW w0 wy f S8 [l2, s2, r2, l, s, r] Y X (.slice b7 y7 d7) (.slice b8 y8 d8) (.slice b1 y1 d1) (.slice b2 y2 d2) a9 n9)) (fun i _ => n9 - (intOf i).toNat)
                case atStart => exact ⟨0, Nat.zero_le _, rfl, HD9.out, HR9.out⟩
                case round =>
                  obtain ⟨j2, hj2, rfl, HDM, HRM⟩ := hrel
                  clear HD9 HR9
                  by_cases hjn : j2 < n9
                  · have e4 : (0 : Int) ≤ (j2 : Int) := by omega
                    have e5 : (j2 : Int) < (n9 : Int) := by omega
                    obtain ⟨g9, ct, rfl, hof, hct, hcl⟩ := HRM.out.resolve_left (by omega)
                    have HBT : Hid (Blk wr g9 ct ∧ 3 * n9 ≤ ct.length) := ⟨hct, hcl⟩
                    have HOM : Hid (Off w0 wr f S8 [l2, s2, r2, l, s, r] Y X (.slice b7 y7 d7) (.slice b8 y8 d8) (.slice b1 y1 d1) (.slice b2 y2 d2) g9) := hof
                    obtain ⟨u1, hu1⟩ := hct.some (i := j2 * 3 + 1) (by omega)
                    have hf1 := hct.frozen (j2 * 3 + 1)
                    clear hct hcl HRM hof
                    go_wp2_with fail
                    go_roundw
                    case rel => exact ⟨j2 + 1, by omega, by go_num, HDM.out.keep HOM.out (Keep.of_setCell _ _ _), .inr ⟨g9, _, rfl, HOM.out.keep (Keep.of_setCell _ _ _), HBT.out.1.set _ _, by have := HBT.out.2; simp; omega⟩⟩
                    case measure => simp [intOf]; omega
                  · obtain rfl : j2 = n9 := by omega
                    have e5 : ¬ (j2 : Int) < (j2 : Int) := by omega
                    go_wp2_with fail
                    go_roundw
                    case rel => exact ⟨k + 1, by omega, by go_num, ⟨S8, m, m8, H, H8, q8, _, _, _, _, HDM.out.swap, HB8.out.1, by have := HB8.out; omega, by have := HB8.out; omega, HB8.out.2.2.2.2.1, HB8.out.2.2.2.1⟩⟩
                    case measure => simp [intOf]; omega
          · have ht4 : ((k : Int) % 3 == 2) = false := beq_eq_false_iff_ne.2 (by omega)
            go_wp2_with (at_builtin; refine wpList_append_e elPr rfl _ _ rfl w4.heap.size _ [] rfl (OwnP.lit0 w4) a' z c' bt rfl HE5.out (by have := HE.out; simp; omega) (by simp) ?_; intro v5 w5 HO5 HG5 _; rw [List.nil_append] at HO5; obtain ⟨a5, c5, hv5, _⟩ := HO5.out.els; rw [← HE.out.2.1] at hv5; subst hv5)
            have hbn : bt ≠ [] := fun e => by rw [e] at hm0; cases hm0
            obtain ⟨g, cg, cs, e5, hblk5, hcs5, hg5⟩ := OwnP.blk HO5.out hbn
            rw [← HE.out.2.1] at e5 hcs5
            injection e5 with e5 _ e6
            subst e5
            have HW5 : Hid (Below w4.heap.size w4 w5) := HB5.out.trans ((Below.refl _ _).grown HG5.out (by simp) fun j e => by injection e with e; simp only at e; omega)
            have HD5 : Hid _ := HD4.out.below HW5.out
            have HF5 : Hid (Off w0 w5 f S [l, s, r, l2, s2, r2] X Y (.slice b1 y1 d1) (.slice b2 y2 d2) (.slice b3 y3 d3) (.slice b4 y4 d4) g) := HD4.out.fresh hg5 hblk5.lt
            have HG : Hid (Blk w5 g cs ∧ 3 * z ≤ cs.length) := ⟨hblk5, hcs5⟩
            have HEG : Hid (Els w5 (some ⟨g, 0, none⟩) z c5 bt) := by
              obtain ⟨a9, c9, e9, h9⟩ := HO5.out.els
              injection e9 with e9 _ e10
              rw [HE.out.2.1, e9, e10]; exact h9
            clear e6 hblk5 hcs5 hg5 HO5 HG5 HB5 HW5 HD4 HE5 hce hbn
            have hlen : H.flatten.length + bt.length ≤ 1000 ∧ H2.flatten.length + bt.length ≤ 1000 := by have := HB.out; have := HE.out.2; omega
            have HLEN : Hid (H.flatten.length + bt.length ≤ 1000 ∧ H2.flatten.length + bt.length ≤ 1000) := hlen
            clear hlen
            have hz0 : z ≠ 0 := fun e => by
              rw [mayE, if_pos (by have := HE.out.2.1; omega)] at hm0
              cases hm0
            have HPUT : Hid (∀ (K V : Value) (HH : List (List Pr)) wj, HH.flatten.length + bt.length ≤ 1000 → TabAt wj 0 K V (thist HH) → Els wj a' z c' bt → Calls Tryz.prog 13 #[.agg #[K, V], .slice a' z c'] wj fun e w' => ∃ kv' vv', e = .returned (.agg #[kv', vv']) ∧ TabAt w' wj.heap.size kv' vv' (thist (HH ++ [bt])) ∧ Below wj.heap.size wj w') := fun K V HH wj hl ht he => by
              have := tabput_any _ _ _ a' z c' bt 0 wj ht he (by have := thist_lenA (H := HH); have := HE.out.2; omega) (Nat.zero_le _)
              rw [show tabN z 0 wj.heap.size = wj.heap.size from if_neg hz0, ← thist_snoc] at this
              exact this
            have HK0 : Hid (kask bt = 0) := by rw [HASK.out]; exact hm0
            have HBX : Hid (b ≠ X ∧ b ≠ Y) := by
              have h1 : b < w0.heap.size := World.block_lt_of_cell? w0 _ HC0.out
              exact ⟨fun e => by have := HX3.out; omega, fun e => by have := HY3.out; omega⟩
            clear hz0 hm0 HASK
            have HDB : Hid (Duo w0 w5 f S l s r ⟨#[97]⟩ m H l2 s2 r2 ⟨#[98]⟩ m2 H2 q X Y (.slice b1 y1 d1) (.slice b2 y2 d2) (thist H) (.slice b3 y3 d3) (.slice b4 y4 d4) (thist H2)) := HD5.out
            have HOF : Hid (Off w0 w5 f S [l, s, r, l2, s2, r2] X Y (.slice b1 y1 d1) (.slice b2 y2 d2) (.slice b3 y3 d3) (.slice b4 y4 d4) g) := HF5.out
            clear HD5 HF5
            have x0 : w5.drew.cell? ⟨X, 0, none⟩ = some (.slice b1 y1 d1) := HDB.out.tt.t.box.drew.one rfl
            have x1 : w5.drew.cell? ⟨X, 1, none⟩ = some (.slice b2 y2 d2) := HDB.out.tt.t.box.drew.one rfl
            clear ht4 h3
            go_upto_region 18 with fail
            refine wp_region_noPanic ?_
            refine wp_region_held_drew (S := fun w' => w'.cell? ⟨b, o + k, none⟩ = some (.slice a' z c')) HMO.out (cell_below' HDB.out.a.lg.sys.base.drew HC0.out) (fun hHeld => ?_)
            refine wpAnyH_take (i := 1) (oi := { dst := some 81, op := .move (.tmp 0), type := 22, pos := "law.go:273", after := #[], guard := none }) (v := ?_) rfl (by kernel_rfl) (by kernel_rfl) (by kernel_rfl) (fun _ _ _ h => h) (Or.inl ⟨by rfl, ?_⟩) (by assumption) ?_
            rotate_left
            · intro _ _; go_simp; first | done | with_reducible rfl
            simp only [Act.put, List.setIfInBounds_toArray, List.set_cons_zero, List.set_cons_succ]
            refine wpAnyH_take (i := 2) (oi := { dst := some 82, op := .move (.tmp 10), type := 3, pos := "law.go:273", after := #[], guard := none }) (v := ?_) rfl (by kernel_rfl) (by kernel_rfl) (by kernel_rfl) (fun _ _ _ h => h) (Or.inl ⟨by rfl, ?_⟩) (by assumption) ?_
            rotate_left
            · intro _ _; go_simp; first | done | with_reducible rfl
            simp only [Act.put, List.setIfInBounds_toArray, List.set_cons_zero, List.set_cons_succ]
            refine wpAnyH_take (i := 3) (oi := { dst := some 83, op := .indexAddr 22 (.tmp 81) (.tmp 82), type := 0, pos := "law.go:273", after := #[{ on := 1, ground := .data }, { on := 2, ground := .data }], guard := none }) (v := ?_) rfl (by kernel_rfl) (by kernel_rfl) (by kernel_rfl) (fun _ _ _ h => h) (Or.inl ⟨by rfl, ?_⟩) (by assumption) ?_
            rotate_left
            · intro _ _; go_simp; first | done | with_reducible rfl
            simp only [Act.put, List.setIfInBounds_toArray, List.set_cons_zero, List.set_cons_succ]
            refine wpAnyH_take (i := 4) (oi := { dst := some 84, op := .load 36 (.tmp 83), type := 36, pos := "law.go:273", after := #[{ on := 3, ground := .data }], guard := none }) (v := .slice a' z c') rfl (by kernel_rfl) (by kernel_rfl) (by kernel_rfl) (fun _ _ _ h => h) (Or.inl ⟨by rfl, ?_⟩) (by assumption) ?_
            · intro _ _; rename_i wz hz; have cz := hz; go_simp
            simp only [Act.put, List.setIfInBounds_toArray, List.set_cons_zero, List.set_cons_succ]
            refine wpAnyH_ready (rs := [0]) (by kernel_rfl) (by simp) ?_
            refine AllReadyH.cons (o := { dst := some 80, op := .load 34 (.tmp 8), type := 34, pos := "law.go:273", after := #[], guard := none }) rfl (fun K hK => ?_) AllReadyH.nil
            go_simp
            skip
            go_simp
            refine hK.out _ _ (cell_below' HDB.out.a.lg.sys.base.drew HC0.out) (fun hHeld => ?_)
            clear hK K
            refine wpAnyH_ready (rs := [5]) (by kernel_rfl) (by simp) ?_
            refine AllReadyH.cons (o := { dst := some 85, op := .call { callee := .value (.func 13), args := #[.tmp 80, .tmp 84], argTypes := #[34, 36] }, type := 34, pos := "law.go:273", after := #[{ on := 0, ground := .data }, { on := 4, ground := .data }], guard := none }) rfl (fun K hK => ?_) AllReadyH.nil
            go_simp
            refine (HPUT.out _ _ H _ HLEN.out.1 (HDB.out.tt.t.tab.below (Below.refl _ _).drew) (HE.out.1.below HDB.out.a.lg.sys.base.drew)).mono ?_; rintro e w6 ⟨kv', vv', rfl, ht6, hb6⟩; have HB6 : Hid (Below w5.heap.size w5 w6) := below_undrew hb6; obtain ⟨b7, d7, hv7, _⟩ := ht6.keys.facts; obtain ⟨b8, d8, hv8, _⟩ := ht6.vals.facts; subst hv7; subst hv8; obtain ⟨y7, hy7⟩ : ∃ y, y = ((thist (H ++ [bt])).map Pr.k).length := ⟨_, rfl⟩; obtain ⟨y8, hy8⟩ : ∃ y, y = ((thist (H ++ [bt])).map Pr.v).length := ⟨_, rfl⟩; rw [← hy7, ← hy8] at ht6 ⊢; have HT6 : Hid (TabAt w6 w5.heap.size (.slice b7 y7 d7) (.slice b8 y8 d8) (thist (H ++ [bt]))) := ht6; have hf0 := (HDB.out.below HB6.out).tt.t.box.frozen 0; have hf1 := (HDB.out.below HB6.out).tt.t.box.frozen 1; clear ht6 hb6 hy7 hy8 x0 x1; have hy0 : w6.cell? ⟨X, 0, none⟩ = some (.slice b1 y1 d1) := (HDB.out.below HB6.out).tt.t.box.one rfl; have hy1 : w6.cell? ⟨X, 1, none⟩ = some (.slice b2 y2 d2) := (HDB.out.below HB6.out).tt.t.box.one rfl
            go_simp
            refine hK.out _ _ (cell_below' (HDB.out.below HB6.out).a.lg.sys.base HC0.out) (fun hHeld => ?_)
            clear hK K
            refine wpAnyH_ready (rs := [6]) (by kernel_rfl) (by simp) ?_
            refine AllReadyH.cons (o := { dst := none, op := .store 34 (.tmp 8) (.tmp 85), type := 0, pos := "law.go:273", after := #[{ on := 5, ground := .data }, { on := 5, ground := .chain }, { on := 0, ground := .phase }, { on := 1, ground := .phase }, { on := 2, ground := .phase }, { on := 3, ground := .phase }, { on := 4, ground := .phase }, { on := 5, ground := .phase }], guard := none }) rfl (fun K hK => ?_) AllReadyH.nil
            go_simp
            skip
            go_simp
            refine hK.out _ _ ((((Keep.refl X _).setCell 0 _).setCell 1 _).cell HBX.out.1 (cell_below' (HDB.out.below HB6.out).a.lg.sys.base HC0.out)) (fun hHeld => ?_)
            clear hK K
            refine wpAnyH_done (by kernel_rfl) ?_ _
            refine NoPanic.normal ?_
            clear hHeld hy0 hy1 hf0 hf1
            generalize hw7 : World.setCell (World.setCell w6 _ _) _ _ = w7
            have HTK : Hid (Duo w0 w7 f S l s r ⟨#[97]⟩ m H l2 s2 r2 ⟨#[98]⟩ m2 H2 q X Y (.slice b7 y7 d7) (.slice b8 y8 d8) (thist (H ++ [bt])) (.slice b3 y3 d3) (.slice b4 y4 d4) (thist H2) ∧ Keep X w6 w7) := HDB.out.made HB6.out HT6.out hw7
            have HG7 : Hid (Blk w7 g cs ∧ 3 * z ≤ cs.length) := ⟨(HG.out.1.below HB6.out HG.out.1.lt).keep HTK.out.2 HOF.out.x, HG.out.2⟩
            have HOF7 : Hid (Off w0 w7 f S [l, s, r, l2, s2, r2] X Y (.slice b7 y7 d7) (.slice b8 y8 d8) (.slice b3 y3 d3) (.slice b4 y4 d4) g) := HOF.out.made HT6.out HG.out.1.lt HG7.out.1.lt
            have HE7 : Hid (Els w7 (some ⟨g, 0, none⟩) z c5 bt) := (HEG.out.below HB6.out).later fun b' o' _ e => by
              injection e with e
              injection e with e _ _
              rw [← e]
              exact HTK.out.2.block g (Nat.lt_of_lt_of_le HG.out.1.lt HB6.out.size) HOF.out.x
            have HD7 : Hid (Duo w0 w7 f S l s r ⟨#[97]⟩ m H l2 s2 r2 ⟨#[98]⟩ m2 H2 q X Y (.slice b7 y7 d7) (.slice b8 y8 d8) (thist (H ++ [bt])) (.slice b3 y3 d3) (.slice b4 y4 d4) (thist H2)) := HTK.out.1
            clear hw7 HTK HDB HB6 HT6 HPUT HBX HG HOF HEG
            have HPU : Hid _ := kv_put HK.out HD7.out.a (by have := HB.out; omega) nameL_a (by have := HB.out; omega) (by have := HB.out; omega) (some ⟨g, 0, none⟩) z c5 bt (HE7.out.free (HOF7.out.free.reids fun j hj => .inl (by simp only [List.mem_cons, List.not_mem_nil, or_false] at hj ⊢; omega))) HK0.out HE.out.2.2.2 HLEN.out.1
            go_wp2_with fail
            refine Calls.mono HPU.out ?_
            rintro e w8 ⟨rfl, S8, hk8, hg8, hx8⟩
            have hst8 := HD7.out.step apart_ab hk8 hg8 hx8
            have HD8 : Hid (Duo w0 w8 f S8 l s r ⟨#[97]⟩ (m + 1) (H ++ [bt]) l2 s2 r2 ⟨#[98]⟩ m2 H2 (q + 2) X Y (.slice b7 y7 d7) (.slice b8 y8 d8) (thist (H ++ [bt])) (.slice b3 y3 d3) (.slice b4 y4 d4) (thist H2)) := hst8.1
            have HOF8 : Hid (Off w0 w8 f S8 [l, s, r, l2, s2, r2] X Y (.slice b7 y7 d7) (.slice b8 y8 d8) (.slice b3 y3 d3) (.slice b4 y4 d4) g) := HOF7.out.step hst8.2
            have HG8 : Hid (Blk w8 g cs ∧ 3 * z ≤ cs.length) := ⟨HG7.out.1.stepF HOF7.out.free hst8.2, HG7.out.2⟩
            have HB8 : Hid (q + 2 ≤ 8 + 2 * (k + 1) ∧ (0 ≤ m + 1 ∧ m + 1 ≤ (k : Int) + 1) ∧ (0 ≤ m2 ∧ m2 ≤ (k : Int) + 1) ∧ (H ++ [bt]).flatten.length ≤ 10 * (k + 1) ∧ H2.flatten.length ≤ 10 * (k + 1) ∧ k ≤ 25) := by
              have h1 := HB.out
              have h2 := HE.out.2
              refine ⟨by omega, by omega, by omega, ?_, by omega, by omega⟩
              rw [List.flatten_append, List.length_append]
              simp only [List.flatten_cons, List.flatten_nil, List.append_nil]; omega
            have hz10 : z ≤ 10 := by have := HE.out.2; omega
            clear hst8 hk8 hg8 hx8 HPU HD7 HOF7 HG7 HE7 HB HLEN HK0
            generalize H ++ [bt] = H8 at *
            generalize m + 1 = m8 at *
            generalize q + 2 = q8 at *
            go_wp2_with fail
            obtain ⟨wq, hwq⟩ : ∃ x, x = w8 := ⟨_, rfl⟩
            subst hwq
            go_loopw [13] (fun i wy => ∃ (j : Nat), j ≤ z ∧ i = .int .i64 j ∧ Hid (Duo w0 wy f S8 l s r ⟨#[97]⟩ m8 H8 l2 s2 r2 ⟨#[98]⟩ m2 H2 q8 X Y (.slice b7 y7 d7) (.slice b8 y8 d8) (thist H8) (.slice b3 y3 d3) (.slice b4 y4 d4) (thist H2)) ∧ Hid (∃ cs, Blk wy g cs ∧ 3 * z ≤ cs.length)) (fun i _ => z - (intOf i).toNat)
            case atStart => exact ⟨0, Nat.zero_le _, rfl, HD8.out, ⟨_, HG8.out⟩⟩
            case round =>
              obtain ⟨j, hj, rfl, HDL, HGL⟩ := hrel
              clear HD8 HG8
              by_cases hjz : j < z
              · have e2 : (0 : Int) ≤ (j : Int) := by omega
                have e3 : (j : Int) < (z : Int) := by omega
                obtain ⟨ct, hct, hcl⟩ := HGL.out
                have HBT : Hid (Blk wr g ct ∧ 3 * z ≤ ct.length) := ⟨hct, hcl⟩
                obtain ⟨u1, hu1⟩ := hct.some (i := j * 3 + 1) (by omega)
                have hf1 := hct.frozen (j * 3 + 1)
                clear hct hcl HGL
                go_upto_region 25 with fail
                generalize hwy : World.setCell wr _ _ = wy
                have HBY : Hid (Blk wy g (ct.set (j * 3 + 1) (.string ⟨#[111, 116, 104, 101, 114]⟩)) ∧ Keep g wr wy) := by rw [← hwy]; exact ⟨HBT.out.1.set _ _, Keep.of_setCell _ _ _⟩
                clear hwy hu1 hf1
                obtain ⟨u2, hu2⟩ := HBY.out.1.some (i := j * 3) (by have := HBT.out.2; simp; omega)
                have hf2 := HBY.out.1.frozen (j * 3)
                go_wp2_with fail
                go_roundw
                case rel => exact ⟨j + 1, by omega, by go_num, HDL.out.keep (HOF8.out.there HBT.out.1.lt) (HBY.out.2.setCell _ _), ⟨_, HBY.out.1.set _ _, by have := HBT.out.2; simp; omega⟩⟩
                case measure => simp [intOf]; omega
              · obtain rfl : j = z := by omega
                have e3 : ¬ (j : Int) < (j : Int) := by omega
                obtain ⟨At, hst, hsh⟩ := HDL.out.a.sto
                obtain ⟨z1, z2⟩ := hsh.sizes HDL.out.a.hist
                have HAL : Hid _ := all_any s r _ _ At (thist H8) wr hst.blk hst.map hsh z2 (by omega)
                clear hst hsh z1 z2 HGL
                go_wp2_with fail
                refine Calls.mono HAL.out ?_
                rintro e w9 ⟨v9, rfl, ho9, hb9⟩
                obtain ⟨a9, c9, hv9, _⟩ := ho9.els
                subst hv9
                have HD9 : Hid _ := HDL.out.below hb9
                have HR9 : Hid (RowW w0 w9 f S8 [l, s, r, l2, s2, r2] X Y (.slice b7 y7 d7) (.slice b8 y8 d8) (.slice b3 y3 d3) (.slice b4 y4 d4) a9 (thist H8).length) := OwnP.rowW ho9 fun g' h1 h2 => HDL.out.fresh h1 h2
                have hn9 : (thist H8).length ≤ 1000 := by have := thist_lenA (H := H8); have := HB8.out; omega
                obtain ⟨n9, hn⟩ : ∃ n, n = (thist H8).length := ⟨_, rfl⟩
                rw [← hn] at HR9 hn9 ⊢
                clear ho9 hb9 hn HAL HDL
                go_wp2_with fail
                go_loopw [15] (fun i wy => ∃ (j : Nat), j ≤ n9 ∧ i = .int .i64 j ∧ Hid (Duo w0 wy f S8 l s r ⟨#[97]⟩ m8 H8 l2 s2 r2 ⟨#[98]⟩ m2 H2 q8 X Y (.slice b7 y7 d7) (.slice b8 y8 d8) (thist H8) (.slice b3 y3 d3) (.slice b4 y4 d4) (thist H2)) ∧ Hid (RowW w0 wy f S8 [l, s, r, l2, s2, r2] X Y (.slice b7 y7 d7) (.slice b8 y8 d8) (.slice b3 y3 d3) (.slice b4 y4 d4) a9 n9)) (fun i _ => n9 - (intOf i).toNat)
                case atStart => exact ⟨0, Nat.zero_le _, rfl, HD9.out, HR9.out⟩
                case round =>
                  obtain ⟨j2, hj2, rfl, HDM, HRM⟩ := hrel
                  clear HD9 HR9
                  by_cases hjn : j2 < n9
                  · have e4 : (0 : Int) ≤ (j2 : Int) := by omega
                    have e5 : (j2 : Int) < (n9 : Int) := by omega
                    obtain ⟨g9, ct, rfl, hof, hct, hcl⟩ := HRM.out.resolve_left (by omega)
                    have HBT : Hid (Blk wr g9 ct ∧ 3 * n9 ≤ ct.length) := ⟨hct, hcl⟩
                    have HOM : Hid (Off w0 wr f S8 [l, s, r, l2, s2, r2] X Y (.slice b7 y7 d7) (.slice b8 y8 d8) (.slice b3 y3 d3) (.slice b4 y4 d4) g9) := hof
                    obtain ⟨u1, hu1⟩ := hct.some (i := j2 * 3 + 1) (by omega)
                    have hf1 := hct.frozen (j2 * 3 + 1)
                    clear hct hcl HRM hof
                    go_wp2_with fail
                    go_roundw
                    case rel => exact ⟨j2 + 1, by omega, by go_num, HDM.out.keep HOM.out (Keep.of_setCell _ _ _), .inr ⟨g9, _, rfl, HOM.out.keep (Keep.of_setCell _ _ _), HBT.out.1.set _ _, by have := HBT.out.2; simp; omega⟩⟩
                    case measure => simp [intOf]; omega
                  · obtain rfl : j2 = n9 := by omega
                    have e5 : ¬ (j2 : Int) < (j2 : Int) := by omega
                    go_wp2_with fail
                    go_roundw
                    case rel => exact ⟨k + 1, by omega, by go_num, ⟨S8, m8, m2, H8, H2, q8, _, _, _, _, HDM.out, HB8.out.1, by have := HB8.out; omega, by have := HB8.out; omega, HB8.out.2.2.2.1, HB8.out.2.2.2.2.1⟩⟩
                    case measure => simp [intOf]; omega
        · have hz2 : (mayE bt == 0) = false := beq_eq_false_iff_ne.2 hm0
          generalize mayE bt = E at *
          go_wp2_with fail
          go_roundw
          case rel => exact ⟨k + 1, by omega, by go_num, ⟨S, m, m2, H, H2, q, _, _, _, _, HD4.out, by have := HB.out; omega, by have := HB.out; omega, by have := HB.out; omega, by have := HB.out; omega, by have := HB.out; omega⟩⟩
          case measure => simp [intOf]; omega
      · obtain rfl : k = p := by omega
        have e1 : ¬ (k : Int) < (k : Int) := by omega
        have HCR : Hid _ := kv_crash HD.out.a (by have := HB.out; omega) none 0 0 [] (.inl rfl) rfl (Nat.le_refl _) (by unfold maxLen; omega)
        have HTL : Hid ((thist H).length ≤ 1000000 ∧ (thist H2).length ≤ 1000000) := ⟨by have := thist_lenA (H := H); have := HB.out; omega, by have := thist_lenA (H := H2); have := HB.out; omega⟩
        go_wp2_with fail
        refine Calls.mono HCR.out ?_
        rintro e w5 ⟨g, T5, rfl, hs5, hg5, hl5, hf5⟩
        have HOP : Hid _ := kv_open (nm := ⟨#[97]⟩) (H := H) (t := []) (HD.out.a.lg.sys.kw HK.out) hs5 hg5 hl5 (by have := HB.out; omega) nameL_a HD.out.a.hist firstR_nil hf5 (by simp)
        clear hs5 hg5 hl5 hf5 HCR
        go_wp2_with fail
        refine Calls.mono HOP.out ?_
        rintro e w6 ⟨s6, l6, r6, rfl, _, S6, hk6, _, _⟩
        have HK6 : Hid (Kv wb w6 g S6 l6 s6 r6 ⟨#[97]⟩ 0 H (q + 4)) := hk6
        have HD6 : Hid _ := HD.out.below hk6.lg.sys.base
        clear hk6 HOP HD
        have x0 : w6.cell? ⟨X, 0, none⟩ = some (.slice b1 y1 d1) := HD6.out.tt.t.box.one rfl
        have x1 : w6.cell? ⟨X, 1, none⟩ = some (.slice b2 y2 d2) := HD6.out.tt.t.box.one rfl
        have HSA : Hid _ := kv_shows HD6.out.a (.slice b1 y1 d1) (.slice b2 y2 d2) (thist H) 0 HD6.out.tt.t.tab (up_hist H).2 HTL.out.1
        go_wp2_with fail
        refine Calls.mono HSA.out ?_
        rintro e w7 ⟨he, hb7⟩
        obtain rfl : e = .returned (.bool true) := by rw [he]; simp
        clear he
        have HD7 : Hid _ := HD6.out.below hb7
        have HK7 : Hid _ := HK6.out.below hb7
        clear hb7 HSA x0 x1 HD6 HK6
        have x0 : w7.cell? ⟨Y, 0, none⟩ = some (.slice b3 y3 d3) := HD7.out.tt.u.box.one rfl
        have x1 : w7.cell? ⟨Y, 1, none⟩ = some (.slice b4 y4 d4) := HD7.out.tt.u.box.one rfl
        have HSB : Hid _ := kv_shows HD7.out.swap.a (.slice b3 y3 d3) (.slice b4 y4 d4) (thist H2) 0 HD7.out.tt.u.tab (up_hist H2).2 HTL.out.2
        go_wp2_with fail
        refine Calls.mono HSB.out ?_
        rintro e w8 ⟨he, hb8⟩
        obtain rfl : e = .returned (.bool true) := by rw [he]; simp
        clear he
        have HD8 : Hid _ := HD7.out.below hb8
        have HK8 : Hid _ := HK7.out.below hb8
        clear hb8 HSB x0 x1 HD7 HK7
        have x0 : w8.cell? ⟨X, 0, none⟩ = some (.slice b1 y1 d1) := HD8.out.tt.t.box.one rfl
        have x1 : w8.cell? ⟨X, 1, none⟩ = some (.slice b2 y2 d2) := HD8.out.tt.t.box.one rfl
        have HSC : Hid _ := kv_shows HK8.out (.slice b1 y1 d1) (.slice b2 y2 d2) (thist H) 0 HD8.out.tt.t.tab (up_hist H).2 HTL.out.1
        go_wp2_with fail
        refine Calls.mono HSC.out ?_
        rintro e w9 ⟨he, hb9⟩
        obtain rfl : e = .returned (.bool true) := by rw [he]; simp
        clear he
        have HD9 : Hid _ := HD8.out.below hb9
        clear hb9 HSC x0 x1 HD8 HK8
        have HA : Hid _ := HAW.out w9 (HD9.out.a.lg.sys.kw HK.out)
        go_wp2_with fail
        refine Calls.mono HA.out ?_
        rintro e w10 ⟨rfl, hb10⟩
        have HBZ : Hid (Below w0.heap.size w0 w10) := HD9.out.a.lg.sys.base.trans (hb10.mono HD9.out.a.lg.sys.base.size)
        clear hb10
        go_wp2_with fail
        go_ret
        exact ⟨rfl, HBZ.out⟩
end Go.Proofs.YtlapnnkahijikaaGreatDoor
