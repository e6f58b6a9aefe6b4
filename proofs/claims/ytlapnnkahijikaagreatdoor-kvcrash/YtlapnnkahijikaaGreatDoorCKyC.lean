/- coraclelaw9.KvCrash: its walk (printed by tools/mkkcrash.py). -/
import Derived.Test.YtlapnnkahijikaaGreatDoorCKyA
namespace Go.Proofs.YtlapnnkahijikaaGreatDoor
open Go.ChangeShapes Go.WideShapes Go.ChangeAt Go.RowKit Go.Lib

theorem int_hi {k : Int} (h : (Lit.int .i64 k).wf = true) : k ≤ 9223372036854775807 := by
  have := bounds_i64 h
  omega
theorem thist_lenC {H : List (List Pr)} : (thist H).length ≤ H.flatten.length := by
  have := thist_length (H := H) (T := [])
  simpa [thist] using this
set_option maxRecDepth 100000 in
set_option maxHeartbeats 16000000 in
theorem kcrash_any (vl : Value) (L : List (List Pr)) (a : Option Addr) (n c : Nat) (C : List Int) (cut : Int) (a3 : Option Addr) (n3 c3 : Nat) (P3 : List Int) (again : Int) (w : World) (hK : Kw w) (hL : Bats w vl L) (hC : Ints w a C) (hCn : C.length = n) (hnc : n ≤ c) (hcm : c ≤ maxLen)
    (hc0 : cut ≤ 9223372036854775807) (hz3 : Ints w a3 P3) (hn3 : P3.length = n3) (hc3 : n3 ≤ c3) (hm3 : c3 ≤ maxLen) (hg0 : again ≤ 9223372036854775807) :
    Calls Tryz.prog 4 #[vl, .slice a n c, .int .i64 cut, .slice a3 n3 c3, .int .i64 again] w fun e w' => e = .returned (.bool true) ∧ Below w.heap.size w w' := by
  have HMO : Hid (Tryz.prog.follows .mixedOrders = true) := show _ = _ by kernel_rfl
  have HK : Hid (Kw w) := hK
  have HAW : Hid (∀ w', Kw w' → Calls Tryz.prog 8 #[] w' fun e w'' => e = .returned (.bool true) ∧ Below w'.heap.size w' w'') := fun w' h => kawake_any w' h
  have HSM : Hid (Calls Tryz.prog 7 #[vl] w fun e w' => SmOut e L ∧ w' = w) := small_any vl L w hL
  obtain ⟨al, cl, rfl⟩ := hL.shape
  obtain ⟨p, hp⟩ : ∃ p, p = L.length := ⟨_, rfl⟩
  rw [← hp] at hL HSM ⊢
  have HL : Hid (Bats w (.slice al p cl) L) := hL
  have HP : Hid (p = L.length) := hp
  have HC : Hid (Ints w a C ∧ C.length = n ∧ n ≤ c ∧ c ≤ maxLen) := ⟨hC, hCn, hnc, hcm⟩
  have HP3 : Hid (Ints w a3 P3 ∧ P3.length = n3 ∧ n3 ≤ c3 ∧ c3 ≤ maxLen) := ⟨hz3, hn3, hc3, hm3⟩
  have HCU : Hid (cut ≤ 9223372036854775807 ∧ again ≤ 9223372036854775807) := ⟨hc0, hg0⟩
  clear hK hL hp hC hCn hnc hcm hc0 hz3 hn3 hc3 hm3 hg0
  go_enter Tryz.func4, Tryz.ntmps4
  go_wp2_with fail
  refine Calls.mono HSM.out ?_
  rintro e w0 ⟨⟨x, rfl, hsm⟩, rfl⟩
  clear HSM
  cases x with
  | false =>
    clear hsm
    have HA : Hid _ := HAW.out w0 HK.out
    go_wp2_with fail
    refine Calls.mono HA.out ?_
    rintro e w1 ⟨rfl, hb1⟩
    have HB1 : Hid (Below w0.heap.size w0 w1) := hb1
    clear hb1
    go_wp2_with fail
    go_ret
    exact ⟨rfl, HB1.out⟩
  | true =>
  have HS : Hid (SmL L) := hsm rfl
  clear hsm
  by_cases hsz : n ≤ 30 ∧ 0 ≤ cut ∧ 0 ≤ again ∧ n3 ≤ 5
  · obtain ⟨g1, g2, g3, g4⟩ := hsz
    have g1' : ¬ (n : Int) > 30 := by omega
    have g2' : ¬ cut < 0 := by omega
    have g3' : ¬ again < 0 := by omega
    have g4' : ¬ (n3 : Int) > 5 := by omega
    have hp25 : p ≤ 25 := by rw [HP.out]; exact HS.out.1
    go_wp2_with fail
    refine Calls.mono (new_lg w0) ?_
    rintro e w1 ⟨f, S1, rfl, hs1, hg1, hl1, hL1⟩
    have HO : Hid _ := kv_open (nm := ⟨#[115]⟩) (H := []) (t := []) (z := 0) HK.out hs1 hg1 hl1 (by omega) nameL_s Hist.nil firstR_nil (by rw [hL1]; rfl) (by simp)
    clear hs1 hg1 hl1 hL1 g1' g4'
    go_wp2_with fail
    refine Calls.mono HO.out ?_
    rintro e w2 ⟨s, l, r, rfl, _, S2, hk2, _, _⟩
    have HCT : Hid _ := kv_cut hk2 cut g2 HCU.out.1
    clear hk2 HO
    go_wp2_with fail
    refine Calls.mono HCT.out ?_
    rintro e w3 ⟨rfl, S3, hk3, _⟩
    have HK3 : Hid (Kq w0 w3 f S3 l s r ⟨#[115]⟩ 0 [] 4) := hk3
    clear hk3 HCT g2'
    go_wp2_with fail
    have HX3 : Hid (w0.heap.size ≤ w3.heap.size) := HK3.out.lq.sys.base.size
    have HT4 : Hid _ := HK3.out.tab2 34
    have HB4 : Hid (Below w3.heap.size w3 ((w3.alloc (.cells #[.slice none 0 0, .slice none 0 0] 34)).alloc (.cells #[.slice none 0 0, .slice none 0 0] 34))) := ((Below.refl _ _).alloc (Nat.le_refl _) _).alloc (by simp) _
    generalize World.alloc (World.alloc w3 _) _ = w4 at *
    have HK4 : Hid (Kq w0 w4 f S3 l s r ⟨#[115]⟩ 0 [] 4) := HK3.out.below HB4.out
    obtain ⟨Y, hY⟩ : ∃ y, y = w3.heap.size + 1 := ⟨_, rfl⟩
    rw [← hY] at HT4 ⊢
    have HY3 : Hid (w0.heap.size ≤ Y) := show _ ≤ _ by rw [hY]; exact Nat.le_succ_of_le HX3.out
    clear HB4
    generalize w3.heap.size = X at *
    have HCR4 : Hid (Cr w0 w4 f l s r X Y 0) := ⟨S3, _, _, _, _, [], [], 0, 4, HT4.out, ⟨Up.nil, by simp⟩, by omega, by omega, by simp, .inl HK4.out⟩
    clear HK3 HK4 HT4 hY
    go_loopw [16] (fun i wr => ∃ (k : Nat), k ≤ p ∧ i = .int .i64 k ∧ Hid (Cr w0 wr f l s r X Y k)) (fun i _ => p - (intOf i).toNat)
    case atStart => exact ⟨0, Nat.zero_le _, rfl, HCR4.out⟩
    case round =>
      obtain ⟨k, hk, rfl, HCR⟩ := hrel
      clear HCR4
      obtain ⟨wb, hwb⟩ : ∃ x, x = wr := ⟨_, rfl⟩
      subst hwb
      obtain ⟨S, kv, vv, ku, vu, U, H, m, q, htab, hup, hq, hm, hfl, hor⟩ := HCR.out.st
      have HT : Hid (Tab2 w0 wb f S [l, s, r] X Y kv vv (thist H) ku vu U) := htab
      have HB : Hid (q ≤ 4 + 5 * k ∧ (0 ≤ m ∧ m ≤ 2 * k) ∧ H.flatten.length ≤ 10 * k ∧ k ≤ 25) := ⟨hq, hm, hfl, by omega⟩
      have HU : Hid (Up U ∧ U.length ≤ 1000) := hup
      clear htab hup hq hm hfl HCR
      obtain ⟨b1, d1, hv1, _⟩ := HT.out.t.tab.keys.facts
      obtain ⟨b2, d2, hv2, _⟩ := HT.out.t.tab.vals.facts
      obtain ⟨b3, d3, hv3, _⟩ := HT.out.u.tab.keys.facts
      obtain ⟨b4, d4, hv4, _⟩ := HT.out.u.tab.vals.facts
      subst hv1
      subst hv2
      subst hv3
      subst hv4
      obtain ⟨y1, hy1⟩ : ∃ y, y = ((thist H).map Pr.k).length := ⟨_, rfl⟩
      obtain ⟨y2, hy2⟩ : ∃ y, y = ((thist H).map Pr.v).length := ⟨_, rfl⟩
      obtain ⟨y3, hy3⟩ : ∃ y, y = (U.map Pr.k).length := ⟨_, rfl⟩
      obtain ⟨y4, hy4⟩ : ∃ y, y = (U.map Pr.v).length := ⟨_, rfl⟩
      rw [← hy1, ← hy2, ← hy3, ← hy4] at HT
      clear hy1 hy2 hy3 hy4
      by_cases hlt : k < p
      · have e0 : (0 : Int) ≤ (k : Int) := by omega
        have e1 : (k : Int) < (p : Int) := by omega
        rcases hor with hkq | ⟨Z, hkz, hzu, hzl⟩
        · have HQ : Hid (Kq w0 wb f S l s r ⟨#[115]⟩ m H q) := hkq
          clear hkq
          obtain ⟨b, o, rfl, a', c', hc, he⟩ := HL.out.at (k := k) (by rw [← HP.out]; exact hlt)
          obtain ⟨hs1, hs2⟩ := HS.out.2 k (by rw [← HP.out]; exact hlt)
          obtain ⟨hask, hsp⟩ := may_ask hs1 hs2
          generalize L.getD k [] = bt at *
          obtain ⟨z, hz⟩ : ∃ z, z = bt.length := ⟨_, rfl⟩
          rw [← hz] at hc he
          have HE : Hid (Els w0 a' z c' bt ∧ z = bt.length ∧ bt.length ≤ 10 ∧ ∀ p ∈ bt, SmP p) := ⟨he, hz, hs1, hsp⟩
          have HC0 : Hid (w0.cell? ⟨b, o + k, none⟩ = some (.slice a' z c')) := hc
          have HASK : Hid (kask bt = mayE bt) := hask
          have HMAY : Hid _ := may_any a' z c' bt wb (he.below HQ.out.lq.sys.base)
          have hcr : wb.cell? ⟨b, o + k, none⟩ = some (.slice a' z c') := cell_below' HQ.out.lq.sys.base hc
          clear he hz hs1 hs2 hsp hask hc
          go_wp2_with fail
          refine Calls.mono HQ.out.dead ?_
          rintro e wd ⟨rfl, rfl⟩
          go_wp2_with fail
          refine Calls.mono HMAY.out ?_
          rintro e w4 ⟨rfl, hb4⟩
          have HT4 : Hid _ := HT.out.below hb4
          have HQ4 : Hid _ := HQ.out.below hb4
          clear hb4 hcr HMAY HT HQ
          by_cases hm0 : mayE bt = 0
          · rw [hm0]
            have hz0 : z ≠ 0 := fun e => by
              rw [mayE, if_pos (by have := HE.out.2.1; omega)] at hm0
              cases hm0
            have HPUT : Hid (∀ (K V : Value) wj, TabAt wj 0 K V (thist H) → Els wj a' z c' bt → Calls Tryz.prog 13 #[.agg #[K, V], .slice a' z c'] wj fun e w' => ∃ kv' vv', e = .returned (.agg #[kv', vv']) ∧ TabAt w' wj.heap.size kv' vv' (thist (H ++ [bt])) ∧ Below wj.heap.size wj w') := fun K V wj ht he => by
              have := tabput_any _ _ _ a' z c' bt 0 wj ht he (by have := thist_lenC (H := H); have := HE.out.2; have := HB.out; omega) (Nat.zero_le _)
              rw [show tabN z 0 wj.heap.size = wj.heap.size from if_neg hz0, ← thist_snoc] at this
              exact this
            have HK0 : Hid (kask bt = 0) := by rw [HASK.out]; exact hm0
            have HBX : Hid (b ≠ X ∧ b ≠ Y) := by
              have h1 : b < w0.heap.size := World.block_lt_of_cell? w0 _ HC0.out
              exact ⟨fun e => by have := HX3.out; omega, fun e => by have := HY3.out; omega⟩
            clear hz0 hm0 HASK
            have x0 : w4.drew.cell? ⟨X, 0, none⟩ = some (.slice b1 y1 d1) := HT4.out.t.box.drew.one rfl
            have x1 : w4.drew.cell? ⟨X, 1, none⟩ = some (.slice b2 y2 d2) := HT4.out.t.box.drew.one rfl
            go_upto_region 13 with fail
            refine wp_region_noPanic ?_
            refine wp_region_held_drew (S := fun w' => w'.cell? ⟨b, o + k, none⟩ = some (.slice a' z c')) HMO.out (cell_below' HQ4.out.lq.sys.base.drew HC0.out) (fun hHeld => ?_)
            refine wpAnyH_take (i := 1) (oi := { dst := some 83, op := .move (.tmp 0), type := 22, pos := "law.go:174", after := #[], guard := none }) (v := ?_) rfl (by kernel_rfl) (by kernel_rfl) (by kernel_rfl) (fun _ _ _ h => h) (Or.inl ⟨by rfl, ?_⟩) (by assumption) ?_
            rotate_left
            · intro _ _; go_simp; first | done | with_reducible rfl
            simp only [Act.put, List.setIfInBounds_toArray, List.set_cons_zero, List.set_cons_succ]
            refine wpAnyH_take (i := 2) (oi := { dst := some 84, op := .move (.tmp 16), type := 3, pos := "law.go:174", after := #[], guard := none }) (v := ?_) rfl (by kernel_rfl) (by kernel_rfl) (by kernel_rfl) (fun _ _ _ h => h) (Or.inl ⟨by rfl, ?_⟩) (by assumption) ?_
            rotate_left
            · intro _ _; go_simp; first | done | with_reducible rfl
            simp only [Act.put, List.setIfInBounds_toArray, List.set_cons_zero, List.set_cons_succ]
            refine wpAnyH_take (i := 3) (oi := { dst := some 85, op := .indexAddr 22 (.tmp 83) (.tmp 84), type := 0, pos := "law.go:174", after := #[{ on := 1, ground := .data }, { on := 2, ground := .data }], guard := none }) (v := ?_) rfl (by kernel_rfl) (by kernel_rfl) (by kernel_rfl) (fun _ _ _ h => h) (Or.inl ⟨by rfl, ?_⟩) (by assumption) ?_
            rotate_left
            · intro _ _; go_simp; first | done | with_reducible rfl
            simp only [Act.put, List.setIfInBounds_toArray, List.set_cons_zero, List.set_cons_succ]
            refine wpAnyH_take (i := 4) (oi := { dst := some 86, op := .load 36 (.tmp 85), type := 36, pos := "law.go:174", after := #[{ on := 3, ground := .data }], guard := none }) (v := .slice a' z c') rfl (by kernel_rfl) (by kernel_rfl) (by kernel_rfl) (fun _ _ _ h => h) (Or.inl ⟨by rfl, ?_⟩) (by assumption) ?_
            · intro _ _; rename_i wz hz; have cz := hz; go_simp
            simp only [Act.put, List.setIfInBounds_toArray, List.set_cons_zero, List.set_cons_succ]
            refine wpAnyH_ready (rs := [0]) (by kernel_rfl) (by simp) ?_
            refine AllReadyH.cons (o := { dst := some 82, op := .load 34 (.tmp 14), type := 34, pos := "law.go:174", after := #[], guard := none }) rfl (fun K hK => ?_) AllReadyH.nil
            go_simp
            skip
            go_simp
            refine hK.out _ _ (cell_below' HQ4.out.lq.sys.base.drew HC0.out) (fun hHeld => ?_)
            clear hK K
            refine wpAnyH_ready (rs := [5]) (by kernel_rfl) (by simp) ?_
            refine AllReadyH.cons (o := { dst := some 87, op := .call { callee := .value (.func 13), args := #[.tmp 82, .tmp 86], argTypes := #[34, 36] }, type := 34, pos := "law.go:174", after := #[{ on := 0, ground := .data }, { on := 4, ground := .data }], guard := none }) rfl (fun K hK => ?_) AllReadyH.nil
            go_simp
            refine (HPUT.out _ _ _ (HT4.out.t.tab.below (Below.refl _ _).drew) (HE.out.1.below HQ4.out.lq.sys.base.drew)).mono ?_; rintro e w6 ⟨kv', vv', rfl, ht6, hb6⟩; have HB6 : Hid (Below w4.heap.size w4 w6) := below_undrew hb6; obtain ⟨b7, d7, hv7, _⟩ := ht6.keys.facts; obtain ⟨b8, d8, hv8, _⟩ := ht6.vals.facts; subst hv7; subst hv8; obtain ⟨y7, hy7⟩ : ∃ y, y = ((thist (H ++ [bt])).map Pr.k).length := ⟨_, rfl⟩; obtain ⟨y8, hy8⟩ : ∃ y, y = ((thist (H ++ [bt])).map Pr.v).length := ⟨_, rfl⟩; rw [← hy7, ← hy8] at ht6 ⊢; have HT6 : Hid (TabAt w6 w4.heap.size (.slice b7 y7 d7) (.slice b8 y8 d8) (thist (H ++ [bt]))) := ht6; have hf0 := (HT4.out.below HB6.out).u.box.frozen 0; have hf1 := (HT4.out.below HB6.out).u.box.frozen 1; clear ht6 hb6 hy7 hy8 x0 x1; have hy0 : w6.cell? ⟨Y, 0, none⟩ = some (.slice b3 y3 d3) := (HT4.out.below HB6.out).u.box.one rfl; have hy1 : w6.cell? ⟨Y, 1, none⟩ = some (.slice b4 y4 d4) := (HT4.out.below HB6.out).u.box.one rfl
            go_simp
            refine hK.out _ _ (cell_below' (HQ4.out.below HB6.out).lq.sys.base HC0.out) (fun hHeld => ?_)
            clear hK K
            refine wpAnyH_ready (rs := [6]) (by kernel_rfl) (by simp) ?_
            refine AllReadyH.cons (o := { dst := none, op := .store 34 (.tmp 15) (.tmp 87), type := 0, pos := "law.go:174", after := #[{ on := 5, ground := .data }, { on := 5, ground := .chain }, { on := 0, ground := .phase }, { on := 1, ground := .phase }, { on := 2, ground := .phase }, { on := 3, ground := .phase }, { on := 4, ground := .phase }, { on := 5, ground := .phase }], guard := none }) rfl (fun K hK => ?_) AllReadyH.nil
            go_simp
            skip
            go_simp
            refine hK.out _ _ ((((Keep.refl Y _).setCell 0 _).setCell 1 _).cell HBX.out.2 (cell_below' (HQ4.out.below HB6.out).lq.sys.base HC0.out)) (fun hHeld => ?_)
            clear hK K
            refine wpAnyH_done (by kernel_rfl) ?_ _
            refine NoPanic.normal ?_
            clear hHeld hy0 hy1 hf0 hf1
            generalize hw7 : World.setCell (World.setCell w6 _ _) _ _ = w7
            have HTK : Hid (Tab2 w0 w7 f S [l, s, r] Y X (.slice b7 y7 d7) (.slice b8 y8 d8) (thist (H ++ [bt])) (.slice b1 y1 d1) (.slice b2 y2 d2) (thist H) ∧ Keep Y w6 w7) := HT4.out.symm.made HB6.out HT6.out HQ4.out.idsLt HQ4.out.foot hw7
            have HT7 : Hid (Tab2 w0 w7 f S [l, s, r] X Y (.slice b1 y1 d1) (.slice b2 y2 d2) (thist H) (.slice b7 y7 d7) (.slice b8 y8 d8) (thist (H ++ [bt]))) := HTK.out.1.symm
            have HQ7 : Hid (Kq w0 w7 f S l s r ⟨#[115]⟩ m H q) := (HQ4.out.below HB6.out).keep HTK.out.2 (HT4.out.below HB6.out).u.free.1 (HT4.out.below HB6.out).u.free.2
            clear hw7 HTK HT4 HQ4 HB6 HT6 HPUT HU
            have hl0 : H.flatten.length + bt.length ≤ 1000 := by have := HB.out; have := HE.out.2; omega
            have HPU : Hid _ := kq_put HK.out HQ7.out (by have := HB.out; omega) nameL_s (by have := HB.out; omega) (by have := HB.out; omega) a' z c' bt (fun _ _ _ hb => HE.out.1.below hb) HK0.out HE.out.2.2.2 hl0
            have hcr : w7.cell? ⟨b, o + k, none⟩ = some (.slice a' z c') := cell_below' HQ7.out.lq.sys.base HC0.out
            have HB7 : Hid ((H ++ [bt]).flatten.length ≤ 10 * k + 10 ∧ (thist (H ++ [bt])).length ≤ 1000 ∧ (H ++ [bt]).flatten.length ≤ 10 * (k + 1)) := by
              have h1 := HB.out
              have h2 := HE.out.2
              have h3 := thist_lenC (H := H ++ [bt])
              have h4 : (H ++ [bt]).flatten.length = H.flatten.length + bt.length := by rw [List.flatten_append, List.length_append]; simp
              exact ⟨by omega, by omega, by omega⟩
            clear hl0
            go_wp2_with fail
            refine Calls.mono HPU.out ?_
            rintro e w8 ⟨S8, hg8, ⟨rfl, hk8⟩ | ⟨rfl, hk8⟩⟩
            · have HQ8 : Hid (Kq w0 w8 f S8 l s r ⟨#[115]⟩ (m + 1) (H ++ [bt]) (q + 2)) := hk8
              have HT8 : Hid _ := HT7.out.step hg8
              clear hk8 hg8 HPU HQ7 HT7 hcr HK0
              have x0 : w8.cell? ⟨Y, 0, none⟩ = some (.slice b7 y7 d7) := HT8.out.u.box.one rfl
              have x1 : w8.cell? ⟨Y, 1, none⟩ = some (.slice b8 y8 d8) := HT8.out.u.box.one rfl
              have hy0 : w8.cell? ⟨X, 0, none⟩ = some (.slice b1 y1 d1) := HT8.out.t.box.one rfl
              have hy1 : w8.cell? ⟨X, 1, none⟩ = some (.slice b2 y2 d2) := HT8.out.t.box.one rfl
              have hf0 := HT8.out.t.box.frozen 0
              have hf1 := HT8.out.t.box.frozen 1
              go_upto_region 17 with fail
              clear x0 x1 hy0 hy1 hf0 hf1
              generalize hw9 : World.setCell (World.setCell w8 _ _) _ _ = w9
              have HTK : Hid _ := HT8.out.copy hw9
              have HT9 : Hid (Tab2 w0 w9 f S8 [l, s, r] X Y (.slice b7 y7 d7) (.slice b8 y8 d8) (thist (H ++ [bt])) (.slice b7 y7 d7) (.slice b8 y8 d8) (thist (H ++ [bt]))) := HTK.out.1
              have HQ9 : Hid (Kq w0 w9 f S8 l s r ⟨#[115]⟩ (m + 1) (H ++ [bt]) (q + 2)) := HQ8.out.keep HTK.out.2 HT8.out.t.free.1 HT8.out.t.free.2
              clear hw9 HTK HT8 HQ8
              have HB9 : Hid (q + 2 ≤ 6 + 5 * k ∧ (0 ≤ m + 1 ∧ m + 1 ≤ 2 * k + 1) ∧ k ≤ 25) := by have := HB.out; exact ⟨by omega, by omega, by omega⟩
              clear HB HBX
              generalize H ++ [bt] = H9 at *
              generalize m + 1 = m9 at *
              generalize q + 2 = q9 at *
              by_cases hkn : k < n
              · have e2 : (k : Int) < (n : Int) := by omega
                obtain ⟨bc, oc, rfl, hcc⟩ : ∃ bc oc, a = some ⟨bc, oc, none⟩ ∧ w0.cell? ⟨bc, oc + k, none⟩ = some (.int .i64 (C.getD k 0)) := by
                  obtain ⟨h1, h2, _⟩ := HC.out
                  rcases h1 with rfl | ⟨bc, oc, rfl, h1⟩
                  · simp at h2; omega
                  · exact ⟨bc, oc, rfl, h1 k (by omega)⟩
                have hcw : w9.cell? ⟨bc, oc + k, none⟩ = some (.int .i64 (C.getD k 0)) := cell_below' HQ9.out.lq.sys.base hcc
                have HRD : Hid (Calls Tryz.prog 14 #[.int .i64 (C.getD k 0), .int .i64 3] w9 fun e w'' => e = .returned (.int .i64 (remF (C.getD k 0) 2)) ∧ w'' = w9) := lround_any (C.getD k 0) 2 w9 (by omega)
                clear hcc
                generalize C.getD k 0 = cz at *
                generalize remF cz 2 = ρ at *
                go_wp2_with fail
                refine Calls.mono HRD.out ?_
                rintro e wq ⟨rfl, rfl⟩
                by_cases h1 : ρ = 1
                · subst h1
                  clear HRD hcw
                  have HCO : Hid _ := kq_compact HK.out HQ9.out (by have := HB9.out; omega) nameL_s (by have := HB9.out; omega) (by have := HB9.out; omega)
                  go_wp2_with fail
                  refine Calls.mono HCO.out ?_
                  rintro e w8 ⟨S10, hg10, ⟨rfl, hk10⟩ | ⟨rfl, hk10⟩⟩
                  · have HQ10 : Hid (Kq w0 w8 f S10 l s r ⟨#[115]⟩ (m9 + 1) (packH (thist H9)) (q9 + 3)) := hk10
                    have HT10 : Hid _ := HT9.out.step (hg10.wider (ids' := [l, s, r]) fun j hj => by simp only [List.mem_cons, List.not_mem_nil, or_false] at hj ⊢; omega)
                    clear hk10 hg10 HCO HQ9 HT9
                    go_wp2_with fail
                    go_roundw
                    case rel => exact ⟨k + 1, by omega, by go_num, ⟨S10, _, _, _, _, thist H9, packH (thist H9), m9 + 1, q9 + 3, by rw [packH_hist (up_hist H9)]; exact HT10.out, ⟨up_hist H9, HB7.out.2.1⟩, by have := HB9.out; omega, by have := HB9.out; omega, by rw [packH_flat]; have := thist_lenC (H := H9); have := HB7.out; omega, .inl HQ10.out⟩⟩
                    case measure => simp [intOf]; omega
                  · have HQ10 : Hid (Kz w0 w8 f S10 l s r ⟨#[115]⟩ H9 H9 (q9 + 3)) := hk10
                    have HT10 : Hid _ := HT9.out.step (hg10.wider (ids' := [l, s, r]) fun j hj => by simp only [List.mem_cons, List.not_mem_nil, or_false] at hj ⊢; omega)
                    clear hk10 hg10 HCO HQ9 HT9
                    go_wp2_with fail
                    go_roundw
                    case rel => exact ⟨k + 1, by omega, by go_num, ⟨S10, _, _, _, _, thist H9, H9, m9, q9 + 3, HT10.out, ⟨up_hist H9, HB7.out.2.1⟩, by have := HB9.out; omega, by have := HB9.out; omega, HB7.out.2.2, .inr ⟨H9, HQ10.out, .inl rfl, by have := HB7.out; omega⟩⟩⟩
                    case measure => simp [intOf]; omega
                · have hr1 : ((ρ : Int) == 1) = false := beq_eq_false_iff_ne.2 (by omega)
                  clear HRD hcw
                  go_wp2_with fail
                  go_roundw
                  case rel => exact ⟨k + 1, by omega, by go_num, ⟨S8, _, _, _, _, thist H9, H9, m9, q9, HT9.out, ⟨up_hist H9, HB7.out.2.1⟩, by have := HB9.out; omega, by have := HB9.out; omega, HB7.out.2.2, .inl HQ9.out⟩⟩
                  case measure => simp [intOf]; omega
              · have e2 : ¬ (k : Int) < (n : Int) := by omega
                go_wp2_with fail
                go_roundw
                case rel => exact ⟨k + 1, by omega, by go_num, ⟨S8, _, _, _, _, thist H9, H9, m9, q9, HT9.out, ⟨up_hist H9, HB7.out.2.1⟩, by have := HB9.out; omega, by have := HB9.out; omega, HB7.out.2.2, .inl HQ9.out⟩⟩
                case measure => simp [intOf]; omega
            · have HZ8 : Hid (Kz w0 w8 f S8 l s r ⟨#[115]⟩ H (H ++ [bt]) (q + 2)) := hk8
              have HT8 : Hid _ := HT7.out.step hg8
              clear hk8 hg8 HPU HQ7 HT7 hcr HK0
              go_wp2_with fail
              refine Calls.mono HZ8.out.dead ?_
              rintro e wd ⟨rfl, rfl⟩
              go_wp2_with fail
              go_roundw
              case rel => exact ⟨k + 1, by omega, by go_num, ⟨S8, _, _, _, _, thist (H ++ [bt]), H, m, q + 2, HT8.out, ⟨up_hist _, HB7.out.2.1⟩, by have := HB.out; omega, by have := HB.out; omega, by have := HB.out; omega, .inr ⟨H ++ [bt], HZ8.out, .inl rfl, by have := HB7.out; omega⟩⟩⟩
              case measure => simp [intOf]; omega
          · have hz2 : (mayE bt == 0) = false := beq_eq_false_iff_ne.2 hm0
            generalize mayE bt = E at *
            go_wp2_with fail
            go_roundw
            case rel => exact ⟨k + 1, by omega, by go_num, ⟨S, _, _, _, _, U, H, m, q, HT4.out, HU.out, by have := HB.out; omega, by have := HB.out; omega, by have := HB.out; omega, .inl HQ4.out⟩⟩
            case measure => simp [intOf]; omega
        · have HZ : Hid (Kz w0 wb f S l s r ⟨#[115]⟩ H Z q) := hkz
          have HCZ : Hid (Cz w0 wb f S H Z U q) := hkz.cz hzu
          have HZL : Hid (Z.flatten.length ≤ 10 * k + 10) := hzl
          clear hkz hzu hzl
          go_wp2_with fail
          refine Calls.mono HZ.out.dead ?_
          rintro e wd ⟨rfl, rfl⟩
          obtain ⟨wb, hwb⟩ : ∃ x, x = wd := ⟨_, rfl⟩
          subst hwb
          clear HZ
          go_wp2_with fail
          have HCX : Hid _ := cz_crash HCZ.out (by have := HB.out; omega) a3 n3 c3 P3 (by obtain ⟨Bl, hs⟩ := HCZ.out.sys; exact HP3.out.1.below hs.base) HP3.out.2.1 HP3.out.2.2.1 HP3.out.2.2.2
          have HBW : Hid (Below w0.heap.size w0 wb) := by obtain ⟨Bl, hs⟩ := HCZ.out.sys; exact hs.base
          refine Calls.mono HCX.out ?_
          rintro e w5 ⟨g, T5, HY, rfl, htq, hhy, hyz, hyu⟩
          have HT5 : Hid (Tab2 w0 w5 g T5 [] X Y (.slice b1 y1 d1) (.slice b2 y2 d2) (thist H) (.slice b3 y3 d3) (.slice b4 y4 d4) U) := HT.out.crash htq.sys
          have HQ5 : Hid (Tq w0 w5 g T5 ⟨#[115]⟩ (HY.map batB) [] q) := htq.rebase HBW.out
          have HHY : Hid (Hist HY ∧ (thist HY = thist H ∨ thist HY = U) ∧ HY.flatten.length ≤ 300) := ⟨hhy, hyu, by rcases hyz with rfl | rfl <;> (have := HB.out; have := HZL.out; omega)⟩
          have HTL : Hid ((thist H).length ≤ 1000000 ∧ U.length ≤ 1000000 ∧ ∀ p ∈ U, p.g = false) := ⟨by have := thist_lenC (H := H); have := HB.out; omega, by have := HU.out; omega, HU.out.1.2⟩
          have HQB : Hid (q ≤ 500) := show _ ≤ _ by have := HB.out; omega
          clear htq hhy hyz hyu HCX HBW HCZ HZL HT HB HU
          go_wp2_with fail
          refine Calls.mono (tq_cut2 HQ5.out again g3 HCU.out.2) ?_
          rintro e w6 ⟨rfl, T6, hq6, hg6⟩
          have HQ6 : Hid (Tq w0 w6 g T6 ⟨#[115]⟩ (HY.map batB) [] q) := hq6
          have HT6 : Hid _ := HT5.out.step hg6
          clear hq6 hg6 HQ5 HT5
          go_wp2_with fail
          refine Calls.mono (tq_kopen HK.out HQ6.out (by have := HQB.out; omega) nameL_s HHY.out.1) ?_
          rintro e w7 ⟨pp, px, T7, Bl7, rfl, hq7, hg7⟩
          have HQ7 : Hid (Tq w0 w7 g T7 ⟨#[115]⟩ (HY.map batB) Bl7 (q + 4)) := hq7
          have HT7 : Hid _ := HT6.out.step hg7
          clear hq7 hg7 HQ6 HT6
          go_wp2_with fail
          refine Calls.mono (tq_crash HQ7.out (by have := HQB.out; omega) a3 n3 c3 P3 (HP3.out.1.below HQ7.out.sys.base) HP3.out.2.1 HP3.out.2.2.1 HP3.out.2.2.2) ?_
          rintro e w8 ⟨g9, T8, rfl, hq8, hl8⟩
          have HT8 : Hid _ := HT7.out.crash hq8.sys
          have HOP : Hid _ := kv_open2 HK.out (hq8.rebase HQ7.out.sys.base) hl8 (by have := HQB.out; omega) nameL_s HHY.out.1
          clear hq8 hl8 HQ7 HT7
          go_wp2_with fail
          refine Calls.mono HOP.out ?_
          rintro e w9 ⟨s9, l9, r9, rfl, hlt9, S9, hk9, hg9⟩
          have HK9 : Hid (Kv w0 w9 g9 S9 l9 s9 r9 ⟨#[115]⟩ 0 HY (q + 4 + 4)) := hk9
          have HT9 : Hid (Tab2 w0 w9 g9 S9 [l9, s9, r9] X Y (.slice b1 y1 d1) (.slice b2 y2 d2) (thist H) (.slice b3 y3 d3) (.slice b4 y4 d4) U) := HT8.out.opened hg9 fun j hj => by
            simp only [List.mem_cons, List.not_mem_nil, or_false] at hj
            rcases hj with rfl | rfl | rfl
            · exact hlt9.2.1
            · exact hlt9.1
            · exact hlt9.2.2
          clear hk9 hg9 hlt9 HOP HT8
          have x0 : w9.cell? ⟨X, 0, none⟩ = some (.slice b1 y1 d1) := HT9.out.t.box.one rfl
          have x1 : w9.cell? ⟨X, 1, none⟩ = some (.slice b2 y2 d2) := HT9.out.t.box.one rfl
          have HSA : Hid _ := kv_shows HK9.out (.slice b1 y1 d1) (.slice b2 y2 d2) (thist H) 0 HT9.out.t.tab (up_hist H).2 HTL.out.1
          by_cases hyx : thist HY = thist H
          · go_wp2_with fail
            refine Calls.mono HSA.out ?_
            rintro e wa ⟨he, hba⟩
            obtain rfl : e = .returned (.bool true) := by rw [he, decide_eq_true hyx]
            clear he
            have HTa : Hid _ := HT9.out.below hba
            have HKa : Hid _ := HK9.out.below hba
            clear hba HSA x0 x1 HT9 HK9
            have x0 : wa.cell? ⟨X, 0, none⟩ = some (.slice b1 y1 d1) := HTa.out.t.box.one rfl
            have x1 : wa.cell? ⟨X, 1, none⟩ = some (.slice b2 y2 d2) := HTa.out.t.box.one rfl
            have HSB : Hid _ := kv_shows HKa.out (.slice b1 y1 d1) (.slice b2 y2 d2) (thist H) 0 HTa.out.t.tab (up_hist H).2 HTL.out.1
            go_wp2_with fail
            refine Calls.mono HSB.out ?_
            rintro e wt ⟨he, hbb⟩
            obtain rfl : e = .returned (.bool true) := by rw [he, decide_eq_true hyx]
            clear he
            have HTT : Hid (Tab2 w0 wt g9 S9 [l9, s9, r9] X Y (.slice b1 y1 d1) (.slice b2 y2 d2) (thist HY) (.slice b3 y3 d3) (.slice b4 y4 d4) U) := by rw [hyx]; exact HTa.out.below hbb
            have HKT : Hid _ := HKa.out.below hbb
            clear hbb HSB x0 x1 HTa HKa hyx
            go_wp2_with fail
            refine Calls.mono (kv_again HK.out HKT.out (by have := HQB.out; omega) nameL_s) ?_
            rintro e wg ⟨s8, l8, r8, rfl, hlt8, S8, hk8, hg8, _⟩
            have HKG : Hid (Kv w0 wg g9 S8 l8 s8 r8 ⟨#[115]⟩ 0 HY (q + 4 + 4 + 4)) := hk8
            have HTG : Hid (Tab2 w0 wg g9 S8 [l8, s8, r8] X Y (.slice b1 y1 d1) (.slice b2 y2 d2) (thist HY) _ _ U) := (HTT.out.reids (ids' := []) fun j hj => by cases hj).opened hg8 fun j hj => by
              simp only [List.mem_cons, List.not_mem_nil, or_false] at hj
              rcases hj with rfl | rfl | rfl
              · exact hlt8.2.1
              · exact hlt8.1
              · exact hlt8.2.2
            clear hk8 hg8 hlt8 HTT HKT
            have HTH : Hid ((thist HY).length ≤ 1000) := show _ ≤ _ by have := thist_lenC (H := HY); have := HHY.out; omega
            have x0 : wg.cell? ⟨X, 0, none⟩ = some (.slice b1 y1 d1) := HTG.out.t.box.one rfl
            have x1 : wg.cell? ⟨X, 1, none⟩ = some (.slice b2 y2 d2) := HTG.out.t.box.one rfl
            have HSE : Hid _ := kv_shows HKG.out (.slice b1 y1 d1) (.slice b2 y2 d2) (thist HY) 0 HTG.out.t.tab (up_hist HY).2 (by have := HTH.out; omega)
            go_wp2_with fail
            refine Calls.mono HSE.out ?_
            rintro e wh ⟨he, hbh⟩
            obtain rfl : e = .returned (.bool true) := by rw [he]; simp
            clear he
            have HTI : Hid _ := HTG.out.below hbh
            have HKI : Hid _ := HKG.out.below hbh
            clear hbh HSE x0 x1 HTG HKG
            go_wp2_with fail
            generalize hwi : World.alloc wh _ = wi
            have HBI : Hid (Below wh.heap.size wh wi) := by rw [← hwi]; exact (Below.refl _ _).alloc (Nat.le_refl _) _
            have HEI : Hid (Els wi (some ⟨wh.heap.size, 0, none⟩) 1 1 lastP) := by rw [← hwi]; exact Els.lit1 wh _ _ _ _
            have hli : wh.heap.size < wi.heap.size := by rw [← hwi]; simp
            have HTJ : Hid _ := HTI.out.below HBI.out
            have HKJ : Hid (Kv w0 wi g9 S8 l8 s8 r8 ⟨#[115]⟩ 0 HY (q + 4 + 4 + 4)) := HKI.out.below HBI.out
            have HFR : Hid (Free g9 S8 [l8, s8, r8] wi wh.heap.size) := ⟨hli, fun e => by have := HKI.out.foot _ e; omega, fun e => by have := HKI.out.idsLt _ e; omega⟩
            have HPU : Hid _ := kv_put HK.out HKJ.out (by have := HQB.out; omega) nameL_s (by omega) (by omega) (some ⟨wh.heap.size, 0, none⟩) 1 1 lastP (HEI.out.free (HFR.out.reids fun j hj => .inl (by simp only [List.mem_cons, List.not_mem_nil, or_false] at hj ⊢; omega))) (by decide) (fun p hp => by simp only [lastP, List.mem_cons, List.not_mem_nil, or_false] at hp; subst hp; exact ⟨by decide, by decide⟩) (by have := HHY.out; simp only [lastP, List.length_cons, List.length_nil]; omega)
            clear hwi hli HBI HTI HKI
            generalize wh.heap.size = gl at *
            refine Calls.mono HPU.out ?_
            rintro e wj ⟨rfl, S10, hk10, hg10, _⟩
            have HKK : Hid (Kv w0 wj g9 S10 l8 s8 r8 ⟨#[115]⟩ (0 + 1) (HY ++ [lastP]) (q + 4 + 4 + 4 + 2)) := hk10
            have HTK : Hid _ := HTJ.out.step hg10
            have HEK : Hid (Els wj (some ⟨gl, 0, none⟩) 1 1 lastP) := HEI.out.later fun b' o' _ e => by
              injection e with e
              injection e with e _ _
              rw [← e]
              exact HFR.out.same hg10
            clear hk10 hg10 HPU HTJ HKJ HEI HFR
            have x0 : wj.cell? ⟨X, 0, none⟩ = some (.slice b1 y1 d1) := HTK.out.t.box.one rfl
            have x1 : wj.cell? ⟨X, 1, none⟩ = some (.slice b2 y2 d2) := HTK.out.t.box.one rfl
            have HPT : Hid (Calls Tryz.prog 13 #[.agg #[(.slice b1 y1 d1), (.slice b2 y2 d2)], .slice (some ⟨gl, 0, none⟩) 1 1] wj fun e w' => ∃ kv' vv', e = .returned (.agg #[kv', vv']) ∧ TabAt w' wj.heap.size kv' vv' (thist (HY ++ [lastP])) ∧ Below wj.heap.size wj w') := by
              have := tabput_any _ _ _ (some ⟨gl, 0, none⟩) 1 1 lastP 0 wj HTK.out.t.tab HEK.out (by have := HTH.out; omega) (Nat.zero_le _)
              rw [show tabN 1 0 wj.heap.size = wj.heap.size from if_neg (by decide), ← thist_snoc] at this
              exact this
            go_wp2_with fail
            refine Calls.mono HPT.out ?_
            rintro e wk ⟨kv', vv', rfl, htk, hbk⟩
            obtain ⟨b7, d7, hv7, _⟩ := htk.keys.facts
            obtain ⟨b8, d8, hv8, _⟩ := htk.vals.facts
            subst hv7
            subst hv8
            obtain ⟨y7, hy7⟩ : ∃ y, y = ((thist (HY ++ [lastP])).map Pr.k).length := ⟨_, rfl⟩
            obtain ⟨y8, hy8⟩ : ∃ y, y = ((thist (HY ++ [lastP])).map Pr.v).length := ⟨_, rfl⟩
            rw [← hy7, ← hy8] at htk ⊢
            clear hy7 hy8
            have HKL : Hid _ := HKK.out.below hbk
            have HSF : Hid _ := kv_shows HKL.out _ _ (thist (HY ++ [lastP])) _ htk (up_hist (HY ++ [lastP])).2 (by have := thist_lenC (H := HY ++ [lastP]); have h4 : (HY ++ [lastP]).flatten.length = HY.flatten.length + 1 := by { rw [List.flatten_append, List.length_append]; simp [lastP] }; have := HHY.out; omega)
            clear htk hbk HPT HKK HTK HEK x0 x1
            go_wp2_with fail
            refine Calls.mono HSF.out ?_
            rintro e wl ⟨he, hbl⟩
            obtain rfl : e = .returned (.bool true) := by rw [he]; simp
            clear he
            have HKM : Hid _ := HKL.out.below hbl
            clear hbl HSF HKL
            have HA : Hid _ := HAW.out wl (HKM.out.lg.sys.kw HK.out)
            go_wp2_with fail
            refine Calls.mono HA.out ?_
            rintro e wm ⟨rfl, hbm⟩
            have HBZ : Hid (Below w0.heap.size w0 wm) := HKM.out.lg.sys.base.trans (hbm.mono HKM.out.lg.sys.base.size)
            clear hbm
            go_wp2_with fail
            go_ret
            exact ⟨rfl, HBZ.out⟩
          · have hyu : thist HY = U := HHY.out.2.1.resolve_left hyx
            go_wp2_with fail
            refine Calls.mono HSA.out ?_
            rintro e wa ⟨he, hba⟩
            obtain rfl : e = .returned (.bool false) := by rw [he, decide_eq_false hyx]
            clear he
            have HTa : Hid _ := HT9.out.below hba
            have HKa : Hid _ := HK9.out.below hba
            clear hba HSA x0 x1 HT9 HK9
            have x0 : wa.cell? ⟨Y, 0, none⟩ = some (.slice b3 y3 d3) := HTa.out.u.box.one rfl
            have x1 : wa.cell? ⟨Y, 1, none⟩ = some (.slice b4 y4 d4) := HTa.out.u.box.one rfl
            have HSB : Hid _ := kv_shows HKa.out (.slice b3 y3 d3) (.slice b4 y4 d4) U 0 HTa.out.u.tab HTL.out.2.2 HTL.out.2.1
            go_wp2_with fail
            refine Calls.mono HSB.out ?_
            rintro e wd ⟨he, hbd⟩
            obtain rfl : e = .returned (.bool true) := by rw [he, decide_eq_true hyu]
            clear he
            have HTd : Hid _ := HTa.out.below hbd
            have HKd : Hid _ := HKa.out.below hbd
            clear hbd HSB x0 x1 HTa HKa
            have x0 : wd.cell? ⟨X, 0, none⟩ = some (.slice b1 y1 d1) := HTd.out.t.box.one rfl
            have x1 : wd.cell? ⟨X, 1, none⟩ = some (.slice b2 y2 d2) := HTd.out.t.box.one rfl
            have HSC : Hid _ := kv_shows HKd.out (.slice b1 y1 d1) (.slice b2 y2 d2) (thist H) 0 HTd.out.t.tab (up_hist H).2 HTL.out.1
            go_wp2_with fail
            refine Calls.mono HSC.out ?_
            rintro e wf ⟨he, hbf⟩
            obtain rfl : e = .returned (.bool false) := by rw [he, decide_eq_false hyx]
            clear he
            have HTf : Hid _ := HTd.out.below hbf
            have HKf : Hid _ := HKd.out.below hbf
            clear hbf HSC x0 x1 HTd HKd hyx
            have x0 : wf.cell? ⟨Y, 0, none⟩ = some (.slice b3 y3 d3) := HTf.out.u.box.one rfl
            have x1 : wf.cell? ⟨Y, 1, none⟩ = some (.slice b4 y4 d4) := HTf.out.u.box.one rfl
            have hy0 : wf.cell? ⟨X, 0, none⟩ = some (.slice b1 y1 d1) := HTf.out.t.box.one rfl
            have hy1 : wf.cell? ⟨X, 1, none⟩ = some (.slice b2 y2 d2) := HTf.out.t.box.one rfl
            have hf0 := HTf.out.t.box.frozen 0
            have hf1 := HTf.out.t.box.frozen 1
            go_upto_region 34 with fail
            clear x0 x1 hy0 hy1 hf0 hf1
            generalize hwt : World.setCell (World.setCell wf _ _) _ _ = wt
            have HTK : Hid _ := HTf.out.copy hwt
            have HTT : Hid (Tab2 w0 wt g9 S9 [l9, s9, r9] X Y (.slice b3 y3 d3) (.slice b4 y4 d4) (thist HY) (.slice b3 y3 d3) (.slice b4 y4 d4) U) := by rw [hyu]; exact hyu ▸ HTK.out.1
            have HKT : Hid _ := HKf.out.keep HTK.out.2 HTf.out.t.free.1 HTf.out.t.free.2
            clear hwt HTK HTf HKf hyu
            go_wp2_with fail
            refine Calls.mono (kv_again HK.out HKT.out (by have := HQB.out; omega) nameL_s) ?_
            rintro e wg ⟨s8, l8, r8, rfl, hlt8, S8, hk8, hg8, _⟩
            have HKG : Hid (Kv w0 wg g9 S8 l8 s8 r8 ⟨#[115]⟩ 0 HY (q + 4 + 4 + 4)) := hk8
            have HTG : Hid (Tab2 w0 wg g9 S8 [l8, s8, r8] X Y (.slice b3 y3 d3) (.slice b4 y4 d4) (thist HY) _ _ U) := (HTT.out.reids (ids' := []) fun j hj => by cases hj).opened hg8 fun j hj => by
              simp only [List.mem_cons, List.not_mem_nil, or_false] at hj
              rcases hj with rfl | rfl | rfl
              · exact hlt8.2.1
              · exact hlt8.1
              · exact hlt8.2.2
            clear hk8 hg8 hlt8 HTT HKT
            have HTH : Hid ((thist HY).length ≤ 1000) := show _ ≤ _ by have := thist_lenC (H := HY); have := HHY.out; omega
            have x0 : wg.cell? ⟨X, 0, none⟩ = some (.slice b3 y3 d3) := HTG.out.t.box.one rfl
            have x1 : wg.cell? ⟨X, 1, none⟩ = some (.slice b4 y4 d4) := HTG.out.t.box.one rfl
            have HSE : Hid _ := kv_shows HKG.out (.slice b3 y3 d3) (.slice b4 y4 d4) (thist HY) 0 HTG.out.t.tab (up_hist HY).2 (by have := HTH.out; omega)
            go_wp2_with fail
            refine Calls.mono HSE.out ?_
            rintro e wh ⟨he, hbh⟩
            obtain rfl : e = .returned (.bool true) := by rw [he]; simp
            clear he
            have HTI : Hid _ := HTG.out.below hbh
            have HKI : Hid _ := HKG.out.below hbh
            clear hbh HSE x0 x1 HTG HKG
            go_wp2_with fail
            generalize hwi : World.alloc wh _ = wi
            have HBI : Hid (Below wh.heap.size wh wi) := by rw [← hwi]; exact (Below.refl _ _).alloc (Nat.le_refl _) _
            have HEI : Hid (Els wi (some ⟨wh.heap.size, 0, none⟩) 1 1 lastP) := by rw [← hwi]; exact Els.lit1 wh _ _ _ _
            have hli : wh.heap.size < wi.heap.size := by rw [← hwi]; simp
            have HTJ : Hid _ := HTI.out.below HBI.out
            have HKJ : Hid (Kv w0 wi g9 S8 l8 s8 r8 ⟨#[115]⟩ 0 HY (q + 4 + 4 + 4)) := HKI.out.below HBI.out
            have HFR : Hid (Free g9 S8 [l8, s8, r8] wi wh.heap.size) := ⟨hli, fun e => by have := HKI.out.foot _ e; omega, fun e => by have := HKI.out.idsLt _ e; omega⟩
            have HPU : Hid _ := kv_put HK.out HKJ.out (by have := HQB.out; omega) nameL_s (by omega) (by omega) (some ⟨wh.heap.size, 0, none⟩) 1 1 lastP (HEI.out.free (HFR.out.reids fun j hj => .inl (by simp only [List.mem_cons, List.not_mem_nil, or_false] at hj ⊢; omega))) (by decide) (fun p hp => by simp only [lastP, List.mem_cons, List.not_mem_nil, or_false] at hp; subst hp; exact ⟨by decide, by decide⟩) (by have := HHY.out; simp only [lastP, List.length_cons, List.length_nil]; omega)
            clear hwi hli HBI HTI HKI
            generalize wh.heap.size = gl at *
            refine Calls.mono HPU.out ?_
            rintro e wj ⟨rfl, S10, hk10, hg10, _⟩
            have HKK : Hid (Kv w0 wj g9 S10 l8 s8 r8 ⟨#[115]⟩ (0 + 1) (HY ++ [lastP]) (q + 4 + 4 + 4 + 2)) := hk10
            have HTK : Hid _ := HTJ.out.step hg10
            have HEK : Hid (Els wj (some ⟨gl, 0, none⟩) 1 1 lastP) := HEI.out.later fun b' o' _ e => by
              injection e with e
              injection e with e _ _
              rw [← e]
              exact HFR.out.same hg10
            clear hk10 hg10 HPU HTJ HKJ HEI HFR
            have x0 : wj.cell? ⟨X, 0, none⟩ = some (.slice b3 y3 d3) := HTK.out.t.box.one rfl
            have x1 : wj.cell? ⟨X, 1, none⟩ = some (.slice b4 y4 d4) := HTK.out.t.box.one rfl
            have HPT : Hid (Calls Tryz.prog 13 #[.agg #[(.slice b3 y3 d3), (.slice b4 y4 d4)], .slice (some ⟨gl, 0, none⟩) 1 1] wj fun e w' => ∃ kv' vv', e = .returned (.agg #[kv', vv']) ∧ TabAt w' wj.heap.size kv' vv' (thist (HY ++ [lastP])) ∧ Below wj.heap.size wj w') := by
              have := tabput_any _ _ _ (some ⟨gl, 0, none⟩) 1 1 lastP 0 wj HTK.out.t.tab HEK.out (by have := HTH.out; omega) (Nat.zero_le _)
              rw [show tabN 1 0 wj.heap.size = wj.heap.size from if_neg (by decide), ← thist_snoc] at this
              exact this
            go_wp2_with fail
            refine Calls.mono HPT.out ?_
            rintro e wk ⟨kv', vv', rfl, htk, hbk⟩
            obtain ⟨b7, d7, hv7, _⟩ := htk.keys.facts
            obtain ⟨b8, d8, hv8, _⟩ := htk.vals.facts
            subst hv7
            subst hv8
            obtain ⟨y7, hy7⟩ : ∃ y, y = ((thist (HY ++ [lastP])).map Pr.k).length := ⟨_, rfl⟩
            obtain ⟨y8, hy8⟩ : ∃ y, y = ((thist (HY ++ [lastP])).map Pr.v).length := ⟨_, rfl⟩
            rw [← hy7, ← hy8] at htk ⊢
            clear hy7 hy8
            have HKL : Hid _ := HKK.out.below hbk
            have HSF : Hid _ := kv_shows HKL.out _ _ (thist (HY ++ [lastP])) _ htk (up_hist (HY ++ [lastP])).2 (by have := thist_lenC (H := HY ++ [lastP]); have h4 : (HY ++ [lastP]).flatten.length = HY.flatten.length + 1 := by { rw [List.flatten_append, List.length_append]; simp [lastP] }; have := HHY.out; omega)
            clear htk hbk HPT HKK HTK HEK x0 x1
            go_wp2_with fail
            refine Calls.mono HSF.out ?_
            rintro e wl ⟨he, hbl⟩
            obtain rfl : e = .returned (.bool true) := by rw [he]; simp
            clear he
            have HKM : Hid _ := HKL.out.below hbl
            clear hbl HSF HKL
            have HA : Hid _ := HAW.out wl (HKM.out.lg.sys.kw HK.out)
            go_wp2_with fail
            refine Calls.mono HA.out ?_
            rintro e wm ⟨rfl, hbm⟩
            have HBZ : Hid (Below w0.heap.size w0 wm) := HKM.out.lg.sys.base.trans (hbm.mono HKM.out.lg.sys.base.size)
            clear hbm
            go_wp2_with fail
            go_ret
            exact ⟨rfl, HBZ.out⟩
      · have e1 : ¬ (k : Int) < (p : Int) := by omega
        obtain ⟨Z, hcz, hzl⟩ : ∃ Z, Cz w0 wb f S H Z U q ∧ Z.flatten.length ≤ 10 * k + 10 := by
          rcases hor with h | ⟨Z, h, hu, hl⟩
          · exact ⟨H, h.cz, by have := HB.out; omega⟩
          · exact ⟨Z, h.cz hu, hl⟩
        have HCZ : Hid (Cz w0 wb f S H Z U q) := hcz
        have HZL : Hid (Z.flatten.length ≤ 10 * k + 10) := hzl
        clear hcz hzl hor
        go_wp2_with fail
        have HCX : Hid _ := cz_crash HCZ.out (by have := HB.out; omega) a3 n3 c3 P3 (by obtain ⟨Bl, hs⟩ := HCZ.out.sys; exact HP3.out.1.below hs.base) HP3.out.2.1 HP3.out.2.2.1 HP3.out.2.2.2
        have HBW : Hid (Below w0.heap.size w0 wb) := by obtain ⟨Bl, hs⟩ := HCZ.out.sys; exact hs.base
        refine Calls.mono HCX.out ?_
        rintro e w5 ⟨g, T5, HY, rfl, htq, hhy, hyz, hyu⟩
        have HT5 : Hid (Tab2 w0 w5 g T5 [] X Y (.slice b1 y1 d1) (.slice b2 y2 d2) (thist H) (.slice b3 y3 d3) (.slice b4 y4 d4) U) := HT.out.crash htq.sys
        have HQ5 : Hid (Tq w0 w5 g T5 ⟨#[115]⟩ (HY.map batB) [] q) := htq.rebase HBW.out
        have HHY : Hid (Hist HY ∧ (thist HY = thist H ∨ thist HY = U) ∧ HY.flatten.length ≤ 300) := ⟨hhy, hyu, by rcases hyz with rfl | rfl <;> (have := HB.out; have := HZL.out; omega)⟩
        have HTL : Hid ((thist H).length ≤ 1000000 ∧ U.length ≤ 1000000 ∧ ∀ p ∈ U, p.g = false) := ⟨by have := thist_lenC (H := H); have := HB.out; omega, by have := HU.out; omega, HU.out.1.2⟩
        have HQB : Hid (q ≤ 500) := show _ ≤ _ by have := HB.out; omega
        clear htq hhy hyz hyu HCX HBW HCZ HZL HT HB HU
        go_wp2_with fail
        refine Calls.mono (tq_cut2 HQ5.out again g3 HCU.out.2) ?_
        rintro e w6 ⟨rfl, T6, hq6, hg6⟩
        have HQ6 : Hid (Tq w0 w6 g T6 ⟨#[115]⟩ (HY.map batB) [] q) := hq6
        have HT6 : Hid _ := HT5.out.step hg6
        clear hq6 hg6 HQ5 HT5
        go_wp2_with fail
        refine Calls.mono (tq_kopen HK.out HQ6.out (by have := HQB.out; omega) nameL_s HHY.out.1) ?_
        rintro e w7 ⟨pp, px, T7, Bl7, rfl, hq7, hg7⟩
        have HQ7 : Hid (Tq w0 w7 g T7 ⟨#[115]⟩ (HY.map batB) Bl7 (q + 4)) := hq7
        have HT7 : Hid _ := HT6.out.step hg7
        clear hq7 hg7 HQ6 HT6
        go_wp2_with fail
        refine Calls.mono (tq_crash HQ7.out (by have := HQB.out; omega) a3 n3 c3 P3 (HP3.out.1.below HQ7.out.sys.base) HP3.out.2.1 HP3.out.2.2.1 HP3.out.2.2.2) ?_
        rintro e w8 ⟨g9, T8, rfl, hq8, hl8⟩
        have HT8 : Hid _ := HT7.out.crash hq8.sys
        have HOP : Hid _ := kv_open2 HK.out (hq8.rebase HQ7.out.sys.base) hl8 (by have := HQB.out; omega) nameL_s HHY.out.1
        clear hq8 hl8 HQ7 HT7
        go_wp2_with fail
        refine Calls.mono HOP.out ?_
        rintro e w9 ⟨s9, l9, r9, rfl, hlt9, S9, hk9, hg9⟩
        have HK9 : Hid (Kv w0 w9 g9 S9 l9 s9 r9 ⟨#[115]⟩ 0 HY (q + 4 + 4)) := hk9
        have HT9 : Hid (Tab2 w0 w9 g9 S9 [l9, s9, r9] X Y (.slice b1 y1 d1) (.slice b2 y2 d2) (thist H) (.slice b3 y3 d3) (.slice b4 y4 d4) U) := HT8.out.opened hg9 fun j hj => by
          simp only [List.mem_cons, List.not_mem_nil, or_false] at hj
          rcases hj with rfl | rfl | rfl
          · exact hlt9.2.1
          · exact hlt9.1
          · exact hlt9.2.2
        clear hk9 hg9 hlt9 HOP HT8
        have x0 : w9.cell? ⟨X, 0, none⟩ = some (.slice b1 y1 d1) := HT9.out.t.box.one rfl
        have x1 : w9.cell? ⟨X, 1, none⟩ = some (.slice b2 y2 d2) := HT9.out.t.box.one rfl
        have HSA : Hid _ := kv_shows HK9.out (.slice b1 y1 d1) (.slice b2 y2 d2) (thist H) 0 HT9.out.t.tab (up_hist H).2 HTL.out.1
        by_cases hyx : thist HY = thist H
        · go_wp2_with fail
          refine Calls.mono HSA.out ?_
          rintro e wa ⟨he, hba⟩
          obtain rfl : e = .returned (.bool true) := by rw [he, decide_eq_true hyx]
          clear he
          have HTa : Hid _ := HT9.out.below hba
          have HKa : Hid _ := HK9.out.below hba
          clear hba HSA x0 x1 HT9 HK9
          have x0 : wa.cell? ⟨X, 0, none⟩ = some (.slice b1 y1 d1) := HTa.out.t.box.one rfl
          have x1 : wa.cell? ⟨X, 1, none⟩ = some (.slice b2 y2 d2) := HTa.out.t.box.one rfl
          have HSB : Hid _ := kv_shows HKa.out (.slice b1 y1 d1) (.slice b2 y2 d2) (thist H) 0 HTa.out.t.tab (up_hist H).2 HTL.out.1
          go_wp2_with fail
          refine Calls.mono HSB.out ?_
          rintro e wt ⟨he, hbb⟩
          obtain rfl : e = .returned (.bool true) := by rw [he, decide_eq_true hyx]
          clear he
          have HTT : Hid (Tab2 w0 wt g9 S9 [l9, s9, r9] X Y (.slice b1 y1 d1) (.slice b2 y2 d2) (thist HY) (.slice b3 y3 d3) (.slice b4 y4 d4) U) := by rw [hyx]; exact HTa.out.below hbb
          have HKT : Hid _ := HKa.out.below hbb
          clear hbb HSB x0 x1 HTa HKa hyx
          go_wp2_with fail
          refine Calls.mono (kv_again HK.out HKT.out (by have := HQB.out; omega) nameL_s) ?_
          rintro e wg ⟨s8, l8, r8, rfl, hlt8, S8, hk8, hg8, _⟩
          have HKG : Hid (Kv w0 wg g9 S8 l8 s8 r8 ⟨#[115]⟩ 0 HY (q + 4 + 4 + 4)) := hk8
          have HTG : Hid (Tab2 w0 wg g9 S8 [l8, s8, r8] X Y (.slice b1 y1 d1) (.slice b2 y2 d2) (thist HY) _ _ U) := (HTT.out.reids (ids' := []) fun j hj => by cases hj).opened hg8 fun j hj => by
            simp only [List.mem_cons, List.not_mem_nil, or_false] at hj
            rcases hj with rfl | rfl | rfl
            · exact hlt8.2.1
            · exact hlt8.1
            · exact hlt8.2.2
          clear hk8 hg8 hlt8 HTT HKT
          have HTH : Hid ((thist HY).length ≤ 1000) := show _ ≤ _ by have := thist_lenC (H := HY); have := HHY.out; omega
          have x0 : wg.cell? ⟨X, 0, none⟩ = some (.slice b1 y1 d1) := HTG.out.t.box.one rfl
          have x1 : wg.cell? ⟨X, 1, none⟩ = some (.slice b2 y2 d2) := HTG.out.t.box.one rfl
          have HSE : Hid _ := kv_shows HKG.out (.slice b1 y1 d1) (.slice b2 y2 d2) (thist HY) 0 HTG.out.t.tab (up_hist HY).2 (by have := HTH.out; omega)
          go_wp2_with fail
          refine Calls.mono HSE.out ?_
          rintro e wh ⟨he, hbh⟩
          obtain rfl : e = .returned (.bool true) := by rw [he]; simp
          clear he
          have HTI : Hid _ := HTG.out.below hbh
          have HKI : Hid _ := HKG.out.below hbh
          clear hbh HSE x0 x1 HTG HKG
          go_wp2_with fail
          generalize hwi : World.alloc wh _ = wi
          have HBI : Hid (Below wh.heap.size wh wi) := by rw [← hwi]; exact (Below.refl _ _).alloc (Nat.le_refl _) _
          have HEI : Hid (Els wi (some ⟨wh.heap.size, 0, none⟩) 1 1 lastP) := by rw [← hwi]; exact Els.lit1 wh _ _ _ _
          have hli : wh.heap.size < wi.heap.size := by rw [← hwi]; simp
          have HTJ : Hid _ := HTI.out.below HBI.out
          have HKJ : Hid (Kv w0 wi g9 S8 l8 s8 r8 ⟨#[115]⟩ 0 HY (q + 4 + 4 + 4)) := HKI.out.below HBI.out
          have HFR : Hid (Free g9 S8 [l8, s8, r8] wi wh.heap.size) := ⟨hli, fun e => by have := HKI.out.foot _ e; omega, fun e => by have := HKI.out.idsLt _ e; omega⟩
          have HPU : Hid _ := kv_put HK.out HKJ.out (by have := HQB.out; omega) nameL_s (by omega) (by omega) (some ⟨wh.heap.size, 0, none⟩) 1 1 lastP (HEI.out.free (HFR.out.reids fun j hj => .inl (by simp only [List.mem_cons, List.not_mem_nil, or_false] at hj ⊢; omega))) (by decide) (fun p hp => by simp only [lastP, List.mem_cons, List.not_mem_nil, or_false] at hp; subst hp; exact ⟨by decide, by decide⟩) (by have := HHY.out; simp only [lastP, List.length_cons, List.length_nil]; omega)
          clear hwi hli HBI HTI HKI
          generalize wh.heap.size = gl at *
          refine Calls.mono HPU.out ?_
          rintro e wj ⟨rfl, S10, hk10, hg10, _⟩
          have HKK : Hid (Kv w0 wj g9 S10 l8 s8 r8 ⟨#[115]⟩ (0 + 1) (HY ++ [lastP]) (q + 4 + 4 + 4 + 2)) := hk10
          have HTK : Hid _ := HTJ.out.step hg10
          have HEK : Hid (Els wj (some ⟨gl, 0, none⟩) 1 1 lastP) := HEI.out.later fun b' o' _ e => by
            injection e with e
            injection e with e _ _
            rw [← e]
            exact HFR.out.same hg10
          clear hk10 hg10 HPU HTJ HKJ HEI HFR
          have x0 : wj.cell? ⟨X, 0, none⟩ = some (.slice b1 y1 d1) := HTK.out.t.box.one rfl
          have x1 : wj.cell? ⟨X, 1, none⟩ = some (.slice b2 y2 d2) := HTK.out.t.box.one rfl
          have HPT : Hid (Calls Tryz.prog 13 #[.agg #[(.slice b1 y1 d1), (.slice b2 y2 d2)], .slice (some ⟨gl, 0, none⟩) 1 1] wj fun e w' => ∃ kv' vv', e = .returned (.agg #[kv', vv']) ∧ TabAt w' wj.heap.size kv' vv' (thist (HY ++ [lastP])) ∧ Below wj.heap.size wj w') := by
            have := tabput_any _ _ _ (some ⟨gl, 0, none⟩) 1 1 lastP 0 wj HTK.out.t.tab HEK.out (by have := HTH.out; omega) (Nat.zero_le _)
            rw [show tabN 1 0 wj.heap.size = wj.heap.size from if_neg (by decide), ← thist_snoc] at this
            exact this
          go_wp2_with fail
          refine Calls.mono HPT.out ?_
          rintro e wk ⟨kv', vv', rfl, htk, hbk⟩
          obtain ⟨b7, d7, hv7, _⟩ := htk.keys.facts
          obtain ⟨b8, d8, hv8, _⟩ := htk.vals.facts
          subst hv7
          subst hv8
          obtain ⟨y7, hy7⟩ : ∃ y, y = ((thist (HY ++ [lastP])).map Pr.k).length := ⟨_, rfl⟩
          obtain ⟨y8, hy8⟩ : ∃ y, y = ((thist (HY ++ [lastP])).map Pr.v).length := ⟨_, rfl⟩
          rw [← hy7, ← hy8] at htk ⊢
          clear hy7 hy8
          have HKL : Hid _ := HKK.out.below hbk
          have HSF : Hid _ := kv_shows HKL.out _ _ (thist (HY ++ [lastP])) _ htk (up_hist (HY ++ [lastP])).2 (by have := thist_lenC (H := HY ++ [lastP]); have h4 : (HY ++ [lastP]).flatten.length = HY.flatten.length + 1 := by { rw [List.flatten_append, List.length_append]; simp [lastP] }; have := HHY.out; omega)
          clear htk hbk HPT HKK HTK HEK x0 x1
          go_wp2_with fail
          refine Calls.mono HSF.out ?_
          rintro e wl ⟨he, hbl⟩
          obtain rfl : e = .returned (.bool true) := by rw [he]; simp
          clear he
          have HKM : Hid _ := HKL.out.below hbl
          clear hbl HSF HKL
          have HA : Hid _ := HAW.out wl (HKM.out.lg.sys.kw HK.out)
          go_wp2_with fail
          refine Calls.mono HA.out ?_
          rintro e wm ⟨rfl, hbm⟩
          have HBZ : Hid (Below w0.heap.size w0 wm) := HKM.out.lg.sys.base.trans (hbm.mono HKM.out.lg.sys.base.size)
          clear hbm
          go_wp2_with fail
          go_ret
          exact ⟨rfl, HBZ.out⟩
        · have hyu : thist HY = U := HHY.out.2.1.resolve_left hyx
          go_wp2_with fail
          refine Calls.mono HSA.out ?_
          rintro e wa ⟨he, hba⟩
          obtain rfl : e = .returned (.bool false) := by rw [he, decide_eq_false hyx]
          clear he
          have HTa : Hid _ := HT9.out.below hba
          have HKa : Hid _ := HK9.out.below hba
          clear hba HSA x0 x1 HT9 HK9
          have x0 : wa.cell? ⟨Y, 0, none⟩ = some (.slice b3 y3 d3) := HTa.out.u.box.one rfl
          have x1 : wa.cell? ⟨Y, 1, none⟩ = some (.slice b4 y4 d4) := HTa.out.u.box.one rfl
          have HSB : Hid _ := kv_shows HKa.out (.slice b3 y3 d3) (.slice b4 y4 d4) U 0 HTa.out.u.tab HTL.out.2.2 HTL.out.2.1
          go_wp2_with fail
          refine Calls.mono HSB.out ?_
          rintro e wd ⟨he, hbd⟩
          obtain rfl : e = .returned (.bool true) := by rw [he, decide_eq_true hyu]
          clear he
          have HTd : Hid _ := HTa.out.below hbd
          have HKd : Hid _ := HKa.out.below hbd
          clear hbd HSB x0 x1 HTa HKa
          have x0 : wd.cell? ⟨X, 0, none⟩ = some (.slice b1 y1 d1) := HTd.out.t.box.one rfl
          have x1 : wd.cell? ⟨X, 1, none⟩ = some (.slice b2 y2 d2) := HTd.out.t.box.one rfl
          have HSC : Hid _ := kv_shows HKd.out (.slice b1 y1 d1) (.slice b2 y2 d2) (thist H) 0 HTd.out.t.tab (up_hist H).2 HTL.out.1
          go_wp2_with fail
          refine Calls.mono HSC.out ?_
          rintro e wf ⟨he, hbf⟩
          obtain rfl : e = .returned (.bool false) := by rw [he, decide_eq_false hyx]
          clear he
          have HTf : Hid _ := HTd.out.below hbf
          have HKf : Hid _ := HKd.out.below hbf
          clear hbf HSC x0 x1 HTd HKd hyx
          have x0 : wf.cell? ⟨Y, 0, none⟩ = some (.slice b3 y3 d3) := HTf.out.u.box.one rfl
          have x1 : wf.cell? ⟨Y, 1, none⟩ = some (.slice b4 y4 d4) := HTf.out.u.box.one rfl
          have hy0 : wf.cell? ⟨X, 0, none⟩ = some (.slice b1 y1 d1) := HTf.out.t.box.one rfl
          have hy1 : wf.cell? ⟨X, 1, none⟩ = some (.slice b2 y2 d2) := HTf.out.t.box.one rfl
          have hf0 := HTf.out.t.box.frozen 0
          have hf1 := HTf.out.t.box.frozen 1
          go_upto_region 34 with fail
          clear x0 x1 hy0 hy1 hf0 hf1
          generalize hwt : World.setCell (World.setCell wf _ _) _ _ = wt
          have HTK : Hid _ := HTf.out.copy hwt
          have HTT : Hid (Tab2 w0 wt g9 S9 [l9, s9, r9] X Y (.slice b3 y3 d3) (.slice b4 y4 d4) (thist HY) (.slice b3 y3 d3) (.slice b4 y4 d4) U) := by rw [hyu]; exact hyu ▸ HTK.out.1
          have HKT : Hid _ := HKf.out.keep HTK.out.2 HTf.out.t.free.1 HTf.out.t.free.2
          clear hwt HTK HTf HKf hyu
          go_wp2_with fail
          refine Calls.mono (kv_again HK.out HKT.out (by have := HQB.out; omega) nameL_s) ?_
          rintro e wg ⟨s8, l8, r8, rfl, hlt8, S8, hk8, hg8, _⟩
          have HKG : Hid (Kv w0 wg g9 S8 l8 s8 r8 ⟨#[115]⟩ 0 HY (q + 4 + 4 + 4)) := hk8
          have HTG : Hid (Tab2 w0 wg g9 S8 [l8, s8, r8] X Y (.slice b3 y3 d3) (.slice b4 y4 d4) (thist HY) _ _ U) := (HTT.out.reids (ids' := []) fun j hj => by cases hj).opened hg8 fun j hj => by
            simp only [List.mem_cons, List.not_mem_nil, or_false] at hj
            rcases hj with rfl | rfl | rfl
            · exact hlt8.2.1
            · exact hlt8.1
            · exact hlt8.2.2
          clear hk8 hg8 hlt8 HTT HKT
          have HTH : Hid ((thist HY).length ≤ 1000) := show _ ≤ _ by have := thist_lenC (H := HY); have := HHY.out; omega
          have x0 : wg.cell? ⟨X, 0, none⟩ = some (.slice b3 y3 d3) := HTG.out.t.box.one rfl
          have x1 : wg.cell? ⟨X, 1, none⟩ = some (.slice b4 y4 d4) := HTG.out.t.box.one rfl
          have HSE : Hid _ := kv_shows HKG.out (.slice b3 y3 d3) (.slice b4 y4 d4) (thist HY) 0 HTG.out.t.tab (up_hist HY).2 (by have := HTH.out; omega)
          go_wp2_with fail
          refine Calls.mono HSE.out ?_
          rintro e wh ⟨he, hbh⟩
          obtain rfl : e = .returned (.bool true) := by rw [he]; simp
          clear he
          have HTI : Hid _ := HTG.out.below hbh
          have HKI : Hid _ := HKG.out.below hbh
          clear hbh HSE x0 x1 HTG HKG
          go_wp2_with fail
          generalize hwi : World.alloc wh _ = wi
          have HBI : Hid (Below wh.heap.size wh wi) := by rw [← hwi]; exact (Below.refl _ _).alloc (Nat.le_refl _) _
          have HEI : Hid (Els wi (some ⟨wh.heap.size, 0, none⟩) 1 1 lastP) := by rw [← hwi]; exact Els.lit1 wh _ _ _ _
          have hli : wh.heap.size < wi.heap.size := by rw [← hwi]; simp
          have HTJ : Hid _ := HTI.out.below HBI.out
          have HKJ : Hid (Kv w0 wi g9 S8 l8 s8 r8 ⟨#[115]⟩ 0 HY (q + 4 + 4 + 4)) := HKI.out.below HBI.out
          have HFR : Hid (Free g9 S8 [l8, s8, r8] wi wh.heap.size) := ⟨hli, fun e => by have := HKI.out.foot _ e; omega, fun e => by have := HKI.out.idsLt _ e; omega⟩
          have HPU : Hid _ := kv_put HK.out HKJ.out (by have := HQB.out; omega) nameL_s (by omega) (by omega) (some ⟨wh.heap.size, 0, none⟩) 1 1 lastP (HEI.out.free (HFR.out.reids fun j hj => .inl (by simp only [List.mem_cons, List.not_mem_nil, or_false] at hj ⊢; omega))) (by decide) (fun p hp => by simp only [lastP, List.mem_cons, List.not_mem_nil, or_false] at hp; subst hp; exact ⟨by decide, by decide⟩) (by have := HHY.out; simp only [lastP, List.length_cons, List.length_nil]; omega)
          clear hwi hli HBI HTI HKI
          generalize wh.heap.size = gl at *
          refine Calls.mono HPU.out ?_
          rintro e wj ⟨rfl, S10, hk10, hg10, _⟩
          have HKK : Hid (Kv w0 wj g9 S10 l8 s8 r8 ⟨#[115]⟩ (0 + 1) (HY ++ [lastP]) (q + 4 + 4 + 4 + 2)) := hk10
          have HTK : Hid _ := HTJ.out.step hg10
          have HEK : Hid (Els wj (some ⟨gl, 0, none⟩) 1 1 lastP) := HEI.out.later fun b' o' _ e => by
            injection e with e
            injection e with e _ _
            rw [← e]
            exact HFR.out.same hg10
          clear hk10 hg10 HPU HTJ HKJ HEI HFR
          have x0 : wj.cell? ⟨X, 0, none⟩ = some (.slice b3 y3 d3) := HTK.out.t.box.one rfl
          have x1 : wj.cell? ⟨X, 1, none⟩ = some (.slice b4 y4 d4) := HTK.out.t.box.one rfl
          have HPT : Hid (Calls Tryz.prog 13 #[.agg #[(.slice b3 y3 d3), (.slice b4 y4 d4)], .slice (some ⟨gl, 0, none⟩) 1 1] wj fun e w' => ∃ kv' vv', e = .returned (.agg #[kv', vv']) ∧ TabAt w' wj.heap.size kv' vv' (thist (HY ++ [lastP])) ∧ Below wj.heap.size wj w') := by
            have := tabput_any _ _ _ (some ⟨gl, 0, none⟩) 1 1 lastP 0 wj HTK.out.t.tab HEK.out (by have := HTH.out; omega) (Nat.zero_le _)
            rw [show tabN 1 0 wj.heap.size = wj.heap.size from if_neg (by decide), ← thist_snoc] at this
            exact this
          go_wp2_with fail
          refine Calls.mono HPT.out ?_
          rintro e wk ⟨kv', vv', rfl, htk, hbk⟩
          obtain ⟨b7, d7, hv7, _⟩ := htk.keys.facts
          obtain ⟨b8, d8, hv8, _⟩ := htk.vals.facts
          subst hv7
          subst hv8
          obtain ⟨y7, hy7⟩ : ∃ y, y = ((thist (HY ++ [lastP])).map Pr.k).length := ⟨_, rfl⟩
          obtain ⟨y8, hy8⟩ : ∃ y, y = ((thist (HY ++ [lastP])).map Pr.v).length := ⟨_, rfl⟩
          rw [← hy7, ← hy8] at htk ⊢
          clear hy7 hy8
          have HKL : Hid _ := HKK.out.below hbk
          have HSF : Hid _ := kv_shows HKL.out _ _ (thist (HY ++ [lastP])) _ htk (up_hist (HY ++ [lastP])).2 (by have := thist_lenC (H := HY ++ [lastP]); have h4 : (HY ++ [lastP]).flatten.length = HY.flatten.length + 1 := by { rw [List.flatten_append, List.length_append]; simp [lastP] }; have := HHY.out; omega)
          clear htk hbk HPT HKK HTK HEK x0 x1
          go_wp2_with fail
          refine Calls.mono HSF.out ?_
          rintro e wl ⟨he, hbl⟩
          obtain rfl : e = .returned (.bool true) := by rw [he]; simp
          clear he
          have HKM : Hid _ := HKL.out.below hbl
          clear hbl HSF HKL
          have HA : Hid _ := HAW.out wl (HKM.out.lg.sys.kw HK.out)
          go_wp2_with fail
          refine Calls.mono HA.out ?_
          rintro e wm ⟨rfl, hbm⟩
          have HBZ : Hid (Below w0.heap.size w0 wm) := HKM.out.lg.sys.base.trans (hbm.mono HKM.out.lg.sys.base.size)
          clear hbm
          go_wp2_with fail
          go_ret
          exact ⟨rfl, HBZ.out⟩
  · rcases (show (30 < n) ∨ (n ≤ 30 ∧ cut < 0) ∨ (n ≤ 30 ∧ 0 ≤ cut ∧ again < 0) ∨ (n ≤ 30 ∧ 0 ≤ cut ∧ 0 ≤ again ∧ 5 < n3) by omega) with h | h | h | h
    · have k0 : (n : Int) > 30 := by omega
      have HA : Hid _ := HAW.out w0 HK.out
      go_wp2_with fail
      refine Calls.mono HA.out ?_
      rintro e w1 ⟨rfl, hb1⟩
      have HB1 : Hid (Below w0.heap.size w0 w1) := hb1
      clear hb1
      go_wp2_with fail
      go_ret
      exact ⟨rfl, HB1.out⟩
    · have k0 : ¬ (n : Int) > 30 := by omega
      have k1 : cut < 0 := by omega
      have HA : Hid _ := HAW.out w0 HK.out
      go_wp2_with fail
      refine Calls.mono HA.out ?_
      rintro e w1 ⟨rfl, hb1⟩
      have HB1 : Hid (Below w0.heap.size w0 w1) := hb1
      clear hb1
      go_wp2_with fail
      go_ret
      exact ⟨rfl, HB1.out⟩
    · have k0 : ¬ (n : Int) > 30 := by omega
      have k1 : ¬ cut < 0 := by omega
      have k2 : again < 0 := by omega
      have HA : Hid _ := HAW.out w0 HK.out
      go_wp2_with fail
      refine Calls.mono HA.out ?_
      rintro e w1 ⟨rfl, hb1⟩
      have HB1 : Hid (Below w0.heap.size w0 w1) := hb1
      clear hb1
      go_wp2_with fail
      go_ret
      exact ⟨rfl, HB1.out⟩
    · have k0 : ¬ (n : Int) > 30 := by omega
      have k1 : ¬ cut < 0 := by omega
      have k2 : ¬ again < 0 := by omega
      have k3 : (n3 : Int) > 5 := by omega
      have HA : Hid _ := HAW.out w0 HK.out
      go_wp2_with fail
      refine Calls.mono HA.out ?_
      rintro e w1 ⟨rfl, hb1⟩
      have HB1 : Hid (Below w0.heap.size w0 w1) := hb1
      clear hb1
      go_wp2_with fail
      go_ret
      exact ⟨rfl, HB1.out⟩
end Go.Proofs.YtlapnnkahijikaaGreatDoor
