/- coraclelaw9.KvPlays: its walk (printed by tools/mkplays.py). -/
import Derived.Test.YtlapnnkahijikaaGreatDoorCKxF
namespace Go.Proofs.YtlapnnkahijikaaGreatDoor
open Go.ChangeShapes Go.WideShapes Go.ChangeAt Go.RowKit Go.Lib

/-- The law's store and table behind so many rounds. -/
structure Pl (w wi : World) (f X s : Nat) (m : Int) (k : Nat) : Prop where
  st : ∃ (S : FS) (l r : Nat) (H : List (List Pr)) (q : Nat) (kv vv : Value), Kv w wi f S l s r ⟨#[115]⟩ m H q ∧ q ≤ 4 + 10 * k ∧ (0 ≤ m ∧ m ≤ 2 * k) ∧ H.flatten.length ≤ 10 * k ∧ TabF w wi f S [l, s, r] X kv vv (thist H)
theorem preB_cut (k pre : ByteArray) : ((k.extract 0 pre.size).toList == pre.toList) = preB pre k := by
  have e : (k.extract 0 pre.size).data.toList = k.data.toList.take pre.size := by
    rw [ByteArray.data_extract, Array.toList_extract]
    simp [List.extract]
  have hl : pre.data.toList.length = pre.size := Array.length_toList
  rw [eq_str]
  unfold preB Lib.hasPrefix
  rw [Bool.eq_iff_iff, decide_eq_true_iff, List.isPrefixOf_iff_prefix, List.prefix_iff_eq_take, hl]
  refine ⟨fun h => ?_, fun h => kb_inj ?_⟩
  · have h2 : (k.extract 0 pre.size).data.toList = pre.data.toList := by rw [h]
    rw [e] at h2
    exact h2.symm
  · unfold bytesOf
    rw [e]
    exact h.symm
theorem thist_len {H : List (List Pr)} : (thist H).length ≤ H.flatten.length := by
  have := thist_length (H := H) (T := [])
  simpa [thist] using this
set_option maxRecDepth 100000 in
set_option maxHeartbeats 16000000 in
theorem kplays_any (vl : Value) (L : List (List Pr)) (a : Option Addr) (n c : Nat) (C : List Int) (pre : ByteArray) (w : World) (hK : Kw w) (hL : Bats w vl L) (hC : Ints w a C) (hCn : C.length = n) (hnc : n ≤ c) (hcm : c ≤ maxLen) :
    Calls Tryz.prog 3 #[vl, .slice a n c, .string pre] w fun e w' => e = .returned (.bool true) ∧ Below w.heap.size w w' := by
  have HMO : Hid (Tryz.prog.follows .mixedOrders = true) := show _ = _ by kernel_rfl
  have HK : Hid (Kw w) := hK
  have HAW : Hid (∀ w', Kw w' → Calls Tryz.prog 8 #[] w' fun e w'' => e = .returned (.bool true) ∧ Below w'.heap.size w' w'') := fun w' h => kawake_any w' h
  have HSM : Hid (Calls Tryz.prog 7 #[vl] w fun e w' => SmOut e L ∧ w' = w) := small_any vl L w hL
  obtain ⟨al, cl, rfl⟩ := hL.shape
  obtain ⟨p, hp⟩ : ∃ p, p = L.length := ⟨_, rfl⟩
  rw [← hp] at hL HSM ⊢
  have HL : Hid (Bats w (.slice al p cl) L) := hL
  have HP : Hid (p = L.length) := hp
  have HC : Hid (Ints w a C ∧ C.length = n ∧ n ≤ c ∧ c ≤ maxLen) := ⟨hC, hCn, hnc, hcm⟩
  clear hK hL hp hC hCn hnc hcm
  go_enter Tryz.func3, Tryz.ntmps3
  go_wp2_with fail
  refine Calls.mono HSM.out ?_
  rintro e w0 ⟨⟨x, rfl, hsm⟩, rfl⟩
  clear HSM
  cases x with
  | false =>
    clear hsm
    have HA : Hid _ := HAW.out w0 HK.out
    go_wp2_with fail
    refine Calls.mono HA.out ?_
    rintro e w1 ⟨rfl, hb1⟩
    have HB1 : Hid (Below w0.heap.size w0 w1) := hb1
    clear hb1
    go_wp2_with fail
    go_ret
    exact ⟨rfl, HB1.out⟩
  | true =>
  by_cases hsz : pre.size ≤ 50 ∧ n ≤ 30
  · obtain ⟨h1, h2⟩ := hsz
    have h1' : ¬ ((pre.size : Int) > 50) := by omega
    have h2' : ¬ ((n : Int) > 30) := by omega
    have HS : Hid (SmL L) := hsm rfl
    have HPR : Hid (pre.size ≤ 50 ∧ n ≤ 30) := ⟨h1, h2⟩
    have hp25 : p ≤ 25 := by rw [HP.out]; exact HS.out.1
    clear hsm h1
    go_wp2_with fail
    refine Calls.mono (new_lg w0) ?_
    rintro e w1 ⟨f, S1, rfl, hs1, hg1, hl1, hL1⟩
    have HO : Hid _ := kv_open (H := []) (t := []) (z := 0) HK.out hs1 hg1 hl1 (by omega) nameL_s Hist.nil firstR_nil (by rw [hL1]; rfl) (by simp)
    clear hs1 hg1 hl1 hL1
    go_wp2_with fail
    refine Calls.mono HO.out ?_
    rintro e w2 ⟨s, l, r, rfl, _, S2, hk2, _, _⟩
    have HK2 : Hid (Kv w0 w2 f S2 l s r ⟨#[115]⟩ 0 [] 4) := hk2
    clear hk2 HO
    go_wp2_with fail
    generalize hw3 : World.alloc w2 _ = w3
    have HP3 : Hid (Pl w0 w3 f w2.heap.size s 0 0) := by
      have hb : Below w2.heap.size w2 w3 := by rw [← hw3]; exact (Below.refl _ _).alloc (Nat.le_refl _) _
      exact ⟨S2, l, r, [], 4, .slice none 0 0, .slice none 0 0, HK2.out.below hb, by omega, by omega, by simp, by rw [← hw3]; exact HK2.out.box _⟩
    have HX3 : Hid (w0.heap.size ≤ w2.heap.size) := HK2.out.lg.sys.base.size
    clear hw3 HK2
    generalize w2.heap.size = X at *
    go_loopw [8, 11, 12] (fun sv mv i wr => ∃ (k s : Nat) (m : Int), k ≤ p ∧ i = .int .i64 k ∧ sv = .pointer (some ⟨s, 0, none⟩) ∧ mv = .int .i64 m ∧ Hid (Pl w0 wr f X s m k)) (fun _ _ i _ => p - (intOf i).toNat)
    case atStart => exact ⟨0, s, 0, Nat.zero_le _, rfl, rfl, rfl, HP3.out⟩
    case round =>
      obtain ⟨k, s, m, hk, rfl, rfl, rfl, HPL⟩ := hrel
      clear HP3
      by_cases hlt : k < p
      · have e0 : (0 : Int) ≤ (k : Int) := by omega
        have e1 : (k : Int) < (p : Int) := by omega
        obtain ⟨S, l, r, H, q, kv, vv, hkv, hq, hm, hfl, htb⟩ := HPL.out.st
        have HKV : Hid (Kv w0 wr f S l s r ⟨#[115]⟩ m H q) := hkv
        have HTB : Hid (TabF w0 wr f S [l, s, r] X kv vv (thist H)) := htb
        have HB : Hid (q ≤ 4 + 10 * k ∧ (0 ≤ m ∧ m ≤ 2 * k) ∧ H.flatten.length ≤ 10 * k ∧ k < 25) := ⟨hq, hm, hfl, by omega⟩
        clear hkv htb hq hm hfl HPL
        obtain ⟨b1, d1, hv1, _⟩ := HTB.out.tab.keys.facts
        obtain ⟨b2, d2, hv2, _⟩ := HTB.out.tab.vals.facts
        subst hv1
        subst hv2
        obtain ⟨y1, hy1⟩ : ∃ y, y = ((thist H).map Pr.k).length := ⟨_, rfl⟩
        obtain ⟨y2, hy2⟩ : ∃ y, y = ((thist H).map Pr.v).length := ⟨_, rfl⟩
        rw [← hy1, ← hy2] at HTB
        clear hy1 hy2
        obtain ⟨b, o, rfl, a', c', hc, he⟩ := HL.out.at (k := k) (by rw [← HP.out]; exact hlt)
        obtain ⟨hs1, hs2⟩ := HS.out.2 k (by rw [← HP.out]; exact hlt)
        obtain ⟨hask, hsp⟩ := may_ask hs1 hs2
        generalize L.getD k [] = bt at *
        obtain ⟨z, hz⟩ : ∃ z, z = bt.length := ⟨_, rfl⟩
        rw [← hz] at hc he
        have HE : Hid (Els w0 a' z c' bt ∧ z = bt.length ∧ bt.length ≤ 10 ∧ ∀ p ∈ bt, SmP p) := ⟨he, hz, hs1, hsp⟩
        have HC0 : Hid (w0.cell? ⟨b, o + k, none⟩ = some (.slice a' z c')) := hc
        have HASK : Hid (kask bt = mayE bt) := hask
        have HMAY : Hid _ := may_any a' z c' bt wr (he.below HKV.out.lg.sys.base)
        have hcr : wr.cell? ⟨b, o + k, none⟩ = some (.slice a' z c') := cell_below' HKV.out.lg.sys.base hc
        clear he hz hs1 hs2 hsp hask hc
        go_wp2_with fail
        refine Calls.mono HMAY.out ?_
        rintro e w4 ⟨rfl, hb4⟩
        have HKV4 : Hid (Kv w0 w4 f S l s r ⟨#[115]⟩ m H q) := HKV.out.below hb4
        have HTB4 : Hid (TabF w0 w4 f S [l, s, r] X (.slice b1 y1 d1) (.slice b2 y2 d2) (thist H)) := HTB.out.below hb4
        have hc4 : w4.cell? ⟨b, o + k, none⟩ = some (.slice a' z c') := cell_below' hb4 hcr
        clear hb4 hcr HMAY HKV HTB
        by_cases hm0 : mayE bt = 0
        · have HPU : Hid _ := kv_put HK.out HKV4.out (by have := HB.out; omega) nameL_s (by have := HB.out; omega) (by have := HB.out; omega) a' z c' bt (fun _ _ _ hb => HE.out.1.below hb) (by rw [HASK.out]; exact hm0) HE.out.2.2.2 (by have := HB.out; have := HE.out; omega)
          rw [hm0]
          go_wp2_with fail
          refine Calls.mono HPU.out ?_
          rintro e w5 ⟨rfl, S5, hk5, hg5, _⟩
          have HKV5 : Hid (Kv w0 w5 f S5 l s r ⟨#[115]⟩ (m + 1) (H ++ [bt]) (q + 2)) := hk5
          have HTB5 : Hid (TabF w0 w5 f S5 [l, s, r] X (.slice b1 y1 d1) (.slice b2 y2 d2) (thist H)) := HTB4.out.step hg5
          clear hk5 hg5 HPU HKV4 HTB4 hc4
          have hz0 : z ≠ 0 := fun e => by
            rw [mayE, if_pos (by have := HE.out.2.1; omega)] at hm0
            cases hm0
          have HPUT : Hid (∀ wj, TabAt wj 0 (.slice b1 y1 d1) (.slice b2 y2 d2) (thist H) → Els wj a' z c' bt → Calls Tryz.prog 13 #[.agg #[.slice b1 y1 d1, .slice b2 y2 d2], .slice a' z c'] wj fun e w' => ∃ kv' vv', e = .returned (.agg #[kv', vv']) ∧ TabAt w' wj.heap.size kv' vv' (thist (H ++ [bt])) ∧ Below wj.heap.size wj w') := fun wj ht he => by
            have := tabput_any _ _ _ a' z c' bt 0 wj ht he (by have := thist_len (H := H); have := HB.out; have := HE.out.2; omega) (Nat.zero_le _)
            rw [show tabN z 0 wj.heap.size = wj.heap.size from if_neg hz0, ← thist_snoc] at this
            exact this
          have x0 : w5.drew.cell? ⟨X, 0, none⟩ = some (.slice b1 y1 d1) := HTB5.out.box.drew.one rfl
          have x1 : w5.drew.cell? ⟨X, 1, none⟩ = some (.slice b2 y2 d2) := HTB5.out.box.drew.one rfl
          have HBX : Hid (b ≠ X) := fun e => by have h1 : b < w0.heap.size := World.block_lt_of_cell? _ _ HC0.out; have := HX3.out; omega
          clear hz0 hm0
          go_upto_region 16 with fail
          refine wp_region_noPanic ?_
          refine wp_region_held_drew (S := fun w' => w'.cell? ⟨b, o + k, none⟩ = some (.slice a' z c')) HMO.out (cell_below' HKV5.out.lg.sys.base.drew HC0.out) (fun hHeld => ?_)
          refine wpAnyH_take (i := 1) (oi := { dst := some 70, op := .move (.tmp 0), type := 22, pos := "law.go:128", after := #[], guard := none }) (v := ?_) rfl (by kernel_rfl) (by kernel_rfl) (by kernel_rfl) (fun _ _ _ h => h) (Or.inl ⟨by rfl, ?_⟩) (by assumption) ?_
          rotate_left
          · intro _ _; go_simp; first | done | with_reducible rfl
          simp only [Act.put, List.setIfInBounds_toArray, List.set_cons_zero, List.set_cons_succ]
          refine wpAnyH_take (i := 2) (oi := { dst := some 71, op := .move (.tmp 12), type := 3, pos := "law.go:128", after := #[], guard := none }) (v := ?_) rfl (by kernel_rfl) (by kernel_rfl) (by kernel_rfl) (fun _ _ _ h => h) (Or.inl ⟨by rfl, ?_⟩) (by assumption) ?_
          rotate_left
          · intro _ _; go_simp; first | done | with_reducible rfl
          simp only [Act.put, List.setIfInBounds_toArray, List.set_cons_zero, List.set_cons_succ]
          refine wpAnyH_take (i := 3) (oi := { dst := some 72, op := .indexAddr 22 (.tmp 70) (.tmp 71), type := 0, pos := "law.go:128", after := #[{ on := 1, ground := .data }, { on := 2, ground := .data }], guard := none }) (v := ?_) rfl (by kernel_rfl) (by kernel_rfl) (by kernel_rfl) (fun _ _ _ h => h) (Or.inl ⟨by rfl, ?_⟩) (by assumption) ?_
          rotate_left
          · intro _ _; go_simp; first | done | with_reducible rfl
          simp only [Act.put, List.setIfInBounds_toArray, List.set_cons_zero, List.set_cons_succ]
          refine wpAnyH_take (i := 4) (oi := { dst := some 73, op := .load 36 (.tmp 72), type := 36, pos := "law.go:128", after := #[{ on := 3, ground := .data }], guard := none }) (v := .slice a' z c') rfl (by kernel_rfl) (by kernel_rfl) (by kernel_rfl) (fun _ _ _ h => h) (Or.inl ⟨by rfl, ?_⟩) (by assumption) ?_
          · intro _ _; rename_i wz hz; have cz := hz; go_simp
          simp only [Act.put, List.setIfInBounds_toArray, List.set_cons_zero, List.set_cons_succ]
          refine wpAnyH_ready (rs := [0]) (by kernel_rfl) (by simp) ?_
          refine AllReadyH.cons (o := { dst := some 69, op := .load 34 (.tmp 10), type := 34, pos := "law.go:128", after := #[], guard := none }) rfl (fun K hK => ?_) AllReadyH.nil
          go_simp
          skip
          go_simp
          refine hK.out _ _ (cell_below' HKV5.out.lg.sys.base.drew HC0.out) (fun hHeld => ?_)
          clear hK K
          refine wpAnyH_ready (rs := [5]) (by kernel_rfl) (by simp) ?_
          refine AllReadyH.cons (o := { dst := some 74, op := .call { callee := .value (.func 13), args := #[.tmp 69, .tmp 73], argTypes := #[34, 36] }, type := 34, pos := "law.go:128", after := #[{ on := 0, ground := .data }, { on := 4, ground := .data }], guard := none }) rfl (fun K hK => ?_) AllReadyH.nil
          go_simp
          refine (HPUT.out _ (HTB5.out.tab.below (Below.refl _ _).drew) (HE.out.1.below HKV5.out.lg.sys.base.drew)).mono ?_; rintro e w6 ⟨kv', vv', rfl, ht6, hb6⟩; have HB6 : Hid (Below w5.heap.size w5 w6) := below_undrew hb6; obtain ⟨b3, d3, hv3, _⟩ := ht6.keys.facts; obtain ⟨b4, d4, hv4, _⟩ := ht6.vals.facts; subst hv3; subst hv4; obtain ⟨y3, hy3⟩ : ∃ y, y = ((thist (H ++ [bt])).map Pr.k).length := ⟨_, rfl⟩; obtain ⟨y4, hy4⟩ : ∃ y, y = ((thist (H ++ [bt])).map Pr.v).length := ⟨_, rfl⟩; rw [← hy3, ← hy4] at ht6 ⊢; have HT6 : Hid (TabAt w6 w5.heap.size (.slice b3 y3 d3) (.slice b4 y4 d4) (thist (H ++ [bt]))) := ht6; have hf0 := (HTB5.out.below HB6.out).box.frozen 0; have hf1 := (HTB5.out.below HB6.out).box.frozen 1; clear ht6 hb6 hy3 hy4 x0 x1; have hy0 : w6.cell? ⟨X, 0, none⟩ = some (.slice b1 y1 d1) := (HTB5.out.below HB6.out).box.one rfl; have hy1 : w6.cell? ⟨X, 1, none⟩ = some (.slice b2 y2 d2) := (HTB5.out.below HB6.out).box.one rfl
          go_simp
          refine hK.out _ _ (cell_below' (HKV5.out.below HB6.out).lg.sys.base HC0.out) (fun hHeld => ?_)
          clear hK K
          refine wpAnyH_ready (rs := [6]) (by kernel_rfl) (by simp) ?_
          refine AllReadyH.cons (o := { dst := none, op := .store 34 (.tmp 10) (.tmp 74), type := 0, pos := "law.go:128", after := #[{ on := 5, ground := .data }, { on := 5, ground := .chain }, { on := 0, ground := .phase }, { on := 1, ground := .phase }, { on := 2, ground := .phase }, { on := 3, ground := .phase }, { on := 4, ground := .phase }, { on := 5, ground := .phase }], guard := none }) rfl (fun K hK => ?_) AllReadyH.nil
          go_simp
          skip
          go_simp
          refine hK.out _ _ ((((Keep.refl X _).setCell 0 _).setCell 1 _).cell HBX.out (cell_below' (HKV5.out.below HB6.out).lg.sys.base HC0.out)) (fun hHeld => ?_)
          clear hK K
          refine wpAnyH_done (by kernel_rfl) ?_ _
          refine NoPanic.normal ?_
          clear hHeld hy0 hy1 hf0 hf1
          generalize hw7 : World.setCell (World.setCell w6 _ _) _ _ = w7
          have HTK : Hid (TabF w0 w7 f S5 [l, s, r] X (.slice b3 y3 d3) (.slice b4 y4 d4) (thist (H ++ [bt])) ∧ Keep X w6 w7) := HTB5.out.stored HB6.out HT6.out HKV5.out.idsLt HKV5.out.foot hw7
          have HKV7 : Hid (Kv w0 w7 f S5 l s r ⟨#[115]⟩ (m + 1) (H ++ [bt]) (q + 2)) := (HKV5.out.below HB6.out).keep HTK.out.2 (HTB5.out.below HB6.out).free.1 HTB5.out.free.2
          have HTB7 : Hid (TabF w0 w7 f S5 [l, s, r] X (.slice b3 y3 d3) (.slice b4 y4 d4) (thist (H ++ [bt]))) := HTK.out.1
          have HB7 : Hid (q + 2 ≤ 6 + 10 * k ∧ (0 ≤ m + 1 ∧ m + 1 ≤ 2 * k + 1) ∧ (H ++ [bt]).flatten.length ≤ 10 * k + 10 ∧ k < 25) := by
            refine ⟨by have := HB.out; omega, by have := HB.out; omega, ?_, HB.out.2.2.2⟩
            rw [List.flatten_append, List.length_append]
            have := HB.out; have := HE.out.2; simp only [List.flatten_cons, List.flatten_nil, List.append_nil]; omega
          clear hw7 HTK HKV5 HTB5 HB6 HT6 HPUT HBX HB
          have hwm : wrap64 (m + 1) = m + 1 := by have := HB7.out; unfold wrap64; omega
          generalize H ++ [bt] = H7 at *
          generalize q + 2 = q7 at *
          go_upto_region 18 with fail
          rw [hwm]
          clear hwm
          generalize m + 1 = m7 at *
          by_cases hkn : k < n
          · have e2 : (k : Int) < (n : Int) := by omega
            obtain ⟨bc, oc, rfl, hcc⟩ : ∃ bc oc, a = some ⟨bc, oc, none⟩ ∧ w0.cell? ⟨bc, oc + k, none⟩ = some (.int .i64 (C.getD k 0)) := by
              obtain ⟨h1, h2, _⟩ := HC.out
              rcases h1 with rfl | ⟨bc, oc, rfl, h1⟩
              · simp at h2; omega
              · exact ⟨bc, oc, rfl, h1 k (by omega)⟩
            have hcw : w7.cell? ⟨bc, oc + k, none⟩ = some (.int .i64 (C.getD k 0)) := cell_below' HKV7.out.lg.sys.base hcc
            have HRD : Hid (Calls Tryz.prog 14 #[.int .i64 (C.getD k 0), .int .i64 4] w7 fun e w'' => e = .returned (.int .i64 (remF (C.getD k 0) 3)) ∧ w'' = w7) := lround_any (C.getD k 0) 3 w7 (by omega)
            clear hcc
            generalize C.getD k 0 = cz at *
            generalize remF cz 3 = ρ at *
            go_wp2_with fail
            refine Calls.mono HRD.out ?_
            rintro e wq ⟨rfl, rfl⟩
            by_cases h1 : ρ = 1
            · subst h1
              clear HRD hcw
              have HCO : Hid _ := kv_compact HK.out HKV7.out (by have := HB7.out; omega) nameL_s (by have := HB7.out; omega) (by have := HB7.out; omega)
              go_wp2_with fail
              refine Calls.mono HCO.out ?_
              rintro e w8 ⟨rfl, S8, hk8, hg8, _⟩
              have HKV8 : Hid (Kv w0 w8 f S8 l s r ⟨#[115]⟩ (m7 + 1) (packH (thist H7)) (q7 + 3)) := hk8
              have HTB8 : Hid (TabF w0 w8 f S8 [l, s, r] X (.slice b3 y3 d3) (.slice b4 y4 d4) (thist (packH (thist H7)))) := by
                rw [packH_hist (up_hist H7)]
                exact HTB7.out.step (hg8.wider fun j hj => by simp only [List.mem_cons, List.not_mem_nil, or_false] at hj ⊢; omega)
              have HB8 : Hid (q7 + 3 ≤ 9 + 10 * k ∧ (0 ≤ m7 + 1 ∧ m7 + 1 ≤ 2 * k + 2) ∧ (packH (thist H7)).flatten.length ≤ 10 * k + 10 ∧ k < 25) := by
                have h := HB7.out
                refine ⟨by omega, by omega, ?_, h.2.2.2⟩
                rw [packH_flat]
                have := thist_len (H := H7)
                omega
              clear hk8 hg8 HCO HKV7 HTB7
              have hwm : wrap64 (m7 + 1) = m7 + 1 := by have := HB8.out; unfold wrap64; omega
              generalize packH (thist H7) = H8 at *
              generalize q7 + 3 = q8 at *
              go_upto_region 28 with fail
              rw [hwm]
              clear hwm
              generalize m7 + 1 = m8 at *
              have HSH : Hid _ := kv_shows HKV8.out (.slice b3 y3 d3) (.slice b4 y4 d4) (thist H8) 0 HTB8.out.tab (up_hist H8).2 (by have := thist_len (H := H8); have := HB8.out; omega)
              have x0 : w8.cell? ⟨X, 0, none⟩ = some (.slice b3 y3 d3) := HTB8.out.box.one rfl
              have x1 : w8.cell? ⟨X, 1, none⟩ = some (.slice b4 y4 d4) := HTB8.out.box.one rfl
              go_wp2_with fail
              refine Calls.mono HSH.out ?_
              rintro e wt ⟨he, hbt⟩
              obtain rfl : e = .returned (.bool true) := by rw [he]; simp
              clear he
              have HKVT : Hid (Kv w0 wt f S8 l s r ⟨#[115]⟩ m8 H8 _) := HKV8.out.below hbt
              have HTBT : Hid (TabF w0 wt f S8 [l, s, r] X (.slice b3 y3 d3) (.slice b4 y4 d4) (thist H8)) := HTB8.out.below hbt
              clear hbt HSH x0 x1 HKV8 HTB8
              obtain ⟨At, hst, _⟩ := HKVT.out.sto
              have HBA : Hid _ := batches_any s r _ _ wt hst.blk
              have HDE : Hid _ := kdead_any s r l f _ _ _ false wt hst.blk HKVT.out.lg.sys.blk
              clear hst
              go_wp2_with fail
              refine Calls.mono HBA.out ?_
              rintro e wu ⟨rfl, rfl⟩
              go_wp2_with fail
              refine Calls.mono HDE.out ?_
              rintro e wv ⟨rfl, rfl⟩
              clear HBA HDE
              go_wp2_with fail
              go_roundw
              case rel => exact ⟨k + 1, s, m8, by omega, by go_num, rfl, rfl, ⟨S8, l, r, H8, _, _, _, HKVT.out, by have := HB8.out; omega, by have := HB8.out; omega, by have := HB8.out; omega, HTBT.out⟩⟩
              case measure => simp [intOf]; omega
            · have hr1 : ((ρ : Int) == 1) = false := beq_eq_false_iff_ne.2 (by omega)
              go_wp2_with fail
              refine Calls.mono HRD.out ?_
              rintro e wq2 ⟨rfl, rfl⟩
              clear HRD hcw
              by_cases h2 : ρ = 2
              · subst h2
                have HOP : Hid _ := kv_again HK.out HKV7.out (by have := HB7.out; omega) nameL_s
                go_wp2_with fail
                refine Calls.mono HOP.out ?_
                rintro e w8 ⟨s8, l8, r8, rfl, hlt8, S8, hk8, hg8, _⟩
                have HKV8 : Hid (Kv w0 w8 f S8 l8 s8 r8 ⟨#[115]⟩ 0 H7 (q7 + 4)) := hk8
                have HTB8 : Hid (TabF w0 w8 f S8 [l8, s8, r8] X (.slice b3 y3 d3) (.slice b4 y4 d4) (thist H7)) := by
                  have h := (HTB7.out.reids (ids' := []) fun j hj => by cases hj).step hg8
                  exact ⟨h.box, h.tab, ⟨⟨h.free.1.1, h.free.1.2.1, fun e => by have := HTB7.out.free.1.1; simp only [List.mem_cons, List.not_mem_nil, or_false] at e; omega⟩, h.free.2⟩, fun j e => ⟨⟨(h.rows j e).1.1, (h.rows j e).1.2.1, fun e2 => by have := (HTB7.out.rows j e).1.1; simp only [List.mem_cons, List.not_mem_nil, or_false] at e2; omega⟩, (h.rows j e).2⟩⟩
                have HB8 : Hid (q7 + 4 ≤ 10 + 10 * k ∧ (0 ≤ (0 : Int) ∧ (0 : Int) ≤ 2 * k + 2) ∧ (H7).flatten.length ≤ 10 * k + 10 ∧ k < 25) := by
                  have h := HB7.out
                  exact ⟨by omega, by omega, by omega, h.2.2.2⟩
                clear hk8 hg8 HOP HKV7 HTB7 hlt8
                generalize q7 + 4 = q8 at *
                go_upto_region 28 with fail
                have HSH : Hid _ := kv_shows HKV8.out (.slice b3 y3 d3) (.slice b4 y4 d4) (thist H7) 0 HTB8.out.tab (up_hist H7).2 (by have := thist_len (H := H7); have := HB8.out; omega)
                have x0 : w8.cell? ⟨X, 0, none⟩ = some (.slice b3 y3 d3) := HTB8.out.box.one rfl
                have x1 : w8.cell? ⟨X, 1, none⟩ = some (.slice b4 y4 d4) := HTB8.out.box.one rfl
                go_wp2_with fail
                refine Calls.mono HSH.out ?_
                rintro e wt ⟨he, hbt⟩
                obtain rfl : e = .returned (.bool true) := by rw [he]; simp
                clear he
                have HKVT : Hid (Kv w0 wt f S8 l8 s8 r8 ⟨#[115]⟩ 0 H7 _) := HKV8.out.below hbt
                have HTBT : Hid (TabF w0 wt f S8 [l8, s8, r8] X (.slice b3 y3 d3) (.slice b4 y4 d4) (thist H7)) := HTB8.out.below hbt
                clear hbt HSH x0 x1 HKV8 HTB8
                obtain ⟨At, hst, _⟩ := HKVT.out.sto
                have HBA : Hid _ := batches_any s8 r8 _ _ wt hst.blk
                have HDE : Hid _ := kdead_any s8 r8 l8 f _ _ _ false wt hst.blk HKVT.out.lg.sys.blk
                clear hst
                go_wp2_with fail
                refine Calls.mono HBA.out ?_
                rintro e wu ⟨rfl, rfl⟩
                go_wp2_with fail
                refine Calls.mono HDE.out ?_
                rintro e wv ⟨rfl, rfl⟩
                clear HBA HDE
                go_wp2_with fail
                go_roundw
                case rel => exact ⟨k + 1, s8, 0, by omega, by go_num, rfl, rfl, ⟨S8, l8, r8, H7, _, _, _, HKVT.out, by have := HB8.out; omega, by have := HB8.out; omega, by have := HB8.out; omega, HTBT.out⟩⟩
                case measure => simp [intOf]; omega
              · have hr2 : ((ρ : Int) == 2) = false := beq_eq_false_iff_ne.2 (by omega)
                go_upto_region 28 with fail
                clear hr1 hr2
                have HSH : Hid _ := kv_shows HKV7.out (.slice b3 y3 d3) (.slice b4 y4 d4) (thist H7) 0 HTB7.out.tab (up_hist H7).2 (by have := thist_len (H := H7); have := HB7.out; omega)
                have x0 : wq2.cell? ⟨X, 0, none⟩ = some (.slice b3 y3 d3) := HTB7.out.box.one rfl
                have x1 : wq2.cell? ⟨X, 1, none⟩ = some (.slice b4 y4 d4) := HTB7.out.box.one rfl
                go_wp2_with fail
                refine Calls.mono HSH.out ?_
                rintro e wt ⟨he, hbt⟩
                obtain rfl : e = .returned (.bool true) := by rw [he]; simp
                clear he
                have HKVT : Hid (Kv w0 wt f S5 l s r ⟨#[115]⟩ m7 H7 _) := HKV7.out.below hbt
                have HTBT : Hid (TabF w0 wt f S5 [l, s, r] X (.slice b3 y3 d3) (.slice b4 y4 d4) (thist H7)) := HTB7.out.below hbt
                clear hbt HSH x0 x1 HKV7 HTB7
                obtain ⟨At, hst, _⟩ := HKVT.out.sto
                have HBA : Hid _ := batches_any s r _ _ wt hst.blk
                have HDE : Hid _ := kdead_any s r l f _ _ _ false wt hst.blk HKVT.out.lg.sys.blk
                clear hst
                go_wp2_with fail
                refine Calls.mono HBA.out ?_
                rintro e wu ⟨rfl, rfl⟩
                go_wp2_with fail
                refine Calls.mono HDE.out ?_
                rintro e wv ⟨rfl, rfl⟩
                clear HBA HDE
                go_wp2_with fail
                go_roundw
                case rel => exact ⟨k + 1, s, m7, by omega, by go_num, rfl, rfl, ⟨S5, l, r, H7, _, _, _, HKVT.out, by have := HB7.out; omega, by have := HB7.out; omega, by have := HB7.out; omega, HTBT.out⟩⟩
                case measure => simp [intOf]; omega
          · have e2 : ¬ (k : Int) < (n : Int) := by omega
            go_upto_region 28 with fail
            have HSH : Hid _ := kv_shows HKV7.out (.slice b3 y3 d3) (.slice b4 y4 d4) (thist H7) 0 HTB7.out.tab (up_hist H7).2 (by have := thist_len (H := H7); have := HB7.out; omega)
            have x0 : w7.cell? ⟨X, 0, none⟩ = some (.slice b3 y3 d3) := HTB7.out.box.one rfl
            have x1 : w7.cell? ⟨X, 1, none⟩ = some (.slice b4 y4 d4) := HTB7.out.box.one rfl
            go_wp2_with fail
            refine Calls.mono HSH.out ?_
            rintro e wt ⟨he, hbt⟩
            obtain rfl : e = .returned (.bool true) := by rw [he]; simp
            clear he
            have HKVT : Hid (Kv w0 wt f S5 l s r ⟨#[115]⟩ m7 H7 _) := HKV7.out.below hbt
            have HTBT : Hid (TabF w0 wt f S5 [l, s, r] X (.slice b3 y3 d3) (.slice b4 y4 d4) (thist H7)) := HTB7.out.below hbt
            clear hbt HSH x0 x1 HKV7 HTB7
            obtain ⟨At, hst, _⟩ := HKVT.out.sto
            have HBA : Hid _ := batches_any s r _ _ wt hst.blk
            have HDE : Hid _ := kdead_any s r l f _ _ _ false wt hst.blk HKVT.out.lg.sys.blk
            clear hst
            go_wp2_with fail
            refine Calls.mono HBA.out ?_
            rintro e wu ⟨rfl, rfl⟩
            go_wp2_with fail
            refine Calls.mono HDE.out ?_
            rintro e wv ⟨rfl, rfl⟩
            clear HBA HDE
            go_wp2_with fail
            go_roundw
            case rel => exact ⟨k + 1, s, m7, by omega, by go_num, rfl, rfl, ⟨S5, l, r, H7, _, _, _, HKVT.out, by have := HB7.out; omega, by have := HB7.out; omega, by have := HB7.out; omega, HTBT.out⟩⟩
            case measure => simp [intOf]; omega
        · have HPB : Hid _ := put_bad (some ⟨s, 0, none⟩) a' z c' bt w4 (HE.out.1.below HKV4.out.lg.sys.base) (by rw [HASK.out]; exact hm0)
          rw [HASK.out] at HPB
          have hz2 : (mayE bt == 0) = false := beq_eq_false_iff_ne.2 hm0
          have HB7 : Hid (q ≤ 6 + 10 * k ∧ (0 ≤ m ∧ m ≤ 2 * k + 1) ∧ H.flatten.length ≤ 10 * k + 10 ∧ k < 25) := by
            have := HB.out
            exact ⟨by omega, by omega, by omega, this.2.2.2⟩
          generalize mayE bt = E at *
          go_wp2_with fail
          refine Calls.mono HPB.out ?_
          rintro e w7 ⟨rfl, hb7⟩
          have HKV7 : Hid (Kv w0 w7 f S l s r ⟨#[115]⟩ m H q) := HKV4.out.below hb7
          have HTB7 : Hid (TabF w0 w7 f S [l, s, r] X (.slice b1 y1 d1) (.slice b2 y2 d2) (thist H)) := HTB4.out.below hb7
          clear hb7 HPB HKV4 HTB4 hc4 HB
          go_upto_region 18 with fail
          clear hz2 hm0
          by_cases hkn : k < n
          · have e2 : (k : Int) < (n : Int) := by omega
            obtain ⟨bc, oc, rfl, hcc⟩ : ∃ bc oc, a = some ⟨bc, oc, none⟩ ∧ w0.cell? ⟨bc, oc + k, none⟩ = some (.int .i64 (C.getD k 0)) := by
              obtain ⟨h1, h2, _⟩ := HC.out
              rcases h1 with rfl | ⟨bc, oc, rfl, h1⟩
              · simp at h2; omega
              · exact ⟨bc, oc, rfl, h1 k (by omega)⟩
            have hcw : w7.cell? ⟨bc, oc + k, none⟩ = some (.int .i64 (C.getD k 0)) := cell_below' HKV7.out.lg.sys.base hcc
            have HRD : Hid (Calls Tryz.prog 14 #[.int .i64 (C.getD k 0), .int .i64 4] w7 fun e w'' => e = .returned (.int .i64 (remF (C.getD k 0) 3)) ∧ w'' = w7) := lround_any (C.getD k 0) 3 w7 (by omega)
            clear hcc
            generalize C.getD k 0 = cz at *
            generalize remF cz 3 = ρ at *
            go_wp2_with fail
            refine Calls.mono HRD.out ?_
            rintro e wq ⟨rfl, rfl⟩
            by_cases h1 : ρ = 1
            · subst h1
              clear HRD hcw
              have HCO : Hid _ := kv_compact HK.out HKV7.out (by have := HB7.out; omega) nameL_s (by have := HB7.out; omega) (by have := HB7.out; omega)
              go_wp2_with fail
              refine Calls.mono HCO.out ?_
              rintro e w8 ⟨rfl, S8, hk8, hg8, _⟩
              have HKV8 : Hid (Kv w0 w8 f S8 l s r ⟨#[115]⟩ (m + 1) (packH (thist H)) (q + 3)) := hk8
              have HTB8 : Hid (TabF w0 w8 f S8 [l, s, r] X (.slice b1 y1 d1) (.slice b2 y2 d2) (thist (packH (thist H)))) := by
                rw [packH_hist (up_hist H)]
                exact HTB7.out.step (hg8.wider fun j hj => by simp only [List.mem_cons, List.not_mem_nil, or_false] at hj ⊢; omega)
              have HB8 : Hid (q + 3 ≤ 9 + 10 * k ∧ (0 ≤ m + 1 ∧ m + 1 ≤ 2 * k + 2) ∧ (packH (thist H)).flatten.length ≤ 10 * k + 10 ∧ k < 25) := by
                have h := HB7.out
                refine ⟨by omega, by omega, ?_, h.2.2.2⟩
                rw [packH_flat]
                have := thist_len (H := H)
                omega
              clear hk8 hg8 HCO HKV7 HTB7
              have hwm : wrap64 (m + 1) = m + 1 := by have := HB8.out; unfold wrap64; omega
              generalize packH (thist H) = H8 at *
              generalize q + 3 = q8 at *
              go_upto_region 28 with fail
              rw [hwm]
              clear hwm
              generalize m + 1 = m8 at *
              have HSH : Hid _ := kv_shows HKV8.out (.slice b1 y1 d1) (.slice b2 y2 d2) (thist H8) 0 HTB8.out.tab (up_hist H8).2 (by have := thist_len (H := H8); have := HB8.out; omega)
              have x0 : w8.cell? ⟨X, 0, none⟩ = some (.slice b1 y1 d1) := HTB8.out.box.one rfl
              have x1 : w8.cell? ⟨X, 1, none⟩ = some (.slice b2 y2 d2) := HTB8.out.box.one rfl
              go_wp2_with fail
              refine Calls.mono HSH.out ?_
              rintro e wt ⟨he, hbt⟩
              obtain rfl : e = .returned (.bool true) := by rw [he]; simp
              clear he
              have HKVT : Hid (Kv w0 wt f S8 l s r ⟨#[115]⟩ m8 H8 _) := HKV8.out.below hbt
              have HTBT : Hid (TabF w0 wt f S8 [l, s, r] X (.slice b1 y1 d1) (.slice b2 y2 d2) (thist H8)) := HTB8.out.below hbt
              clear hbt HSH x0 x1 HKV8 HTB8
              obtain ⟨At, hst, _⟩ := HKVT.out.sto
              have HBA : Hid _ := batches_any s r _ _ wt hst.blk
              have HDE : Hid _ := kdead_any s r l f _ _ _ false wt hst.blk HKVT.out.lg.sys.blk
              clear hst
              go_wp2_with fail
              refine Calls.mono HBA.out ?_
              rintro e wu ⟨rfl, rfl⟩
              go_wp2_with fail
              refine Calls.mono HDE.out ?_
              rintro e wv ⟨rfl, rfl⟩
              clear HBA HDE
              go_wp2_with fail
              go_roundw
              case rel => exact ⟨k + 1, s, m8, by omega, by go_num, rfl, rfl, ⟨S8, l, r, H8, _, _, _, HKVT.out, by have := HB8.out; omega, by have := HB8.out; omega, by have := HB8.out; omega, HTBT.out⟩⟩
              case measure => simp [intOf]; omega
            · have hr1 : ((ρ : Int) == 1) = false := beq_eq_false_iff_ne.2 (by omega)
              go_wp2_with fail
              refine Calls.mono HRD.out ?_
              rintro e wq2 ⟨rfl, rfl⟩
              clear HRD hcw
              by_cases h2 : ρ = 2
              · subst h2
                have HOP : Hid _ := kv_again HK.out HKV7.out (by have := HB7.out; omega) nameL_s
                go_wp2_with fail
                refine Calls.mono HOP.out ?_
                rintro e w8 ⟨s8, l8, r8, rfl, hlt8, S8, hk8, hg8, _⟩
                have HKV8 : Hid (Kv w0 w8 f S8 l8 s8 r8 ⟨#[115]⟩ 0 H (q + 4)) := hk8
                have HTB8 : Hid (TabF w0 w8 f S8 [l8, s8, r8] X (.slice b1 y1 d1) (.slice b2 y2 d2) (thist H)) := by
                  have h := (HTB7.out.reids (ids' := []) fun j hj => by cases hj).step hg8
                  exact ⟨h.box, h.tab, ⟨⟨h.free.1.1, h.free.1.2.1, fun e => by have := HTB7.out.free.1.1; simp only [List.mem_cons, List.not_mem_nil, or_false] at e; omega⟩, h.free.2⟩, fun j e => ⟨⟨(h.rows j e).1.1, (h.rows j e).1.2.1, fun e2 => by have := (HTB7.out.rows j e).1.1; simp only [List.mem_cons, List.not_mem_nil, or_false] at e2; omega⟩, (h.rows j e).2⟩⟩
                have HB8 : Hid (q + 4 ≤ 10 + 10 * k ∧ (0 ≤ (0 : Int) ∧ (0 : Int) ≤ 2 * k + 2) ∧ (H).flatten.length ≤ 10 * k + 10 ∧ k < 25) := by
                  have h := HB7.out
                  exact ⟨by omega, by omega, by omega, h.2.2.2⟩
                clear hk8 hg8 HOP HKV7 HTB7 hlt8
                generalize q + 4 = q8 at *
                go_upto_region 28 with fail
                have HSH : Hid _ := kv_shows HKV8.out (.slice b1 y1 d1) (.slice b2 y2 d2) (thist H) 0 HTB8.out.tab (up_hist H).2 (by have := thist_len (H := H); have := HB8.out; omega)
                have x0 : w8.cell? ⟨X, 0, none⟩ = some (.slice b1 y1 d1) := HTB8.out.box.one rfl
                have x1 : w8.cell? ⟨X, 1, none⟩ = some (.slice b2 y2 d2) := HTB8.out.box.one rfl
                go_wp2_with fail
                refine Calls.mono HSH.out ?_
                rintro e wt ⟨he, hbt⟩
                obtain rfl : e = .returned (.bool true) := by rw [he]; simp
                clear he
                have HKVT : Hid (Kv w0 wt f S8 l8 s8 r8 ⟨#[115]⟩ 0 H _) := HKV8.out.below hbt
                have HTBT : Hid (TabF w0 wt f S8 [l8, s8, r8] X (.slice b1 y1 d1) (.slice b2 y2 d2) (thist H)) := HTB8.out.below hbt
                clear hbt HSH x0 x1 HKV8 HTB8
                obtain ⟨At, hst, _⟩ := HKVT.out.sto
                have HBA : Hid _ := batches_any s8 r8 _ _ wt hst.blk
                have HDE : Hid _ := kdead_any s8 r8 l8 f _ _ _ false wt hst.blk HKVT.out.lg.sys.blk
                clear hst
                go_wp2_with fail
                refine Calls.mono HBA.out ?_
                rintro e wu ⟨rfl, rfl⟩
                go_wp2_with fail
                refine Calls.mono HDE.out ?_
                rintro e wv ⟨rfl, rfl⟩
                clear HBA HDE
                go_wp2_with fail
                go_roundw
                case rel => exact ⟨k + 1, s8, 0, by omega, by go_num, rfl, rfl, ⟨S8, l8, r8, H, _, _, _, HKVT.out, by have := HB8.out; omega, by have := HB8.out; omega, by have := HB8.out; omega, HTBT.out⟩⟩
                case measure => simp [intOf]; omega
              · have hr2 : ((ρ : Int) == 2) = false := beq_eq_false_iff_ne.2 (by omega)
                go_upto_region 28 with fail
                clear hr1 hr2
                have HSH : Hid _ := kv_shows HKV7.out (.slice b1 y1 d1) (.slice b2 y2 d2) (thist H) 0 HTB7.out.tab (up_hist H).2 (by have := thist_len (H := H); have := HB7.out; omega)
                have x0 : wq2.cell? ⟨X, 0, none⟩ = some (.slice b1 y1 d1) := HTB7.out.box.one rfl
                have x1 : wq2.cell? ⟨X, 1, none⟩ = some (.slice b2 y2 d2) := HTB7.out.box.one rfl
                go_wp2_with fail
                refine Calls.mono HSH.out ?_
                rintro e wt ⟨he, hbt⟩
                obtain rfl : e = .returned (.bool true) := by rw [he]; simp
                clear he
                have HKVT : Hid (Kv w0 wt f S l s r ⟨#[115]⟩ m H _) := HKV7.out.below hbt
                have HTBT : Hid (TabF w0 wt f S [l, s, r] X (.slice b1 y1 d1) (.slice b2 y2 d2) (thist H)) := HTB7.out.below hbt
                clear hbt HSH x0 x1 HKV7 HTB7
                obtain ⟨At, hst, _⟩ := HKVT.out.sto
                have HBA : Hid _ := batches_any s r _ _ wt hst.blk
                have HDE : Hid _ := kdead_any s r l f _ _ _ false wt hst.blk HKVT.out.lg.sys.blk
                clear hst
                go_wp2_with fail
                refine Calls.mono HBA.out ?_
                rintro e wu ⟨rfl, rfl⟩
                go_wp2_with fail
                refine Calls.mono HDE.out ?_
                rintro e wv ⟨rfl, rfl⟩
                clear HBA HDE
                go_wp2_with fail
                go_roundw
                case rel => exact ⟨k + 1, s, m, by omega, by go_num, rfl, rfl, ⟨S, l, r, H, _, _, _, HKVT.out, by have := HB7.out; omega, by have := HB7.out; omega, by have := HB7.out; omega, HTBT.out⟩⟩
                case measure => simp [intOf]; omega
          · have e2 : ¬ (k : Int) < (n : Int) := by omega
            go_upto_region 28 with fail
            have HSH : Hid _ := kv_shows HKV7.out (.slice b1 y1 d1) (.slice b2 y2 d2) (thist H) 0 HTB7.out.tab (up_hist H).2 (by have := thist_len (H := H); have := HB7.out; omega)
            have x0 : w7.cell? ⟨X, 0, none⟩ = some (.slice b1 y1 d1) := HTB7.out.box.one rfl
            have x1 : w7.cell? ⟨X, 1, none⟩ = some (.slice b2 y2 d2) := HTB7.out.box.one rfl
            go_wp2_with fail
            refine Calls.mono HSH.out ?_
            rintro e wt ⟨he, hbt⟩
            obtain rfl : e = .returned (.bool true) := by rw [he]; simp
            clear he
            have HKVT : Hid (Kv w0 wt f S l s r ⟨#[115]⟩ m H _) := HKV7.out.below hbt
            have HTBT : Hid (TabF w0 wt f S [l, s, r] X (.slice b1 y1 d1) (.slice b2 y2 d2) (thist H)) := HTB7.out.below hbt
            clear hbt HSH x0 x1 HKV7 HTB7
            obtain ⟨At, hst, _⟩ := HKVT.out.sto
            have HBA : Hid _ := batches_any s r _ _ wt hst.blk
            have HDE : Hid _ := kdead_any s r l f _ _ _ false wt hst.blk HKVT.out.lg.sys.blk
            clear hst
            go_wp2_with fail
            refine Calls.mono HBA.out ?_
            rintro e wu ⟨rfl, rfl⟩
            go_wp2_with fail
            refine Calls.mono HDE.out ?_
            rintro e wv ⟨rfl, rfl⟩
            clear HBA HDE
            go_wp2_with fail
            go_roundw
            case rel => exact ⟨k + 1, s, m, by omega, by go_num, rfl, rfl, ⟨S, l, r, H, _, _, _, HKVT.out, by have := HB7.out; omega, by have := HB7.out; omega, by have := HB7.out; omega, HTBT.out⟩⟩
            case measure => simp [intOf]; omega
      · obtain rfl : k = p := by omega
        have e1 : ¬ (k : Int) < (k : Int) := by omega
        obtain ⟨wb, hwb⟩ : ∃ x, x = wr := ⟨_, rfl⟩
        subst hwb
        obtain ⟨S, l, r, H, q, kv, vv, hkv, hq, hm, hfl, htb⟩ := HPL.out.st
        have HKV : Hid (Kv w0 wb f S l s r ⟨#[115]⟩ m H q) := hkv
        have HTB : Hid (TabF w0 wb f S [l, s, r] X kv vv (thist H)) := htb
        have HTL : Hid ((thist H).length ≤ 250) := show _ ≤ _ by have := thist_len (H := H); omega
        clear hkv htb hq hm hfl HPL
        obtain ⟨b1, d1, hv1, hv2, hv3, _⟩ := HTB.out.tab.keys.facts
        subst hv1
        rw [List.length_map] at hv2
        obtain ⟨y1, hy1⟩ : ∃ y, y = ((thist H).map Pr.k).length := ⟨_, rfl⟩
        rw [← hy1] at HTB
        rw [List.length_map] at hy1
        have HY : Hid (y1 = (thist H).length) := hy1
        have hy25 : y1 ≤ 250 := by rw [hy1]; exact HTL.out
        clear hy1 hv2 hv3
        go_wp2_with fail
        go_loopw [16, 17] (fun bv i wr => ∃ (j : Nat) (ab : Option Addr) (nb cb : Nat), j ≤ y1 ∧ i = .int .i64 j ∧ bv = .slice ab nb cb ∧ Hid (OwnS wr wb.heap.size (.slice ab nb cb) ((((thist H).take j).filter fun p => preB pre p.k).map Pr.k)) ∧ Hid (Below wb.heap.size wb wr)) (fun _ i _ => y1 - (intOf i).toNat)
        case atStart => exact ⟨0, none, 0, 0, Nat.zero_le _, rfl, rfl, OwnS.nil _ _, Below.refl _ _⟩
        case round =>
          obtain ⟨j, ab, nb, cb, hj, rfl, rfl, HO, HBB⟩ := hrel
          have x0 : wr.cell? ⟨X, 0, none⟩ = some (.slice b1 y1 d1) := cell_below' HBB.out (HTB.out.box.one rfl)
          by_cases hlt : j < y1
          · have e2 : (0 : Int) ≤ (j : Int) := by omega
            have e3 : (j : Int) < (y1 : Int) := by omega
            obtain ⟨g, rfl, hg⟩ := HTB.out.tab.keys.cell (k := j) (by rw [List.length_map, ← HY.out]; exact hlt)
            rw [getD_mapK _ (by rw [← HY.out]; exact hlt)] at hg
            have hg2 := cell_below' HBB.out hg
            have HNXT : Hid (((thist H).take (j + 1)).filter (fun p => preB pre p.k) = ((thist H).take j).filter (fun p => preB pre p.k) ++ [(thist H).getD j default].filter (fun p => preB pre p.k)) := show _ = _ by
              rw [List.take_add_one, List.filter_append, List.getD_eq_getElem?_getD, List.getElem?_eq_getElem (by rw [← HY.out]; exact hlt)]; rfl
            generalize (thist H).getD j default = t at *
            obtain ⟨tk, tv, tg⟩ := t
            simp only at hg2
            clear hg
            have HCUT : Hid (((tk.extract 0 pre.size).toList == pre.toList) = preB pre tk) := preB_cut tk pre
            have HF : Hid ((((thist H).take j).filter fun p => preB pre p.k).length ≤ 250) := Nat.le_trans (List.length_filter_le _ _) (by rw [List.length_take]; have := HTL.out; omega)
            generalize ((thist H).take j).filter (fun p => preB pre p.k) = F at *
            cases hpb : preB pre tk with
            | true =>
              have hsz : pre.size ≤ tk.size := by
                unfold preB Lib.hasPrefix at hpb
                exact (List.isPrefixOf_iff_prefix.1 hpb).length_le
              have e4 : (tk.size : Int) ≥ (pre.size : Int) := by omega
              have HN2 : Hid (((thist H).take (j + 1)).filter (fun p => preB pre p.k) = F ++ [⟨tk, tv, tg⟩]) := show _ = _ by rw [HNXT.out]; simp [hpb]
              have heq : ((tk.extract 0 pre.size).toList == pre.toList) = true := HCUT.out.trans hpb
              have hds : decide (tk.extract 0 pre.size = pre) = true := by rw [← eq_str]; exact heq
              clear hpb HNXT
              go_upto_region 35 with fail
              clear heq hds
              have HBA : Hid (Below wr.heap.size wr (wr.alloc (.cells #[.string tk] 9))) := (Below.refl _ _).alloc (Nat.le_refl _) _
              have HBS : Hid (wb.heap.size ≤ wr.heap.size) := HBB.out.size
              go_wp2_with (at_builtin; refine wpList_append_s rfl _ _ rfl wb.heap.size (.slice ab nb cb) (F.map Pr.k) rfl (HO.out.below HBA.out) _ [tk] rfl (srcS_one _ _ _) (by have := HF.out; simp; omega) (by have := HBS.out; simp; omega) ?_; intro v4 w4 HO4 HG4; obtain ⟨a4, c4, hv4⟩ := HO4.out.shape; subst hv4)
              have HB4 : Hid (Below wb.heap.size wb w4) := (HBB.out.trans (HBA.out.mono HBB.out.size)).grown HG4.out (by have := HBB.out.size; simp; omega) fun z e => by have := (HO.out.lt z e).1; omega
              clear HG4 HBA HBB HO x0 hg2
              go_wp2_with fail
              go_roundw
              case rel => exact ⟨j + 1, a4, F.length + 1, c4, by omega, by go_num, rfl, by rw [HN2.out, List.map_append]; have h := HO4.out; rw [List.length_append, List.length_map] at h; exact h, HB4.out⟩
              case measure => simp [intOf]; omega
            | false =>
              have HN2 : Hid (((thist H).take (j + 1)).filter (fun p => preB pre p.k) = F) := show _ = _ by rw [HNXT.out]; simp [hpb]
              have heq : ((tk.extract 0 pre.size).toList == pre.toList) = false := HCUT.out.trans hpb
              have hds : decide (tk.extract 0 pre.size = pre) = false := by rw [← eq_str]; exact heq
              clear hpb HNXT
              by_cases hsz : pre.size ≤ tk.size
              · have e4 : (tk.size : Int) ≥ (pre.size : Int) := by omega
                go_wp2_with fail
                go_roundw
                case rel => exact ⟨j + 1, ab, nb, cb, by omega, by go_num, rfl, by rw [HN2.out]; exact HO.out, HBB.out⟩
                case measure => simp [intOf]; omega
              · have e4 : ¬ (tk.size : Int) ≥ (pre.size : Int) := by omega
                go_wp2_with fail
                go_roundw
                case rel => exact ⟨j + 1, ab, nb, cb, by omega, by go_num, rfl, by rw [HN2.out]; exact HO.out, HBB.out⟩
                case measure => simp [intOf]; omega
          · obtain rfl : j = y1 := by omega
            have e2 : ¬ (j : Int) < (j : Int) := by omega
            rw [List.take_of_length_le (by rw [HY.out]; exact Nat.le_refl _)] at HO
            have HKVR : Hid (Kv w0 wr f S l s r ⟨#[115]⟩ m H q) := HKV.out.below HBB.out
            obtain ⟨A, hst, hsh⟩ := HKVR.out.sto
            obtain ⟨z1, z2⟩ := hsh.sizes HKVR.out.hist
            have HKE : Hid _ := keys_any s r _ m A (thist H) pre wr hst.blk hst.map hsh z2 (by omega)
            clear hst hsh z1 z2
            go_wp2_with fail
            refine Calls.mono HKE.out ?_
            rintro e w4 ⟨v, rfl, ho, hb4⟩
            have HO4 : Hid (OwnS w4 wb.heap.size (.slice ab nb cb) (((thist H).filter fun p => preB pre p.k).map Pr.k)) := HO.out.below hb4
            have HKV4 : Hid (Kv w0 w4 f S l s r ⟨#[115]⟩ m H q) := HKVR.out.below hb4
            have HST : Hid _ := strings_any v (.slice ab nb cb) _ _ w4 ho.src HO4.out.src (by rw [List.length_map]; have := List.length_filter_le (fun p : Pr => preB pre p.k) (thist H); have := HTL.out; omega) (by rw [List.length_map]; have := List.length_filter_le (fun p : Pr => preB pre p.k) (thist H); have := HTL.out; omega)
            clear ho hb4 HKE HKVR HO HBB x0
            go_wp2_with fail
            refine Calls.mono HST.out ?_
            rintro e w5 ⟨he, hb5⟩
            obtain rfl : e = .returned (.bool true) := by rw [he]; simp
            clear he
            have HKV5 : Hid (Kv w0 w5 f S l s r ⟨#[115]⟩ m H q) := HKV4.out.below hb5
            have HA : Hid _ := HAW.out w5 (HKV5.out.lg.sys.kw HK.out)
            clear hb5 HKV4 HST HO4
            go_wp2_with fail
            refine Calls.mono HA.out ?_
            rintro e w6 ⟨rfl, hb6⟩
            have HB6 : Hid (Below w0.heap.size w0 w6) := HKV5.out.lg.sys.base.trans (hb6.mono HKV5.out.lg.sys.base.size)
            clear hb6
            go_wp2_with fail
            go_ret
            exact ⟨rfl, HB6.out⟩
  · have HA : Hid _ := HAW.out w0 HK.out
    by_cases h1 : pre.size ≤ 50
    · have h1' : ¬ ((pre.size : Int) > 50) := by omega
      have h2' : (n : Int) > 30 := by omega
      go_wp2_with fail
      refine Calls.mono HA.out ?_
      rintro e w1 ⟨rfl, hb1⟩
      have HB1 : Hid (Below w0.heap.size w0 w1) := hb1
      clear hb1
      go_wp2_with fail
      go_ret
      exact ⟨rfl, HB1.out⟩
    · have h1' : (pre.size : Int) > 50 := by omega
      go_wp2_with fail
      refine Calls.mono HA.out ?_
      rintro e w1 ⟨rfl, hb1⟩
      have HB1 : Hid (Below w0.heap.size w0 w1) := hb1
      clear hb1
      go_wp2_with fail
      go_ret
      exact ⟨rfl, HB1.out⟩
end Go.Proofs.YtlapnnkahijikaaGreatDoor
