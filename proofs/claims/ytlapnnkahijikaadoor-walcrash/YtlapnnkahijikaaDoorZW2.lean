/- wal: first. Rows of slices of bytes of the call's own; wal: whole. Files of the call's own, and blocks beside them (Sys); each act of file, with what it leaves as it was (Step). -/
import Derived.Test.YtlapnnkahijikaaDoorZW1
import Derived.Deep.RegionHeld3
import Derived.Test.YtlapnnkahijikaaDoorZF6
namespace Go.Proofs.YtlapnnkahijikaaDoor
open Go.ChangeShapes Go.WideShapes Go.ChangeAt Go.RowKit Go.Lib

/-- The first record, and how many bytes it takes: none, and 0, if it is torn. -/
def firstV (bs : List (BitVec 8)) : List (BitVec 8) := match firstR bs with | none => [] | some (r, _) => r
def firstS (bs : List (BitVec 8)) : Nat := match firstR bs with | none => 0 | some (_, s) => s
theorem firstR_no {bs : List (BitVec 8)} (h : ¬ ((getB bs).2.2 = 0 ∧ (getB bs).1 ≤ 1048576 ∧ (getB bs).2.1 + 32 + (getB bs).1 ≤ bs.length ∧ sum (bs.take (getB bs).2.1.toNat ++ (bs.drop ((getB bs).2.1.toNat + 32)).take (getB bs).1.toNat) = (bs.drop (getB bs).2.1.toNat).take 32)) : firstV bs = [] ∧ firstS bs = 0 := by
  have : firstR bs = none := by unfold firstR; rw [if_neg h]
  unfold firstV firstS
  rw [this]; exact ⟨rfl, rfl⟩
theorem firstR_yes {bs : List (BitVec 8)} {n u : Nat} (hn : (getB bs).1 = n) (hu : (getB bs).2.1 = u) (he : (getB bs).2.2 = 0) (h1 : n ≤ 1048576) (h2 : u + 32 + n ≤ bs.length) (h3 : sum (bs.take u ++ (bs.drop (u + 32)).take n) = (bs.drop u).take 32) : firstV bs = (bs.drop (u + 32)).take n ∧ firstS bs = u + 32 + n := by
  have : firstR bs = some ((bs.drop (u + 32)).take n, u + 32 + n) := by
    unfold firstR
    rw [hn, hu, Int.toNat_natCast, Int.toNat_natCast, if_pos ⟨he, by omega, by omega, h3⟩]
  unfold firstV firstS
  rw [this]; exact ⟨rfl, rfl⟩
theorem Bytes.getAt {w : World} {a : Option Addr} {cap : Nat} {bs : List (BitVec 8)} (h : Bytes w a cap bs) : BytesAt w a cap (bs.map Y) :=
  ⟨by rw [List.length_map]; exact h.room, h.most, isBytes_Y bs, fun hne => by
    obtain ⟨b, o, ha, hc⟩ := h.lie (fun e => hne (by rw [e]; rfl))
    refine ⟨b, o, ha, fun i hi => ?_⟩
    rw [List.length_map] at hi
    rw [hc i hi, List.getD_eq_getElem?_getD, List.getD_eq_getElem?_getD, List.getElem?_map, List.getElem?_eq_getElem hi]; rfl⟩
theorem hash_cells {w : World} {b : Nat} {s : List (BitVec 8)} (h : Blk w b (u8s s)) : w.rangeAt b 0 (u8s s) := fun i v hv => by
  rw [Nat.zero_add]; exact h.one hv
theorem wrap_small {x : Int} (h0 : 0 ≤ x) (h1 : x ≤ 1000000000) : IntKind.i64.wrap x = x := wraps_i64 x h0 (by omega)
theorem info_hashL (s : List (BitVec 8)) (hs : s.length = 32) : (Tryd.prog.info? 74).map (·.size) = some (u8s s).length := by
  rw [show (u8s s).length = 32 by simp [hs]]; kernel_rfl
theorem splice_hash (s : List (BitVec 8)) (hs : s.length = 32) : splice (u8s zeros32) 0 (u8s s) = u8s s := by
  unfold splice
  rw [List.take_zero, List.nil_append, Nat.zero_add, List.drop_of_length_le (by rw [u8s_length, u8s_length, hs]; simp [zeros32]), List.append_nil]
set_option maxRecDepth 100000 in
set_option maxHeartbeats 8000000 in
theorem first_any (w0 : World) (v : Value) (bs : List (BitVec 8)) (w : World) (hK : Kw w) (h0 : Bs w0 v bs) (h : Bs w v bs) (hl : bs.length ≤ 50000000) :
    Calls Tryd.prog 46 #[v] w fun e w' => ∃ v', e = .returned (.tuple #[v', .int .i64 (firstS bs)]) ∧ Bs w0 v' (firstV bs) ∧ Below w.heap.size w w' := by
  have HK : Hid (Kw w) := hK
  have H : Hid (Bs w v bs) := h
  have H0 : Hid (Bs w0 v bs) := h0
  clear h0
  obtain ⟨a, c, hv, hby, hlc, hcm⟩ := h.shape
  subst hv
  obtain ⟨L, hL⟩ : ∃ n, n = bs.length := ⟨_, rfl⟩
  rw [← hL] at hl hlc H H0 ⊢
  have HL : Hid (L = bs.length) := hL
  have hpos := hK.pos
  have hcm' : (c : Int) ≤ 9223372036854775807 := by unfold maxLen at hcm; omega
  obtain ⟨N, hN⟩ : ∃ N, N = (getB bs).1 := ⟨_, rfl⟩
  obtain ⟨U, hU⟩ : ∃ N, N = (getB bs).2.1 := ⟨_, rfl⟩
  obtain ⟨E, hE⟩ : ∃ N, N = (getB bs).2.2 := ⟨_, rfl⟩
  have HG : Hid (∀ w', Below w.heap.size w w' → Calls Tryd.prog 58 #[.slice a L c] w' fun e w'' => e = .returned (.tuple #[.int .i64 N, .int .i64 U, .int .i64 E]) ∧ w' = w'') := fun w' hb => by
    have := get_any a c (bs.map Y) w' (hby.later hb (Nat.le_refl _)).getAt
    rw [List.length_map, ← hL] at this
    rw [hN, hU, hE]
    exact this
  have HOK : Hid (E = 0 → 0 ≤ N ∧ 1 ≤ U ∧ U ≤ 9 ∧ U ≤ L) := fun he => by
    have := getB_ok (bs := bs) (by rw [← hE]; exact he)
    rw [hN, hU, hL]
    exact ⟨this.1, this.2.2.1, this.2.2.2.1, this.2.2.2.2⟩
  have HNUE : Hid (N = (getB bs).1 ∧ U = (getB bs).2.1 ∧ E = (getB bs).2.2) := ⟨hN, hU, hE⟩
  clear hN hU hE hby hK h hL hcm
  have HNO : Hid (¬ (E = 0 ∧ N ≤ 1048576 ∧ U + 32 + N ≤ L) → ∀ w', Below w.heap.size w w' → ∃ v', Ending.returned (.tuple #[.slice none 0 0, .int .i64 0]) = .returned (.tuple #[v', .int .i64 (firstS bs)]) ∧ Bs w0 v' (firstV bs) ∧ Below w.heap.size w w') := fun hno w' hb => by
    obtain ⟨h1, h2⟩ := firstR_no (bs := bs) (fun hc => hno (by rw [HNUE.out.1, HNUE.out.2.1, HNUE.out.2.2, HL.out]; exact ⟨hc.1, hc.2.1, hc.2.2.1⟩))
    rw [h1, h2]
    exact ⟨_, rfl, Bs.nil _, hb⟩
  go_enter Tryd.func46, Tryd.ntmps46
  go_wp2_with fail
  refine wp_scope_hops 1 ?_
  go_hide hQ
  go_wp2_with fail
  generalize hw1 : World.alloc _ _ = w1
  have HH1 : Hid (Blk w1 w.heap.size (u8s zeros32)) := by rw [← hw1]; exact Blk.mk w _ _ rfl rfl
  have HB1 : Hid (Below w.heap.size w w1) := by rw [← hw1]; exact (Below.refl _ _).alloc (Nat.le_refl _) _
  clear hw1
  refine Calls.mono (HG.out w1 HB1.out) ?_
  rintro e w2 ⟨rfl, rfl⟩
  clear HG
  by_cases hz : E = 0
  · subst hz
    obtain ⟨hn0, hu1, hu9, huL⟩ := HOK.out rfl
    obtain ⟨n, hn⟩ : ∃ n : Nat, N = n := ⟨N.toNat, by omega⟩
    obtain ⟨u, hu⟩ : ∃ n : Nat, U = n := ⟨U.toNat, by omega⟩
    subst hn
    subst hu
    clear HOK hn0
    by_cases hbig : (n : Int) ≤ 1048576
    · by_cases hlen : u + 32 + n ≤ L
      · obtain ⟨bk, off, ha, hcell⟩ : ∃ b o, a = some ⟨b, o, none⟩ ∧ ∀ j, j < bs.length → w.cell? ⟨b, o + j, none⟩ = some (.int .u8 (Y (bs.getD j 0))) := by
          obtain ⟨a', c', e, _, _, h3⟩ := H.out
          injection e with e1 e2 e3
          subst e1
          subst e3
          rcases h3 with ⟨_, h0⟩ | h3
          · omega
          · exact h3
        subst ha
        have HC : Hid (∀ j, j < L → w.cell? ⟨bk, off + j, none⟩ = some (.int .u8 (Y (bs.getD j 0)))) := fun j hj => hcell j (by rw [← HL.out]; exact hj)
        clear hcell
        have hlen' : ¬ ((L : Int) < (u : Int) + 32 + (n : Int)) := by omega
        have hbig' : ¬ ((n : Int) > 1048576) := by omega
        have hcu : ¬ (c = u) := by omega
        have hadr : (if c = u then (some ⟨bk, off, none⟩ : Option Addr) else some ⟨bk, off + u, none⟩) = some ⟨bk, off + u, none⟩ := if_neg hcu
        obtain ⟨h, hh⟩ : ∃ h, h = (bs.drop u).take 32 := ⟨_, rfl⟩
        have hh32 : h.length = 32 := by rw [hh, List.length_take, List.length_drop, ← HL.out]; omega
        have HH : Hid (h = (bs.drop u).take 32) := hh
        have HH32 : Hid (h.length = 32) := hh32
        have HSRC : Hid (∀ j v, (u8s h)[j]? = some v → w1.cell? ((⟨bk, off + u, none⟩ : Addr).add j) = some v) := fun j v hv => by
          have hj : j < h.length := by have := (List.getElem?_eq_some_iff.1 hv).1; rwa [u8s_length] at this
          rw [u8s_get h j hj] at hv
          rw [Addr.add_mid, ← hv, Nat.add_assoc, cell_below HB1.out (HC.out (u + j) (by omega)), hh, List.getD_eq_getElem?_getD, List.getD_eq_getElem?_getD, List.getElem?_take_of_lt (by omega), List.getElem?_drop]
        have HMO : Hid (Tryd.prog.follows .mixedOrders = true) := show _ = _ by kernel_rfl
        obtain ⟨t1, hg1⟩ := HH1.out
        have HG1 : Hid (w1.heap[w.heap.size]? = some (.cells (u8s zeros32).toArray t1 (0, 0))) := hg1
        clear hh hg1 HNO
        go_upto_region 5 with fail
        refine wp_region_noPanic ?_
        refine wp_region_held_drew (S := fun _ => True) HMO.out (trivial) (fun hHeld => ?_)
        refine wpAnyH_take (i := 0) (oi := { dst := some 27, op := .move (.tmp 6), type := 3, pos := "wal.go:209", after := #[], guard := none }) (v := ?_) rfl (by kernel_rfl) (by kernel_rfl) (by kernel_rfl) (fun _ _ _ h => h) (Or.inl ⟨by rfl, ?_⟩) (by assumption) ?_
        rotate_left
        · intro _ _; go_simp; first | done | with_reducible rfl
        simp only [Act.put, List.setIfInBounds_toArray, List.set_cons_zero, List.set_cons_succ]
        refine wpAnyH_take (i := 1) (oi := { dst := some 28, op := .slice 74 (.tmp 4) none none none, type := 40, pos := "wal.go:209", after := #[], guard := none }) (v := .slice (some ⟨w.heap.size, 0, none⟩) 32 32) rfl (by kernel_rfl) (by kernel_rfl) (by kernel_rfl) (fun _ _ _ h => h) (Or.inl ⟨by rfl, ?_⟩) (by assumption) ?_
        · intro _ _; go_simp
        simp only [Act.put, List.setIfInBounds_toArray, List.set_cons_zero, List.set_cons_succ]
        refine wpAnyH_take (i := 2) (oi := { dst := some 29, op := .move (.tmp 0), type := 40, pos := "wal.go:209", after := #[], guard := none }) (v := ?_) rfl (by kernel_rfl) (by kernel_rfl) (by kernel_rfl) (fun _ _ _ h => h) (Or.inl ⟨by rfl, ?_⟩) (by assumption) ?_
        rotate_left
        · intro _ _; go_simp; first | done | with_reducible rfl
        simp only [Act.put, List.setIfInBounds_toArray, List.set_cons_zero, List.set_cons_succ]
        refine wpAnyH_take (i := 3) (oi := { dst := some 30, op := .move (.tmp 6), type := 3, pos := "wal.go:209", after := #[], guard := none }) (v := ?_) rfl (by kernel_rfl) (by kernel_rfl) (by kernel_rfl) (fun _ _ _ h => h) (Or.inl ⟨by rfl, ?_⟩) (by assumption) ?_
        rotate_left
        · intro _ _; go_simp; first | done | with_reducible rfl
        simp only [Act.put, List.setIfInBounds_toArray, List.set_cons_zero, List.set_cons_succ]
        refine wpAnyH_take (i := 4) (oi := { dst := some 31, op := .slice 40 (.tmp 29) (some (.tmp 30)) none none, type := 40, pos := "wal.go:209", after := #[{ on := 2, ground := .data }, { on := 3, ground := .data }], guard := none }) (v := .slice (some ⟨bk, off + u, none⟩) (L - u) (c - u)) rfl (by kernel_rfl) (by kernel_rfl) (by kernel_rfl) (fun _ _ _ h => h) (Or.inl ⟨by rfl, ?_⟩) (by assumption) ?_
        · intro _ _; go_simp
        simp only [Act.put, List.setIfInBounds_toArray, List.set_cons_zero, List.set_cons_succ]
        refine wpAnyH_take (i := 7) (oi := { dst := some 34, op := .move (.tmp 5), type := 3, pos := "wal.go:209", after := #[], guard := none }) (v := ?_) rfl (by kernel_rfl) (by kernel_rfl) (by kernel_rfl) (fun _ _ _ h => h) (Or.inl ⟨by rfl, ?_⟩) (by assumption) ?_
        rotate_left
        · intro _ _; go_simp; first | done | with_reducible rfl
        simp only [Act.put, List.setIfInBounds_toArray, List.set_cons_zero, List.set_cons_succ]
        refine wpAnyH_ready (rs := [5]) (by kernel_rfl) (by simp) ?_
        refine AllReadyH.cons (o := { dst := some 32, op := .call { callee := .builtin Go.Builtin.copy, args := #[.tmp 28, .tmp 31], argTypes := #[40, 40] }, type := 3, pos := "wal.go:209", after := #[{ on := 1, ground := .data }, { on := 4, ground := .data }], guard := none }) rfl (fun K hK => ?_) AllReadyH.nil
        refine step_copy_pos rfl (.tmp 28) (.tmp 31) 40 40 rfl 5 Tryd.underlying40 (by kernel_rfl) w.heap.size 0 32 32 ⟨bk, off + u, none⟩ (L - u) (c - u) rfl rfl (u8s zeros32) t1 HG1.out (u8s h) (by rw [u8s_length, HH32.out]; show 32 = min (L - u) 32; omega) HSRC.out (by rw [u8s_length, HH32.out]; simp [zeros32]) (u8s_mem h) ?_
        simp only [Act.put, List.setIfInBounds_toArray, List.set_cons_zero, List.set_cons_succ]
        refine hK.out _ _ (trivial) (fun hHeld => ?_)
        clear hK K
        refine wpAnyH_take (i := 6) (oi := { dst := some 33, op := .binOp Go.BinOp.add 3 (.tmp 27) (.tmp 32) 3, type := 3, pos := "wal.go:209", after := #[{ on := 0, ground := .data }, { on := 5, ground := .data }], guard := none }) (v := .int .i64 ((u : Int) + 32)) rfl (by kernel_rfl) (by kernel_rfl) (by kernel_rfl) (fun _ _ _ h => h) (Or.inl ⟨by rfl, ?_⟩) (by assumption) ?_
        · intro _ _; go_simp; rw [wrap_small (by omega) (by omega)]
        simp only [Act.put, List.setIfInBounds_toArray, List.set_cons_zero, List.set_cons_succ]
        refine wpAnyH_take (i := 8) (oi := { dst := some 35, op := .binOp Go.BinOp.add 3 (.tmp 33) (.tmp 34) 3, type := 3, pos := "wal.go:209", after := #[{ on := 6, ground := .data }, { on := 7, ground := .data }], guard := none }) (v := .int .i64 ((u : Int) + 32 + (n : Int))) rfl (by kernel_rfl) (by kernel_rfl) (by kernel_rfl) (fun _ _ _ h => h) (Or.inl ⟨by rfl, ?_⟩) (by assumption) ?_
        · intro _ _; go_simp; rw [wrap_small (by omega) (by omega)]
        simp only [Act.put, List.setIfInBounds_toArray, List.set_cons_zero, List.set_cons_succ]
        refine wpAnyH_take (i := 9) (oi := { dst := some 3, op := .assign (.tmp 35), type := 3, pos := "wal.go:209", after := #[{ on := 8, ground := .data }, { on := 5, ground := .chain }, { on := 0, ground := .phase }, { on := 1, ground := .phase }, { on := 2, ground := .phase }, { on := 3, ground := .phase }, { on := 4, ground := .phase }, { on := 5, ground := .phase }, { on := 6, ground := .phase }, { on := 7, ground := .phase }, { on := 8, ground := .phase }], guard := none }) (v := ?_) rfl (by kernel_rfl) (by kernel_rfl) (by kernel_rfl) (fun _ _ _ h => h) (Or.inl ⟨by rfl, ?_⟩) (by assumption) ?_
        rotate_left
        · intro _ _; go_simp; first | done | with_reducible rfl
        simp only [Act.put, List.setIfInBounds_toArray, List.set_cons_zero, List.set_cons_succ]
        refine wpAnyH_done (by kernel_rfl) ?_ _
        refine NoPanic.normal ?_
        rw [splice_hash h HH32.out] at *
        generalize hw3 : World.setRow w1.drew _ _ = w3
        have HH3 : Hid (Blk w3 w.heap.size (u8s h)) := by rw [← hw3]; exact (HH1.out.drew).row
        have HB3 : Hid (Below w.heap.size w w3) := by rw [← hw3]; exact below_setRow HB1.out.drew (Nat.le_refl _) _
        clear hw3 HSRC HG1 HH1 HB1 hHeld hadr hlen' hbig'
        obtain ⟨s, hs⟩ : ∃ s : Nat, s = u + 32 + n := ⟨_, rfl⟩
        obtain ⟨q, hq⟩ : ∃ q : Nat, q = u + 32 := ⟨_, rfl⟩
        have e1 : (u : Int) + 32 + (n : Int) = (s : Int) := by omega
        have e2 : (s : Int) - (n : Int) = (q : Int) := by omega
        have e3 : s - q = n := by omega
        have hsL : s ≤ L := by omega
        have hqs : q ≤ s := by omega
        rw [e1]
        clear e1
        have HSQ : Hid (s = u + 32 + n ∧ q = u + 32) := ⟨hs, hq⟩
        have hrec := H.out.cut q s hqs (by rw [← HL.out]; exact hsL)
        have hrec0 := H0.out.cut q s hqs (by rw [← HL.out]; exact hsL)
        rw [e3, Option.map_some, Addr.add_mid] at hrec hrec0
        clear hs hq
        obtain ⟨adr, hadr⟩ : ∃ x, (if c = q then (some ⟨bk, off, none⟩ : Option Addr) else some ⟨bk, off + q, none⟩) = x := ⟨_, rfl⟩
        rw [hadr] at hrec hrec0
        have HREC0 : Hid (Bs w0 (.slice adr n (c - q)) ((bs.drop q).take n)) := hrec0
        have HREC : Hid (Bs w (.slice adr n (c - q)) ((bs.drop q).take n)) := hrec
        have HPRE : Hid (Bs w (.slice (some ⟨bk, off, none⟩) u c) (bs.take u)) := by
          have := H.out.cut 0 u (Nat.zero_le _) (by rw [← HL.out]; omega)
          rw [if_neg (by omega)] at this
          exact this
        obtain ⟨T, hT⟩ : ∃ T, T = sum (bs.take u ++ (bs.drop q).take n) := ⟨_, rfl⟩
        have HT : Hid (T = sum (bs.take u ++ (bs.drop q).take n)) := hT
        have HT32 : Hid (T.length = 32) := show _ = _ by rw [hT]; exact sum_length _
        have HNE : Hid (∀ w', (binOp .neq 74 (.agg (u8s T).toArray) (.agg (u8s h).toArray)).run Tryd.prog w' = .ok (.bool (!(T == h))) w') := neq_hash T h HT32.out HH32.out
        have HUH : Hid (_ = _) := Tryd.underlying74
        have HSUM : Hid (∀ w', Below w.heap.size w w' → Pieces w' (some ⟨w3.heap.size, 0, none⟩) [bs.take u, (bs.drop q).take n] → Calls Tryd.prog 40 #[.slice (some ⟨w3.heap.size, 0, none⟩) 2 2] w' fun e w'' => e = .returned (.agg (u8s T).toArray) ∧ Below w'.heap.size w' w'') := fun w' hb hp => by
          have := sum_any _ 2 2 [bs.take u, (bs.drop q).take n] rfl w' (HK.out.below hb hpos) (by omega) hp (by simp only [List.flatten_cons, List.flatten_nil, List.append_nil, List.length_append, List.length_take, List.length_drop]; omega)
          rw [show [bs.take u, (bs.drop q).take n].flatten = bs.take u ++ (bs.drop q).take n by simp, ← HT.out] at this
          exact this
        have hcu2 : ¬ (c < u) := by omega
        clear hrec hrec0 hT
        go_upto_region 7 with fail
        refine wp_region_noPanic ?_
        refine wp_region_held_drew (S := fun w' => w'.rangeAt w.heap.size 0 (u8s h)) HMO.out (hash_cells HH3.out.drew) (fun hHeld => ?_)
        refine wpAnyH_take (i := 0) (oi := { dst := some 42, op := .move (.tmp 0), type := 40, pos := "wal.go:211", after := #[], guard := none }) (v := ?_) rfl (by kernel_rfl) (by kernel_rfl) (by kernel_rfl) (fun _ _ _ h => h) (Or.inl ⟨by rfl, ?_⟩) (by assumption) ?_
        rotate_left
        · intro _ _; go_simp; first | done | with_reducible rfl
        simp only [Act.put, List.setIfInBounds_toArray, List.set_cons_zero, List.set_cons_succ]
        refine wpAnyH_take (i := 1) (oi := { dst := some 43, op := .move (.tmp 6), type := 3, pos := "wal.go:211", after := #[], guard := none }) (v := ?_) rfl (by kernel_rfl) (by kernel_rfl) (by kernel_rfl) (fun _ _ _ h => h) (Or.inl ⟨by rfl, ?_⟩) (by assumption) ?_
        rotate_left
        · intro _ _; go_simp; first | done | with_reducible rfl
        simp only [Act.put, List.setIfInBounds_toArray, List.set_cons_zero, List.set_cons_succ]
        refine wpAnyH_take (i := 2) (oi := { dst := some 44, op := .slice 40 (.tmp 42) none (some (.tmp 43)) none, type := 40, pos := "wal.go:211", after := #[{ on := 0, ground := .data }, { on := 1, ground := .data }], guard := none }) (v := .slice (some ⟨bk, off, none⟩) u c) rfl (by kernel_rfl) (by kernel_rfl) (by kernel_rfl) (fun _ _ _ h => h) (Or.inl ⟨by rfl, ?_⟩) (by assumption) ?_
        · intro _ _; go_simp
        simp only [Act.put, List.setIfInBounds_toArray, List.set_cons_zero, List.set_cons_succ]
        refine wpAnyH_take (i := 3) (oi := { dst := some 45, op := .move (.tmp 2), type := 40, pos := "wal.go:211", after := #[], guard := none }) (v := ?_) rfl (by kernel_rfl) (by kernel_rfl) (by kernel_rfl) (fun _ _ _ h => h) (Or.inl ⟨by rfl, ?_⟩) (by assumption) ?_
        rotate_left
        · intro _ _; go_simp; first | done | with_reducible rfl
        simp only [Act.put, List.setIfInBounds_toArray, List.set_cons_zero, List.set_cons_succ]
        refine wpAnyH_take (i := 6) (oi := { dst := some 48, op := .load 74 (.tmp 4), type := 74, pos := "wal.go:211", after := #[], guard := none }) (v := _) rfl (by kernel_rfl) (by kernel_rfl) (by kernel_rfl) (fun _ _ _ h => h) (yieldsIf_load_mid (by rfl) _ _ rfl (w.heap.size) (0) rfl (u8s h) _ (fun _ h => h) (HUH.out) rfl (info_hashL h HH32.out)) (by assumption) ?_
        simp only [Act.put, List.setIfInBounds_toArray, List.set_cons_zero, List.set_cons_succ]
        refine wpAnyH_ready (rs := [4]) (by kernel_rfl) (by simp) ?_
        refine AllReadyH.cons (o := { dst := some 46, op := .buildSlice 32 2 #[(0, .tmp 44), (1, .tmp 45)], type := 32, pos := "wal.go:211", after := #[{ on := 2, ground := .data }, { on := 3, ground := .data }], guard := none }) rfl (fun K hK => ?_) AllReadyH.nil
        go_simp
        generalize hw4 : World.alloc _ _ = w4; have HC4 : Hid (Blk w4 w3.heap.size [.slice (some ⟨bk, off, none⟩) u c, .slice adr n (c - q)]) := by { rw [← hw4]; exact Blk.mk w3 _ _ rfl rfl }; have HH4 : Hid (Blk w4 w.heap.size (u8s h)) := by { rw [← hw4]; exact HH3.out.alloc _ }; have HB4 : Hid (Below w.heap.size w w4) := by { rw [← hw4]; exact HB3.out.alloc HB3.out.size _ }; clear hw4
        go_simp
        refine hK.out _ _ (hash_cells HH4.out.drew) (fun hHeld => ?_)
        clear hK K
        refine wpAnyH_ready (rs := [5]) (by kernel_rfl) (by simp) ?_
        refine AllReadyH.cons (o := { dst := some 47, op := .call { callee := .value (.func 40), args := #[.tmp 46], argTypes := #[32] }, type := 74, pos := "wal.go:211", after := #[{ on := 4, ground := .data }], guard := none }) rfl (fun K hK => ?_) AllReadyH.nil
        go_simp
        refine Calls.mono (HSUM.out _ HB4.out.drew (pieces_two HC4.out.drew (HPRE.out.below HB4.out.drew) (.inl (HREC.out.below HB4.out.drew)))) ?_; rintro e w5 ⟨rfl, hb5⟩; have HH5 : Hid (Blk w5 w.heap.size (u8s h)) := HH4.out.drew.below hb5 HH4.out.lt; have HB5 : Hid (Below w.heap.size w w5) := HB4.out.drew.trans (hb5.mono HB4.out.size); clear hb5
        go_simp
        refine hK.out _ _ (hash_cells HH5.out) (fun hHeld => ?_)
        clear hK K
        refine wpAnyH_take (i := 7) (oi := { dst := some 49, op := .binOp Go.BinOp.neq 74 (.tmp 47) (.tmp 48) 74, type := 4, pos := "wal.go:211", after := #[{ on := 5, ground := .data }, { on := 6, ground := .data }], guard := none }) (v := .bool (!(T == h))) rfl (by kernel_rfl) (by kernel_rfl) (by kernel_rfl) (fun _ _ _ h => h) (Or.inl ⟨by rfl, ?_⟩) (by assumption) ?_
        · intro _ _; have hne := HNE.out; go_simp
        simp only [Act.put, List.setIfInBounds_toArray, List.set_cons_zero, List.set_cons_succ]
        refine wpAnyH_done (by kernel_rfl) ?_ _
        refine NoPanic.normal ?_
        clear hHeld
        by_cases hq : T = h
        · have hq' : (T == h) = true := by rw [hq]; simp
          rw [hq']
          go_wp2_with fail
          subst hQ
          rw [hops_ret]
          go_ret2
          obtain ⟨h1, h2⟩ := firstR_yes (bs := bs) (n := n) (u := u) HNUE.out.1.symm HNUE.out.2.1.symm HNUE.out.2.2.symm (by omega) (by rw [← HL.out]; exact hlen) (by rw [← HSQ.out.2, ← HT.out, hq, HH.out])
          rw [h1, h2, ← HSQ.out.1, ← HSQ.out.2]
          exact ⟨_, rfl, HREC0.out, HB5.out⟩
        · have hq' : (T == h) = false := by simpa using hq
          rw [hq']
          go_wp2_with fail
          go_step3
          simp only [Exit.then]
          subst hQ
          rw [hops_goto]
          refine ⟨_, rfl, ?_⟩
          go_hide hQ
          go_wp2_with fail
          subst hQ
          rw [hops_ret]
          go_ret2
          obtain ⟨h1, h2⟩ := firstR_no (bs := bs) (fun hc => hq (by
            have := hc.2.2.2
            rw [← HNUE.out.1, ← HNUE.out.2.1, Int.toNat_natCast, Int.toNat_natCast, ← HSQ.out.2, ← HT.out, ← HH.out] at this
            exact this))
          rw [h1, h2]
          exact ⟨_, rfl, Bs.nil _, HB5.out⟩
      · have hlen' : (L : Int) < (u : Int) + 32 + (n : Int) := by omega
        go_wp2_with fail
        go_step3
        simp only [Exit.then]
        subst hQ
        rw [hops_goto]
        refine ⟨_, rfl, ?_⟩
        go_hide hQ
        go_wp2_with fail
        subst hQ
        rw [hops_ret]
        go_ret2
        exact HNO.out (by omega) _ HB1.out
    · have hbig' : (n : Int) > 1048576 := by omega
      go_wp2_with fail
      go_step3
      simp only [Exit.then]
      subst hQ
      rw [hops_goto]
      refine ⟨_, rfl, ?_⟩
      go_hide hQ
      go_wp2_with fail
      subst hQ
      rw [hops_ret]
      go_ret2
      exact HNO.out (by omega) _ HB1.out
  · have hz' : (E != 0) = true := bne_iff_ne.2 hz
    go_wp2_with fail
    go_step3
    simp only [Exit.then]
    subst hQ
    rw [hops_goto]
    refine ⟨_, rfl, ?_⟩
    go_hide hQ
    go_wp2_with fail
    subst hQ
    rw [hops_ret]
    go_ret2
    exact HNO.out (by omega) _ HB1.out
end Go.Proofs.YtlapnnkahijikaaDoor
namespace Go.Proofs.YtlapnnkahijikaaDoor
open Go.ChangeShapes Go.WideShapes Go.ChangeAt Go.RowKit Go.Lib

theorem Tryd.infoX : (Tryd.prog.info? 40).map (fun i => (i.zero, i.size, i.bytes)) = some (some (.slice none 0 0), 1, 24) := by kernel_rfl
/-- A row of slices of the call's own, from block B on. -/
def OwnX (w : World) (B : Nat) (v : Value) (xs : List Value) : Prop := w.ownsRow B 40 1 v xs.length xs
/-- Slices that v leads to. -/
def SrcX (w : World) (v : Value) (xs : List Value) : Prop := (v = .slice none 0 0 ∧ xs = []) ∨ ∃ b o cap, v = .slice (some ⟨b, o, none⟩) xs.length cap ∧ xs.length ≤ cap ∧ cap ≤ maxLen ∧ ∀ j x, xs[j]? = some x → w.cell? ⟨b, o + j, none⟩ = some x
/-- Each leads to its bytes. -/
def All2 (w : World) (xs : List Value) (rs : List (List (BitVec 8))) : Prop := xs.length = rs.length ∧ ∀ i x, xs[i]? = some x → Bs w x (rs.getD i [])
section
variable {w w' : World} {B : Nat} {v x : Value} {xs r : List Value} {rs : List (List (BitVec 8))}
theorem OwnX.nil (w : World) (B : Nat) : OwnX w B (.slice none 0 0) [] := World.ownsRow_nil w B _ _
theorem OwnX.lt (h : OwnX w B v xs) : ∀ k, v.ownBlock = some k → B ≤ k ∧ k < w.heap.size := World.ownsRow.lt h
theorem OwnX.same (h : OwnX w B v xs) (hb : ∀ k, v.ownBlock = some k → w'.heap[k]? = w.heap[k]?) : OwnX w' B v xs := by
  refine ⟨h.1, ?_⟩
  rcases h.2 with hn | ⟨g, cap, cur, hv, hg, hh, rest⟩
  · exact .inl hn
  · exact .inr ⟨g, cap, cur, hv, hg, by rw [hb g (by rw [hv]; rfl)]; exact hh, rest⟩
theorem OwnX.below (h : OwnX w B v xs) (hb : Below w.heap.size w w') : OwnX w' B v xs := h.same fun k hk => hb.block k (h.lt k hk).2
theorem OwnX.less {M : Nat} (h : OwnX w B v xs) (hM : M ≤ B) : OwnX w M v xs := by
  refine ⟨h.1, ?_⟩
  rcases h.2 with hn | ⟨g, cap, cur, hv, hg, rest⟩
  · exact .inl hn
  · exact .inr ⟨g, cap, cur, hv, Nat.le_trans hM hg, rest⟩
theorem OwnX.src (h : OwnX w B v xs) : SrcX w v xs := by
  have h0 := h
  rcases h.2 with ⟨hv, hn⟩ | ⟨g, cap, cur, hv, _, hg, hl, hm, _⟩
  · exact .inl ⟨hv, List.eq_nil_of_length_eq_zero hn⟩
  · refine .inr ⟨g, 0, cap, hv, hl, hm, fun j u hu => ?_⟩
    have := World.ownsRow.cells h0 (g := g) (by rw [hv]; rfl) j u hu
    rwa [Addr.add_mid] at this
theorem OwnX.shape (h : OwnX w B v xs) : ∃ a cap, v = .slice a xs.length cap := by
  rcases h.src with ⟨rfl, rfl⟩ | ⟨b, o, cap, rfl, _⟩
  · exact ⟨_, _, rfl⟩
  · exact ⟨_, _, rfl⟩
theorem SrcX.shape (h : SrcX w v xs) : ∃ a cap, v = .slice a xs.length cap := by
  rcases h with ⟨rfl, rfl⟩ | ⟨b, o, cap, rfl, _⟩
  · exact ⟨_, _, rfl⟩
  · exact ⟨_, _, rfl⟩
theorem SrcX.same (h : SrcX w v xs) (hb : ∀ k, v.ownBlock = some k → w'.heap[k]? = w.heap[k]?) : SrcX w' v xs := by
  rcases h with h | ⟨b, o, cap, rfl, hl, hm, hc⟩
  · exact .inl h
  · refine .inr ⟨b, o, cap, rfl, hl, hm, fun j u hu => ?_⟩
    have := hc j u hu
    unfold World.cell? at *
    rw [hb b rfl]; exact this
theorem SrcX.below (h : SrcX w v xs) (hb : Below w.heap.size w w') : SrcX w' v xs := by
  rcases h with h | ⟨b, o, cap, hv, hl, hm, hc⟩
  · exact .inl h
  · exact .inr ⟨b, o, cap, hv, hl, hm, fun j u hu => cell_below hb (hc j u hu)⟩
theorem All2.nil (w : World) : All2 w [] [] := ⟨rfl, fun i x h => by simp at h⟩
theorem All2.below (h : All2 w xs rs) (hb : Below w.heap.size w w') : All2 w' xs rs := ⟨h.1, fun i x hx => (h.2 i x hx).below hb⟩
theorem All2.one {bs : List (BitVec 8)} (h : Bs w x bs) : All2 w [x] [bs] := ⟨rfl, fun i y hy => by
  cases i with
  | zero => injection hy with hy; subst hy; exact h
  | succ i => simp at hy⟩
theorem All2.append {ys : List Value} {qs : List (List (BitVec 8))} (h : All2 w xs rs) (k : All2 w ys qs) : All2 w (xs ++ ys) (rs ++ qs) := by
  refine ⟨by rw [List.length_append, List.length_append, h.1, k.1], fun i x hx => ?_⟩
  by_cases hi : i < xs.length
  · rw [List.getElem?_append_left hi] at hx
    rw [List.getD_eq_getElem?_getD, List.getElem?_append_left (by rw [← h.1]; exact hi), ← List.getD_eq_getElem?_getD]
    exact h.2 i x hx
  · rw [List.getElem?_append_right (by omega)] at hx
    rw [List.getD_eq_getElem?_getD, List.getElem?_append_right (by rw [← h.1]; omega), ← List.getD_eq_getElem?_getD, ← h.1]
    exact k.2 _ x hx
theorem All2.cells (h : All2 w xs rs) : ∀ u ∈ xs, u.oneCell' = true := fun u hu => by
  obtain ⟨i, hi, rfl⟩ := List.getElem_of_mem hu
  obtain ⟨a, cap, hv, _⟩ := h.2 i _ (List.getElem?_eq_getElem hi)
  rw [hv]; rfl
theorem run_append_x (ty : TypeId) (h : OwnX w B v xs) (hr : SrcX w x r) (h1 : ∀ u ∈ r, u.oneCell' = true) (hm : xs.length + r.length ≤ 100000000) (hN : B ≤ w.heap.size) :
    ∃ v' w', (Builtin.append_ #[32, 32] ty #[v, x]).run Tryd.prog w = .ok v' w' ∧ OwnX w' B v' (xs ++ r) ∧ w.grownBy w' v.ownBlock ∧ Moved w v v' := by
  obtain ⟨i, hi, hi1, hi2, hi3⟩ := info_parts Tryd.infoX
  rcases hr with ⟨rfl, rfl⟩ | ⟨b, o, cap, rfl, _, _, hc⟩
  · exact ⟨v, w, run_append_owned_none w B _ ty _ i 1 Tryd.underlying32 hi v _ _ h, by rw [List.append_nil]; exact h, ⟨rfl, rfl, rfl, Nat.le_refl _, fun _ _ _ => rfl⟩, .inl rfl⟩
  · have hcells : ∀ j u, r[j]? = some u → w.cell? ((⟨b, o, none⟩ : Addr).add j) = some u := fun j u hu => by rw [Addr.add_mid]; exact hc j u hu
    obtain ⟨v', w', hrun, h2, h3, h4⟩ := run_append_own w B 32 ty 40 i _ 1 24 Tryd.underlying32 hi hi1 hi2 hi3 rfl (by omega) v xs.length xs h ⟨b, o, none⟩ r.length cap r (by omega) hcells h1 (by unfold maxLen; omega) (by omega) hN
    refine ⟨v', w', hrun, ?_, h3, ?_⟩
    · unfold OwnX
      rw [List.length_append]; exact h2
    · have hlen : r.length = r.length * i.size := by rw [hi2]; omega
      have hfl : xs.length = xs.length * i.size := by rw [hi2]; omega
      rcases h.2 with ⟨rfl, h0⟩ | ⟨g, c, cur, rfl, hbg, hg, hnc, hcm, hcs, htake⟩
      · by_cases hm0 : r.length = 0
        · left
          rw [h4.2 ⟨rfl, hm0⟩]
        · have e := run_append_nil w 32 ty 40 i _ Tryd.underlying32 hi hi1 ⟨b, o, none⟩ r.length cap r hlen hcells (by omega) (by omega) (by rw [hi3]; omega)
          rw [e] at hrun
          injection hrun with e1 _
          right
          exact ⟨w.heap.size, Nat.le_refl _, by rw [← e1]; rfl⟩
      · by_cases hroom : xs.length + r.length ≤ c
        · have e := run_append_room w 32 ty 40 i Tryd.underlying32 hi g xs.length c cur hg ⟨b, o, none⟩ r.length cap r hlen hcells h1 hroom (by rw [hi2, hcs]; omega)
          rw [e] at hrun
          injection hrun with e1 _
          left
          rw [← e1]; rfl
        · have e := run_append_grow w 32 ty 40 i _ Tryd.underlying32 hi hi1 ⟨g, 0, none⟩ xs.length c xs hfl (h.cells (g := g) rfl) ⟨b, o, none⟩ r.length cap r hlen hcells (by omega) (by omega) (growslice_fits (by omega) (by rw [hi3]; omega))
          rw [e] at hrun
          injection hrun with e1 _
          right
          exact ⟨w.heap.size, Nat.le_refl _, by rw [← e1]; rfl⟩
end
section
variable {ops : Array Oper} {o : Oper} {ac : Act} {w : World} {Q : Exit → Act → World → Prop}
theorem wpList_append_x {rest : List Oper} (hgd : o.guard = none) (s x : Operand)
    (ho : o.op = .call { callee := .builtin .append, args := #[s, x], argTypes := #[32, 32] }) (B : Nat) (v : Value) (xs : List Value) (hs : ac.eval s = v) (h : OwnX w B v xs)
    (y : Value) (r : List Value) (hx : ac.eval x = y) (hr : SrcX w y r) (h1 : ∀ u ∈ r, u.oneCell' = true) (hm : xs.length + r.length ≤ 100000000) (hN : B ≤ w.heap.size)
    (hK : ∀ v' w', Hid (OwnX w' B v' (xs ++ r)) → Hid (w.grownBy w' v.ownBlock) → Hid (Moved w v v') → wpList Tryd.prog ops Q rest (ac.put o.dst v') w') : wpList Tryd.prog ops Q (o :: rest) ac w := by
  obtain ⟨v', w', hrun, h1, h2, h3⟩ := run_append_x o.type h hr h1 hm hN
  refine wpList_plain hgd fun K hK' => ?_
  unfold Oper.wp execOp
  simp only [ho, resolve, invoke, builtin, Sem.run_bind, Sem.run_pure, Result.andThen_ok, List.map_toArray, List.map_cons, List.map_nil, hs, hx, hrun]
  exact hK' _ _ (hK v' w' h1 h2 h3)
theorem step_append_x {K : Act → World → Prop} {E : Prop} (hgd : o.guard = none) (s x : Operand)
    (ho : o.op = .call { callee := .builtin .append, args := #[s, x], argTypes := #[32, 32] }) (B : Nat) (v : Value) (xs : List Value) (hs : ac.eval s = v) (h : OwnX w B v xs)
    (y : Value) (r : List Value) (hx : ac.eval x = y) (hr : SrcX w y r) (h1 : ∀ u ∈ r, u.oneCell' = true) (hm : xs.length + r.length ≤ 100000000) (hN : B ≤ w.heap.size)
    (hK : ∀ v' w', Hid (OwnX w' B v' (xs ++ r)) → Hid (w.grownBy w' v.ownBlock) → Hid (Moved w v v') → K (ac.put o.dst v') w') :
    if Region.wanted o (yielded ops ac.tmps) = true then Oper.wp Tryd.prog o ac w K Q else E := by
  have hw : Region.wanted o (yielded ops ac.tmps) = true := by simp [Region.wanted, hgd]
  rw [if_pos hw]
  obtain ⟨v', w', hrun, h1, h2, h3⟩ := run_append_x o.type h hr h1 hm hN
  unfold Oper.wp execOp
  simp only [ho, resolve, invoke, builtin, Sem.run_bind, Sem.run_pure, Result.andThen_ok, List.map_toArray, List.map_cons, List.map_nil, hs, hx, hrun]
  exact hK v' w' h1 h2 h3
end
theorem firstR_parts {bs : List (BitVec 8)} (h : firstS bs ≠ 0) : firstR bs = some (firstV bs, firstS bs) := by
  unfold firstS firstV at *
  cases hf : firstR bs with
  | none => rw [hf] at h; exact absurd rfl h
  | some p => obtain ⟨r, s⟩ := p; rfl
theorem firstR_zero {bs : List (BitVec 8)} (h : firstS bs = 0) : firstR bs = none := by
  unfold firstS at h
  cases hf : firstR bs with
  | none => rfl
  | some p =>
    obtain ⟨r, s⟩ := p
    rw [hf] at h
    have h2 := firstR_size hf
    simp only at h
    omega
theorem wholeR_done {bs : List (BitVec 8)} {R : List (List (BitVec 8))} {k : Nat} (h : wholeR bs = (R ++ (wholeR (bs.drop k)).1, k + (wholeR (bs.drop k)).2)) (hf : firstR (bs.drop k) = none) : wholeR bs = (R, k) := by
  rw [h, wholeR_none hf, List.append_nil, Nat.add_zero]
theorem wholeR_more {bs r : List (BitVec 8)} {R : List (List (BitVec 8))} {k s : Nat} (h : wholeR bs = (R ++ (wholeR (bs.drop k)).1, k + (wholeR (bs.drop k)).2)) (hf : firstR (bs.drop k) = some (r, s)) : wholeR bs = (R ++ [r] ++ (wholeR (bs.drop (k + s))).1, k + s + (wholeR (bs.drop (k + s))).2) := by
  rw [h, wholeR_some hf, List.drop_drop]
  simp only [List.append_assoc, List.cons_append, List.nil_append, Nat.add_assoc]
set_option maxRecDepth 100000 in
set_option maxHeartbeats 8000000 in
theorem whole_any (v : Value) (bs : List (BitVec 8)) (w : World) (hK : Kw w) (h : Bs w v bs) (hl : bs.length ≤ 50000000) :
    Calls Tryd.prog 32 #[v] w fun e w' => ∃ v' xs, e = .returned (.tuple #[v', .int .i64 (wholeR bs).2]) ∧ OwnX w' w.heap.size v' xs ∧ All2 w xs (wholeR bs).1 ∧ Below w.heap.size w w' := by
  have HK : Hid (Kw w) := hK
  have H : Hid (Bs w v bs) := h
  obtain ⟨a, c, hv, _, hlc, hcm⟩ := h.shape
  subst hv
  obtain ⟨L, hL⟩ : ∃ n, n = bs.length := ⟨_, rfl⟩
  rw [← hL] at hl hlc H ⊢
  have HL : Hid (L = bs.length) := hL
  have hpos := hK.pos
  have hcm' : (c : Int) ≤ 9223372036854775807 := by unfold maxLen at hcm; omega
  clear hK h hL hcm
  have HW0 : Hid (wholeR bs = ([] ++ (wholeR (bs.drop 0)).1, 0 + (wholeR (bs.drop 0)).2)) := show _ = _ by rw [List.drop_zero, List.nil_append, Nat.zero_add]
  go_enter Tryd.func32, Tryd.ntmps32
  go_wp2_with fail
  refine wp_scope_hops 1 ?_
  go_hide hQ
  go_wp2_with fail
  go_loopw [2, 3] (fun rv i wr => ∃ (k : Nat) (xs : List Value) (R : List (List (BitVec 8))), k ≤ L ∧ i = .int .i64 k ∧ xs.length ≤ k ∧ Hid (OwnX wr w.heap.size rv xs) ∧ Hid (All2 w xs R) ∧ Hid (wholeR bs = (R ++ (wholeR (bs.drop k)).1, k + (wholeR (bs.drop k)).2)) ∧ Hid (Below w.heap.size w wr)) (fun _ i _ => L - (intOf i).toNat)
  case atStart => exact ⟨0, [], [], Nat.zero_le _, rfl, Nat.le_refl _, OwnX.nil _ _, All2.nil _, HW0.out, Below.refl _ _⟩
  case round =>
    obtain ⟨k, xs, R, hk, rfl, hxk, HO, HA, HW, HB⟩ := hrel
    clear HW0
    obtain ⟨ra, rc, hrv⟩ := HO.out.shape
    subst hrv
    by_cases hlt : k < L
    · have e0 : (0 : Int) ≤ (k : Int) := by omega
      have e1 : (k : Int) < (L : Int) := by omega
      have hcut := H.out.cut k L hk (by rw [← HL.out]; exact Nat.le_refl _)
      rw [List.take_of_length_le (by rw [List.length_drop, ← HL.out]; exact Nat.le_refl _)] at hcut
      have hkc : ¬ (c = k) := by omega
      rw [if_neg hkc] at hcut
      obtain ⟨adr, hadr⟩ : ∃ x, Option.map (fun x => x.add k) a = x := ⟨_, rfl⟩
      rw [hadr] at hcut
      have hf := first_any w _ _ wr (HK.out.below HB.out hpos) hcut (hcut.below HB.out) (by rw [List.length_drop, ← HL.out]; omega)
      obtain ⟨s, hs⟩ : ∃ s, s = firstS (bs.drop k) := ⟨_, rfl⟩
      obtain ⟨r, hr⟩ : ∃ r, r = firstV (bs.drop k) := ⟨_, rfl⟩
      rw [← hs, ← hr] at hf
      have HF : Hid (Calls Tryd.prog 46 #[.slice adr (L - k) (c - k)] wr fun e w' => ∃ v', e = .returned (.tuple #[v', .int .i64 s]) ∧ Bs w v' r ∧ Below wr.heap.size wr w') := hf
      have HS : Hid (s = firstS (bs.drop k) ∧ r = firstV (bs.drop k)) := ⟨hs, hr⟩
      clear hcut hf hs hr
      go_wp2_with fail
      refine Calls.mono HF.out ?_
      rintro e w2 ⟨v2, rfl, hv2, hb2⟩
      obtain ⟨a2, c2, rfl, _, _, _⟩ := hv2.shape
      obtain ⟨m, hm⟩ : ∃ m, m = r.length := ⟨_, rfl⟩
      rw [← hm] at hv2 ⊢
      have HV2 : Hid (Bs w (.slice a2 m c2) r) := hv2
      have HB2 : Hid (Below w.heap.size w w2) := HB.out.trans (hb2.mono HB.out.size)
      have HO2 : Hid (OwnX w2 w.heap.size (.slice ra xs.length rc) xs) := HO.out.below hb2
      have HA2 : Hid (All2 w xs R) := HA.out
      clear hv2 hb2 HF HO HA HB hadr hm
      by_cases hz : s = 0
      · subst hz
        have HE : Hid (wholeR bs = (R, k)) := wholeR_done HW.out (firstR_zero HS.out.1.symm)
        go_wp2_with fail
        go_step3
        subst hQ
        refine show hops _ _ _ 1 (Exit.goto 0) _ _ from ?_
        rw [hops_goto]
        refine ⟨_, rfl, ?_⟩
        go_hide hQ
        go_wp2_with fail
        subst hQ
        rw [hops_ret]
        go_ret2
        refine ⟨.slice ra xs.length rc, xs, ?_, HO2.out, ?_, HB2.out⟩
        · rw [HE.out]; rfl
        · rw [HE.out]; exact HA2.out
      · have hz' : ((s : Int) == 0) = false := beq_eq_false_iff_ne.2 (by omega)
        have hfp := firstR_parts (bs := bs.drop k) (by rw [← HS.out.1]; exact hz)
        rw [← HS.out.1, ← HS.out.2] at hfp
        have hfs := firstR_size hfp
        rw [List.length_drop, ← HL.out] at hfs
        have hks : k + s ≤ L := by omega
        have HE : Hid (wholeR bs = (R ++ [r] ++ (wholeR (bs.drop (k + s))).1, k + s + (wholeR (bs.drop (k + s))).2)) := wholeR_more HW.out hfp
        have hxs : xs.length ≤ 50000000 := by omega
        have HAL : Hid (∀ o, OwnX (w2.alloc o) w.heap.size (.slice ra xs.length rc) xs) := fun o => HO2.out.below ((Below.refl _ _).alloc (Nat.le_refl _) _)
        have HSX : Hid (∀ ty, SrcX (w2.alloc (.cells #[.slice a2 m c2] ty)) (.slice (some ⟨w2.heap.size, 0, none⟩) 1 1) [.slice a2 m c2]) := fun ty => .inr ⟨w2.heap.size, 0, 1, rfl, Nat.le_refl _, by unfold maxLen; omega, fun j x hx => by
          rw [Nat.zero_add]
          exact (Blk.mk (b := w2.heap.size) w2 #[.slice a2 m c2] ty rfl rfl).one hx⟩
        have hsz2 := HB2.out.size
        clear hfp hfs
        go_wp2_with (at_builtin; refine wpList_append_x rfl _ _ rfl w.heap.size _ xs rfl (HAL.out _) _ [.slice a2 m c2] rfl (HSX.out _) (by simp [Value.oneCell']) (by simp; omega) (by simp; omega) ?_; intro v3 w3 HO3 HG3 _; obtain ⟨a3, c3, hv3⟩ := HO3.out.shape; subst hv3)
        have HB3 : Hid (Below w.heap.size w w3) := (HB2.out.alloc HB2.out.size _).grown HG3.out (by simp; have := HB2.out.size; omega) fun k hk => (HO2.out.lt k hk).1
        have HO4 : Hid (OwnX w3 w.heap.size (.slice a3 (xs.length + 1) c3) (xs ++ [.slice a2 m c2])) := by have h := HO3.out; rw [List.length_append] at h; exact h
        go_roundw
        case rel =>
          refine ⟨k + s, xs ++ [Value.slice a2 m c2], R ++ [r], hks, by go_num, by rw [List.length_append]; simp; omega, HO4.out, HA2.out.append (All2.one HV2.out), HE.out, HB3.out⟩
        case measure => simp [intOf]; omega
    · obtain rfl : k = L := by omega
      have e1 : ¬ (k : Int) < (k : Int) := by omega
      have HE : Hid (wholeR bs = (R, k)) := wholeR_done HW.out (by rw [List.drop_of_length_le (by rw [← HL.out]; exact Nat.le_refl _)]; exact firstR_nil)
      go_wp2_with fail
      go_step3
      go_wp2_with fail
      subst hQ
      rw [hops_ret]
      go_ret2
      refine ⟨.slice ra xs.length rc, xs, ?_, HO.out, ?_, HB.out⟩
      · rw [HE.out]; rfl
      · rw [HE.out]; exact HA.out
end Go.Proofs.YtlapnnkahijikaaDoor
namespace Go.Proofs.YtlapnnkahijikaaDoor
open Go.ChangeShapes Go.WideShapes Go.ChangeAt Go.RowKit Go.Lib

structure Sys (w wi : World) (f : Nat) (S : FS) (Bl : List (Nat × List Value)) : Prop where
  base : Below w.heap.size w wi
  fs : FsAt wi f S
  low : ∀ k, S.foot f k → w.heap.size ≤ k
  blks : ∀ p ∈ Bl, w.heap.size ≤ p.1 ∧ ¬ S.foot f p.1 ∧ Blk wi p.1 p.2
  nodup : (Bl.map Prod.fst).Nodup
structure GrB (f : Nat) (ids : List Nat) (S S' : FS) (w w' : World) : Prop where
  size : w.heap.size ≤ w'.heap.size
  block : ∀ k, k < w.heap.size → ¬ S.foot f k → k ∉ ids → w'.heap[k]? = w.heap[k]?
  foot : ∀ k, S'.foot f k → S.foot f k ∨ w.heap.size ≤ k
section
variable {w wi wj wk : World} {f : Nat} {S S' S'' : FS} {Bl Bl' Bl'' : List (Nat × List Value)} {ids : List Nat}
theorem GrB.refl (f : Nat) (ids : List Nat) (S : FS) (w : World) : GrB f ids S S w w := ⟨Nat.le_refl _, fun _ _ _ _ => rfl, fun _ h => .inl h⟩
theorem GrB.trans (h : GrB f ids S S' w wi) (k : GrB f ids S' S'' wi wj) : GrB f ids S S'' w wj :=
  ⟨Nat.le_trans h.size k.size, fun i hi hf hn => (k.block i (Nat.lt_of_lt_of_le hi h.size) (fun e => (h.foot i e).elim hf fun e => by omega) hn).trans (h.block i hi hf hn),
    fun i e => (k.foot i e).elim (fun e => h.foot i e) fun e => .inr (Nat.le_trans h.size e)⟩
theorem GrB.of_below (h : Below w.heap.size w wi) : GrB f ids S S w wi := ⟨h.size, fun k hk _ _ => h.block k hk, fun _ h => .inl h⟩
theorem GrB.of_grown (h : Grown f S S' w wi) : GrB f ids S S' w wi := ⟨h.size, fun k hk hf _ => h.block k hk hf, h.foot⟩
theorem Sys.below (h : Sys w wi f S Bl) (hb : Below wi.heap.size wi wj) : Sys w wj f S Bl :=
  ⟨h.base.trans (hb.mono h.base.size), h.fs.below hb, h.low, fun p hp => ⟨(h.blks p hp).1, (h.blks p hp).2.1, (h.blks p hp).2.2.below hb (h.blks p hp).2.2.lt⟩, h.nodup⟩
theorem Sys.drew (h : Sys w wi f S Bl) : Sys w wi.drew f S Bl := h.below (Below.refl _ _).drew
theorem Sys.grown (h : Sys w wi f S Bl) (hb : Below wi.heap.size wi wj) (hf : FsAt wk f S') (hg : Grown f S S' wj wk) : Sys w wk f S' Bl := by
  have hbj : Below w.heap.size w wj := h.base.trans (hb.mono h.base.size)
  refine ⟨hbj.trans (hg.below hbj.size h.low), hf, fun k hk => (hg.foot k hk).elim (h.low k) fun e => Nat.le_trans hbj.size e, fun p hp => ?_, h.nodup⟩
  obtain ⟨h1, h2, h3⟩ := h.blks p hp
  have hl := h3.lt
  have hs := hb.size
  refine ⟨h1, fun e => (hg.foot _ e).elim h2 fun e => by omega, ?_⟩
  obtain ⟨t, ht⟩ := h3.below hb hl
  exact ⟨t, by rw [hg.block p.1 (by omega) h2]; exact ht⟩
/-- A store into the first of the blocks. -/
theorem Sys.keep {b : Nat} {cs cs' : List Value} (h : Sys w wi f S ((b, cs) :: Bl)) (hk : Keep b wi wj) (hb : Blk wj b cs') : Sys w wj f S ((b, cs') :: Bl) ∧ GrB f (((b, cs) :: Bl).map Prod.fst) S S wi wj := by
  obtain ⟨h1, h2, h3⟩ := h.blks _ (List.mem_cons_self ..)
  have hn := h.nodup
  rw [List.map_cons, List.nodup_cons] at hn
  refine ⟨⟨?_, ?_, h.low, fun p hp => ?_, h.nodup⟩, ⟨hk.size, fun k hl _ hn => hk.block k hl fun e => hn (by rw [e]; exact List.mem_cons_self ..), fun _ h => .inl h⟩⟩
  · exact h.base.trans (hk.below h1 h.base.size)
  · exact h.fs.same fun k hf => hk.block k (h.fs.lt hf) fun e => h2 (by rw [← e]; exact hf)
  · rcases List.mem_cons.1 hp with rfl | hp
    · exact ⟨h1, h2, hb⟩
    · obtain ⟨g1, g2, g3⟩ := h.blks p (List.mem_cons_of_mem _ hp)
      exact ⟨g1, g2, g3.keep hk fun e => hn.1 (by rw [← e]; exact List.mem_map.2 ⟨p, hp, rfl⟩)⟩
/-- A block more. -/
theorem Sys.more {b : Nat} {cs : List Value} (h : Sys w wi f S Bl) (hb : Below wi.heap.size wi wj) (hl : wi.heap.size ≤ b) (hk : Blk wj b cs) : Sys w wj f S ((b, cs) :: Bl) := by
  have h0 := h.below hb
  refine ⟨h0.base, h0.fs, h0.low, fun p hp => ?_, ?_⟩
  · rcases List.mem_cons.1 hp with rfl | hp
    · exact ⟨Nat.le_trans h.base.size hl, fun e => by have := h.fs.lt e; simp only at this; omega, hk⟩
    · exact h0.blks p hp
  · rw [List.map_cons, List.nodup_cons]
    refine ⟨fun e => ?_, h.nodup⟩
    obtain ⟨p, hp, e⟩ := List.mem_map.1 e
    have := (h.blks p hp).2.2.lt
    omega
theorem Sys.less {p : Nat × List Value} (h : Sys w wi f S (p :: Bl)) : Sys w wi f S Bl :=
  ⟨h.base, h.fs, h.low, fun q hq => h.blks q (List.mem_cons_of_mem _ hq), by have := h.nodup; rw [List.map_cons, List.nodup_cons] at this; exact this.2⟩
theorem Sys.swap {p q : Nat × List Value} (h : Sys w wi f S (p :: q :: Bl)) : Sys w wi f S (q :: p :: Bl) := by
  refine ⟨h.base, h.fs, h.low, fun r hr => h.blks r ?_, ?_⟩
  · simp only [List.mem_cons] at hr ⊢
    rcases hr with h | h | h
    · exact .inr (.inl h)
    · exact .inl h
    · exact .inr (.inr h)
  · have := h.nodup
    simp only [List.map_cons, List.nodup_cons, List.mem_cons, not_or] at this ⊢
    exact ⟨⟨fun e => this.1.1 e.symm, this.2.1⟩, this.1.2, this.2.2⟩
theorem Sys.blk {b : Nat} {cs : List Value} (h : Sys w wi f S ((b, cs) :: Bl)) : Blk wi b cs := (h.blks _ (List.mem_cons_self ..)).2.2
theorem Sys.kw (h : Sys w wi f S Bl) (hK : Kw w) : Kw wi := hK.below h.base hK.pos
end
/-- What an act leaves. -/
def Step (w wi : World) (f : Nat) (S : FS) (ids : List Nat) (A' : Abs) (Bl' : List (Nat × List Value)) (w' : World) : Prop := ∃ S', S'.abs = A' ∧ Sys w w' f S' Bl' ∧ GrB f ids S S' wi w'
/-- So many acts at most, and a count that is a number. -/
structure Abs.OK (A : Abs) (m : Nat) : Prop where
  ops0 : 0 ≤ A.ops
  ops1 : A.ops ≤ m
  left0 : -9223372036854775808 ≤ A.left
  left1 : A.left ≤ 9223372036854775807
theorem Abs.OK.sane {S : FS} {m : Nat} (h : S.abs.OK m) (hm : m ≤ 4611686018427387904) : S.Sane := FS.sane_of rfl h.ops0 (by have := h.ops1; omega) h.left0 h.left1
theorem Abs.OK.pow {A : Abs} {m : Nat} (h : A.OK m) (L : List (ByteArray × Fl)) : Abs.OK { A.pow with L := L } (m + 1) := by
  obtain ⟨h0, h1, h2, h3⟩ := h
  unfold Abs.pow
  by_cases hc : A.counted = false
  · rw [if_pos hc]; exact ⟨by simp only; omega, by simp only; omega, h2, h3⟩
  · rw [if_neg hc]
    by_cases hl : 0 < A.left
    · rw [if_pos hl]; exact ⟨by simp only; omega, by simp only; omega, by simp only; omega, by simp only; omega⟩
    · rw [if_neg hl]; exact ⟨by simp only; omega, by simp only; omega, h2, h3⟩
theorem Abs.OK.pow' {A : Abs} {m : Nat} (h : A.OK m) : Abs.OK A.pow (m + 1) := h.pow A.pow.L
section
variable {A : Abs} {m : Nat} {n d : ByteArray} {bs : List (BitVec 8)} {t : Int}
theorem Abs.OK.app (h : A.OK m) : (A.app n bs).OK (m + 1) := by unfold Abs.app; split <;> first | exact h.pow _ | exact h.pow'
theorem Abs.OK.syn (h : A.OK m) : (A.syn n).OK (m + 1) := by unfold Abs.syn; split <;> first | exact h.pow _ | exact h.pow'
theorem Abs.OK.ren (h : A.OK m) : (A.ren n d).OK (m + 1) := by unfold Abs.ren; split <;> first | exact h.pow _ | exact h.pow'
theorem Abs.OK.rem (h : A.OK m) : (A.rem n).OK (m + 1) := by unfold Abs.rem; split <;> first | exact h.pow _ | exact h.pow'
theorem Abs.OK.tru (h : A.OK m) : (A.tru n t).OK (m + 1) := by unfold Abs.tru; split <;> first | exact h.pow _ | exact h.pow'
theorem Abs.OK.mono {m' : Nat} (h : A.OK m) (hm : m ≤ m') : A.OK m' := ⟨h.ops0, by have := h.ops1; omega, h.left0, h.left1⟩
end
section
variable {w wi wj : World} {f : Nat} {S : FS} {Bl : List (Nat × List Value)} {m : Nat}
theorem Step.of {w' : World} (h : Sys w wi f S Bl) (hb : Below wi.heap.size wi wj) {A' : Abs} (ha : After f S A' wj w') : Step w wi f S (Bl.map Prod.fst) A' Bl w' := by
  obtain ⟨S', h1, h2, h3⟩ := ha
  exact ⟨S', h1, h.grown hb h2 h3, (GrB.of_below hb).trans (GrB.of_grown h3)⟩
theorem sys_append (h : Sys w wi f S Bl) (hOK : S.abs.OK m) (hm : m ≤ 4611686018427387904) (hb : Below wi.heap.size wi wj) (name : ByteArray) (v : Value) (bs : List (BitVec 8)) (hv : SrcB wj v bs) (hl : bs.length ≤ 50000000) (hn : ∀ k, v.ownBlock = some k → wi.heap.size ≤ k) :
    Calls Tryd.prog 35 #[.pointer (some ⟨f, 0, none⟩), .string name, v] wj fun e w' => e = .returned (.int .i64 (S.abs.appE name bs)) ∧ Step w wi f S (Bl.map Prod.fst) (S.abs.app name bs) Bl w' := by
  refine (append_any f S name v bs wj (h.fs.below hb) (hOK.sane hm) hv hl fun k hk e => ?_).mono ?_
  · have := h.fs.lt e; have := hn k hk; omega
  · rintro e w' ⟨rfl, ha⟩; exact ⟨rfl, Step.of h hb ha⟩
theorem sys_sync (h : Sys w wi f S Bl) (hOK : S.abs.OK m) (hm : m ≤ 4611686018427387904) (name : ByteArray) :
    Calls Tryd.prog 37 #[.pointer (some ⟨f, 0, none⟩), .string name] wi fun e w' => e = .returned (.int .i64 (S.abs.opn [name] name)) ∧ Step w wi f S (Bl.map Prod.fst) (S.abs.syn name) Bl w' := by
  refine (sync_any f S name wi h.fs (hOK.sane hm)).mono ?_
  rintro e w' ⟨rfl, ha⟩; exact ⟨rfl, Step.of h (Below.refl _ _) ha⟩
theorem sys_rename (h : Sys w wi f S Bl) (hOK : S.abs.OK m) (hm : m ≤ 4611686018427387904) (name dest : ByteArray) :
    Calls Tryd.prog 30 #[.pointer (some ⟨f, 0, none⟩), .string name, .string dest] wi fun e w' => e = .returned (.int .i64 (S.abs.opn [dest, name] name)) ∧ Step w wi f S (Bl.map Prod.fst) (S.abs.ren name dest) Bl w' := by
  refine (rename_any f S name dest wi h.fs (hOK.sane hm)).mono ?_
  rintro e w' ⟨rfl, ha⟩; exact ⟨rfl, Step.of h (Below.refl _ _) ha⟩
theorem sys_remove (h : Sys w wi f S Bl) (hOK : S.abs.OK m) (hm : m ≤ 4611686018427387904) (name : ByteArray) :
    Calls Tryd.prog 34 #[.pointer (some ⟨f, 0, none⟩), .string name] wi fun e w' => e = .returned (.int .i64 (S.abs.opn [name] name)) ∧ Step w wi f S (Bl.map Prod.fst) (S.abs.rem name) Bl w' := by
  refine (remove_any f S name wi h.fs (hOK.sane hm)).mono ?_
  rintro e w' ⟨rfl, ha⟩; exact ⟨rfl, Step.of h (Below.refl _ _) ha⟩
theorem sys_truncate (h : Sys w wi f S Bl) (hOK : S.abs.OK m) (hm : m ≤ 4611686018427387904) (name : ByteArray) (t : Int) :
    Calls Tryd.prog 36 #[.pointer (some ⟨f, 0, none⟩), .string name, .int .i64 t] wi fun e w' => e = .returned (.int .i64 (S.abs.truE name t)) ∧ Step w wi f S (Bl.map Prod.fst) (S.abs.tru name t) Bl w' := by
  refine (truncate_any f S name t wi h.fs (hOK.sane hm)).mono ?_
  rintro e w' ⟨rfl, ha⟩; exact ⟨rfl, Step.of h (Below.refl _ _) ha⟩
theorem FsAt.flOf_le (h : FsAt wi f S) (name : ByteArray) : (flOf (alook name S.abs.L)).safe ≤ (flOf (alook name S.abs.L)).b.length ∧ (flOf (alook name S.abs.L)).b.length ≤ 16777216 := by
  obtain ⟨_, _, _, _, _, h1, h2⟩ := shapeOf h name
  exact ⟨h1, h2⟩
theorem sys_read (h : Sys w wi f S Bl) (name : ByteArray) :
    Calls Tryd.prog 31 #[.pointer (some ⟨f, 0, none⟩), .string name] wi fun e w' => ∃ v, e = .returned (.tuple #[v, .int .i64 (if (alook name S.abs.L).isSome then 0 else 5)]) ∧ OwnB w' wi.heap.size v (flOf (alook name S.abs.L)).b ∧ Below wi.heap.size wi w' := read_any f S name wi h.fs
end
end Go.Proofs.YtlapnnkahijikaaDoor
