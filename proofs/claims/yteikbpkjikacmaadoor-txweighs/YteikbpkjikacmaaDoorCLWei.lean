/- TxWeighs: whatever the transaction, the input and the output, the law returns true. Condition: the round words lie as the program's text lays them. The walk. -/
import Derived.Test.YteikbpkjikacmaaDoorCLLight
import Derived.Test.YteikbpkjikacmaaDoorCGHold2
namespace Go.Proofs.YteikbpkjikacmaaDoor
open Go.ChangeShapes Go.WideShapes Go.ChangeAt Go.RowKit

set_option maxRecDepth 100000 in
set_option maxHeartbeats 4000000 in
theorem weighs_awake (v : TxV) (t : TxD) (x : In) (y : Out) (w : World) (hT : TxAt w v t) (hK : Kw w) (h : lightB t 50 = false ∨ 200 < x.pre.size) :
    Calls Tryd.prog 5 #[v.val t.lock, .agg x.cs.toArray, .agg y.cs.toArray] w fun e w' => e = .returned (.bool true) ∧ Below w.heap.size w w' := by
  have HK : Hid (Kw w) := hK
  have hpos := hK.pos
  have HT : Hid (TxAt w v t) := hT
  have HLT : Hid (∀ w', TxAt w' v t → Calls Tryd.prog 8 #[v.val t.lock, .int .i64 50] w' fun e w'' => e = .returned (.bool (lightB t 50)) ∧ Below w'.heap.size w' w'') := fun w' h => light_any v t 50 w' h (by omega)
  clear hK hT
  unfold TxV.val at *
  go_enter Tryd.func5, Tryd.ntmps5
  go_upto_region 1 with fail
  generalize hwv : World.alloc (World.alloc (World.alloc w _) _) _ = w1
  have hB0 : Blk w1 w.heap.size [.slice v.a v.n v.c, .slice v.b v.m v.d, .int .i64 t.lock] := by rw [← hwv]; exact ((Blk.mk _ _ _ rfl rfl).alloc _).alloc _
  have HB1 : Hid (Blk w1 (w.heap.size + 1) x.cs) := by rw [← hwv]; exact (Blk.mk _ _ _ (by simp) rfl).alloc _
  have HBL : Hid (Below w.heap.size w w1) := by rw [← hwv]; exact (((Below.refl _ _).alloc (Nat.le_refl _) _).alloc (by simp) _).alloc (by simp; omega) _
  clear hwv
  generalize hN : w.heap.size = T at *
  have c0 : w1.cell? ⟨T, 0, none⟩ = some (.slice v.a v.n v.c) := hB0.one rfl
  have c1 : w1.cell? ⟨T, 1, none⟩ = some (.slice v.b v.m v.d) := hB0.one rfl
  have c2 : w1.cell? ⟨T, 2, none⟩ = some (.int .i64 t.lock) := hB0.one rfl
  have hs1 := HB1.out.lt
  clear hB0
  go_wp2_with fail
  refine Calls.mono (HLT.out w1 (HT.out.below (hN ▸ HBL.out))) ?_
  rintro e w2 ⟨rfl, hb2⟩
  have HBL2 : Hid (Below T w w2) := HBL.out.trans (hb2.mono (by omega))
  have hs2 := hb2.size
  have p1 : w2.cell? ⟨T + 1, 36, none⟩ = some (.string x.pre) := (HB1.out.below hb2 HB1.out.lt).one x.pre_at
  clear hb2 c0 c1 c2
  cases hl : lightB t 50 with
  | false =>
    clear hl h
    go_wp2_with (go_at_call 9; refine (awake_any _ (HK.out.below HBL2.out hpos)).mono ?_; rintro e w3 ⟨rfl, hb3⟩)
    go_ret
    subst hN
    exact ⟨rfl, HBL2.out.trans (hb3.mono (by omega))⟩
  | true =>
    have hp : 200 < x.pre.size := by
      rcases h with h | h
      · rw [hl] at h; cases h
      · exact h
    have d1 : decide (200 < (x.pre.size : Int)) = true := decide_eq_true (by omega)
    clear hl h hp
    go_wp2_with (go_at_call 9; refine (awake_any _ (HK.out.below HBL2.out hpos)).mono ?_; rintro e w3 ⟨rfl, hb3⟩)
    go_ret
    subst hN
    exact ⟨rfl, HBL2.out.trans (hb3.mono (by omega))⟩
def weiA (w0 : World) (M T : Nat) (ins : List In) (x : In) (bO : Option Addr) (m d : Nat) (a : Act) (wr : World) : Prop :=
  ∃ (A : Nat) (aN : Option Addr) (nN cN : Nat), ∃ u : Nat → Value, a = ({ tmps := #[u 0, u 1, u 2, .pointer (some ⟨T, 0, none⟩), .pointer (some ⟨T + 1, 0, none⟩), .pointer (some ⟨T + 2, 0, none⟩), .bool false, .pointer (some ⟨A, 0, none⟩), u 8, u 9, u 10, u 11, u 12, u 13, u 14, u 15, u 16, u 17, u 18, u 19, u 20, u 21, u 22, u 23, u 24, u 25, u 26, u 27, u 28, u 29, u 30, u 31, u 32, u 33, u 34, u 35, u 36, u 37, u 38, u 39, u 40, u 41, u 42, u 43, u 44, u 45, u 46, u 47, u 48, u 49, u 50, u 51, u 52, u 53, u 54, u 55, u 56, u 57, u 58, u 59, u 60, u 61, u 62, u 63, u 64, u 65, u 66, u 67, u 68, u 69, u 70, u 71, u 72, u 73], defers := [] } : Act) ∧ Hid (Blk wr A [.slice aN nN cN, .slice bO m d, .int .i64 0]) ∧ Hid (OwnE 46 wr M (.slice aN nN cN) (ins ++ [x])) ∧ Hid (Below M w0 wr) ∧ Hid (M ≤ A)
theorem weiA_mk (w0 : World) (M T : Nat) (ins : List In) (x : In) (bO : Option Addr) (m d : Nat) {wr : World} (A : Nat) (aN : Option Addr) (nN cN : Nat) {u0 u1 u2 u8 u9 u10 u11 u12 u13 u14 u15 u16 u17 u18 u19 u20 u21 u22 u23 u24 u25 u26 u27 u28 u29 u30 u31 u32 u33 u34 u35 u36 u37 u38 u39 u40 u41 u42 u43 u44 u45 u46 u47 u48 u49 u50 u51 u52 u53 u54 u55 u56 u57 u58 u59 u60 u61 u62 u63 u64 u65 u66 u67 u68 u69 u70 u71 u72 u73 : Value} (h : Hid (Blk wr A [.slice aN nN cN, .slice bO m d, .int .i64 0]) ∧ Hid (OwnE 46 wr M (.slice aN nN cN) (ins ++ [x])) ∧ Hid (Below M w0 wr) ∧ Hid (M ≤ A)) : weiA w0 M T ins x bO m d ({ tmps := #[u0, u1, u2, .pointer (some ⟨T, 0, none⟩), .pointer (some ⟨T + 1, 0, none⟩), .pointer (some ⟨T + 2, 0, none⟩), .bool false, .pointer (some ⟨A, 0, none⟩), u8, u9, u10, u11, u12, u13, u14, u15, u16, u17, u18, u19, u20, u21, u22, u23, u24, u25, u26, u27, u28, u29, u30, u31, u32, u33, u34, u35, u36, u37, u38, u39, u40, u41, u42, u43, u44, u45, u46, u47, u48, u49, u50, u51, u52, u53, u54, u55, u56, u57, u58, u59, u60, u61, u62, u63, u64, u65, u66, u67, u68, u69, u70, u71, u72, u73], defers := [] } : Act) wr :=
  ⟨A, aN, nN, cN, fun n => (#[u0, u1, u2, undef, undef, undef, undef, undef, u8, u9, u10, u11, u12, u13, u14, u15, u16, u17, u18, u19, u20, u21, u22, u23, u24, u25, u26, u27, u28, u29, u30, u31, u32, u33, u34, u35, u36, u37, u38, u39, u40, u41, u42, u43, u44, u45, u46, u47, u48, u49, u50, u51, u52, u53, u54, u55, u56, u57, u58, u59, u60, u61, u62, u63, u64, u65, u66, u67, u68, u69, u70, u71, u72, u73] : Array Value).getD n undef, rfl, h⟩

def weiB (w0 : World) (M T A : Nat) (outs : List Out) (y : Out) (aI : Option Addr) (n c : Nat) (a : Act) (wr : World) : Prop :=
  ∃ (B : Nat) (bN : Option Addr) (mN dN : Nat), ∃ u : Nat → Value, a = ({ tmps := #[u 0, u 1, u 2, .pointer (some ⟨T, 0, none⟩), .pointer (some ⟨T + 1, 0, none⟩), .pointer (some ⟨T + 2, 0, none⟩), .bool false, .pointer (some ⟨A, 0, none⟩), .pointer (some ⟨B, 0, none⟩), u 9, u 10, u 11, u 12, u 13, u 14, u 15, u 16, u 17, u 18, u 19, u 20, u 21, u 22, u 23, u 24, u 25, u 26, u 27, u 28, u 29, u 30, u 31, u 32, u 33, u 34, u 35, u 36, u 37, u 38, u 39, u 40, u 41, u 42, u 43, u 44, u 45, u 46, u 47, u 48, u 49, u 50, u 51, u 52, u 53, u 54, u 55, u 56, u 57, u 58, u 59, u 60, u 61, u 62, u 63, u 64, u 65, u 66, u 67, u 68, u 69, u 70, u 71, u 72, u 73], defers := [] } : Act) ∧ Hid (Blk wr B [.slice aI n c, .slice bN mN dN, .int .i64 0]) ∧ Hid (OwnE 50 wr M (.slice bN mN dN) (outs ++ [y])) ∧ Hid (Below M w0 wr) ∧ Hid (M ≤ B)
theorem weiB_mk (w0 : World) (M T A : Nat) (outs : List Out) (y : Out) (aI : Option Addr) (n c : Nat) {wr : World} (B : Nat) (bN : Option Addr) (mN dN : Nat) {u0 u1 u2 u9 u10 u11 u12 u13 u14 u15 u16 u17 u18 u19 u20 u21 u22 u23 u24 u25 u26 u27 u28 u29 u30 u31 u32 u33 u34 u35 u36 u37 u38 u39 u40 u41 u42 u43 u44 u45 u46 u47 u48 u49 u50 u51 u52 u53 u54 u55 u56 u57 u58 u59 u60 u61 u62 u63 u64 u65 u66 u67 u68 u69 u70 u71 u72 u73 : Value} (h : Hid (Blk wr B [.slice aI n c, .slice bN mN dN, .int .i64 0]) ∧ Hid (OwnE 50 wr M (.slice bN mN dN) (outs ++ [y])) ∧ Hid (Below M w0 wr) ∧ Hid (M ≤ B)) : weiB w0 M T A outs y aI n c ({ tmps := #[u0, u1, u2, .pointer (some ⟨T, 0, none⟩), .pointer (some ⟨T + 1, 0, none⟩), .pointer (some ⟨T + 2, 0, none⟩), .bool false, .pointer (some ⟨A, 0, none⟩), .pointer (some ⟨B, 0, none⟩), u9, u10, u11, u12, u13, u14, u15, u16, u17, u18, u19, u20, u21, u22, u23, u24, u25, u26, u27, u28, u29, u30, u31, u32, u33, u34, u35, u36, u37, u38, u39, u40, u41, u42, u43, u44, u45, u46, u47, u48, u49, u50, u51, u52, u53, u54, u55, u56, u57, u58, u59, u60, u61, u62, u63, u64, u65, u66, u67, u68, u69, u70, u71, u72, u73], defers := [] } : Act) wr :=
  ⟨B, bN, mN, dN, fun n => (#[u0, u1, u2, undef, undef, undef, undef, undef, undef, u9, u10, u11, u12, u13, u14, u15, u16, u17, u18, u19, u20, u21, u22, u23, u24, u25, u26, u27, u28, u29, u30, u31, u32, u33, u34, u35, u36, u37, u38, u39, u40, u41, u42, u43, u44, u45, u46, u47, u48, u49, u50, u51, u52, u53, u54, u55, u56, u57, u58, u59, u60, u61, u62, u63, u64, u65, u66, u67, u68, u69, u70, u71, u72, u73] : Array Value).getD n undef, rfl, h⟩


theorem spN_has (x : In) : ∀ (l : List In) (i : Int), 0 ≤ i → 0 ≤ spN x.prev (l ++ [x]) i
  | [], i, h => by simp only [List.nil_append, spN, if_true]; exact h
  | y :: l, i, h => by
    simp only [List.cons_append, spN]
    split
    · exact h
    · exact spN_has x l (i + 1) (by omega)
set_option maxRecDepth 100000 in
set_option maxHeartbeats 8000000 in
theorem weighs_in (a : Option Addr) (n c : Nat) (b : Option Addr) (m d : Nat) (ins : List In) (outs : List Out) (lock : Int) (x : In) (y : Out) (w : World) (hI : Els w a n c ins) (hO : Els w b m d outs) (hK : Kw w) (hl : lightB ⟨ins, outs, lock⟩ 50 = true) (hx : x.pre.size ≤ 200) :
    Calls Tryd.prog 5 #[.agg #[.slice a n c, .slice b m d, .int .i64 lock], .agg x.cs.toArray, .agg y.cs.toArray] w fun e w' => e = .returned (.bool true) ∧ Below w.heap.size w w' := by
  have HMO := follows_mixed
  obtain ⟨dI, HDI, HRI⟩ := und_in
  obtain ⟨dO, HDO, HRO⟩ := und_out
  have HK : Hid (Kw w) := hK
  have hpos := hK.pos
  have HIN : Hid (Els w a n c ins) := hI
  have HOUT : Hid (Els w b m d outs) := hO
  have hn50 : n ≤ 50 := by have := (light_small hl).1; rw [← hI.len]; exact this
  have hm50 : m ≤ 50 := by have := (light_small hl).2; rw [← hO.len]; exact this
  have HLT : Hid (∀ w', Below w.heap.size w w' → Calls Tryd.prog 8 #[.agg #[.slice a n c, .slice b m d, .int .i64 lock], .int .i64 50] w' fun e w'' => e = .returned (.bool true) ∧ Below w'.heap.size w' w'') := fun w' h => by
    have := light_any ⟨a, n, c, b, m, d⟩ ⟨ins, outs, lock⟩ 50 w' ⟨hI.below h, hO.below h⟩ (by omega)
    rwa [hl] at this
  have HLENI : Hid (ins.length = n) := hI.len
  have HLENO : Hid (outs.length = m) := hO.len
  clear hK hI hO hl
  go_enter Tryd.func5, Tryd.ntmps5
  go_upto_region 1 with fail
  generalize hwv : World.alloc (World.alloc (World.alloc w _) _) _ = w1
  have HB0 : Hid (Blk w1 w.heap.size [.slice a n c, .slice b m d, .int .i64 lock]) := by rw [← hwv]; exact ((Blk.mk _ _ _ rfl rfl).alloc _).alloc _
  have HB1 : Hid (Blk w1 (w.heap.size + 1) x.cs) := by rw [← hwv]; exact (Blk.mk _ _ _ (by simp) rfl).alloc _
  have HB2 : Hid (Blk w1 (w.heap.size + 2) y.cs) := by rw [← hwv]; exact Blk.mk _ _ _ (by simp) rfl
  have HBL : Hid (Below w.heap.size w w1) := by rw [← hwv]; exact (((Below.refl _ _).alloc (Nat.le_refl _) _).alloc (by simp) _).alloc (by simp; omega) _
  clear hwv
  generalize hN : w.heap.size = T at *
  have c0 : w1.cell? ⟨T, 0, none⟩ = some (.slice a n c) := HB0.out.one rfl
  have c1 : w1.cell? ⟨T, 1, none⟩ = some (.slice b m d) := HB0.out.one rfl
  have c2 : w1.cell? ⟨T, 2, none⟩ = some (.int .i64 lock) := HB0.out.one rfl
  have hs1 := HB2.out.lt
  go_wp2_with fail
  refine Calls.mono (HLT.out w1 HBL.out) ?_
  rintro e w2 ⟨rfl, hb2⟩
  have HBL2 : Hid (Below T w w2) := HBL.out.trans (hb2.mono (by omega))
  have hs2 := hb2.size
  have HB02 : Hid (Blk w2 T _) := HB0.out.below hb2 HB0.out.lt
  have HB12 : Hid (Blk w2 (T + 1) _) := HB1.out.below hb2 HB1.out.lt
  have HB22 : Hid (Blk w2 (T + 2) _) := HB2.out.below hb2 HB2.out.lt
  have p1 : w2.cell? ⟨T + 1, 36, none⟩ = some (.string x.pre) := HB12.out.one x.pre_at
  have d1 : decide (200 < (x.pre.size : Int)) = false := decide_eq_false (by omega)
  clear hb2 c0 c1 c2 HB0 HB1 HB2 HBL hx
  go_upto_region 3 with fail
  clear p1 d1
  have HKP : Hid (∀ w', Below w2.heap.size w2 w' → Blk w' T [.slice a n c, .slice b m d, .int .i64 lock] ∧ Blk w' (T + 1) x.cs ∧ Blk w' (T + 2) y.cs ∧ Below T w w' ∧ Els w' a n c ins ∧ Els w' b m d outs) := fun w' hb => by
    have hbl : Below T w w' := HBL2.out.trans (hb.mono (by omega))
    exact ⟨HB02.out.below hb (by omega), HB12.out.below hb (by omega), HB22.out.below hb (by omega), hbl, HIN.out.below (hN ▸ hbl), HOUT.out.below (hN ▸ hbl)⟩
  have HM0 : Hid (w2.heap.size ≤ w2.heap.size) := show w2.heap.size ≤ _ by omega
  have HB00 : Hid (Below w2.heap.size w2 w2.drew) := (Below.refl _ _).drew
  clear HB02 HB12 HB22 HBL2 HIN HOUT HLT
  apply split_rest (weiA w2 w2.heap.size T ins x b m d)
  · intro HREST
    have HSRC : Hid (∀ w', Below w2.heap.size w2 w' → Els w' a n c ins) := fun w' h => (HKP.out w' h).2.2.2.2.1
    have HSX : Hid (∀ w', Below w2.heap.size w2 w' → w'.cell? ⟨T, 0, none⟩ = some (.slice a n c) ∧ w'.cell? ⟨T, 1, none⟩ = some (.slice b m d) ∧ w'.rangeAt (T + 1) 0 x.cs) := fun w' h => by
      obtain ⟨h0, h1, _⟩ := HKP.out w' h
      exact ⟨h0.one rfl, h0.one rfl, h1.whole⟩
    have HLEN : Hid (ins.length = n) := HLENI
    refine wp_region_noPanic ?_
    refine wp_region_held_drew (S := fun w' => w'.cell? ⟨T, 0, none⟩ = some (.slice a n c) ∧ w'.cell? ⟨T, 1, none⟩ = some (.slice b m d) ∧ w'.rangeAt (T + 1) 0 x.cs) HMO.out (HSX.out _ HB00.out) (fun hHeld => ?_)
    refine wpAnyH_take (i := 1) (oi := { dst := some 21, op := .fieldAddr 25 (.tmp 3) 0, type := 0, pos := "law.go:81", after := #[], guard := none }) (v := ?_) rfl (by kernel_rfl) (by kernel_rfl) (by kernel_rfl) (fun _ _ _ h => h) (Or.inl ⟨by rfl, ?_⟩) (by assumption) ?_
    rotate_left
    · intro _ _; go_simp; first | done | with_reducible rfl
    simp only [Act.put, List.setIfInBounds_toArray, List.set_cons_zero, List.set_cons_succ]
    refine wpAnyH_take (i := 2) (oi := { dst := some 22, op := .load 22 (.tmp 21), type := 22, pos := "law.go:81", after := #[{ on := 1, ground := .data }], guard := none }) (v := ?_) rfl (by kernel_rfl) (by kernel_rfl) (by kernel_rfl) (fun _ _ _ h => h) (Or.inl ⟨by rfl, ?_⟩) (by assumption) ?_
    rotate_left
    · intro _ _; go_simp; first | done | with_reducible rfl
    simp only [Act.put, List.setIfInBounds_toArray, List.set_cons_zero, List.set_cons_succ]
    refine wpAnyH_take (i := 4) (oi := { dst := some 24, op := .load 46 (.tmp 4), type := 46, pos := "law.go:81", after := #[], guard := none }) (v := _) rfl (by kernel_rfl) (by kernel_rfl) (by kernel_rfl) (fun _ _ _ h => h) (yieldsIf_load_mid (by rfl) _ _ rfl (T + 1) (0) rfl (x.cs) _ (fun _ h => h.2.2) (Tryd.underlying46) rfl (size_in x)) (by assumption) ?_
    simp only [Act.put, List.setIfInBounds_toArray, List.set_cons_zero, List.set_cons_succ]
    refine wpAnyH_take (i := 7) (oi := { dst := some 27, op := .fieldAddr 25 (.tmp 3) 1, type := 0, pos := "law.go:81", after := #[], guard := none }) (v := ?_) rfl (by kernel_rfl) (by kernel_rfl) (by kernel_rfl) (fun _ _ _ h => h) (Or.inl ⟨by rfl, ?_⟩) (by assumption) ?_
    rotate_left
    · intro _ _; go_simp; first | done | with_reducible rfl
    simp only [Act.put, List.setIfInBounds_toArray, List.set_cons_zero, List.set_cons_succ]
    refine wpAnyH_take (i := 8) (oi := { dst := some 28, op := .load 23 (.tmp 27), type := 23, pos := "law.go:81", after := #[{ on := 7, ground := .data }], guard := none }) (v := ?_) rfl (by kernel_rfl) (by kernel_rfl) (by kernel_rfl) (fun _ _ _ h => h) (Or.inl ⟨by rfl, ?_⟩) (by assumption) ?_
    rotate_left
    · intro _ _; go_simp; first | done | with_reducible rfl
    simp only [Act.put, List.setIfInBounds_toArray, List.set_cons_zero, List.set_cons_succ]
    refine wpAnyH_ready (rs := [0, 5, 10]) (by kernel_rfl) (by simp) ?_
    refine (AllReadyH.cons (o := { dst := some 20, op := .buildSlice 22 0 #[], type := 22, pos := "law.go:81", after := #[], guard := none }) rfl (fun K hK => ?_) (AllReadyH.cons (o := { dst := some 25, op := .buildSlice 22 1 #[(0, .tmp 24)], type := 22, pos := "law.go:81", after := #[{ on := 4, ground := .data }], guard := none }) rfl (fun K hK => ?_) (AllReadyH.cons (o := { dst := some 7, op := .alloc 25, type := 0, pos := "law.go:81", after := #[], guard := none }) rfl (fun K hK => ?_) AllReadyH.nil)))
    · go_simp
      skip; have Hg1 : Hid (w2.heap.size ≤ w2.heap.size) := by { have := HB00.out.size; have := HM0.out; show _ ≤ _; omega }; have Hb1q : Below w2.heap.size w2.drew ((w2.alloc (.cells #[] 46)).drew) := (Below.refl _ w2.drew).alloc (Nat.le_refl _) _; have HR1q : OwnE 46 ((w2.alloc (.cells #[] 46)).drew) w2.heap.size (.slice (some ⟨w2.heap.size, 0, none⟩) 0 0) ([] : List In) := World.ownsRow_made (size := El.k In) w2.drew #[] 0 Hg1.out (Nat.zero_le _) (by simp); generalize (w2.alloc (.cells #[] 46)).drew = wb1 at *; have Hb1 : Hid (Below w2.heap.size w2.drew wb1) := Hb1q; have HB1 : Hid (Below w2.heap.size w2 wb1) := HB00.out.trans (Hb1.out.mono (by have := HB00.out.size; have := HM0.out; omega)); have HR1 : Hid (OwnE 46 wb1 w2.heap.size (.slice (some ⟨w2.heap.size, 0, none⟩) 0 0) ([] : List In)) := HR1q; clear Hb1q HR1q
      go_simp
      refine hK.out _ _ (HSX.out _ HB1.out) (fun hHeld => ?_)
      clear hK K
      refine wpAnyH_ready (rs := [3, 5, 10]) (by kernel_rfl) (by simp) ?_
      refine (AllReadyH.cons (o := { dst := some 23, op := .call { callee := .builtin Go.Builtin.append, args := #[.tmp 20, .tmp 22], argTypes := #[22, 22] }, type := 22, pos := "law.go:81", after := #[{ on := 0, ground := .data }, { on := 2, ground := .data }], guard := none }) rfl (fun K hK => ?_) (AllReadyH.cons (o := { dst := some 25, op := .buildSlice 22 1 #[(0, .tmp 24)], type := 22, pos := "law.go:81", after := #[{ on := 4, ground := .data }], guard := none }) rfl (fun K hK => ?_) (AllReadyH.cons (o := { dst := some 7, op := .alloc 25, type := 0, pos := "law.go:81", after := #[], guard := none }) rfl (fun K hK => ?_) AllReadyH.nil)))
      · refine step_append_e elIn rfl _ _ rfl w2.heap.size _ (([] : List In)) rfl HR1.out _ _ _ ins rfl (HSRC.out _ HB1.out) (by first | (simp only [List.length_nil]; omega) | (rw [HLEN.out]; omega)) (by have := HB1.out.size; have := HM0.out; omega) ?_; intro va2 wb2 HR2n HG2 HMv2; obtain ⟨aa2, na2, ca2, rfl⟩ := HR2n.out.any; have HR2 : Hid (OwnE 46 wb2 w2.heap.size (.slice aa2 na2 ca2) (ins)) := HR2n; have HB2 : Hid (Below w2.heap.size w2 wb2) := HB1.out.grown HG2.out (by have := HB1.out.size; have := HM0.out; omega) (fun k hk => (HR1.out.lt k hk).1)
        simp only [Act.put, List.setIfInBounds_toArray, List.set_cons_zero, List.set_cons_succ]
        refine hK.out _ _ (HSX.out _ HB2.out) (fun hHeld => ?_)
        clear hK K
        refine wpAnyH_ready (rs := [5, 10]) (by kernel_rfl) (by simp) ?_
        refine (AllReadyH.cons (o := { dst := some 25, op := .buildSlice 22 1 #[(0, .tmp 24)], type := 22, pos := "law.go:81", after := #[{ on := 4, ground := .data }], guard := none }) rfl (fun K hK => ?_) (AllReadyH.cons (o := { dst := some 7, op := .alloc 25, type := 0, pos := "law.go:81", after := #[], guard := none }) rfl (fun K hK => ?_) AllReadyH.nil))
        · refine step_build_one elIn rfl _ rfl x rfl ?_; intro wb3 HS3n Hb3n; have Hb3 : Hid (Below wb2.heap.size wb2 wb3) := Hb3n; have HS3 : Hid (Els wb3 (some ⟨wb2.heap.size, 0, none⟩) 1 1 [x]) := HS3n; have HB3 : Hid (Below w2.heap.size w2 wb3) := HB2.out.trans (Hb3.out.mono (by have := HB2.out.size; have := HM0.out; omega)); have HR3 : Hid (OwnE 46 wb3 w2.heap.size (.slice aa2 na2 ca2) (ins)) := HR2.out.below Hb3.out
          simp only [Act.put, List.setIfInBounds_toArray, List.set_cons_zero, List.set_cons_succ]
          refine hK.out _ _ (HSX.out _ HB3.out) (fun hHeld => ?_)
          clear hK K
          refine wpAnyH_ready (rs := [6, 10]) (by kernel_rfl) (by simp) ?_
          refine (AllReadyH.cons (o := { dst := some 26, op := .call { callee := .builtin Go.Builtin.append, args := #[.tmp 23, .tmp 25], argTypes := #[22, 22] }, type := 22, pos := "law.go:81", after := #[{ on := 3, ground := .data }, { on := 5, ground := .data }, { on := 3, ground := .chain }], guard := none }) rfl (fun K hK => ?_) (AllReadyH.cons (o := { dst := some 7, op := .alloc 25, type := 0, pos := "law.go:81", after := #[], guard := none }) rfl (fun K hK => ?_) AllReadyH.nil))
          · refine step_append_e elIn rfl _ _ rfl w2.heap.size _ (ins) rfl HR3.out _ 1 1 [x] rfl HS3.out (by first | (simp only [List.length_nil]; omega) | (rw [HLEN.out]; omega)) (by have := HB3.out.size; have := HM0.out; omega) ?_; intro va4 wb4 HR4n HG4 HMv4; obtain ⟨aa4, na4, ca4, rfl⟩ := HR4n.out.any; have HR4 : Hid (OwnE 46 wb4 w2.heap.size (.slice aa4 na4 ca4) (ins ++ [x])) := HR4n; have HB4 : Hid (Below w2.heap.size w2 wb4) := HB3.out.grown HG4.out (by have := HB3.out.size; have := HM0.out; omega) (fun k hk => (HR3.out.lt k hk).1)
            simp only [Act.put, List.setIfInBounds_toArray, List.set_cons_zero, List.set_cons_succ]
            refine hK.out _ _ (HSX.out _ HB4.out) (fun hHeld => ?_)
            clear hK K
            refine wpAnyH_take (i := 9) (oi := { dst := some 29, op := .build 25 #[(0, .tmp 26), (1, .tmp 28)], type := 25, pos := "law.go:81", after := #[{ on := 6, ground := .data }, { on := 8, ground := .data }], guard := none }) (v := ?_) rfl (by kernel_rfl) (by kernel_rfl) (by kernel_rfl) (fun _ _ _ h => h) (Or.inl ⟨by rfl, ?_⟩) (by assumption) ?_
            rotate_left
            · intro _ _; go_simp; first | done | with_reducible rfl
            simp only [Act.put, List.setIfInBounds_toArray, List.set_cons_zero, List.set_cons_succ]
            refine wpAnyH_ready (rs := [10]) (by kernel_rfl) (by simp) ?_
            refine AllReadyH.cons (o := { dst := some 7, op := .alloc 25, type := 0, pos := "law.go:81", after := #[], guard := none }) rfl (fun K hK => ?_) AllReadyH.nil
            go_simp
            skip; have Hb5q : Below wb4.heap.size wb4 (wb4.alloc (.cells #[.slice none 0 0, .slice none 0 0, .int .i64 0] 25)) := (Below.refl _ wb4).alloc (Nat.le_refl _) _; have HA5q : Blk (wb4.alloc (.cells #[.slice none 0 0, .slice none 0 0, .int .i64 0] 25)) wb4.heap.size [.slice none 0 0, .slice none 0 0, .int .i64 0] := Blk.new wb4 _ _; generalize wb4.alloc (.cells #[.slice none 0 0, .slice none 0 0, .int .i64 0] 25) = wb5 at *; have Hb5 : Hid (Below wb4.heap.size wb4 wb5) := Hb5q; have HB5 : Hid (Below w2.heap.size w2 wb5) := HB4.out.trans (Hb5.out.mono (by have := HB4.out.size; have := HM0.out; omega)); have HR5 : Hid (OwnE 46 wb5 w2.heap.size (.slice aa4 na4 ca4) (ins ++ [x])) := HR4.out.below Hb5.out; have HA5 : Hid (Blk wb5 wb4.heap.size [.slice none 0 0, .slice none 0 0, .int .i64 0]) := HA5q; have HMA : Hid (w2.heap.size ≤ wb4.heap.size) := by { have := HB4.out.size; have := HM0.out; show _ ≤ _; omega }; have HN5 : Hid (∀ k, (.slice aa4 na4 ca4 : Value).ownBlock = some k → k ≠ wb4.heap.size) := fun k hk => by { have h2 := (HR4.out.lt k hk).2; omega }; clear Hb5q HA5q
            go_simp
            refine hK.out _ _ (HSX.out _ HB5.out) (fun hHeld => ?_)
            clear hK K
            refine wpAnyH_ready (rs := [11]) (by kernel_rfl) (by simp) ?_
            refine AllReadyH.cons (o := { dst := none, op := .store 25 (.tmp 7) (.tmp 29), type := 0, pos := "law.go:81", after := #[{ on := 10, ground := .data }, { on := 9, ground := .data }, { on := 6, ground := .chain }, { on := 0, ground := .phase }, { on := 1, ground := .phase }, { on := 2, ground := .phase }, { on := 3, ground := .phase }, { on := 4, ground := .phase }, { on := 5, ground := .phase }, { on := 6, ground := .phase }, { on := 7, ground := .phase }, { on := 8, ground := .phase }, { on := 9, ground := .phase }, { on := 10, ground := .phase }], guard := none }) rfl (fun K hK => ?_) AllReadyH.nil
            refine step_store_mid rfl 25 _ _ rfl wb4.heap.size 0 [.slice aa4 na4 ca4, .slice b m d, .int .i64 0] rfl rfl (HA5.out.there 0 3 (by simp)) (by kernel_rfl) (by intro v hv; simp only [List.mem_cons, List.not_mem_nil, or_false] at hv; rcases hv with rfl | rfl | rfl <;> rfl) ?_; have HBf : Hid (Below w2.heap.size w2 (wb5.setCells wb4.heap.size 0 [.slice aa4 na4 ca4, .slice b m d, .int .i64 0])) := below_setCells HMA.out _ HB5.out _; have HAf : Hid (Blk (wb5.setCells wb4.heap.size 0 [.slice aa4 na4 ca4, .slice b m d, .int .i64 0]) wb4.heap.size [.slice aa4 na4 ca4, .slice b m d, .int .i64 0]) := by { have := HA5.out.cellsAt [.slice aa4 na4 ca4, .slice b m d, .int .i64 0] 0 (by simp); exact this }; have HRf : Hid (OwnE 46 (wb5.setCells wb4.heap.size 0 [.slice aa4 na4 ca4, .slice b m d, .int .i64 0]) w2.heap.size (.slice aa4 na4 ca4) (ins ++ [x])) := HR5.out.same fun k hk => heap_setCells [.slice aa4 na4 ca4, .slice b m d, .int .i64 0] wb5 0 k (HN5.out k hk)
            simp only [Act.put]
            refine hK.out _ _ (HSX.out _ HBf.out) (fun hHeld => ?_)
            clear hK K
            refine wpAnyH_done (by kernel_rfl) ?_ _
            refine NoPanic.normal ?_
            exact HREST.out _ _ (weiA_mk w2 w2.heap.size T ins x b m d _ _ _ _ ⟨HAf, HRf, HBf, HMA⟩)
          · go_simp
            skip; have Hb4q : Below wb3.heap.size wb3 (wb3.alloc (.cells #[.slice none 0 0, .slice none 0 0, .int .i64 0] 25)) := (Below.refl _ wb3).alloc (Nat.le_refl _) _; have HA4q : Blk (wb3.alloc (.cells #[.slice none 0 0, .slice none 0 0, .int .i64 0] 25)) wb3.heap.size [.slice none 0 0, .slice none 0 0, .int .i64 0] := Blk.new wb3 _ _; generalize wb3.alloc (.cells #[.slice none 0 0, .slice none 0 0, .int .i64 0] 25) = wb4 at *; have Hb4 : Hid (Below wb3.heap.size wb3 wb4) := Hb4q; have HB4 : Hid (Below w2.heap.size w2 wb4) := HB3.out.trans (Hb4.out.mono (by have := HB3.out.size; have := HM0.out; omega)); have HR4 : Hid (OwnE 46 wb4 w2.heap.size (.slice aa2 na2 ca2) (ins)) := HR3.out.below Hb4.out; have HS4 : Hid (Els wb4 (some ⟨wb2.heap.size, 0, none⟩) 1 1 [x]) := HS3.out.below Hb4.out; have HA4 : Hid (Blk wb4 wb3.heap.size [.slice none 0 0, .slice none 0 0, .int .i64 0]) := HA4q; have HMA : Hid (w2.heap.size ≤ wb3.heap.size) := by { have := HB3.out.size; have := HM0.out; show _ ≤ _; omega }; have HN4 : Hid (∀ k, (.slice aa2 na2 ca2 : Value).ownBlock = some k → k ≠ wb3.heap.size) := fun k hk => by { have h2 := (HR3.out.lt k hk).2; omega }; clear Hb4q HA4q
            go_simp
            refine hK.out _ _ (HSX.out _ HB4.out) (fun hHeld => ?_)
            clear hK K
            refine wpAnyH_ready (rs := [6]) (by kernel_rfl) (by simp) ?_
            refine AllReadyH.cons (o := { dst := some 26, op := .call { callee := .builtin Go.Builtin.append, args := #[.tmp 23, .tmp 25], argTypes := #[22, 22] }, type := 22, pos := "law.go:81", after := #[{ on := 3, ground := .data }, { on := 5, ground := .data }, { on := 3, ground := .chain }], guard := none }) rfl (fun K hK => ?_) AllReadyH.nil
            refine step_append_e elIn rfl _ _ rfl w2.heap.size _ (ins) rfl HR4.out _ 1 1 [x] rfl HS4.out (by first | (simp only [List.length_nil]; omega) | (rw [HLEN.out]; omega)) (by have := HB4.out.size; have := HM0.out; omega) ?_; intro va5 wb5 HR5n HG5 HMv5; obtain ⟨aa5, na5, ca5, rfl⟩ := HR5n.out.any; have HR5 : Hid (OwnE 46 wb5 w2.heap.size (.slice aa5 na5 ca5) (ins ++ [x])) := HR5n; have HB5 : Hid (Below w2.heap.size w2 wb5) := HB4.out.grown HG5.out (by have := HB4.out.size; have := HM0.out; omega) (fun k hk => (HR4.out.lt k hk).1); have HA5 : Hid (Blk wb5 wb3.heap.size [.slice none 0 0, .slice none 0 0, .int .i64 0]) := HA4.out.grown HG5.out (fun e => HN4.out _ e rfl); have HN5 : Hid (∀ k, (Value.slice aa5 na5 ca5).ownBlock = some k → k ≠ wb3.heap.size) := fun k hk e => HMv5.out.apart HA4.out.lt (fun h => HN4.out _ h rfl) (e ▸ hk)
            simp only [Act.put, List.setIfInBounds_toArray, List.set_cons_zero, List.set_cons_succ]
            refine hK.out _ _ (HSX.out _ HB5.out) (fun hHeld => ?_)
            clear hK K
            refine wpAnyH_take (i := 9) (oi := { dst := some 29, op := .build 25 #[(0, .tmp 26), (1, .tmp 28)], type := 25, pos := "law.go:81", after := #[{ on := 6, ground := .data }, { on := 8, ground := .data }], guard := none }) (v := ?_) rfl (by kernel_rfl) (by kernel_rfl) (by kernel_rfl) (fun _ _ _ h => h) (Or.inl ⟨by rfl, ?_⟩) (by assumption) ?_
            rotate_left
            · intro _ _; go_simp; first | done | with_reducible rfl
            simp only [Act.put, List.setIfInBounds_toArray, List.set_cons_zero, List.set_cons_succ]
            refine wpAnyH_ready (rs := [11]) (by kernel_rfl) (by simp) ?_
            refine AllReadyH.cons (o := { dst := none, op := .store 25 (.tmp 7) (.tmp 29), type := 0, pos := "law.go:81", after := #[{ on := 10, ground := .data }, { on := 9, ground := .data }, { on := 6, ground := .chain }, { on := 0, ground := .phase }, { on := 1, ground := .phase }, { on := 2, ground := .phase }, { on := 3, ground := .phase }, { on := 4, ground := .phase }, { on := 5, ground := .phase }, { on := 6, ground := .phase }, { on := 7, ground := .phase }, { on := 8, ground := .phase }, { on := 9, ground := .phase }, { on := 10, ground := .phase }], guard := none }) rfl (fun K hK => ?_) AllReadyH.nil
            refine step_store_mid rfl 25 _ _ rfl wb3.heap.size 0 [.slice aa5 na5 ca5, .slice b m d, .int .i64 0] rfl rfl (HA5.out.there 0 3 (by simp)) (by kernel_rfl) (by intro v hv; simp only [List.mem_cons, List.not_mem_nil, or_false] at hv; rcases hv with rfl | rfl | rfl <;> rfl) ?_; have HBf : Hid (Below w2.heap.size w2 (wb5.setCells wb3.heap.size 0 [.slice aa5 na5 ca5, .slice b m d, .int .i64 0])) := below_setCells HMA.out _ HB5.out _; have HAf : Hid (Blk (wb5.setCells wb3.heap.size 0 [.slice aa5 na5 ca5, .slice b m d, .int .i64 0]) wb3.heap.size [.slice aa5 na5 ca5, .slice b m d, .int .i64 0]) := by { have := HA5.out.cellsAt [.slice aa5 na5 ca5, .slice b m d, .int .i64 0] 0 (by simp); exact this }; have HRf : Hid (OwnE 46 (wb5.setCells wb3.heap.size 0 [.slice aa5 na5 ca5, .slice b m d, .int .i64 0]) w2.heap.size (.slice aa5 na5 ca5) (ins ++ [x])) := HR5.out.same fun k hk => heap_setCells [.slice aa5 na5 ca5, .slice b m d, .int .i64 0] wb5 0 k (HN5.out k hk)
            simp only [Act.put]
            refine hK.out _ _ (HSX.out _ HBf.out) (fun hHeld => ?_)
            clear hK K
            refine wpAnyH_done (by kernel_rfl) ?_ _
            refine NoPanic.normal ?_
            exact HREST.out _ _ (weiA_mk w2 w2.heap.size T ins x b m d _ _ _ _ ⟨HAf, HRf, HBf, HMA⟩)
        · go_simp
          skip; have Hb3q : Below wb2.heap.size wb2 (wb2.alloc (.cells #[.slice none 0 0, .slice none 0 0, .int .i64 0] 25)) := (Below.refl _ wb2).alloc (Nat.le_refl _) _; have HA3q : Blk (wb2.alloc (.cells #[.slice none 0 0, .slice none 0 0, .int .i64 0] 25)) wb2.heap.size [.slice none 0 0, .slice none 0 0, .int .i64 0] := Blk.new wb2 _ _; generalize wb2.alloc (.cells #[.slice none 0 0, .slice none 0 0, .int .i64 0] 25) = wb3 at *; have Hb3 : Hid (Below wb2.heap.size wb2 wb3) := Hb3q; have HB3 : Hid (Below w2.heap.size w2 wb3) := HB2.out.trans (Hb3.out.mono (by have := HB2.out.size; have := HM0.out; omega)); have HR3 : Hid (OwnE 46 wb3 w2.heap.size (.slice aa2 na2 ca2) (ins)) := HR2.out.below Hb3.out; have HA3 : Hid (Blk wb3 wb2.heap.size [.slice none 0 0, .slice none 0 0, .int .i64 0]) := HA3q; have HMA : Hid (w2.heap.size ≤ wb2.heap.size) := by { have := HB2.out.size; have := HM0.out; show _ ≤ _; omega }; have HN3 : Hid (∀ k, (.slice aa2 na2 ca2 : Value).ownBlock = some k → k ≠ wb2.heap.size) := fun k hk => by { have h2 := (HR2.out.lt k hk).2; omega }; clear Hb3q HA3q
          go_simp
          refine hK.out _ _ (HSX.out _ HB3.out) (fun hHeld => ?_)
          clear hK K
          refine wpAnyH_ready (rs := [5]) (by kernel_rfl) (by simp) ?_
          refine AllReadyH.cons (o := { dst := some 25, op := .buildSlice 22 1 #[(0, .tmp 24)], type := 22, pos := "law.go:81", after := #[{ on := 4, ground := .data }], guard := none }) rfl (fun K hK => ?_) AllReadyH.nil
          refine step_build_one elIn rfl _ rfl x rfl ?_; intro wb4 HS4n Hb4n; have Hb4 : Hid (Below wb3.heap.size wb3 wb4) := Hb4n; have HS4 : Hid (Els wb4 (some ⟨wb3.heap.size, 0, none⟩) 1 1 [x]) := HS4n; have HB4 : Hid (Below w2.heap.size w2 wb4) := HB3.out.trans (Hb4.out.mono (by have := HB3.out.size; have := HM0.out; omega)); have HR4 : Hid (OwnE 46 wb4 w2.heap.size (.slice aa2 na2 ca2) (ins)) := HR3.out.below Hb4.out; have HA4 : Hid (Blk wb4 wb2.heap.size [.slice none 0 0, .slice none 0 0, .int .i64 0]) := HA3.out.below Hb4.out HA3.out.lt
          simp only [Act.put, List.setIfInBounds_toArray, List.set_cons_zero, List.set_cons_succ]
          refine hK.out _ _ (HSX.out _ HB4.out) (fun hHeld => ?_)
          clear hK K
          refine wpAnyH_ready (rs := [6]) (by kernel_rfl) (by simp) ?_
          refine AllReadyH.cons (o := { dst := some 26, op := .call { callee := .builtin Go.Builtin.append, args := #[.tmp 23, .tmp 25], argTypes := #[22, 22] }, type := 22, pos := "law.go:81", after := #[{ on := 3, ground := .data }, { on := 5, ground := .data }, { on := 3, ground := .chain }], guard := none }) rfl (fun K hK => ?_) AllReadyH.nil
          refine step_append_e elIn rfl _ _ rfl w2.heap.size _ (ins) rfl HR4.out _ 1 1 [x] rfl HS4.out (by first | (simp only [List.length_nil]; omega) | (rw [HLEN.out]; omega)) (by have := HB4.out.size; have := HM0.out; omega) ?_; intro va5 wb5 HR5n HG5 HMv5; obtain ⟨aa5, na5, ca5, rfl⟩ := HR5n.out.any; have HR5 : Hid (OwnE 46 wb5 w2.heap.size (.slice aa5 na5 ca5) (ins ++ [x])) := HR5n; have HB5 : Hid (Below w2.heap.size w2 wb5) := HB4.out.grown HG5.out (by have := HB4.out.size; have := HM0.out; omega) (fun k hk => (HR4.out.lt k hk).1); have HA5 : Hid (Blk wb5 wb2.heap.size [.slice none 0 0, .slice none 0 0, .int .i64 0]) := HA4.out.grown HG5.out (fun e => HN3.out _ e rfl); have HN5 : Hid (∀ k, (Value.slice aa5 na5 ca5).ownBlock = some k → k ≠ wb2.heap.size) := fun k hk e => HMv5.out.apart HA4.out.lt (fun h => HN3.out _ h rfl) (e ▸ hk)
          simp only [Act.put, List.setIfInBounds_toArray, List.set_cons_zero, List.set_cons_succ]
          refine hK.out _ _ (HSX.out _ HB5.out) (fun hHeld => ?_)
          clear hK K
          refine wpAnyH_take (i := 9) (oi := { dst := some 29, op := .build 25 #[(0, .tmp 26), (1, .tmp 28)], type := 25, pos := "law.go:81", after := #[{ on := 6, ground := .data }, { on := 8, ground := .data }], guard := none }) (v := ?_) rfl (by kernel_rfl) (by kernel_rfl) (by kernel_rfl) (fun _ _ _ h => h) (Or.inl ⟨by rfl, ?_⟩) (by assumption) ?_
          rotate_left
          · intro _ _; go_simp; first | done | with_reducible rfl
          simp only [Act.put, List.setIfInBounds_toArray, List.set_cons_zero, List.set_cons_succ]
          refine wpAnyH_ready (rs := [11]) (by kernel_rfl) (by simp) ?_
          refine AllReadyH.cons (o := { dst := none, op := .store 25 (.tmp 7) (.tmp 29), type := 0, pos := "law.go:81", after := #[{ on := 10, ground := .data }, { on := 9, ground := .data }, { on := 6, ground := .chain }, { on := 0, ground := .phase }, { on := 1, ground := .phase }, { on := 2, ground := .phase }, { on := 3, ground := .phase }, { on := 4, ground := .phase }, { on := 5, ground := .phase }, { on := 6, ground := .phase }, { on := 7, ground := .phase }, { on := 8, ground := .phase }, { on := 9, ground := .phase }, { on := 10, ground := .phase }], guard := none }) rfl (fun K hK => ?_) AllReadyH.nil
          refine step_store_mid rfl 25 _ _ rfl wb2.heap.size 0 [.slice aa5 na5 ca5, .slice b m d, .int .i64 0] rfl rfl (HA5.out.there 0 3 (by simp)) (by kernel_rfl) (by intro v hv; simp only [List.mem_cons, List.not_mem_nil, or_false] at hv; rcases hv with rfl | rfl | rfl <;> rfl) ?_; have HBf : Hid (Below w2.heap.size w2 (wb5.setCells wb2.heap.size 0 [.slice aa5 na5 ca5, .slice b m d, .int .i64 0])) := below_setCells HMA.out _ HB5.out _; have HAf : Hid (Blk (wb5.setCells wb2.heap.size 0 [.slice aa5 na5 ca5, .slice b m d, .int .i64 0]) wb2.heap.size [.slice aa5 na5 ca5, .slice b m d, .int .i64 0]) := by { have := HA5.out.cellsAt [.slice aa5 na5 ca5, .slice b m d, .int .i64 0] 0 (by simp); exact this }; have HRf : Hid (OwnE 46 (wb5.setCells wb2.heap.size 0 [.slice aa5 na5 ca5, .slice b m d, .int .i64 0]) w2.heap.size (.slice aa5 na5 ca5) (ins ++ [x])) := HR5.out.same fun k hk => heap_setCells [.slice aa5 na5 ca5, .slice b m d, .int .i64 0] wb5 0 k (HN5.out k hk)
          simp only [Act.put]
          refine hK.out _ _ (HSX.out _ HBf.out) (fun hHeld => ?_)
          clear hK K
          refine wpAnyH_done (by kernel_rfl) ?_ _
          refine NoPanic.normal ?_
          exact HREST.out _ _ (weiA_mk w2 w2.heap.size T ins x b m d _ _ _ _ ⟨HAf, HRf, HBf, HMA⟩)
      · refine step_build_one elIn rfl _ rfl x rfl ?_; intro wb2 HS2n Hb2n; have Hb2 : Hid (Below wb1.heap.size wb1 wb2) := Hb2n; have HS2 : Hid (Els wb2 (some ⟨wb1.heap.size, 0, none⟩) 1 1 [x]) := HS2n; have HD : Hid (w2.heap.size ≠ wb1.heap.size) := by { have := (HR1.out.lt w2.heap.size rfl).2; show _ ≠ _; omega }; have HB2 : Hid (Below w2.heap.size w2 wb2) := HB1.out.trans (Hb2.out.mono (by have := HB1.out.size; have := HM0.out; omega)); have HR2 : Hid (OwnE 46 wb2 w2.heap.size (.slice (some ⟨w2.heap.size, 0, none⟩) 0 0) (([] : List In))) := HR1.out.below Hb2.out
        simp only [Act.put, List.setIfInBounds_toArray, List.set_cons_zero, List.set_cons_succ]
        refine hK.out _ _ (HSX.out _ HB2.out) (fun hHeld => ?_)
        clear hK K
        refine wpAnyH_ready (rs := [3, 10]) (by kernel_rfl) (by simp) ?_
        refine (AllReadyH.cons (o := { dst := some 23, op := .call { callee := .builtin Go.Builtin.append, args := #[.tmp 20, .tmp 22], argTypes := #[22, 22] }, type := 22, pos := "law.go:81", after := #[{ on := 0, ground := .data }, { on := 2, ground := .data }], guard := none }) rfl (fun K hK => ?_) (AllReadyH.cons (o := { dst := some 7, op := .alloc 25, type := 0, pos := "law.go:81", after := #[], guard := none }) rfl (fun K hK => ?_) AllReadyH.nil))
        · refine step_append_e elIn rfl _ _ rfl w2.heap.size _ (([] : List In)) rfl HR2.out _ _ _ ins rfl (HSRC.out _ HB2.out) (by first | (simp only [List.length_nil]; omega) | (rw [HLEN.out]; omega)) (by have := HB2.out.size; have := HM0.out; omega) ?_; intro va3 wb3 HR3n HG3 HMv3; obtain ⟨aa3, na3, ca3, rfl⟩ := HR3n.out.any; have HR3 : Hid (OwnE 46 wb3 w2.heap.size (.slice aa3 na3 ca3) (ins)) := HR3n; have HB3 : Hid (Below w2.heap.size w2 wb3) := HB2.out.grown HG3.out (by have := HB2.out.size; have := HM0.out; omega) (fun k hk => (HR2.out.lt k hk).1); have HS3 : Hid (Els wb3 (some ⟨wb1.heap.size, 0, none⟩) 1 1 [x]) := HS2.out.later fun b o _ e => HG3.out.block b (HS2.out.blockLt e) (fun h => by { have h1 : some b = some w2.heap.size := h; injection h1 with h1; injection e with e; injection e with e; have := HD.out; omega })
          simp only [Act.put, List.setIfInBounds_toArray, List.set_cons_zero, List.set_cons_succ]
          refine hK.out _ _ (HSX.out _ HB3.out) (fun hHeld => ?_)
          clear hK K
          refine wpAnyH_ready (rs := [6, 10]) (by kernel_rfl) (by simp) ?_
          refine (AllReadyH.cons (o := { dst := some 26, op := .call { callee := .builtin Go.Builtin.append, args := #[.tmp 23, .tmp 25], argTypes := #[22, 22] }, type := 22, pos := "law.go:81", after := #[{ on := 3, ground := .data }, { on := 5, ground := .data }, { on := 3, ground := .chain }], guard := none }) rfl (fun K hK => ?_) (AllReadyH.cons (o := { dst := some 7, op := .alloc 25, type := 0, pos := "law.go:81", after := #[], guard := none }) rfl (fun K hK => ?_) AllReadyH.nil))
          · refine step_append_e elIn rfl _ _ rfl w2.heap.size _ (ins) rfl HR3.out _ 1 1 [x] rfl HS3.out (by first | (simp only [List.length_nil]; omega) | (rw [HLEN.out]; omega)) (by have := HB3.out.size; have := HM0.out; omega) ?_; intro va4 wb4 HR4n HG4 HMv4; obtain ⟨aa4, na4, ca4, rfl⟩ := HR4n.out.any; have HR4 : Hid (OwnE 46 wb4 w2.heap.size (.slice aa4 na4 ca4) (ins ++ [x])) := HR4n; have HB4 : Hid (Below w2.heap.size w2 wb4) := HB3.out.grown HG4.out (by have := HB3.out.size; have := HM0.out; omega) (fun k hk => (HR3.out.lt k hk).1)
            simp only [Act.put, List.setIfInBounds_toArray, List.set_cons_zero, List.set_cons_succ]
            refine hK.out _ _ (HSX.out _ HB4.out) (fun hHeld => ?_)
            clear hK K
            refine wpAnyH_take (i := 9) (oi := { dst := some 29, op := .build 25 #[(0, .tmp 26), (1, .tmp 28)], type := 25, pos := "law.go:81", after := #[{ on := 6, ground := .data }, { on := 8, ground := .data }], guard := none }) (v := ?_) rfl (by kernel_rfl) (by kernel_rfl) (by kernel_rfl) (fun _ _ _ h => h) (Or.inl ⟨by rfl, ?_⟩) (by assumption) ?_
            rotate_left
            · intro _ _; go_simp; first | done | with_reducible rfl
            simp only [Act.put, List.setIfInBounds_toArray, List.set_cons_zero, List.set_cons_succ]
            refine wpAnyH_ready (rs := [10]) (by kernel_rfl) (by simp) ?_
            refine AllReadyH.cons (o := { dst := some 7, op := .alloc 25, type := 0, pos := "law.go:81", after := #[], guard := none }) rfl (fun K hK => ?_) AllReadyH.nil
            go_simp
            skip; have Hb5q : Below wb4.heap.size wb4 (wb4.alloc (.cells #[.slice none 0 0, .slice none 0 0, .int .i64 0] 25)) := (Below.refl _ wb4).alloc (Nat.le_refl _) _; have HA5q : Blk (wb4.alloc (.cells #[.slice none 0 0, .slice none 0 0, .int .i64 0] 25)) wb4.heap.size [.slice none 0 0, .slice none 0 0, .int .i64 0] := Blk.new wb4 _ _; generalize wb4.alloc (.cells #[.slice none 0 0, .slice none 0 0, .int .i64 0] 25) = wb5 at *; have Hb5 : Hid (Below wb4.heap.size wb4 wb5) := Hb5q; have HB5 : Hid (Below w2.heap.size w2 wb5) := HB4.out.trans (Hb5.out.mono (by have := HB4.out.size; have := HM0.out; omega)); have HR5 : Hid (OwnE 46 wb5 w2.heap.size (.slice aa4 na4 ca4) (ins ++ [x])) := HR4.out.below Hb5.out; have HA5 : Hid (Blk wb5 wb4.heap.size [.slice none 0 0, .slice none 0 0, .int .i64 0]) := HA5q; have HMA : Hid (w2.heap.size ≤ wb4.heap.size) := by { have := HB4.out.size; have := HM0.out; show _ ≤ _; omega }; have HN5 : Hid (∀ k, (.slice aa4 na4 ca4 : Value).ownBlock = some k → k ≠ wb4.heap.size) := fun k hk => by { have h2 := (HR4.out.lt k hk).2; omega }; clear Hb5q HA5q
            go_simp
            refine hK.out _ _ (HSX.out _ HB5.out) (fun hHeld => ?_)
            clear hK K
            refine wpAnyH_ready (rs := [11]) (by kernel_rfl) (by simp) ?_
            refine AllReadyH.cons (o := { dst := none, op := .store 25 (.tmp 7) (.tmp 29), type := 0, pos := "law.go:81", after := #[{ on := 10, ground := .data }, { on := 9, ground := .data }, { on := 6, ground := .chain }, { on := 0, ground := .phase }, { on := 1, ground := .phase }, { on := 2, ground := .phase }, { on := 3, ground := .phase }, { on := 4, ground := .phase }, { on := 5, ground := .phase }, { on := 6, ground := .phase }, { on := 7, ground := .phase }, { on := 8, ground := .phase }, { on := 9, ground := .phase }, { on := 10, ground := .phase }], guard := none }) rfl (fun K hK => ?_) AllReadyH.nil
            refine step_store_mid rfl 25 _ _ rfl wb4.heap.size 0 [.slice aa4 na4 ca4, .slice b m d, .int .i64 0] rfl rfl (HA5.out.there 0 3 (by simp)) (by kernel_rfl) (by intro v hv; simp only [List.mem_cons, List.not_mem_nil, or_false] at hv; rcases hv with rfl | rfl | rfl <;> rfl) ?_; have HBf : Hid (Below w2.heap.size w2 (wb5.setCells wb4.heap.size 0 [.slice aa4 na4 ca4, .slice b m d, .int .i64 0])) := below_setCells HMA.out _ HB5.out _; have HAf : Hid (Blk (wb5.setCells wb4.heap.size 0 [.slice aa4 na4 ca4, .slice b m d, .int .i64 0]) wb4.heap.size [.slice aa4 na4 ca4, .slice b m d, .int .i64 0]) := by { have := HA5.out.cellsAt [.slice aa4 na4 ca4, .slice b m d, .int .i64 0] 0 (by simp); exact this }; have HRf : Hid (OwnE 46 (wb5.setCells wb4.heap.size 0 [.slice aa4 na4 ca4, .slice b m d, .int .i64 0]) w2.heap.size (.slice aa4 na4 ca4) (ins ++ [x])) := HR5.out.same fun k hk => heap_setCells [.slice aa4 na4 ca4, .slice b m d, .int .i64 0] wb5 0 k (HN5.out k hk)
            simp only [Act.put]
            refine hK.out _ _ (HSX.out _ HBf.out) (fun hHeld => ?_)
            clear hK K
            refine wpAnyH_done (by kernel_rfl) ?_ _
            refine NoPanic.normal ?_
            exact HREST.out _ _ (weiA_mk w2 w2.heap.size T ins x b m d _ _ _ _ ⟨HAf, HRf, HBf, HMA⟩)
          · go_simp
            skip; have Hb4q : Below wb3.heap.size wb3 (wb3.alloc (.cells #[.slice none 0 0, .slice none 0 0, .int .i64 0] 25)) := (Below.refl _ wb3).alloc (Nat.le_refl _) _; have HA4q : Blk (wb3.alloc (.cells #[.slice none 0 0, .slice none 0 0, .int .i64 0] 25)) wb3.heap.size [.slice none 0 0, .slice none 0 0, .int .i64 0] := Blk.new wb3 _ _; generalize wb3.alloc (.cells #[.slice none 0 0, .slice none 0 0, .int .i64 0] 25) = wb4 at *; have Hb4 : Hid (Below wb3.heap.size wb3 wb4) := Hb4q; have HB4 : Hid (Below w2.heap.size w2 wb4) := HB3.out.trans (Hb4.out.mono (by have := HB3.out.size; have := HM0.out; omega)); have HR4 : Hid (OwnE 46 wb4 w2.heap.size (.slice aa3 na3 ca3) (ins)) := HR3.out.below Hb4.out; have HS4 : Hid (Els wb4 (some ⟨wb1.heap.size, 0, none⟩) 1 1 [x]) := HS3.out.below Hb4.out; have HA4 : Hid (Blk wb4 wb3.heap.size [.slice none 0 0, .slice none 0 0, .int .i64 0]) := HA4q; have HMA : Hid (w2.heap.size ≤ wb3.heap.size) := by { have := HB3.out.size; have := HM0.out; show _ ≤ _; omega }; have HN4 : Hid (∀ k, (.slice aa3 na3 ca3 : Value).ownBlock = some k → k ≠ wb3.heap.size) := fun k hk => by { have h2 := (HR3.out.lt k hk).2; omega }; clear Hb4q HA4q
            go_simp
            refine hK.out _ _ (HSX.out _ HB4.out) (fun hHeld => ?_)
            clear hK K
            refine wpAnyH_ready (rs := [6]) (by kernel_rfl) (by simp) ?_
            refine AllReadyH.cons (o := { dst := some 26, op := .call { callee := .builtin Go.Builtin.append, args := #[.tmp 23, .tmp 25], argTypes := #[22, 22] }, type := 22, pos := "law.go:81", after := #[{ on := 3, ground := .data }, { on := 5, ground := .data }, { on := 3, ground := .chain }], guard := none }) rfl (fun K hK => ?_) AllReadyH.nil
            refine step_append_e elIn rfl _ _ rfl w2.heap.size _ (ins) rfl HR4.out _ 1 1 [x] rfl HS4.out (by first | (simp only [List.length_nil]; omega) | (rw [HLEN.out]; omega)) (by have := HB4.out.size; have := HM0.out; omega) ?_; intro va5 wb5 HR5n HG5 HMv5; obtain ⟨aa5, na5, ca5, rfl⟩ := HR5n.out.any; have HR5 : Hid (OwnE 46 wb5 w2.heap.size (.slice aa5 na5 ca5) (ins ++ [x])) := HR5n; have HB5 : Hid (Below w2.heap.size w2 wb5) := HB4.out.grown HG5.out (by have := HB4.out.size; have := HM0.out; omega) (fun k hk => (HR4.out.lt k hk).1); have HA5 : Hid (Blk wb5 wb3.heap.size [.slice none 0 0, .slice none 0 0, .int .i64 0]) := HA4.out.grown HG5.out (fun e => HN4.out _ e rfl); have HN5 : Hid (∀ k, (Value.slice aa5 na5 ca5).ownBlock = some k → k ≠ wb3.heap.size) := fun k hk e => HMv5.out.apart HA4.out.lt (fun h => HN4.out _ h rfl) (e ▸ hk)
            simp only [Act.put, List.setIfInBounds_toArray, List.set_cons_zero, List.set_cons_succ]
            refine hK.out _ _ (HSX.out _ HB5.out) (fun hHeld => ?_)
            clear hK K
            refine wpAnyH_take (i := 9) (oi := { dst := some 29, op := .build 25 #[(0, .tmp 26), (1, .tmp 28)], type := 25, pos := "law.go:81", after := #[{ on := 6, ground := .data }, { on := 8, ground := .data }], guard := none }) (v := ?_) rfl (by kernel_rfl) (by kernel_rfl) (by kernel_rfl) (fun _ _ _ h => h) (Or.inl ⟨by rfl, ?_⟩) (by assumption) ?_
            rotate_left
            · intro _ _; go_simp; first | done | with_reducible rfl
            simp only [Act.put, List.setIfInBounds_toArray, List.set_cons_zero, List.set_cons_succ]
            refine wpAnyH_ready (rs := [11]) (by kernel_rfl) (by simp) ?_
            refine AllReadyH.cons (o := { dst := none, op := .store 25 (.tmp 7) (.tmp 29), type := 0, pos := "law.go:81", after := #[{ on := 10, ground := .data }, { on := 9, ground := .data }, { on := 6, ground := .chain }, { on := 0, ground := .phase }, { on := 1, ground := .phase }, { on := 2, ground := .phase }, { on := 3, ground := .phase }, { on := 4, ground := .phase }, { on := 5, ground := .phase }, { on := 6, ground := .phase }, { on := 7, ground := .phase }, { on := 8, ground := .phase }, { on := 9, ground := .phase }, { on := 10, ground := .phase }], guard := none }) rfl (fun K hK => ?_) AllReadyH.nil
            refine step_store_mid rfl 25 _ _ rfl wb3.heap.size 0 [.slice aa5 na5 ca5, .slice b m d, .int .i64 0] rfl rfl (HA5.out.there 0 3 (by simp)) (by kernel_rfl) (by intro v hv; simp only [List.mem_cons, List.not_mem_nil, or_false] at hv; rcases hv with rfl | rfl | rfl <;> rfl) ?_; have HBf : Hid (Below w2.heap.size w2 (wb5.setCells wb3.heap.size 0 [.slice aa5 na5 ca5, .slice b m d, .int .i64 0])) := below_setCells HMA.out _ HB5.out _; have HAf : Hid (Blk (wb5.setCells wb3.heap.size 0 [.slice aa5 na5 ca5, .slice b m d, .int .i64 0]) wb3.heap.size [.slice aa5 na5 ca5, .slice b m d, .int .i64 0]) := by { have := HA5.out.cellsAt [.slice aa5 na5 ca5, .slice b m d, .int .i64 0] 0 (by simp); exact this }; have HRf : Hid (OwnE 46 (wb5.setCells wb3.heap.size 0 [.slice aa5 na5 ca5, .slice b m d, .int .i64 0]) w2.heap.size (.slice aa5 na5 ca5) (ins ++ [x])) := HR5.out.same fun k hk => heap_setCells [.slice aa5 na5 ca5, .slice b m d, .int .i64 0] wb5 0 k (HN5.out k hk)
            simp only [Act.put]
            refine hK.out _ _ (HSX.out _ HBf.out) (fun hHeld => ?_)
            clear hK K
            refine wpAnyH_done (by kernel_rfl) ?_ _
            refine NoPanic.normal ?_
            exact HREST.out _ _ (weiA_mk w2 w2.heap.size T ins x b m d _ _ _ _ ⟨HAf, HRf, HBf, HMA⟩)
        · go_simp
          skip; have Hb3q : Below wb2.heap.size wb2 (wb2.alloc (.cells #[.slice none 0 0, .slice none 0 0, .int .i64 0] 25)) := (Below.refl _ wb2).alloc (Nat.le_refl _) _; have HA3q : Blk (wb2.alloc (.cells #[.slice none 0 0, .slice none 0 0, .int .i64 0] 25)) wb2.heap.size [.slice none 0 0, .slice none 0 0, .int .i64 0] := Blk.new wb2 _ _; generalize wb2.alloc (.cells #[.slice none 0 0, .slice none 0 0, .int .i64 0] 25) = wb3 at *; have Hb3 : Hid (Below wb2.heap.size wb2 wb3) := Hb3q; have HB3 : Hid (Below w2.heap.size w2 wb3) := HB2.out.trans (Hb3.out.mono (by have := HB2.out.size; have := HM0.out; omega)); have HR3 : Hid (OwnE 46 wb3 w2.heap.size (.slice (some ⟨w2.heap.size, 0, none⟩) 0 0) (([] : List In))) := HR2.out.below Hb3.out; have HS3 : Hid (Els wb3 (some ⟨wb1.heap.size, 0, none⟩) 1 1 [x]) := HS2.out.below Hb3.out; have HA3 : Hid (Blk wb3 wb2.heap.size [.slice none 0 0, .slice none 0 0, .int .i64 0]) := HA3q; have HMA : Hid (w2.heap.size ≤ wb2.heap.size) := by { have := HB2.out.size; have := HM0.out; show _ ≤ _; omega }; have HN3 : Hid (∀ k, (.slice (some ⟨w2.heap.size, 0, none⟩) 0 0 : Value).ownBlock = some k → k ≠ wb2.heap.size) := fun k hk => by { have h2 := (HR2.out.lt k hk).2; omega }; clear Hb3q HA3q
          go_simp
          refine hK.out _ _ (HSX.out _ HB3.out) (fun hHeld => ?_)
          clear hK K
          refine wpAnyH_ready (rs := [3]) (by kernel_rfl) (by simp) ?_
          refine AllReadyH.cons (o := { dst := some 23, op := .call { callee := .builtin Go.Builtin.append, args := #[.tmp 20, .tmp 22], argTypes := #[22, 22] }, type := 22, pos := "law.go:81", after := #[{ on := 0, ground := .data }, { on := 2, ground := .data }], guard := none }) rfl (fun K hK => ?_) AllReadyH.nil
          refine step_append_e elIn rfl _ _ rfl w2.heap.size _ (([] : List In)) rfl HR3.out _ _ _ ins rfl (HSRC.out _ HB3.out) (by first | (simp only [List.length_nil]; omega) | (rw [HLEN.out]; omega)) (by have := HB3.out.size; have := HM0.out; omega) ?_; intro va4 wb4 HR4n HG4 HMv4; obtain ⟨aa4, na4, ca4, rfl⟩ := HR4n.out.any; have HR4 : Hid (OwnE 46 wb4 w2.heap.size (.slice aa4 na4 ca4) (ins)) := HR4n; have HB4 : Hid (Below w2.heap.size w2 wb4) := HB3.out.grown HG4.out (by have := HB3.out.size; have := HM0.out; omega) (fun k hk => (HR3.out.lt k hk).1); have HS4 : Hid (Els wb4 (some ⟨wb1.heap.size, 0, none⟩) 1 1 [x]) := HS3.out.later fun b o _ e => HG4.out.block b (HS3.out.blockLt e) (fun h => by { have h1 : some b = some w2.heap.size := h; injection h1 with h1; injection e with e; injection e with e; have := HD.out; omega }); have HA4 : Hid (Blk wb4 wb2.heap.size [.slice none 0 0, .slice none 0 0, .int .i64 0]) := HA3.out.grown HG4.out (fun e => HN3.out _ e rfl); have HN4 : Hid (∀ k, (Value.slice aa4 na4 ca4).ownBlock = some k → k ≠ wb2.heap.size) := fun k hk e => HMv4.out.apart HA3.out.lt (fun h => HN3.out _ h rfl) (e ▸ hk)
          simp only [Act.put, List.setIfInBounds_toArray, List.set_cons_zero, List.set_cons_succ]
          refine hK.out _ _ (HSX.out _ HB4.out) (fun hHeld => ?_)
          clear hK K
          refine wpAnyH_ready (rs := [6]) (by kernel_rfl) (by simp) ?_
          refine AllReadyH.cons (o := { dst := some 26, op := .call { callee := .builtin Go.Builtin.append, args := #[.tmp 23, .tmp 25], argTypes := #[22, 22] }, type := 22, pos := "law.go:81", after := #[{ on := 3, ground := .data }, { on := 5, ground := .data }, { on := 3, ground := .chain }], guard := none }) rfl (fun K hK => ?_) AllReadyH.nil
          refine step_append_e elIn rfl _ _ rfl w2.heap.size _ (ins) rfl HR4.out _ 1 1 [x] rfl HS4.out (by first | (simp only [List.length_nil]; omega) | (rw [HLEN.out]; omega)) (by have := HB4.out.size; have := HM0.out; omega) ?_; intro va5 wb5 HR5n HG5 HMv5; obtain ⟨aa5, na5, ca5, rfl⟩ := HR5n.out.any; have HR5 : Hid (OwnE 46 wb5 w2.heap.size (.slice aa5 na5 ca5) (ins ++ [x])) := HR5n; have HB5 : Hid (Below w2.heap.size w2 wb5) := HB4.out.grown HG5.out (by have := HB4.out.size; have := HM0.out; omega) (fun k hk => (HR4.out.lt k hk).1); have HA5 : Hid (Blk wb5 wb2.heap.size [.slice none 0 0, .slice none 0 0, .int .i64 0]) := HA4.out.grown HG5.out (fun e => HN4.out _ e rfl); have HN5 : Hid (∀ k, (Value.slice aa5 na5 ca5).ownBlock = some k → k ≠ wb2.heap.size) := fun k hk e => HMv5.out.apart HA4.out.lt (fun h => HN4.out _ h rfl) (e ▸ hk)
          simp only [Act.put, List.setIfInBounds_toArray, List.set_cons_zero, List.set_cons_succ]
          refine hK.out _ _ (HSX.out _ HB5.out) (fun hHeld => ?_)
          clear hK K
          refine wpAnyH_take (i := 9) (oi := { dst := some 29, op := .build 25 #[(0, .tmp 26), (1, .tmp 28)], type := 25, pos := "law.go:81", after := #[{ on := 6, ground := .data }, { on := 8, ground := .data }], guard := none }) (v := ?_) rfl (by kernel_rfl) (by kernel_rfl) (by kernel_rfl) (fun _ _ _ h => h) (Or.inl ⟨by rfl, ?_⟩) (by assumption) ?_
          rotate_left
          · intro _ _; go_simp; first | done | with_reducible rfl
          simp only [Act.put, List.setIfInBounds_toArray, List.set_cons_zero, List.set_cons_succ]
          refine wpAnyH_ready (rs := [11]) (by kernel_rfl) (by simp) ?_
          refine AllReadyH.cons (o := { dst := none, op := .store 25 (.tmp 7) (.tmp 29), type := 0, pos := "law.go:81", after := #[{ on := 10, ground := .data }, { on := 9, ground := .data }, { on := 6, ground := .chain }, { on := 0, ground := .phase }, { on := 1, ground := .phase }, { on := 2, ground := .phase }, { on := 3, ground := .phase }, { on := 4, ground := .phase }, { on := 5, ground := .phase }, { on := 6, ground := .phase }, { on := 7, ground := .phase }, { on := 8, ground := .phase }, { on := 9, ground := .phase }, { on := 10, ground := .phase }], guard := none }) rfl (fun K hK => ?_) AllReadyH.nil
          refine step_store_mid rfl 25 _ _ rfl wb2.heap.size 0 [.slice aa5 na5 ca5, .slice b m d, .int .i64 0] rfl rfl (HA5.out.there 0 3 (by simp)) (by kernel_rfl) (by intro v hv; simp only [List.mem_cons, List.not_mem_nil, or_false] at hv; rcases hv with rfl | rfl | rfl <;> rfl) ?_; have HBf : Hid (Below w2.heap.size w2 (wb5.setCells wb2.heap.size 0 [.slice aa5 na5 ca5, .slice b m d, .int .i64 0])) := below_setCells HMA.out _ HB5.out _; have HAf : Hid (Blk (wb5.setCells wb2.heap.size 0 [.slice aa5 na5 ca5, .slice b m d, .int .i64 0]) wb2.heap.size [.slice aa5 na5 ca5, .slice b m d, .int .i64 0]) := by { have := HA5.out.cellsAt [.slice aa5 na5 ca5, .slice b m d, .int .i64 0] 0 (by simp); exact this }; have HRf : Hid (OwnE 46 (wb5.setCells wb2.heap.size 0 [.slice aa5 na5 ca5, .slice b m d, .int .i64 0]) w2.heap.size (.slice aa5 na5 ca5) (ins ++ [x])) := HR5.out.same fun k hk => heap_setCells [.slice aa5 na5 ca5, .slice b m d, .int .i64 0] wb5 0 k (HN5.out k hk)
          simp only [Act.put]
          refine hK.out _ _ (HSX.out _ HBf.out) (fun hHeld => ?_)
          clear hK K
          refine wpAnyH_done (by kernel_rfl) ?_ _
          refine NoPanic.normal ?_
          exact HREST.out _ _ (weiA_mk w2 w2.heap.size T ins x b m d _ _ _ _ ⟨HAf, HRf, HBf, HMA⟩)
      · go_simp
        skip; have Hb2q : Below wb1.heap.size wb1 (wb1.alloc (.cells #[.slice none 0 0, .slice none 0 0, .int .i64 0] 25)) := (Below.refl _ wb1).alloc (Nat.le_refl _) _; have HA2q : Blk (wb1.alloc (.cells #[.slice none 0 0, .slice none 0 0, .int .i64 0] 25)) wb1.heap.size [.slice none 0 0, .slice none 0 0, .int .i64 0] := Blk.new wb1 _ _; generalize wb1.alloc (.cells #[.slice none 0 0, .slice none 0 0, .int .i64 0] 25) = wb2 at *; have Hb2 : Hid (Below wb1.heap.size wb1 wb2) := Hb2q; have HB2 : Hid (Below w2.heap.size w2 wb2) := HB1.out.trans (Hb2.out.mono (by have := HB1.out.size; have := HM0.out; omega)); have HR2 : Hid (OwnE 46 wb2 w2.heap.size (.slice (some ⟨w2.heap.size, 0, none⟩) 0 0) (([] : List In))) := HR1.out.below Hb2.out; have HA2 : Hid (Blk wb2 wb1.heap.size [.slice none 0 0, .slice none 0 0, .int .i64 0]) := HA2q; have HMA : Hid (w2.heap.size ≤ wb1.heap.size) := by { have := HB1.out.size; have := HM0.out; show _ ≤ _; omega }; have HN2 : Hid (∀ k, (.slice (some ⟨w2.heap.size, 0, none⟩) 0 0 : Value).ownBlock = some k → k ≠ wb1.heap.size) := fun k hk => by { have h2 := (HR1.out.lt k hk).2; omega }; clear Hb2q HA2q
        go_simp
        refine hK.out _ _ (HSX.out _ HB2.out) (fun hHeld => ?_)
        clear hK K
        refine wpAnyH_ready (rs := [3, 5]) (by kernel_rfl) (by simp) ?_
        refine (AllReadyH.cons (o := { dst := some 23, op := .call { callee := .builtin Go.Builtin.append, args := #[.tmp 20, .tmp 22], argTypes := #[22, 22] }, type := 22, pos := "law.go:81", after := #[{ on := 0, ground := .data }, { on := 2, ground := .data }], guard := none }) rfl (fun K hK => ?_) (AllReadyH.cons (o := { dst := some 25, op := .buildSlice 22 1 #[(0, .tmp 24)], type := 22, pos := "law.go:81", after := #[{ on := 4, ground := .data }], guard := none }) rfl (fun K hK => ?_) AllReadyH.nil))
        · refine step_append_e elIn rfl _ _ rfl w2.heap.size _ (([] : List In)) rfl HR2.out _ _ _ ins rfl (HSRC.out _ HB2.out) (by first | (simp only [List.length_nil]; omega) | (rw [HLEN.out]; omega)) (by have := HB2.out.size; have := HM0.out; omega) ?_; intro va3 wb3 HR3n HG3 HMv3; obtain ⟨aa3, na3, ca3, rfl⟩ := HR3n.out.any; have HR3 : Hid (OwnE 46 wb3 w2.heap.size (.slice aa3 na3 ca3) (ins)) := HR3n; have HB3 : Hid (Below w2.heap.size w2 wb3) := HB2.out.grown HG3.out (by have := HB2.out.size; have := HM0.out; omega) (fun k hk => (HR2.out.lt k hk).1); have HA3 : Hid (Blk wb3 wb1.heap.size [.slice none 0 0, .slice none 0 0, .int .i64 0]) := HA2.out.grown HG3.out (fun e => HN2.out _ e rfl); have HN3 : Hid (∀ k, (Value.slice aa3 na3 ca3).ownBlock = some k → k ≠ wb1.heap.size) := fun k hk e => HMv3.out.apart HA2.out.lt (fun h => HN2.out _ h rfl) (e ▸ hk)
          simp only [Act.put, List.setIfInBounds_toArray, List.set_cons_zero, List.set_cons_succ]
          refine hK.out _ _ (HSX.out _ HB3.out) (fun hHeld => ?_)
          clear hK K
          refine wpAnyH_ready (rs := [5]) (by kernel_rfl) (by simp) ?_
          refine AllReadyH.cons (o := { dst := some 25, op := .buildSlice 22 1 #[(0, .tmp 24)], type := 22, pos := "law.go:81", after := #[{ on := 4, ground := .data }], guard := none }) rfl (fun K hK => ?_) AllReadyH.nil
          refine step_build_one elIn rfl _ rfl x rfl ?_; intro wb4 HS4n Hb4n; have Hb4 : Hid (Below wb3.heap.size wb3 wb4) := Hb4n; have HS4 : Hid (Els wb4 (some ⟨wb3.heap.size, 0, none⟩) 1 1 [x]) := HS4n; have HB4 : Hid (Below w2.heap.size w2 wb4) := HB3.out.trans (Hb4.out.mono (by have := HB3.out.size; have := HM0.out; omega)); have HR4 : Hid (OwnE 46 wb4 w2.heap.size (.slice aa3 na3 ca3) (ins)) := HR3.out.below Hb4.out; have HA4 : Hid (Blk wb4 wb1.heap.size [.slice none 0 0, .slice none 0 0, .int .i64 0]) := HA3.out.below Hb4.out HA3.out.lt
          simp only [Act.put, List.setIfInBounds_toArray, List.set_cons_zero, List.set_cons_succ]
          refine hK.out _ _ (HSX.out _ HB4.out) (fun hHeld => ?_)
          clear hK K
          refine wpAnyH_ready (rs := [6]) (by kernel_rfl) (by simp) ?_
          refine AllReadyH.cons (o := { dst := some 26, op := .call { callee := .builtin Go.Builtin.append, args := #[.tmp 23, .tmp 25], argTypes := #[22, 22] }, type := 22, pos := "law.go:81", after := #[{ on := 3, ground := .data }, { on := 5, ground := .data }, { on := 3, ground := .chain }], guard := none }) rfl (fun K hK => ?_) AllReadyH.nil
          refine step_append_e elIn rfl _ _ rfl w2.heap.size _ (ins) rfl HR4.out _ 1 1 [x] rfl HS4.out (by first | (simp only [List.length_nil]; omega) | (rw [HLEN.out]; omega)) (by have := HB4.out.size; have := HM0.out; omega) ?_; intro va5 wb5 HR5n HG5 HMv5; obtain ⟨aa5, na5, ca5, rfl⟩ := HR5n.out.any; have HR5 : Hid (OwnE 46 wb5 w2.heap.size (.slice aa5 na5 ca5) (ins ++ [x])) := HR5n; have HB5 : Hid (Below w2.heap.size w2 wb5) := HB4.out.grown HG5.out (by have := HB4.out.size; have := HM0.out; omega) (fun k hk => (HR4.out.lt k hk).1); have HA5 : Hid (Blk wb5 wb1.heap.size [.slice none 0 0, .slice none 0 0, .int .i64 0]) := HA4.out.grown HG5.out (fun e => HN3.out _ e rfl); have HN5 : Hid (∀ k, (Value.slice aa5 na5 ca5).ownBlock = some k → k ≠ wb1.heap.size) := fun k hk e => HMv5.out.apart HA4.out.lt (fun h => HN3.out _ h rfl) (e ▸ hk)
          simp only [Act.put, List.setIfInBounds_toArray, List.set_cons_zero, List.set_cons_succ]
          refine hK.out _ _ (HSX.out _ HB5.out) (fun hHeld => ?_)
          clear hK K
          refine wpAnyH_take (i := 9) (oi := { dst := some 29, op := .build 25 #[(0, .tmp 26), (1, .tmp 28)], type := 25, pos := "law.go:81", after := #[{ on := 6, ground := .data }, { on := 8, ground := .data }], guard := none }) (v := ?_) rfl (by kernel_rfl) (by kernel_rfl) (by kernel_rfl) (fun _ _ _ h => h) (Or.inl ⟨by rfl, ?_⟩) (by assumption) ?_
          rotate_left
          · intro _ _; go_simp; first | done | with_reducible rfl
          simp only [Act.put, List.setIfInBounds_toArray, List.set_cons_zero, List.set_cons_succ]
          refine wpAnyH_ready (rs := [11]) (by kernel_rfl) (by simp) ?_
          refine AllReadyH.cons (o := { dst := none, op := .store 25 (.tmp 7) (.tmp 29), type := 0, pos := "law.go:81", after := #[{ on := 10, ground := .data }, { on := 9, ground := .data }, { on := 6, ground := .chain }, { on := 0, ground := .phase }, { on := 1, ground := .phase }, { on := 2, ground := .phase }, { on := 3, ground := .phase }, { on := 4, ground := .phase }, { on := 5, ground := .phase }, { on := 6, ground := .phase }, { on := 7, ground := .phase }, { on := 8, ground := .phase }, { on := 9, ground := .phase }, { on := 10, ground := .phase }], guard := none }) rfl (fun K hK => ?_) AllReadyH.nil
          refine step_store_mid rfl 25 _ _ rfl wb1.heap.size 0 [.slice aa5 na5 ca5, .slice b m d, .int .i64 0] rfl rfl (HA5.out.there 0 3 (by simp)) (by kernel_rfl) (by intro v hv; simp only [List.mem_cons, List.not_mem_nil, or_false] at hv; rcases hv with rfl | rfl | rfl <;> rfl) ?_; have HBf : Hid (Below w2.heap.size w2 (wb5.setCells wb1.heap.size 0 [.slice aa5 na5 ca5, .slice b m d, .int .i64 0])) := below_setCells HMA.out _ HB5.out _; have HAf : Hid (Blk (wb5.setCells wb1.heap.size 0 [.slice aa5 na5 ca5, .slice b m d, .int .i64 0]) wb1.heap.size [.slice aa5 na5 ca5, .slice b m d, .int .i64 0]) := by { have := HA5.out.cellsAt [.slice aa5 na5 ca5, .slice b m d, .int .i64 0] 0 (by simp); exact this }; have HRf : Hid (OwnE 46 (wb5.setCells wb1.heap.size 0 [.slice aa5 na5 ca5, .slice b m d, .int .i64 0]) w2.heap.size (.slice aa5 na5 ca5) (ins ++ [x])) := HR5.out.same fun k hk => heap_setCells [.slice aa5 na5 ca5, .slice b m d, .int .i64 0] wb5 0 k (HN5.out k hk)
          simp only [Act.put]
          refine hK.out _ _ (HSX.out _ HBf.out) (fun hHeld => ?_)
          clear hK K
          refine wpAnyH_done (by kernel_rfl) ?_ _
          refine NoPanic.normal ?_
          exact HREST.out _ _ (weiA_mk w2 w2.heap.size T ins x b m d _ _ _ _ ⟨HAf, HRf, HBf, HMA⟩)
        · refine step_build_one elIn rfl _ rfl x rfl ?_; intro wb3 HS3n Hb3n; have Hb3 : Hid (Below wb2.heap.size wb2 wb3) := Hb3n; have HS3 : Hid (Els wb3 (some ⟨wb2.heap.size, 0, none⟩) 1 1 [x]) := HS3n; have HD : Hid (w2.heap.size ≠ wb2.heap.size) := by { have := (HR2.out.lt w2.heap.size rfl).2; show _ ≠ _; omega }; have HB3 : Hid (Below w2.heap.size w2 wb3) := HB2.out.trans (Hb3.out.mono (by have := HB2.out.size; have := HM0.out; omega)); have HR3 : Hid (OwnE 46 wb3 w2.heap.size (.slice (some ⟨w2.heap.size, 0, none⟩) 0 0) (([] : List In))) := HR2.out.below Hb3.out; have HA3 : Hid (Blk wb3 wb1.heap.size [.slice none 0 0, .slice none 0 0, .int .i64 0]) := HA2.out.below Hb3.out HA2.out.lt
          simp only [Act.put, List.setIfInBounds_toArray, List.set_cons_zero, List.set_cons_succ]
          refine hK.out _ _ (HSX.out _ HB3.out) (fun hHeld => ?_)
          clear hK K
          refine wpAnyH_ready (rs := [3]) (by kernel_rfl) (by simp) ?_
          refine AllReadyH.cons (o := { dst := some 23, op := .call { callee := .builtin Go.Builtin.append, args := #[.tmp 20, .tmp 22], argTypes := #[22, 22] }, type := 22, pos := "law.go:81", after := #[{ on := 0, ground := .data }, { on := 2, ground := .data }], guard := none }) rfl (fun K hK => ?_) AllReadyH.nil
          refine step_append_e elIn rfl _ _ rfl w2.heap.size _ (([] : List In)) rfl HR3.out _ _ _ ins rfl (HSRC.out _ HB3.out) (by first | (simp only [List.length_nil]; omega) | (rw [HLEN.out]; omega)) (by have := HB3.out.size; have := HM0.out; omega) ?_; intro va4 wb4 HR4n HG4 HMv4; obtain ⟨aa4, na4, ca4, rfl⟩ := HR4n.out.any; have HR4 : Hid (OwnE 46 wb4 w2.heap.size (.slice aa4 na4 ca4) (ins)) := HR4n; have HB4 : Hid (Below w2.heap.size w2 wb4) := HB3.out.grown HG4.out (by have := HB3.out.size; have := HM0.out; omega) (fun k hk => (HR3.out.lt k hk).1); have HS4 : Hid (Els wb4 (some ⟨wb2.heap.size, 0, none⟩) 1 1 [x]) := HS3.out.later fun b o _ e => HG4.out.block b (HS3.out.blockLt e) (fun h => by { have h1 : some b = some w2.heap.size := h; injection h1 with h1; injection e with e; injection e with e; have := HD.out; omega }); have HA4 : Hid (Blk wb4 wb1.heap.size [.slice none 0 0, .slice none 0 0, .int .i64 0]) := HA3.out.grown HG4.out (fun e => HN2.out _ e rfl); have HN4 : Hid (∀ k, (Value.slice aa4 na4 ca4).ownBlock = some k → k ≠ wb1.heap.size) := fun k hk e => HMv4.out.apart HA3.out.lt (fun h => HN2.out _ h rfl) (e ▸ hk)
          simp only [Act.put, List.setIfInBounds_toArray, List.set_cons_zero, List.set_cons_succ]
          refine hK.out _ _ (HSX.out _ HB4.out) (fun hHeld => ?_)
          clear hK K
          refine wpAnyH_ready (rs := [6]) (by kernel_rfl) (by simp) ?_
          refine AllReadyH.cons (o := { dst := some 26, op := .call { callee := .builtin Go.Builtin.append, args := #[.tmp 23, .tmp 25], argTypes := #[22, 22] }, type := 22, pos := "law.go:81", after := #[{ on := 3, ground := .data }, { on := 5, ground := .data }, { on := 3, ground := .chain }], guard := none }) rfl (fun K hK => ?_) AllReadyH.nil
          refine step_append_e elIn rfl _ _ rfl w2.heap.size _ (ins) rfl HR4.out _ 1 1 [x] rfl HS4.out (by first | (simp only [List.length_nil]; omega) | (rw [HLEN.out]; omega)) (by have := HB4.out.size; have := HM0.out; omega) ?_; intro va5 wb5 HR5n HG5 HMv5; obtain ⟨aa5, na5, ca5, rfl⟩ := HR5n.out.any; have HR5 : Hid (OwnE 46 wb5 w2.heap.size (.slice aa5 na5 ca5) (ins ++ [x])) := HR5n; have HB5 : Hid (Below w2.heap.size w2 wb5) := HB4.out.grown HG5.out (by have := HB4.out.size; have := HM0.out; omega) (fun k hk => (HR4.out.lt k hk).1); have HA5 : Hid (Blk wb5 wb1.heap.size [.slice none 0 0, .slice none 0 0, .int .i64 0]) := HA4.out.grown HG5.out (fun e => HN4.out _ e rfl); have HN5 : Hid (∀ k, (Value.slice aa5 na5 ca5).ownBlock = some k → k ≠ wb1.heap.size) := fun k hk e => HMv5.out.apart HA4.out.lt (fun h => HN4.out _ h rfl) (e ▸ hk)
          simp only [Act.put, List.setIfInBounds_toArray, List.set_cons_zero, List.set_cons_succ]
          refine hK.out _ _ (HSX.out _ HB5.out) (fun hHeld => ?_)
          clear hK K
          refine wpAnyH_take (i := 9) (oi := { dst := some 29, op := .build 25 #[(0, .tmp 26), (1, .tmp 28)], type := 25, pos := "law.go:81", after := #[{ on := 6, ground := .data }, { on := 8, ground := .data }], guard := none }) (v := ?_) rfl (by kernel_rfl) (by kernel_rfl) (by kernel_rfl) (fun _ _ _ h => h) (Or.inl ⟨by rfl, ?_⟩) (by assumption) ?_
          rotate_left
          · intro _ _; go_simp; first | done | with_reducible rfl
          simp only [Act.put, List.setIfInBounds_toArray, List.set_cons_zero, List.set_cons_succ]
          refine wpAnyH_ready (rs := [11]) (by kernel_rfl) (by simp) ?_
          refine AllReadyH.cons (o := { dst := none, op := .store 25 (.tmp 7) (.tmp 29), type := 0, pos := "law.go:81", after := #[{ on := 10, ground := .data }, { on := 9, ground := .data }, { on := 6, ground := .chain }, { on := 0, ground := .phase }, { on := 1, ground := .phase }, { on := 2, ground := .phase }, { on := 3, ground := .phase }, { on := 4, ground := .phase }, { on := 5, ground := .phase }, { on := 6, ground := .phase }, { on := 7, ground := .phase }, { on := 8, ground := .phase }, { on := 9, ground := .phase }, { on := 10, ground := .phase }], guard := none }) rfl (fun K hK => ?_) AllReadyH.nil
          refine step_store_mid rfl 25 _ _ rfl wb1.heap.size 0 [.slice aa5 na5 ca5, .slice b m d, .int .i64 0] rfl rfl (HA5.out.there 0 3 (by simp)) (by kernel_rfl) (by intro v hv; simp only [List.mem_cons, List.not_mem_nil, or_false] at hv; rcases hv with rfl | rfl | rfl <;> rfl) ?_; have HBf : Hid (Below w2.heap.size w2 (wb5.setCells wb1.heap.size 0 [.slice aa5 na5 ca5, .slice b m d, .int .i64 0])) := below_setCells HMA.out _ HB5.out _; have HAf : Hid (Blk (wb5.setCells wb1.heap.size 0 [.slice aa5 na5 ca5, .slice b m d, .int .i64 0]) wb1.heap.size [.slice aa5 na5 ca5, .slice b m d, .int .i64 0]) := by { have := HA5.out.cellsAt [.slice aa5 na5 ca5, .slice b m d, .int .i64 0] 0 (by simp); exact this }; have HRf : Hid (OwnE 46 (wb5.setCells wb1.heap.size 0 [.slice aa5 na5 ca5, .slice b m d, .int .i64 0]) w2.heap.size (.slice aa5 na5 ca5) (ins ++ [x])) := HR5.out.same fun k hk => heap_setCells [.slice aa5 na5 ca5, .slice b m d, .int .i64 0] wb5 0 k (HN5.out k hk)
          simp only [Act.put]
          refine hK.out _ _ (HSX.out _ HBf.out) (fun hHeld => ?_)
          clear hK K
          refine wpAnyH_done (by kernel_rfl) ?_ _
          refine NoPanic.normal ?_
          exact HREST.out _ _ (weiA_mk w2 w2.heap.size T ins x b m d _ _ _ _ ⟨HAf, HRf, HBf, HMA⟩)
    · refine step_build_one elIn rfl _ rfl x rfl ?_; intro wb1 HS1n Hb1n; have Hb1 : Hid (Below w2.heap.size w2.drew wb1) := Hb1n; have HS1 : Hid (Els wb1 (some ⟨w2.heap.size, 0, none⟩) 1 1 [x]) := HS1n; have HB1 : Hid (Below w2.heap.size w2 wb1) := HB00.out.trans (Hb1.out.mono (by have := HB00.out.size; have := HM0.out; omega))
      simp only [Act.put, List.setIfInBounds_toArray, List.set_cons_zero, List.set_cons_succ]
      refine hK.out _ _ (HSX.out _ HB1.out) (fun hHeld => ?_)
      clear hK K
      refine wpAnyH_ready (rs := [0, 10]) (by kernel_rfl) (by simp) ?_
      refine (AllReadyH.cons (o := { dst := some 20, op := .buildSlice 22 0 #[], type := 22, pos := "law.go:81", after := #[], guard := none }) rfl (fun K hK => ?_) (AllReadyH.cons (o := { dst := some 7, op := .alloc 25, type := 0, pos := "law.go:81", after := #[], guard := none }) rfl (fun K hK => ?_) AllReadyH.nil))
      · go_simp
        skip; have Hg2 : Hid (w2.heap.size ≤ wb1.heap.size) := by { have := HB1.out.size; have := HM0.out; show _ ≤ _; omega }; have Hb2q : Below wb1.heap.size wb1 (wb1.alloc (.cells #[] 46)) := (Below.refl _ wb1).alloc (Nat.le_refl _) _; have HR2q : OwnE 46 (wb1.alloc (.cells #[] 46)) w2.heap.size (.slice (some ⟨wb1.heap.size, 0, none⟩) 0 0) ([] : List In) := World.ownsRow_made (size := El.k In) wb1 #[] 0 Hg2.out (Nat.zero_le _) (by simp); generalize wb1.alloc (.cells #[] 46) = wb2 at *; have Hb2 : Hid (Below wb1.heap.size wb1 wb2) := Hb2q; have HB2 : Hid (Below w2.heap.size w2 wb2) := HB1.out.trans (Hb2.out.mono (by have := HB1.out.size; have := HM0.out; omega)); have HS2 : Hid (Els wb2 (some ⟨w2.heap.size, 0, none⟩) 1 1 [x]) := HS1.out.below Hb2.out; have HR2 : Hid (OwnE 46 wb2 w2.heap.size (.slice (some ⟨wb1.heap.size, 0, none⟩) 0 0) ([] : List In)) := HR2q; have HD : Hid (wb1.heap.size ≠ w2.heap.size) := by { have := HS1.out.blockLt rfl; show _ ≠ _; omega }; clear Hb2q HR2q
        go_simp
        refine hK.out _ _ (HSX.out _ HB2.out) (fun hHeld => ?_)
        clear hK K
        refine wpAnyH_ready (rs := [3, 10]) (by kernel_rfl) (by simp) ?_
        refine (AllReadyH.cons (o := { dst := some 23, op := .call { callee := .builtin Go.Builtin.append, args := #[.tmp 20, .tmp 22], argTypes := #[22, 22] }, type := 22, pos := "law.go:81", after := #[{ on := 0, ground := .data }, { on := 2, ground := .data }], guard := none }) rfl (fun K hK => ?_) (AllReadyH.cons (o := { dst := some 7, op := .alloc 25, type := 0, pos := "law.go:81", after := #[], guard := none }) rfl (fun K hK => ?_) AllReadyH.nil))
        · refine step_append_e elIn rfl _ _ rfl w2.heap.size _ (([] : List In)) rfl HR2.out _ _ _ ins rfl (HSRC.out _ HB2.out) (by first | (simp only [List.length_nil]; omega) | (rw [HLEN.out]; omega)) (by have := HB2.out.size; have := HM0.out; omega) ?_; intro va3 wb3 HR3n HG3 HMv3; obtain ⟨aa3, na3, ca3, rfl⟩ := HR3n.out.any; have HR3 : Hid (OwnE 46 wb3 w2.heap.size (.slice aa3 na3 ca3) (ins)) := HR3n; have HB3 : Hid (Below w2.heap.size w2 wb3) := HB2.out.grown HG3.out (by have := HB2.out.size; have := HM0.out; omega) (fun k hk => (HR2.out.lt k hk).1); have HS3 : Hid (Els wb3 (some ⟨w2.heap.size, 0, none⟩) 1 1 [x]) := HS2.out.later fun b o _ e => HG3.out.block b (HS2.out.blockLt e) (fun h => by { have h1 : some b = some wb1.heap.size := h; injection h1 with h1; injection e with e; injection e with e; have := HD.out; omega })
          simp only [Act.put, List.setIfInBounds_toArray, List.set_cons_zero, List.set_cons_succ]
          refine hK.out _ _ (HSX.out _ HB3.out) (fun hHeld => ?_)
          clear hK K
          refine wpAnyH_ready (rs := [6, 10]) (by kernel_rfl) (by simp) ?_
          refine (AllReadyH.cons (o := { dst := some 26, op := .call { callee := .builtin Go.Builtin.append, args := #[.tmp 23, .tmp 25], argTypes := #[22, 22] }, type := 22, pos := "law.go:81", after := #[{ on := 3, ground := .data }, { on := 5, ground := .data }, { on := 3, ground := .chain }], guard := none }) rfl (fun K hK => ?_) (AllReadyH.cons (o := { dst := some 7, op := .alloc 25, type := 0, pos := "law.go:81", after := #[], guard := none }) rfl (fun K hK => ?_) AllReadyH.nil))
          · refine step_append_e elIn rfl _ _ rfl w2.heap.size _ (ins) rfl HR3.out _ 1 1 [x] rfl HS3.out (by first | (simp only [List.length_nil]; omega) | (rw [HLEN.out]; omega)) (by have := HB3.out.size; have := HM0.out; omega) ?_; intro va4 wb4 HR4n HG4 HMv4; obtain ⟨aa4, na4, ca4, rfl⟩ := HR4n.out.any; have HR4 : Hid (OwnE 46 wb4 w2.heap.size (.slice aa4 na4 ca4) (ins ++ [x])) := HR4n; have HB4 : Hid (Below w2.heap.size w2 wb4) := HB3.out.grown HG4.out (by have := HB3.out.size; have := HM0.out; omega) (fun k hk => (HR3.out.lt k hk).1)
            simp only [Act.put, List.setIfInBounds_toArray, List.set_cons_zero, List.set_cons_succ]
            refine hK.out _ _ (HSX.out _ HB4.out) (fun hHeld => ?_)
            clear hK K
            refine wpAnyH_take (i := 9) (oi := { dst := some 29, op := .build 25 #[(0, .tmp 26), (1, .tmp 28)], type := 25, pos := "law.go:81", after := #[{ on := 6, ground := .data }, { on := 8, ground := .data }], guard := none }) (v := ?_) rfl (by kernel_rfl) (by kernel_rfl) (by kernel_rfl) (fun _ _ _ h => h) (Or.inl ⟨by rfl, ?_⟩) (by assumption) ?_
            rotate_left
            · intro _ _; go_simp; first | done | with_reducible rfl
            simp only [Act.put, List.setIfInBounds_toArray, List.set_cons_zero, List.set_cons_succ]
            refine wpAnyH_ready (rs := [10]) (by kernel_rfl) (by simp) ?_
            refine AllReadyH.cons (o := { dst := some 7, op := .alloc 25, type := 0, pos := "law.go:81", after := #[], guard := none }) rfl (fun K hK => ?_) AllReadyH.nil
            go_simp
            skip; have Hb5q : Below wb4.heap.size wb4 (wb4.alloc (.cells #[.slice none 0 0, .slice none 0 0, .int .i64 0] 25)) := (Below.refl _ wb4).alloc (Nat.le_refl _) _; have HA5q : Blk (wb4.alloc (.cells #[.slice none 0 0, .slice none 0 0, .int .i64 0] 25)) wb4.heap.size [.slice none 0 0, .slice none 0 0, .int .i64 0] := Blk.new wb4 _ _; generalize wb4.alloc (.cells #[.slice none 0 0, .slice none 0 0, .int .i64 0] 25) = wb5 at *; have Hb5 : Hid (Below wb4.heap.size wb4 wb5) := Hb5q; have HB5 : Hid (Below w2.heap.size w2 wb5) := HB4.out.trans (Hb5.out.mono (by have := HB4.out.size; have := HM0.out; omega)); have HR5 : Hid (OwnE 46 wb5 w2.heap.size (.slice aa4 na4 ca4) (ins ++ [x])) := HR4.out.below Hb5.out; have HA5 : Hid (Blk wb5 wb4.heap.size [.slice none 0 0, .slice none 0 0, .int .i64 0]) := HA5q; have HMA : Hid (w2.heap.size ≤ wb4.heap.size) := by { have := HB4.out.size; have := HM0.out; show _ ≤ _; omega }; have HN5 : Hid (∀ k, (.slice aa4 na4 ca4 : Value).ownBlock = some k → k ≠ wb4.heap.size) := fun k hk => by { have h2 := (HR4.out.lt k hk).2; omega }; clear Hb5q HA5q
            go_simp
            refine hK.out _ _ (HSX.out _ HB5.out) (fun hHeld => ?_)
            clear hK K
            refine wpAnyH_ready (rs := [11]) (by kernel_rfl) (by simp) ?_
            refine AllReadyH.cons (o := { dst := none, op := .store 25 (.tmp 7) (.tmp 29), type := 0, pos := "law.go:81", after := #[{ on := 10, ground := .data }, { on := 9, ground := .data }, { on := 6, ground := .chain }, { on := 0, ground := .phase }, { on := 1, ground := .phase }, { on := 2, ground := .phase }, { on := 3, ground := .phase }, { on := 4, ground := .phase }, { on := 5, ground := .phase }, { on := 6, ground := .phase }, { on := 7, ground := .phase }, { on := 8, ground := .phase }, { on := 9, ground := .phase }, { on := 10, ground := .phase }], guard := none }) rfl (fun K hK => ?_) AllReadyH.nil
            refine step_store_mid rfl 25 _ _ rfl wb4.heap.size 0 [.slice aa4 na4 ca4, .slice b m d, .int .i64 0] rfl rfl (HA5.out.there 0 3 (by simp)) (by kernel_rfl) (by intro v hv; simp only [List.mem_cons, List.not_mem_nil, or_false] at hv; rcases hv with rfl | rfl | rfl <;> rfl) ?_; have HBf : Hid (Below w2.heap.size w2 (wb5.setCells wb4.heap.size 0 [.slice aa4 na4 ca4, .slice b m d, .int .i64 0])) := below_setCells HMA.out _ HB5.out _; have HAf : Hid (Blk (wb5.setCells wb4.heap.size 0 [.slice aa4 na4 ca4, .slice b m d, .int .i64 0]) wb4.heap.size [.slice aa4 na4 ca4, .slice b m d, .int .i64 0]) := by { have := HA5.out.cellsAt [.slice aa4 na4 ca4, .slice b m d, .int .i64 0] 0 (by simp); exact this }; have HRf : Hid (OwnE 46 (wb5.setCells wb4.heap.size 0 [.slice aa4 na4 ca4, .slice b m d, .int .i64 0]) w2.heap.size (.slice aa4 na4 ca4) (ins ++ [x])) := HR5.out.same fun k hk => heap_setCells [.slice aa4 na4 ca4, .slice b m d, .int .i64 0] wb5 0 k (HN5.out k hk)
            simp only [Act.put]
            refine hK.out _ _ (HSX.out _ HBf.out) (fun hHeld => ?_)
            clear hK K
            refine wpAnyH_done (by kernel_rfl) ?_ _
            refine NoPanic.normal ?_
            exact HREST.out _ _ (weiA_mk w2 w2.heap.size T ins x b m d _ _ _ _ ⟨HAf, HRf, HBf, HMA⟩)
          · go_simp
            skip; have Hb4q : Below wb3.heap.size wb3 (wb3.alloc (.cells #[.slice none 0 0, .slice none 0 0, .int .i64 0] 25)) := (Below.refl _ wb3).alloc (Nat.le_refl _) _; have HA4q : Blk (wb3.alloc (.cells #[.slice none 0 0, .slice none 0 0, .int .i64 0] 25)) wb3.heap.size [.slice none 0 0, .slice none 0 0, .int .i64 0] := Blk.new wb3 _ _; generalize wb3.alloc (.cells #[.slice none 0 0, .slice none 0 0, .int .i64 0] 25) = wb4 at *; have Hb4 : Hid (Below wb3.heap.size wb3 wb4) := Hb4q; have HB4 : Hid (Below w2.heap.size w2 wb4) := HB3.out.trans (Hb4.out.mono (by have := HB3.out.size; have := HM0.out; omega)); have HR4 : Hid (OwnE 46 wb4 w2.heap.size (.slice aa3 na3 ca3) (ins)) := HR3.out.below Hb4.out; have HS4 : Hid (Els wb4 (some ⟨w2.heap.size, 0, none⟩) 1 1 [x]) := HS3.out.below Hb4.out; have HA4 : Hid (Blk wb4 wb3.heap.size [.slice none 0 0, .slice none 0 0, .int .i64 0]) := HA4q; have HMA : Hid (w2.heap.size ≤ wb3.heap.size) := by { have := HB3.out.size; have := HM0.out; show _ ≤ _; omega }; have HN4 : Hid (∀ k, (.slice aa3 na3 ca3 : Value).ownBlock = some k → k ≠ wb3.heap.size) := fun k hk => by { have h2 := (HR3.out.lt k hk).2; omega }; clear Hb4q HA4q
            go_simp
            refine hK.out _ _ (HSX.out _ HB4.out) (fun hHeld => ?_)
            clear hK K
            refine wpAnyH_ready (rs := [6]) (by kernel_rfl) (by simp) ?_
            refine AllReadyH.cons (o := { dst := some 26, op := .call { callee := .builtin Go.Builtin.append, args := #[.tmp 23, .tmp 25], argTypes := #[22, 22] }, type := 22, pos := "law.go:81", after := #[{ on := 3, ground := .data }, { on := 5, ground := .data }, { on := 3, ground := .chain }], guard := none }) rfl (fun K hK => ?_) AllReadyH.nil
            refine step_append_e elIn rfl _ _ rfl w2.heap.size _ (ins) rfl HR4.out _ 1 1 [x] rfl HS4.out (by first | (simp only [List.length_nil]; omega) | (rw [HLEN.out]; omega)) (by have := HB4.out.size; have := HM0.out; omega) ?_; intro va5 wb5 HR5n HG5 HMv5; obtain ⟨aa5, na5, ca5, rfl⟩ := HR5n.out.any; have HR5 : Hid (OwnE 46 wb5 w2.heap.size (.slice aa5 na5 ca5) (ins ++ [x])) := HR5n; have HB5 : Hid (Below w2.heap.size w2 wb5) := HB4.out.grown HG5.out (by have := HB4.out.size; have := HM0.out; omega) (fun k hk => (HR4.out.lt k hk).1); have HA5 : Hid (Blk wb5 wb3.heap.size [.slice none 0 0, .slice none 0 0, .int .i64 0]) := HA4.out.grown HG5.out (fun e => HN4.out _ e rfl); have HN5 : Hid (∀ k, (Value.slice aa5 na5 ca5).ownBlock = some k → k ≠ wb3.heap.size) := fun k hk e => HMv5.out.apart HA4.out.lt (fun h => HN4.out _ h rfl) (e ▸ hk)
            simp only [Act.put, List.setIfInBounds_toArray, List.set_cons_zero, List.set_cons_succ]
            refine hK.out _ _ (HSX.out _ HB5.out) (fun hHeld => ?_)
            clear hK K
            refine wpAnyH_take (i := 9) (oi := { dst := some 29, op := .build 25 #[(0, .tmp 26), (1, .tmp 28)], type := 25, pos := "law.go:81", after := #[{ on := 6, ground := .data }, { on := 8, ground := .data }], guard := none }) (v := ?_) rfl (by kernel_rfl) (by kernel_rfl) (by kernel_rfl) (fun _ _ _ h => h) (Or.inl ⟨by rfl, ?_⟩) (by assumption) ?_
            rotate_left
            · intro _ _; go_simp; first | done | with_reducible rfl
            simp only [Act.put, List.setIfInBounds_toArray, List.set_cons_zero, List.set_cons_succ]
            refine wpAnyH_ready (rs := [11]) (by kernel_rfl) (by simp) ?_
            refine AllReadyH.cons (o := { dst := none, op := .store 25 (.tmp 7) (.tmp 29), type := 0, pos := "law.go:81", after := #[{ on := 10, ground := .data }, { on := 9, ground := .data }, { on := 6, ground := .chain }, { on := 0, ground := .phase }, { on := 1, ground := .phase }, { on := 2, ground := .phase }, { on := 3, ground := .phase }, { on := 4, ground := .phase }, { on := 5, ground := .phase }, { on := 6, ground := .phase }, { on := 7, ground := .phase }, { on := 8, ground := .phase }, { on := 9, ground := .phase }, { on := 10, ground := .phase }], guard := none }) rfl (fun K hK => ?_) AllReadyH.nil
            refine step_store_mid rfl 25 _ _ rfl wb3.heap.size 0 [.slice aa5 na5 ca5, .slice b m d, .int .i64 0] rfl rfl (HA5.out.there 0 3 (by simp)) (by kernel_rfl) (by intro v hv; simp only [List.mem_cons, List.not_mem_nil, or_false] at hv; rcases hv with rfl | rfl | rfl <;> rfl) ?_; have HBf : Hid (Below w2.heap.size w2 (wb5.setCells wb3.heap.size 0 [.slice aa5 na5 ca5, .slice b m d, .int .i64 0])) := below_setCells HMA.out _ HB5.out _; have HAf : Hid (Blk (wb5.setCells wb3.heap.size 0 [.slice aa5 na5 ca5, .slice b m d, .int .i64 0]) wb3.heap.size [.slice aa5 na5 ca5, .slice b m d, .int .i64 0]) := by { have := HA5.out.cellsAt [.slice aa5 na5 ca5, .slice b m d, .int .i64 0] 0 (by simp); exact this }; have HRf : Hid (OwnE 46 (wb5.setCells wb3.heap.size 0 [.slice aa5 na5 ca5, .slice b m d, .int .i64 0]) w2.heap.size (.slice aa5 na5 ca5) (ins ++ [x])) := HR5.out.same fun k hk => heap_setCells [.slice aa5 na5 ca5, .slice b m d, .int .i64 0] wb5 0 k (HN5.out k hk)
            simp only [Act.put]
            refine hK.out _ _ (HSX.out _ HBf.out) (fun hHeld => ?_)
            clear hK K
            refine wpAnyH_done (by kernel_rfl) ?_ _
            refine NoPanic.normal ?_
            exact HREST.out _ _ (weiA_mk w2 w2.heap.size T ins x b m d _ _ _ _ ⟨HAf, HRf, HBf, HMA⟩)
        · go_simp
          skip; have Hb3q : Below wb2.heap.size wb2 (wb2.alloc (.cells #[.slice none 0 0, .slice none 0 0, .int .i64 0] 25)) := (Below.refl _ wb2).alloc (Nat.le_refl _) _; have HA3q : Blk (wb2.alloc (.cells #[.slice none 0 0, .slice none 0 0, .int .i64 0] 25)) wb2.heap.size [.slice none 0 0, .slice none 0 0, .int .i64 0] := Blk.new wb2 _ _; generalize wb2.alloc (.cells #[.slice none 0 0, .slice none 0 0, .int .i64 0] 25) = wb3 at *; have Hb3 : Hid (Below wb2.heap.size wb2 wb3) := Hb3q; have HB3 : Hid (Below w2.heap.size w2 wb3) := HB2.out.trans (Hb3.out.mono (by have := HB2.out.size; have := HM0.out; omega)); have HR3 : Hid (OwnE 46 wb3 w2.heap.size (.slice (some ⟨wb1.heap.size, 0, none⟩) 0 0) (([] : List In))) := HR2.out.below Hb3.out; have HS3 : Hid (Els wb3 (some ⟨w2.heap.size, 0, none⟩) 1 1 [x]) := HS2.out.below Hb3.out; have HA3 : Hid (Blk wb3 wb2.heap.size [.slice none 0 0, .slice none 0 0, .int .i64 0]) := HA3q; have HMA : Hid (w2.heap.size ≤ wb2.heap.size) := by { have := HB2.out.size; have := HM0.out; show _ ≤ _; omega }; have HN3 : Hid (∀ k, (.slice (some ⟨wb1.heap.size, 0, none⟩) 0 0 : Value).ownBlock = some k → k ≠ wb2.heap.size) := fun k hk => by { have h2 := (HR2.out.lt k hk).2; omega }; clear Hb3q HA3q
          go_simp
          refine hK.out _ _ (HSX.out _ HB3.out) (fun hHeld => ?_)
          clear hK K
          refine wpAnyH_ready (rs := [3]) (by kernel_rfl) (by simp) ?_
          refine AllReadyH.cons (o := { dst := some 23, op := .call { callee := .builtin Go.Builtin.append, args := #[.tmp 20, .tmp 22], argTypes := #[22, 22] }, type := 22, pos := "law.go:81", after := #[{ on := 0, ground := .data }, { on := 2, ground := .data }], guard := none }) rfl (fun K hK => ?_) AllReadyH.nil
          refine step_append_e elIn rfl _ _ rfl w2.heap.size _ (([] : List In)) rfl HR3.out _ _ _ ins rfl (HSRC.out _ HB3.out) (by first | (simp only [List.length_nil]; omega) | (rw [HLEN.out]; omega)) (by have := HB3.out.size; have := HM0.out; omega) ?_; intro va4 wb4 HR4n HG4 HMv4; obtain ⟨aa4, na4, ca4, rfl⟩ := HR4n.out.any; have HR4 : Hid (OwnE 46 wb4 w2.heap.size (.slice aa4 na4 ca4) (ins)) := HR4n; have HB4 : Hid (Below w2.heap.size w2 wb4) := HB3.out.grown HG4.out (by have := HB3.out.size; have := HM0.out; omega) (fun k hk => (HR3.out.lt k hk).1); have HS4 : Hid (Els wb4 (some ⟨w2.heap.size, 0, none⟩) 1 1 [x]) := HS3.out.later fun b o _ e => HG4.out.block b (HS3.out.blockLt e) (fun h => by { have h1 : some b = some wb1.heap.size := h; injection h1 with h1; injection e with e; injection e with e; have := HD.out; omega }); have HA4 : Hid (Blk wb4 wb2.heap.size [.slice none 0 0, .slice none 0 0, .int .i64 0]) := HA3.out.grown HG4.out (fun e => HN3.out _ e rfl); have HN4 : Hid (∀ k, (Value.slice aa4 na4 ca4).ownBlock = some k → k ≠ wb2.heap.size) := fun k hk e => HMv4.out.apart HA3.out.lt (fun h => HN3.out _ h rfl) (e ▸ hk)
          simp only [Act.put, List.setIfInBounds_toArray, List.set_cons_zero, List.set_cons_succ]
          refine hK.out _ _ (HSX.out _ HB4.out) (fun hHeld => ?_)
          clear hK K
          refine wpAnyH_ready (rs := [6]) (by kernel_rfl) (by simp) ?_
          refine AllReadyH.cons (o := { dst := some 26, op := .call { callee := .builtin Go.Builtin.append, args := #[.tmp 23, .tmp 25], argTypes := #[22, 22] }, type := 22, pos := "law.go:81", after := #[{ on := 3, ground := .data }, { on := 5, ground := .data }, { on := 3, ground := .chain }], guard := none }) rfl (fun K hK => ?_) AllReadyH.nil
          refine step_append_e elIn rfl _ _ rfl w2.heap.size _ (ins) rfl HR4.out _ 1 1 [x] rfl HS4.out (by first | (simp only [List.length_nil]; omega) | (rw [HLEN.out]; omega)) (by have := HB4.out.size; have := HM0.out; omega) ?_; intro va5 wb5 HR5n HG5 HMv5; obtain ⟨aa5, na5, ca5, rfl⟩ := HR5n.out.any; have HR5 : Hid (OwnE 46 wb5 w2.heap.size (.slice aa5 na5 ca5) (ins ++ [x])) := HR5n; have HB5 : Hid (Below w2.heap.size w2 wb5) := HB4.out.grown HG5.out (by have := HB4.out.size; have := HM0.out; omega) (fun k hk => (HR4.out.lt k hk).1); have HA5 : Hid (Blk wb5 wb2.heap.size [.slice none 0 0, .slice none 0 0, .int .i64 0]) := HA4.out.grown HG5.out (fun e => HN4.out _ e rfl); have HN5 : Hid (∀ k, (Value.slice aa5 na5 ca5).ownBlock = some k → k ≠ wb2.heap.size) := fun k hk e => HMv5.out.apart HA4.out.lt (fun h => HN4.out _ h rfl) (e ▸ hk)
          simp only [Act.put, List.setIfInBounds_toArray, List.set_cons_zero, List.set_cons_succ]
          refine hK.out _ _ (HSX.out _ HB5.out) (fun hHeld => ?_)
          clear hK K
          refine wpAnyH_take (i := 9) (oi := { dst := some 29, op := .build 25 #[(0, .tmp 26), (1, .tmp 28)], type := 25, pos := "law.go:81", after := #[{ on := 6, ground := .data }, { on := 8, ground := .data }], guard := none }) (v := ?_) rfl (by kernel_rfl) (by kernel_rfl) (by kernel_rfl) (fun _ _ _ h => h) (Or.inl ⟨by rfl, ?_⟩) (by assumption) ?_
          rotate_left
          · intro _ _; go_simp; first | done | with_reducible rfl
          simp only [Act.put, List.setIfInBounds_toArray, List.set_cons_zero, List.set_cons_succ]
          refine wpAnyH_ready (rs := [11]) (by kernel_rfl) (by simp) ?_
          refine AllReadyH.cons (o := { dst := none, op := .store 25 (.tmp 7) (.tmp 29), type := 0, pos := "law.go:81", after := #[{ on := 10, ground := .data }, { on := 9, ground := .data }, { on := 6, ground := .chain }, { on := 0, ground := .phase }, { on := 1, ground := .phase }, { on := 2, ground := .phase }, { on := 3, ground := .phase }, { on := 4, ground := .phase }, { on := 5, ground := .phase }, { on := 6, ground := .phase }, { on := 7, ground := .phase }, { on := 8, ground := .phase }, { on := 9, ground := .phase }, { on := 10, ground := .phase }], guard := none }) rfl (fun K hK => ?_) AllReadyH.nil
          refine step_store_mid rfl 25 _ _ rfl wb2.heap.size 0 [.slice aa5 na5 ca5, .slice b m d, .int .i64 0] rfl rfl (HA5.out.there 0 3 (by simp)) (by kernel_rfl) (by intro v hv; simp only [List.mem_cons, List.not_mem_nil, or_false] at hv; rcases hv with rfl | rfl | rfl <;> rfl) ?_; have HBf : Hid (Below w2.heap.size w2 (wb5.setCells wb2.heap.size 0 [.slice aa5 na5 ca5, .slice b m d, .int .i64 0])) := below_setCells HMA.out _ HB5.out _; have HAf : Hid (Blk (wb5.setCells wb2.heap.size 0 [.slice aa5 na5 ca5, .slice b m d, .int .i64 0]) wb2.heap.size [.slice aa5 na5 ca5, .slice b m d, .int .i64 0]) := by { have := HA5.out.cellsAt [.slice aa5 na5 ca5, .slice b m d, .int .i64 0] 0 (by simp); exact this }; have HRf : Hid (OwnE 46 (wb5.setCells wb2.heap.size 0 [.slice aa5 na5 ca5, .slice b m d, .int .i64 0]) w2.heap.size (.slice aa5 na5 ca5) (ins ++ [x])) := HR5.out.same fun k hk => heap_setCells [.slice aa5 na5 ca5, .slice b m d, .int .i64 0] wb5 0 k (HN5.out k hk)
          simp only [Act.put]
          refine hK.out _ _ (HSX.out _ HBf.out) (fun hHeld => ?_)
          clear hK K
          refine wpAnyH_done (by kernel_rfl) ?_ _
          refine NoPanic.normal ?_
          exact HREST.out _ _ (weiA_mk w2 w2.heap.size T ins x b m d _ _ _ _ ⟨HAf, HRf, HBf, HMA⟩)
      · go_simp
        skip; have Hb2q : Below wb1.heap.size wb1 (wb1.alloc (.cells #[.slice none 0 0, .slice none 0 0, .int .i64 0] 25)) := (Below.refl _ wb1).alloc (Nat.le_refl _) _; have HA2q : Blk (wb1.alloc (.cells #[.slice none 0 0, .slice none 0 0, .int .i64 0] 25)) wb1.heap.size [.slice none 0 0, .slice none 0 0, .int .i64 0] := Blk.new wb1 _ _; generalize wb1.alloc (.cells #[.slice none 0 0, .slice none 0 0, .int .i64 0] 25) = wb2 at *; have Hb2 : Hid (Below wb1.heap.size wb1 wb2) := Hb2q; have HB2 : Hid (Below w2.heap.size w2 wb2) := HB1.out.trans (Hb2.out.mono (by have := HB1.out.size; have := HM0.out; omega)); have HS2 : Hid (Els wb2 (some ⟨w2.heap.size, 0, none⟩) 1 1 [x]) := HS1.out.below Hb2.out; have HA2 : Hid (Blk wb2 wb1.heap.size [.slice none 0 0, .slice none 0 0, .int .i64 0]) := HA2q; have HMA : Hid (w2.heap.size ≤ wb1.heap.size) := by { have := HB1.out.size; have := HM0.out; show _ ≤ _; omega }; clear Hb2q HA2q
        go_simp
        refine hK.out _ _ (HSX.out _ HB2.out) (fun hHeld => ?_)
        clear hK K
        refine wpAnyH_ready (rs := [0]) (by kernel_rfl) (by simp) ?_
        refine AllReadyH.cons (o := { dst := some 20, op := .buildSlice 22 0 #[], type := 22, pos := "law.go:81", after := #[], guard := none }) rfl (fun K hK => ?_) AllReadyH.nil
        go_simp
        skip; have Hg3 : Hid (w2.heap.size ≤ wb2.heap.size) := by { have := HB2.out.size; have := HM0.out; show _ ≤ _; omega }; have Hb3q : Below wb2.heap.size wb2 (wb2.alloc (.cells #[] 46)) := (Below.refl _ wb2).alloc (Nat.le_refl _) _; have HR3q : OwnE 46 (wb2.alloc (.cells #[] 46)) w2.heap.size (.slice (some ⟨wb2.heap.size, 0, none⟩) 0 0) ([] : List In) := World.ownsRow_made (size := El.k In) wb2 #[] 0 Hg3.out (Nat.zero_le _) (by simp); generalize wb2.alloc (.cells #[] 46) = wb3 at *; have Hb3 : Hid (Below wb2.heap.size wb2 wb3) := Hb3q; have HB3 : Hid (Below w2.heap.size w2 wb3) := HB2.out.trans (Hb3.out.mono (by have := HB2.out.size; have := HM0.out; omega)); have HS3 : Hid (Els wb3 (some ⟨w2.heap.size, 0, none⟩) 1 1 [x]) := HS2.out.below Hb3.out; have HA3 : Hid (Blk wb3 wb1.heap.size [.slice none 0 0, .slice none 0 0, .int .i64 0]) := HA2.out.below Hb3.out HA2.out.lt; have HR3 : Hid (OwnE 46 wb3 w2.heap.size (.slice (some ⟨wb2.heap.size, 0, none⟩) 0 0) ([] : List In)) := HR3q; have HN3 : Hid (∀ k, (Value.slice (some ⟨wb2.heap.size, 0, none⟩) 0 0).ownBlock = some k → k ≠ wb1.heap.size) := fun k hk => by { have h1 : some wb2.heap.size = some k := hk; injection h1 with h1; have h2 := HA2.out.lt; omega }; have HD : Hid (wb2.heap.size ≠ w2.heap.size) := by { have := HS2.out.blockLt rfl; show _ ≠ _; omega }; clear Hb3q HR3q
        go_simp
        refine hK.out _ _ (HSX.out _ HB3.out) (fun hHeld => ?_)
        clear hK K
        refine wpAnyH_ready (rs := [3]) (by kernel_rfl) (by simp) ?_
        refine AllReadyH.cons (o := { dst := some 23, op := .call { callee := .builtin Go.Builtin.append, args := #[.tmp 20, .tmp 22], argTypes := #[22, 22] }, type := 22, pos := "law.go:81", after := #[{ on := 0, ground := .data }, { on := 2, ground := .data }], guard := none }) rfl (fun K hK => ?_) AllReadyH.nil
        refine step_append_e elIn rfl _ _ rfl w2.heap.size _ (([] : List In)) rfl HR3.out _ _ _ ins rfl (HSRC.out _ HB3.out) (by first | (simp only [List.length_nil]; omega) | (rw [HLEN.out]; omega)) (by have := HB3.out.size; have := HM0.out; omega) ?_; intro va4 wb4 HR4n HG4 HMv4; obtain ⟨aa4, na4, ca4, rfl⟩ := HR4n.out.any; have HR4 : Hid (OwnE 46 wb4 w2.heap.size (.slice aa4 na4 ca4) (ins)) := HR4n; have HB4 : Hid (Below w2.heap.size w2 wb4) := HB3.out.grown HG4.out (by have := HB3.out.size; have := HM0.out; omega) (fun k hk => (HR3.out.lt k hk).1); have HS4 : Hid (Els wb4 (some ⟨w2.heap.size, 0, none⟩) 1 1 [x]) := HS3.out.later fun b o _ e => HG4.out.block b (HS3.out.blockLt e) (fun h => by { have h1 : some b = some wb2.heap.size := h; injection h1 with h1; injection e with e; injection e with e; have := HD.out; omega }); have HA4 : Hid (Blk wb4 wb1.heap.size [.slice none 0 0, .slice none 0 0, .int .i64 0]) := HA3.out.grown HG4.out (fun e => HN3.out _ e rfl); have HN4 : Hid (∀ k, (Value.slice aa4 na4 ca4).ownBlock = some k → k ≠ wb1.heap.size) := fun k hk e => HMv4.out.apart HA3.out.lt (fun h => HN3.out _ h rfl) (e ▸ hk)
        simp only [Act.put, List.setIfInBounds_toArray, List.set_cons_zero, List.set_cons_succ]
        refine hK.out _ _ (HSX.out _ HB4.out) (fun hHeld => ?_)
        clear hK K
        refine wpAnyH_ready (rs := [6]) (by kernel_rfl) (by simp) ?_
        refine AllReadyH.cons (o := { dst := some 26, op := .call { callee := .builtin Go.Builtin.append, args := #[.tmp 23, .tmp 25], argTypes := #[22, 22] }, type := 22, pos := "law.go:81", after := #[{ on := 3, ground := .data }, { on := 5, ground := .data }, { on := 3, ground := .chain }], guard := none }) rfl (fun K hK => ?_) AllReadyH.nil
        refine step_append_e elIn rfl _ _ rfl w2.heap.size _ (ins) rfl HR4.out _ 1 1 [x] rfl HS4.out (by first | (simp only [List.length_nil]; omega) | (rw [HLEN.out]; omega)) (by have := HB4.out.size; have := HM0.out; omega) ?_; intro va5 wb5 HR5n HG5 HMv5; obtain ⟨aa5, na5, ca5, rfl⟩ := HR5n.out.any; have HR5 : Hid (OwnE 46 wb5 w2.heap.size (.slice aa5 na5 ca5) (ins ++ [x])) := HR5n; have HB5 : Hid (Below w2.heap.size w2 wb5) := HB4.out.grown HG5.out (by have := HB4.out.size; have := HM0.out; omega) (fun k hk => (HR4.out.lt k hk).1); have HA5 : Hid (Blk wb5 wb1.heap.size [.slice none 0 0, .slice none 0 0, .int .i64 0]) := HA4.out.grown HG5.out (fun e => HN4.out _ e rfl); have HN5 : Hid (∀ k, (Value.slice aa5 na5 ca5).ownBlock = some k → k ≠ wb1.heap.size) := fun k hk e => HMv5.out.apart HA4.out.lt (fun h => HN4.out _ h rfl) (e ▸ hk)
        simp only [Act.put, List.setIfInBounds_toArray, List.set_cons_zero, List.set_cons_succ]
        refine hK.out _ _ (HSX.out _ HB5.out) (fun hHeld => ?_)
        clear hK K
        refine wpAnyH_take (i := 9) (oi := { dst := some 29, op := .build 25 #[(0, .tmp 26), (1, .tmp 28)], type := 25, pos := "law.go:81", after := #[{ on := 6, ground := .data }, { on := 8, ground := .data }], guard := none }) (v := ?_) rfl (by kernel_rfl) (by kernel_rfl) (by kernel_rfl) (fun _ _ _ h => h) (Or.inl ⟨by rfl, ?_⟩) (by assumption) ?_
        rotate_left
        · intro _ _; go_simp; first | done | with_reducible rfl
        simp only [Act.put, List.setIfInBounds_toArray, List.set_cons_zero, List.set_cons_succ]
        refine wpAnyH_ready (rs := [11]) (by kernel_rfl) (by simp) ?_
        refine AllReadyH.cons (o := { dst := none, op := .store 25 (.tmp 7) (.tmp 29), type := 0, pos := "law.go:81", after := #[{ on := 10, ground := .data }, { on := 9, ground := .data }, { on := 6, ground := .chain }, { on := 0, ground := .phase }, { on := 1, ground := .phase }, { on := 2, ground := .phase }, { on := 3, ground := .phase }, { on := 4, ground := .phase }, { on := 5, ground := .phase }, { on := 6, ground := .phase }, { on := 7, ground := .phase }, { on := 8, ground := .phase }, { on := 9, ground := .phase }, { on := 10, ground := .phase }], guard := none }) rfl (fun K hK => ?_) AllReadyH.nil
        refine step_store_mid rfl 25 _ _ rfl wb1.heap.size 0 [.slice aa5 na5 ca5, .slice b m d, .int .i64 0] rfl rfl (HA5.out.there 0 3 (by simp)) (by kernel_rfl) (by intro v hv; simp only [List.mem_cons, List.not_mem_nil, or_false] at hv; rcases hv with rfl | rfl | rfl <;> rfl) ?_; have HBf : Hid (Below w2.heap.size w2 (wb5.setCells wb1.heap.size 0 [.slice aa5 na5 ca5, .slice b m d, .int .i64 0])) := below_setCells HMA.out _ HB5.out _; have HAf : Hid (Blk (wb5.setCells wb1.heap.size 0 [.slice aa5 na5 ca5, .slice b m d, .int .i64 0]) wb1.heap.size [.slice aa5 na5 ca5, .slice b m d, .int .i64 0]) := by { have := HA5.out.cellsAt [.slice aa5 na5 ca5, .slice b m d, .int .i64 0] 0 (by simp); exact this }; have HRf : Hid (OwnE 46 (wb5.setCells wb1.heap.size 0 [.slice aa5 na5 ca5, .slice b m d, .int .i64 0]) w2.heap.size (.slice aa5 na5 ca5) (ins ++ [x])) := HR5.out.same fun k hk => heap_setCells [.slice aa5 na5 ca5, .slice b m d, .int .i64 0] wb5 0 k (HN5.out k hk)
        simp only [Act.put]
        refine hK.out _ _ (HSX.out _ HBf.out) (fun hHeld => ?_)
        clear hK K
        refine wpAnyH_done (by kernel_rfl) ?_ _
        refine NoPanic.normal ?_
        exact HREST.out _ _ (weiA_mk w2 w2.heap.size T ins x b m d _ _ _ _ ⟨HAf, HRf, HBf, HMA⟩)
    · go_simp
      skip; have Hb1q : Below w2.heap.size w2.drew ((w2.alloc (.cells #[.slice none 0 0, .slice none 0 0, .int .i64 0] 25)).drew) := (Below.refl _ w2.drew).alloc (Nat.le_refl _) _; have HA1q : Blk ((w2.alloc (.cells #[.slice none 0 0, .slice none 0 0, .int .i64 0] 25)).drew) w2.heap.size [.slice none 0 0, .slice none 0 0, .int .i64 0] := Blk.new w2.drew _ _; generalize (w2.alloc (.cells #[.slice none 0 0, .slice none 0 0, .int .i64 0] 25)).drew = wb1 at *; have Hb1 : Hid (Below w2.heap.size w2.drew wb1) := Hb1q; have HB1 : Hid (Below w2.heap.size w2 wb1) := HB00.out.trans (Hb1.out.mono (by have := HB00.out.size; have := HM0.out; omega)); have HA1 : Hid (Blk wb1 w2.heap.size [.slice none 0 0, .slice none 0 0, .int .i64 0]) := HA1q; have HMA : Hid (w2.heap.size ≤ w2.heap.size) := by { have := HB00.out.size; have := HM0.out; show _ ≤ _; omega }; clear Hb1q HA1q
      go_simp
      refine hK.out _ _ (HSX.out _ HB1.out) (fun hHeld => ?_)
      clear hK K
      refine wpAnyH_ready (rs := [0, 5]) (by kernel_rfl) (by simp) ?_
      refine (AllReadyH.cons (o := { dst := some 20, op := .buildSlice 22 0 #[], type := 22, pos := "law.go:81", after := #[], guard := none }) rfl (fun K hK => ?_) (AllReadyH.cons (o := { dst := some 25, op := .buildSlice 22 1 #[(0, .tmp 24)], type := 22, pos := "law.go:81", after := #[{ on := 4, ground := .data }], guard := none }) rfl (fun K hK => ?_) AllReadyH.nil))
      · go_simp
        skip; have Hg2 : Hid (w2.heap.size ≤ wb1.heap.size) := by { have := HB1.out.size; have := HM0.out; show _ ≤ _; omega }; have Hb2q : Below wb1.heap.size wb1 (wb1.alloc (.cells #[] 46)) := (Below.refl _ wb1).alloc (Nat.le_refl _) _; have HR2q : OwnE 46 (wb1.alloc (.cells #[] 46)) w2.heap.size (.slice (some ⟨wb1.heap.size, 0, none⟩) 0 0) ([] : List In) := World.ownsRow_made (size := El.k In) wb1 #[] 0 Hg2.out (Nat.zero_le _) (by simp); generalize wb1.alloc (.cells #[] 46) = wb2 at *; have Hb2 : Hid (Below wb1.heap.size wb1 wb2) := Hb2q; have HB2 : Hid (Below w2.heap.size w2 wb2) := HB1.out.trans (Hb2.out.mono (by have := HB1.out.size; have := HM0.out; omega)); have HA2 : Hid (Blk wb2 w2.heap.size [.slice none 0 0, .slice none 0 0, .int .i64 0]) := HA1.out.below Hb2.out HA1.out.lt; have HR2 : Hid (OwnE 46 wb2 w2.heap.size (.slice (some ⟨wb1.heap.size, 0, none⟩) 0 0) ([] : List In)) := HR2q; have HN2 : Hid (∀ k, (Value.slice (some ⟨wb1.heap.size, 0, none⟩) 0 0).ownBlock = some k → k ≠ w2.heap.size) := fun k hk => by { have h1 : some wb1.heap.size = some k := hk; injection h1 with h1; have h2 := HA1.out.lt; omega }; clear Hb2q HR2q
        go_simp
        refine hK.out _ _ (HSX.out _ HB2.out) (fun hHeld => ?_)
        clear hK K
        refine wpAnyH_ready (rs := [3, 5]) (by kernel_rfl) (by simp) ?_
        refine (AllReadyH.cons (o := { dst := some 23, op := .call { callee := .builtin Go.Builtin.append, args := #[.tmp 20, .tmp 22], argTypes := #[22, 22] }, type := 22, pos := "law.go:81", after := #[{ on := 0, ground := .data }, { on := 2, ground := .data }], guard := none }) rfl (fun K hK => ?_) (AllReadyH.cons (o := { dst := some 25, op := .buildSlice 22 1 #[(0, .tmp 24)], type := 22, pos := "law.go:81", after := #[{ on := 4, ground := .data }], guard := none }) rfl (fun K hK => ?_) AllReadyH.nil))
        · refine step_append_e elIn rfl _ _ rfl w2.heap.size _ (([] : List In)) rfl HR2.out _ _ _ ins rfl (HSRC.out _ HB2.out) (by first | (simp only [List.length_nil]; omega) | (rw [HLEN.out]; omega)) (by have := HB2.out.size; have := HM0.out; omega) ?_; intro va3 wb3 HR3n HG3 HMv3; obtain ⟨aa3, na3, ca3, rfl⟩ := HR3n.out.any; have HR3 : Hid (OwnE 46 wb3 w2.heap.size (.slice aa3 na3 ca3) (ins)) := HR3n; have HB3 : Hid (Below w2.heap.size w2 wb3) := HB2.out.grown HG3.out (by have := HB2.out.size; have := HM0.out; omega) (fun k hk => (HR2.out.lt k hk).1); have HA3 : Hid (Blk wb3 w2.heap.size [.slice none 0 0, .slice none 0 0, .int .i64 0]) := HA2.out.grown HG3.out (fun e => HN2.out _ e rfl); have HN3 : Hid (∀ k, (Value.slice aa3 na3 ca3).ownBlock = some k → k ≠ w2.heap.size) := fun k hk e => HMv3.out.apart HA2.out.lt (fun h => HN2.out _ h rfl) (e ▸ hk)
          simp only [Act.put, List.setIfInBounds_toArray, List.set_cons_zero, List.set_cons_succ]
          refine hK.out _ _ (HSX.out _ HB3.out) (fun hHeld => ?_)
          clear hK K
          refine wpAnyH_ready (rs := [5]) (by kernel_rfl) (by simp) ?_
          refine AllReadyH.cons (o := { dst := some 25, op := .buildSlice 22 1 #[(0, .tmp 24)], type := 22, pos := "law.go:81", after := #[{ on := 4, ground := .data }], guard := none }) rfl (fun K hK => ?_) AllReadyH.nil
          refine step_build_one elIn rfl _ rfl x rfl ?_; intro wb4 HS4n Hb4n; have Hb4 : Hid (Below wb3.heap.size wb3 wb4) := Hb4n; have HS4 : Hid (Els wb4 (some ⟨wb3.heap.size, 0, none⟩) 1 1 [x]) := HS4n; have HB4 : Hid (Below w2.heap.size w2 wb4) := HB3.out.trans (Hb4.out.mono (by have := HB3.out.size; have := HM0.out; omega)); have HR4 : Hid (OwnE 46 wb4 w2.heap.size (.slice aa3 na3 ca3) (ins)) := HR3.out.below Hb4.out; have HA4 : Hid (Blk wb4 w2.heap.size [.slice none 0 0, .slice none 0 0, .int .i64 0]) := HA3.out.below Hb4.out HA3.out.lt
          simp only [Act.put, List.setIfInBounds_toArray, List.set_cons_zero, List.set_cons_succ]
          refine hK.out _ _ (HSX.out _ HB4.out) (fun hHeld => ?_)
          clear hK K
          refine wpAnyH_ready (rs := [6]) (by kernel_rfl) (by simp) ?_
          refine AllReadyH.cons (o := { dst := some 26, op := .call { callee := .builtin Go.Builtin.append, args := #[.tmp 23, .tmp 25], argTypes := #[22, 22] }, type := 22, pos := "law.go:81", after := #[{ on := 3, ground := .data }, { on := 5, ground := .data }, { on := 3, ground := .chain }], guard := none }) rfl (fun K hK => ?_) AllReadyH.nil
          refine step_append_e elIn rfl _ _ rfl w2.heap.size _ (ins) rfl HR4.out _ 1 1 [x] rfl HS4.out (by first | (simp only [List.length_nil]; omega) | (rw [HLEN.out]; omega)) (by have := HB4.out.size; have := HM0.out; omega) ?_; intro va5 wb5 HR5n HG5 HMv5; obtain ⟨aa5, na5, ca5, rfl⟩ := HR5n.out.any; have HR5 : Hid (OwnE 46 wb5 w2.heap.size (.slice aa5 na5 ca5) (ins ++ [x])) := HR5n; have HB5 : Hid (Below w2.heap.size w2 wb5) := HB4.out.grown HG5.out (by have := HB4.out.size; have := HM0.out; omega) (fun k hk => (HR4.out.lt k hk).1); have HA5 : Hid (Blk wb5 w2.heap.size [.slice none 0 0, .slice none 0 0, .int .i64 0]) := HA4.out.grown HG5.out (fun e => HN3.out _ e rfl); have HN5 : Hid (∀ k, (Value.slice aa5 na5 ca5).ownBlock = some k → k ≠ w2.heap.size) := fun k hk e => HMv5.out.apart HA4.out.lt (fun h => HN3.out _ h rfl) (e ▸ hk)
          simp only [Act.put, List.setIfInBounds_toArray, List.set_cons_zero, List.set_cons_succ]
          refine hK.out _ _ (HSX.out _ HB5.out) (fun hHeld => ?_)
          clear hK K
          refine wpAnyH_take (i := 9) (oi := { dst := some 29, op := .build 25 #[(0, .tmp 26), (1, .tmp 28)], type := 25, pos := "law.go:81", after := #[{ on := 6, ground := .data }, { on := 8, ground := .data }], guard := none }) (v := ?_) rfl (by kernel_rfl) (by kernel_rfl) (by kernel_rfl) (fun _ _ _ h => h) (Or.inl ⟨by rfl, ?_⟩) (by assumption) ?_
          rotate_left
          · intro _ _; go_simp; first | done | with_reducible rfl
          simp only [Act.put, List.setIfInBounds_toArray, List.set_cons_zero, List.set_cons_succ]
          refine wpAnyH_ready (rs := [11]) (by kernel_rfl) (by simp) ?_
          refine AllReadyH.cons (o := { dst := none, op := .store 25 (.tmp 7) (.tmp 29), type := 0, pos := "law.go:81", after := #[{ on := 10, ground := .data }, { on := 9, ground := .data }, { on := 6, ground := .chain }, { on := 0, ground := .phase }, { on := 1, ground := .phase }, { on := 2, ground := .phase }, { on := 3, ground := .phase }, { on := 4, ground := .phase }, { on := 5, ground := .phase }, { on := 6, ground := .phase }, { on := 7, ground := .phase }, { on := 8, ground := .phase }, { on := 9, ground := .phase }, { on := 10, ground := .phase }], guard := none }) rfl (fun K hK => ?_) AllReadyH.nil
          refine step_store_mid rfl 25 _ _ rfl w2.heap.size 0 [.slice aa5 na5 ca5, .slice b m d, .int .i64 0] rfl rfl (HA5.out.there 0 3 (by simp)) (by kernel_rfl) (by intro v hv; simp only [List.mem_cons, List.not_mem_nil, or_false] at hv; rcases hv with rfl | rfl | rfl <;> rfl) ?_; have HBf : Hid (Below w2.heap.size w2 (wb5.setCells w2.heap.size 0 [.slice aa5 na5 ca5, .slice b m d, .int .i64 0])) := below_setCells HMA.out _ HB5.out _; have HAf : Hid (Blk (wb5.setCells w2.heap.size 0 [.slice aa5 na5 ca5, .slice b m d, .int .i64 0]) w2.heap.size [.slice aa5 na5 ca5, .slice b m d, .int .i64 0]) := by { have := HA5.out.cellsAt [.slice aa5 na5 ca5, .slice b m d, .int .i64 0] 0 (by simp); exact this }; have HRf : Hid (OwnE 46 (wb5.setCells w2.heap.size 0 [.slice aa5 na5 ca5, .slice b m d, .int .i64 0]) w2.heap.size (.slice aa5 na5 ca5) (ins ++ [x])) := HR5.out.same fun k hk => heap_setCells [.slice aa5 na5 ca5, .slice b m d, .int .i64 0] wb5 0 k (HN5.out k hk)
          simp only [Act.put]
          refine hK.out _ _ (HSX.out _ HBf.out) (fun hHeld => ?_)
          clear hK K
          refine wpAnyH_done (by kernel_rfl) ?_ _
          refine NoPanic.normal ?_
          exact HREST.out _ _ (weiA_mk w2 w2.heap.size T ins x b m d _ _ _ _ ⟨HAf, HRf, HBf, HMA⟩)
        · refine step_build_one elIn rfl _ rfl x rfl ?_; intro wb3 HS3n Hb3n; have Hb3 : Hid (Below wb2.heap.size wb2 wb3) := Hb3n; have HS3 : Hid (Els wb3 (some ⟨wb2.heap.size, 0, none⟩) 1 1 [x]) := HS3n; have HD : Hid (wb1.heap.size ≠ wb2.heap.size) := by { have := (HR2.out.lt wb1.heap.size rfl).2; show _ ≠ _; omega }; have HB3 : Hid (Below w2.heap.size w2 wb3) := HB2.out.trans (Hb3.out.mono (by have := HB2.out.size; have := HM0.out; omega)); have HR3 : Hid (OwnE 46 wb3 w2.heap.size (.slice (some ⟨wb1.heap.size, 0, none⟩) 0 0) (([] : List In))) := HR2.out.below Hb3.out; have HA3 : Hid (Blk wb3 w2.heap.size [.slice none 0 0, .slice none 0 0, .int .i64 0]) := HA2.out.below Hb3.out HA2.out.lt
          simp only [Act.put, List.setIfInBounds_toArray, List.set_cons_zero, List.set_cons_succ]
          refine hK.out _ _ (HSX.out _ HB3.out) (fun hHeld => ?_)
          clear hK K
          refine wpAnyH_ready (rs := [3]) (by kernel_rfl) (by simp) ?_
          refine AllReadyH.cons (o := { dst := some 23, op := .call { callee := .builtin Go.Builtin.append, args := #[.tmp 20, .tmp 22], argTypes := #[22, 22] }, type := 22, pos := "law.go:81", after := #[{ on := 0, ground := .data }, { on := 2, ground := .data }], guard := none }) rfl (fun K hK => ?_) AllReadyH.nil
          refine step_append_e elIn rfl _ _ rfl w2.heap.size _ (([] : List In)) rfl HR3.out _ _ _ ins rfl (HSRC.out _ HB3.out) (by first | (simp only [List.length_nil]; omega) | (rw [HLEN.out]; omega)) (by have := HB3.out.size; have := HM0.out; omega) ?_; intro va4 wb4 HR4n HG4 HMv4; obtain ⟨aa4, na4, ca4, rfl⟩ := HR4n.out.any; have HR4 : Hid (OwnE 46 wb4 w2.heap.size (.slice aa4 na4 ca4) (ins)) := HR4n; have HB4 : Hid (Below w2.heap.size w2 wb4) := HB3.out.grown HG4.out (by have := HB3.out.size; have := HM0.out; omega) (fun k hk => (HR3.out.lt k hk).1); have HS4 : Hid (Els wb4 (some ⟨wb2.heap.size, 0, none⟩) 1 1 [x]) := HS3.out.later fun b o _ e => HG4.out.block b (HS3.out.blockLt e) (fun h => by { have h1 : some b = some wb1.heap.size := h; injection h1 with h1; injection e with e; injection e with e; have := HD.out; omega }); have HA4 : Hid (Blk wb4 w2.heap.size [.slice none 0 0, .slice none 0 0, .int .i64 0]) := HA3.out.grown HG4.out (fun e => HN2.out _ e rfl); have HN4 : Hid (∀ k, (Value.slice aa4 na4 ca4).ownBlock = some k → k ≠ w2.heap.size) := fun k hk e => HMv4.out.apart HA3.out.lt (fun h => HN2.out _ h rfl) (e ▸ hk)
          simp only [Act.put, List.setIfInBounds_toArray, List.set_cons_zero, List.set_cons_succ]
          refine hK.out _ _ (HSX.out _ HB4.out) (fun hHeld => ?_)
          clear hK K
          refine wpAnyH_ready (rs := [6]) (by kernel_rfl) (by simp) ?_
          refine AllReadyH.cons (o := { dst := some 26, op := .call { callee := .builtin Go.Builtin.append, args := #[.tmp 23, .tmp 25], argTypes := #[22, 22] }, type := 22, pos := "law.go:81", after := #[{ on := 3, ground := .data }, { on := 5, ground := .data }, { on := 3, ground := .chain }], guard := none }) rfl (fun K hK => ?_) AllReadyH.nil
          refine step_append_e elIn rfl _ _ rfl w2.heap.size _ (ins) rfl HR4.out _ 1 1 [x] rfl HS4.out (by first | (simp only [List.length_nil]; omega) | (rw [HLEN.out]; omega)) (by have := HB4.out.size; have := HM0.out; omega) ?_; intro va5 wb5 HR5n HG5 HMv5; obtain ⟨aa5, na5, ca5, rfl⟩ := HR5n.out.any; have HR5 : Hid (OwnE 46 wb5 w2.heap.size (.slice aa5 na5 ca5) (ins ++ [x])) := HR5n; have HB5 : Hid (Below w2.heap.size w2 wb5) := HB4.out.grown HG5.out (by have := HB4.out.size; have := HM0.out; omega) (fun k hk => (HR4.out.lt k hk).1); have HA5 : Hid (Blk wb5 w2.heap.size [.slice none 0 0, .slice none 0 0, .int .i64 0]) := HA4.out.grown HG5.out (fun e => HN4.out _ e rfl); have HN5 : Hid (∀ k, (Value.slice aa5 na5 ca5).ownBlock = some k → k ≠ w2.heap.size) := fun k hk e => HMv5.out.apart HA4.out.lt (fun h => HN4.out _ h rfl) (e ▸ hk)
          simp only [Act.put, List.setIfInBounds_toArray, List.set_cons_zero, List.set_cons_succ]
          refine hK.out _ _ (HSX.out _ HB5.out) (fun hHeld => ?_)
          clear hK K
          refine wpAnyH_take (i := 9) (oi := { dst := some 29, op := .build 25 #[(0, .tmp 26), (1, .tmp 28)], type := 25, pos := "law.go:81", after := #[{ on := 6, ground := .data }, { on := 8, ground := .data }], guard := none }) (v := ?_) rfl (by kernel_rfl) (by kernel_rfl) (by kernel_rfl) (fun _ _ _ h => h) (Or.inl ⟨by rfl, ?_⟩) (by assumption) ?_
          rotate_left
          · intro _ _; go_simp; first | done | with_reducible rfl
          simp only [Act.put, List.setIfInBounds_toArray, List.set_cons_zero, List.set_cons_succ]
          refine wpAnyH_ready (rs := [11]) (by kernel_rfl) (by simp) ?_
          refine AllReadyH.cons (o := { dst := none, op := .store 25 (.tmp 7) (.tmp 29), type := 0, pos := "law.go:81", after := #[{ on := 10, ground := .data }, { on := 9, ground := .data }, { on := 6, ground := .chain }, { on := 0, ground := .phase }, { on := 1, ground := .phase }, { on := 2, ground := .phase }, { on := 3, ground := .phase }, { on := 4, ground := .phase }, { on := 5, ground := .phase }, { on := 6, ground := .phase }, { on := 7, ground := .phase }, { on := 8, ground := .phase }, { on := 9, ground := .phase }, { on := 10, ground := .phase }], guard := none }) rfl (fun K hK => ?_) AllReadyH.nil
          refine step_store_mid rfl 25 _ _ rfl w2.heap.size 0 [.slice aa5 na5 ca5, .slice b m d, .int .i64 0] rfl rfl (HA5.out.there 0 3 (by simp)) (by kernel_rfl) (by intro v hv; simp only [List.mem_cons, List.not_mem_nil, or_false] at hv; rcases hv with rfl | rfl | rfl <;> rfl) ?_; have HBf : Hid (Below w2.heap.size w2 (wb5.setCells w2.heap.size 0 [.slice aa5 na5 ca5, .slice b m d, .int .i64 0])) := below_setCells HMA.out _ HB5.out _; have HAf : Hid (Blk (wb5.setCells w2.heap.size 0 [.slice aa5 na5 ca5, .slice b m d, .int .i64 0]) w2.heap.size [.slice aa5 na5 ca5, .slice b m d, .int .i64 0]) := by { have := HA5.out.cellsAt [.slice aa5 na5 ca5, .slice b m d, .int .i64 0] 0 (by simp); exact this }; have HRf : Hid (OwnE 46 (wb5.setCells w2.heap.size 0 [.slice aa5 na5 ca5, .slice b m d, .int .i64 0]) w2.heap.size (.slice aa5 na5 ca5) (ins ++ [x])) := HR5.out.same fun k hk => heap_setCells [.slice aa5 na5 ca5, .slice b m d, .int .i64 0] wb5 0 k (HN5.out k hk)
          simp only [Act.put]
          refine hK.out _ _ (HSX.out _ HBf.out) (fun hHeld => ?_)
          clear hK K
          refine wpAnyH_done (by kernel_rfl) ?_ _
          refine NoPanic.normal ?_
          exact HREST.out _ _ (weiA_mk w2 w2.heap.size T ins x b m d _ _ _ _ ⟨HAf, HRf, HBf, HMA⟩)
      · refine step_build_one elIn rfl _ rfl x rfl ?_; intro wb2 HS2n Hb2n; have Hb2 : Hid (Below wb1.heap.size wb1 wb2) := Hb2n; have HS2 : Hid (Els wb2 (some ⟨wb1.heap.size, 0, none⟩) 1 1 [x]) := HS2n; have HB2 : Hid (Below w2.heap.size w2 wb2) := HB1.out.trans (Hb2.out.mono (by have := HB1.out.size; have := HM0.out; omega)); have HA2 : Hid (Blk wb2 w2.heap.size [.slice none 0 0, .slice none 0 0, .int .i64 0]) := HA1.out.below Hb2.out HA1.out.lt
        simp only [Act.put, List.setIfInBounds_toArray, List.set_cons_zero, List.set_cons_succ]
        refine hK.out _ _ (HSX.out _ HB2.out) (fun hHeld => ?_)
        clear hK K
        refine wpAnyH_ready (rs := [0]) (by kernel_rfl) (by simp) ?_
        refine AllReadyH.cons (o := { dst := some 20, op := .buildSlice 22 0 #[], type := 22, pos := "law.go:81", after := #[], guard := none }) rfl (fun K hK => ?_) AllReadyH.nil
        go_simp
        skip; have Hg3 : Hid (w2.heap.size ≤ wb2.heap.size) := by { have := HB2.out.size; have := HM0.out; show _ ≤ _; omega }; have Hb3q : Below wb2.heap.size wb2 (wb2.alloc (.cells #[] 46)) := (Below.refl _ wb2).alloc (Nat.le_refl _) _; have HR3q : OwnE 46 (wb2.alloc (.cells #[] 46)) w2.heap.size (.slice (some ⟨wb2.heap.size, 0, none⟩) 0 0) ([] : List In) := World.ownsRow_made (size := El.k In) wb2 #[] 0 Hg3.out (Nat.zero_le _) (by simp); generalize wb2.alloc (.cells #[] 46) = wb3 at *; have Hb3 : Hid (Below wb2.heap.size wb2 wb3) := Hb3q; have HB3 : Hid (Below w2.heap.size w2 wb3) := HB2.out.trans (Hb3.out.mono (by have := HB2.out.size; have := HM0.out; omega)); have HS3 : Hid (Els wb3 (some ⟨wb1.heap.size, 0, none⟩) 1 1 [x]) := HS2.out.below Hb3.out; have HA3 : Hid (Blk wb3 w2.heap.size [.slice none 0 0, .slice none 0 0, .int .i64 0]) := HA2.out.below Hb3.out HA2.out.lt; have HR3 : Hid (OwnE 46 wb3 w2.heap.size (.slice (some ⟨wb2.heap.size, 0, none⟩) 0 0) ([] : List In)) := HR3q; have HN3 : Hid (∀ k, (Value.slice (some ⟨wb2.heap.size, 0, none⟩) 0 0).ownBlock = some k → k ≠ w2.heap.size) := fun k hk => by { have h1 : some wb2.heap.size = some k := hk; injection h1 with h1; have h2 := HA2.out.lt; omega }; have HD : Hid (wb2.heap.size ≠ wb1.heap.size) := by { have := HS2.out.blockLt rfl; show _ ≠ _; omega }; clear Hb3q HR3q
        go_simp
        refine hK.out _ _ (HSX.out _ HB3.out) (fun hHeld => ?_)
        clear hK K
        refine wpAnyH_ready (rs := [3]) (by kernel_rfl) (by simp) ?_
        refine AllReadyH.cons (o := { dst := some 23, op := .call { callee := .builtin Go.Builtin.append, args := #[.tmp 20, .tmp 22], argTypes := #[22, 22] }, type := 22, pos := "law.go:81", after := #[{ on := 0, ground := .data }, { on := 2, ground := .data }], guard := none }) rfl (fun K hK => ?_) AllReadyH.nil
        refine step_append_e elIn rfl _ _ rfl w2.heap.size _ (([] : List In)) rfl HR3.out _ _ _ ins rfl (HSRC.out _ HB3.out) (by first | (simp only [List.length_nil]; omega) | (rw [HLEN.out]; omega)) (by have := HB3.out.size; have := HM0.out; omega) ?_; intro va4 wb4 HR4n HG4 HMv4; obtain ⟨aa4, na4, ca4, rfl⟩ := HR4n.out.any; have HR4 : Hid (OwnE 46 wb4 w2.heap.size (.slice aa4 na4 ca4) (ins)) := HR4n; have HB4 : Hid (Below w2.heap.size w2 wb4) := HB3.out.grown HG4.out (by have := HB3.out.size; have := HM0.out; omega) (fun k hk => (HR3.out.lt k hk).1); have HS4 : Hid (Els wb4 (some ⟨wb1.heap.size, 0, none⟩) 1 1 [x]) := HS3.out.later fun b o _ e => HG4.out.block b (HS3.out.blockLt e) (fun h => by { have h1 : some b = some wb2.heap.size := h; injection h1 with h1; injection e with e; injection e with e; have := HD.out; omega }); have HA4 : Hid (Blk wb4 w2.heap.size [.slice none 0 0, .slice none 0 0, .int .i64 0]) := HA3.out.grown HG4.out (fun e => HN3.out _ e rfl); have HN4 : Hid (∀ k, (Value.slice aa4 na4 ca4).ownBlock = some k → k ≠ w2.heap.size) := fun k hk e => HMv4.out.apart HA3.out.lt (fun h => HN3.out _ h rfl) (e ▸ hk)
        simp only [Act.put, List.setIfInBounds_toArray, List.set_cons_zero, List.set_cons_succ]
        refine hK.out _ _ (HSX.out _ HB4.out) (fun hHeld => ?_)
        clear hK K
        refine wpAnyH_ready (rs := [6]) (by kernel_rfl) (by simp) ?_
        refine AllReadyH.cons (o := { dst := some 26, op := .call { callee := .builtin Go.Builtin.append, args := #[.tmp 23, .tmp 25], argTypes := #[22, 22] }, type := 22, pos := "law.go:81", after := #[{ on := 3, ground := .data }, { on := 5, ground := .data }, { on := 3, ground := .chain }], guard := none }) rfl (fun K hK => ?_) AllReadyH.nil
        refine step_append_e elIn rfl _ _ rfl w2.heap.size _ (ins) rfl HR4.out _ 1 1 [x] rfl HS4.out (by first | (simp only [List.length_nil]; omega) | (rw [HLEN.out]; omega)) (by have := HB4.out.size; have := HM0.out; omega) ?_; intro va5 wb5 HR5n HG5 HMv5; obtain ⟨aa5, na5, ca5, rfl⟩ := HR5n.out.any; have HR5 : Hid (OwnE 46 wb5 w2.heap.size (.slice aa5 na5 ca5) (ins ++ [x])) := HR5n; have HB5 : Hid (Below w2.heap.size w2 wb5) := HB4.out.grown HG5.out (by have := HB4.out.size; have := HM0.out; omega) (fun k hk => (HR4.out.lt k hk).1); have HA5 : Hid (Blk wb5 w2.heap.size [.slice none 0 0, .slice none 0 0, .int .i64 0]) := HA4.out.grown HG5.out (fun e => HN4.out _ e rfl); have HN5 : Hid (∀ k, (Value.slice aa5 na5 ca5).ownBlock = some k → k ≠ w2.heap.size) := fun k hk e => HMv5.out.apart HA4.out.lt (fun h => HN4.out _ h rfl) (e ▸ hk)
        simp only [Act.put, List.setIfInBounds_toArray, List.set_cons_zero, List.set_cons_succ]
        refine hK.out _ _ (HSX.out _ HB5.out) (fun hHeld => ?_)
        clear hK K
        refine wpAnyH_take (i := 9) (oi := { dst := some 29, op := .build 25 #[(0, .tmp 26), (1, .tmp 28)], type := 25, pos := "law.go:81", after := #[{ on := 6, ground := .data }, { on := 8, ground := .data }], guard := none }) (v := ?_) rfl (by kernel_rfl) (by kernel_rfl) (by kernel_rfl) (fun _ _ _ h => h) (Or.inl ⟨by rfl, ?_⟩) (by assumption) ?_
        rotate_left
        · intro _ _; go_simp; first | done | with_reducible rfl
        simp only [Act.put, List.setIfInBounds_toArray, List.set_cons_zero, List.set_cons_succ]
        refine wpAnyH_ready (rs := [11]) (by kernel_rfl) (by simp) ?_
        refine AllReadyH.cons (o := { dst := none, op := .store 25 (.tmp 7) (.tmp 29), type := 0, pos := "law.go:81", after := #[{ on := 10, ground := .data }, { on := 9, ground := .data }, { on := 6, ground := .chain }, { on := 0, ground := .phase }, { on := 1, ground := .phase }, { on := 2, ground := .phase }, { on := 3, ground := .phase }, { on := 4, ground := .phase }, { on := 5, ground := .phase }, { on := 6, ground := .phase }, { on := 7, ground := .phase }, { on := 8, ground := .phase }, { on := 9, ground := .phase }, { on := 10, ground := .phase }], guard := none }) rfl (fun K hK => ?_) AllReadyH.nil
        refine step_store_mid rfl 25 _ _ rfl w2.heap.size 0 [.slice aa5 na5 ca5, .slice b m d, .int .i64 0] rfl rfl (HA5.out.there 0 3 (by simp)) (by kernel_rfl) (by intro v hv; simp only [List.mem_cons, List.not_mem_nil, or_false] at hv; rcases hv with rfl | rfl | rfl <;> rfl) ?_; have HBf : Hid (Below w2.heap.size w2 (wb5.setCells w2.heap.size 0 [.slice aa5 na5 ca5, .slice b m d, .int .i64 0])) := below_setCells HMA.out _ HB5.out _; have HAf : Hid (Blk (wb5.setCells w2.heap.size 0 [.slice aa5 na5 ca5, .slice b m d, .int .i64 0]) w2.heap.size [.slice aa5 na5 ca5, .slice b m d, .int .i64 0]) := by { have := HA5.out.cellsAt [.slice aa5 na5 ca5, .slice b m d, .int .i64 0] 0 (by simp); exact this }; have HRf : Hid (OwnE 46 (wb5.setCells w2.heap.size 0 [.slice aa5 na5 ca5, .slice b m d, .int .i64 0]) w2.heap.size (.slice aa5 na5 ca5) (ins ++ [x])) := HR5.out.same fun k hk => heap_setCells [.slice aa5 na5 ca5, .slice b m d, .int .i64 0] wb5 0 k (HN5.out k hk)
        simp only [Act.put]
        refine hK.out _ _ (HSX.out _ HBf.out) (fun hHeld => ?_)
        clear hK K
        refine wpAnyH_done (by kernel_rfl) ?_ _
        refine NoPanic.normal ?_
        exact HREST.out _ _ (weiA_mk w2 w2.heap.size T ins x b m d _ _ _ _ ⟨HAf, HRf, HBf, HMA⟩)
  · rintro aw w3 ⟨A, aN, nN, cN, u, rfl, HA3, HR3, HB3, HMA3⟩
    obtain ⟨a', c', hv, hE3⟩ := HR3.out.els
    injection hv with e1 e2 e3
    subst e1; subst e2; subst e3
    have hlx : (ins ++ [x]).length = n + 1 := by rw [List.length_append, HLENI.out]; rfl
    rw [hlx] at HA3 hE3
    clear HR3 hlx
    have HKP3 : Hid (∀ w', Below w3.heap.size w3 w' → Blk w' T [.slice a n c, .slice b m d, .int .i64 lock] ∧ Blk w' (T + 1) x.cs ∧ Blk w' (T + 2) y.cs ∧ Below T w w' ∧ Els w' a n c ins ∧ Els w' b m d outs ∧ Blk w' A [.slice aN (n + 1) cN, .slice b m d, .int .i64 0] ∧ Els w' aN (n + 1) cN (ins ++ [x])) := fun w' hb => by
      have hs3 := HB3.out.size
      obtain ⟨h1, h2, h3, h4, h5, h6⟩ := HKP.out w' (HB3.out.trans (hb.mono hs3))
      exact ⟨h1, h2, h3, h4, h5, h6, HA3.out.below hb HA3.out.lt, hE3.below hb⟩
    have hs3 : T + 2 < w3.heap.size := ((HKP3.out w3 (Below.refl _ _)).2.2.1).lt
    clear HKP HA3 HB3 HMA3 hE3 HB00 HM0 hs1 hs2
    go_upto_region 4 with fail
    have HM0 : Hid (w3.heap.size ≤ w3.heap.size) := Nat.le_refl _
    have HB00 : Hid (Below w3.heap.size w3 w3.drew) := (Below.refl _ _).drew
    apply split_rest (weiB w3 w3.heap.size T A outs y a n c)
    · intro HREST
      have HSRC : Hid (∀ w', Below w3.heap.size w3 w' → Els w' b m d outs) := fun w' h => (HKP3.out w' h).2.2.2.2.2.1
      have HSX : Hid (∀ w', Below w3.heap.size w3 w' → w'.cell? ⟨T, 0, none⟩ = some (.slice a n c) ∧ w'.cell? ⟨T, 1, none⟩ = some (.slice b m d) ∧ w'.rangeAt (T + 2) 0 y.cs) := fun w' h => by
        obtain ⟨h0, _, h2, _⟩ := HKP3.out w' h
        exact ⟨h0.one rfl, h0.one rfl, h2.whole⟩
      have HLEN : Hid (outs.length = m) := HLENO
      refine wp_region_noPanic ?_
      refine wp_region_held_drew (S := fun w' => w'.cell? ⟨T, 0, none⟩ = some (.slice a n c) ∧ w'.cell? ⟨T, 1, none⟩ = some (.slice b m d) ∧ w'.rangeAt (T + 2) 0 y.cs) HMO.out (HSX.out _ HB00.out) (fun hHeld => ?_)
      refine wpAnyH_take (i := 0) (oi := { dst := some 30, op := .fieldAddr 25 (.tmp 3) 0, type := 0, pos := "law.go:82", after := #[], guard := none }) (v := ?_) rfl (by kernel_rfl) (by kernel_rfl) (by kernel_rfl) (fun _ _ _ h => h) (Or.inl ⟨by rfl, ?_⟩) (by assumption) ?_
      rotate_left
      · intro _ _; go_simp; first | done | with_reducible rfl
      simp only [Act.put, List.setIfInBounds_toArray, List.set_cons_zero, List.set_cons_succ]
      refine wpAnyH_take (i := 1) (oi := { dst := some 31, op := .load 22 (.tmp 30), type := 22, pos := "law.go:82", after := #[{ on := 0, ground := .data }], guard := none }) (v := ?_) rfl (by kernel_rfl) (by kernel_rfl) (by kernel_rfl) (fun _ _ _ h => h) (Or.inl ⟨by rfl, ?_⟩) (by assumption) ?_
      rotate_left
      · intro _ _; go_simp; first | done | with_reducible rfl
      simp only [Act.put, List.setIfInBounds_toArray, List.set_cons_zero, List.set_cons_succ]
      refine wpAnyH_take (i := 3) (oi := { dst := some 33, op := .fieldAddr 25 (.tmp 3) 1, type := 0, pos := "law.go:82", after := #[], guard := none }) (v := ?_) rfl (by kernel_rfl) (by kernel_rfl) (by kernel_rfl) (fun _ _ _ h => h) (Or.inl ⟨by rfl, ?_⟩) (by assumption) ?_
      rotate_left
      · intro _ _; go_simp; first | done | with_reducible rfl
      simp only [Act.put, List.setIfInBounds_toArray, List.set_cons_zero, List.set_cons_succ]
      refine wpAnyH_take (i := 4) (oi := { dst := some 34, op := .load 23 (.tmp 33), type := 23, pos := "law.go:82", after := #[{ on := 3, ground := .data }], guard := none }) (v := ?_) rfl (by kernel_rfl) (by kernel_rfl) (by kernel_rfl) (fun _ _ _ h => h) (Or.inl ⟨by rfl, ?_⟩) (by assumption) ?_
      rotate_left
      · intro _ _; go_simp; first | done | with_reducible rfl
      simp only [Act.put, List.setIfInBounds_toArray, List.set_cons_zero, List.set_cons_succ]
      refine wpAnyH_take (i := 6) (oi := { dst := some 36, op := .load 50 (.tmp 5), type := 50, pos := "law.go:82", after := #[], guard := none }) (v := _) rfl (by kernel_rfl) (by kernel_rfl) (by kernel_rfl) (fun _ _ _ h => h) (yieldsIf_load_mid (by rfl) _ _ rfl (T + 2) (0) rfl (y.cs) _ (fun _ h => h.2.2) (Tryd.underlying50) rfl (size_out y)) (by assumption) ?_
      simp only [Act.put, List.setIfInBounds_toArray, List.set_cons_zero, List.set_cons_succ]
      refine wpAnyH_ready (rs := [2, 7, 10]) (by kernel_rfl) (by simp) ?_
      refine (AllReadyH.cons (o := { dst := some 32, op := .buildSlice 23 0 #[], type := 23, pos := "law.go:82", after := #[], guard := none }) rfl (fun K hK => ?_) (AllReadyH.cons (o := { dst := some 37, op := .buildSlice 23 1 #[(0, .tmp 36)], type := 23, pos := "law.go:82", after := #[{ on := 6, ground := .data }], guard := none }) rfl (fun K hK => ?_) (AllReadyH.cons (o := { dst := some 8, op := .alloc 25, type := 0, pos := "law.go:82", after := #[], guard := none }) rfl (fun K hK => ?_) AllReadyH.nil)))
      · go_simp
        skip; have Hg1 : Hid (w3.heap.size ≤ w3.heap.size) := by { have := HB00.out.size; have := HM0.out; show _ ≤ _; omega }; have Hb1q : Below w3.heap.size w3.drew ((w3.alloc (.cells #[] 50)).drew) := (Below.refl _ w3.drew).alloc (Nat.le_refl _) _; have HR1q : OwnE 50 ((w3.alloc (.cells #[] 50)).drew) w3.heap.size (.slice (some ⟨w3.heap.size, 0, none⟩) 0 0) ([] : List Out) := World.ownsRow_made (size := El.k Out) w3.drew #[] 0 Hg1.out (Nat.zero_le _) (by simp); generalize (w3.alloc (.cells #[] 50)).drew = wb1 at *; have Hb1 : Hid (Below w3.heap.size w3.drew wb1) := Hb1q; have HB1 : Hid (Below w3.heap.size w3 wb1) := HB00.out.trans (Hb1.out.mono (by have := HB00.out.size; have := HM0.out; omega)); have HR1 : Hid (OwnE 50 wb1 w3.heap.size (.slice (some ⟨w3.heap.size, 0, none⟩) 0 0) ([] : List Out)) := HR1q; clear Hb1q HR1q
        go_simp
        refine hK.out _ _ (HSX.out _ HB1.out) (fun hHeld => ?_)
        clear hK K
        refine wpAnyH_ready (rs := [5, 7, 10]) (by kernel_rfl) (by simp) ?_
        refine (AllReadyH.cons (o := { dst := some 35, op := .call { callee := .builtin Go.Builtin.append, args := #[.tmp 32, .tmp 34], argTypes := #[23, 23] }, type := 23, pos := "law.go:82", after := #[{ on := 2, ground := .data }, { on := 4, ground := .data }], guard := none }) rfl (fun K hK => ?_) (AllReadyH.cons (o := { dst := some 37, op := .buildSlice 23 1 #[(0, .tmp 36)], type := 23, pos := "law.go:82", after := #[{ on := 6, ground := .data }], guard := none }) rfl (fun K hK => ?_) (AllReadyH.cons (o := { dst := some 8, op := .alloc 25, type := 0, pos := "law.go:82", after := #[], guard := none }) rfl (fun K hK => ?_) AllReadyH.nil)))
        · refine step_append_e elOut rfl _ _ rfl w3.heap.size _ (([] : List Out)) rfl HR1.out _ _ _ outs rfl (HSRC.out _ HB1.out) (by first | (simp only [List.length_nil]; omega) | (rw [HLEN.out]; omega)) (by have := HB1.out.size; have := HM0.out; omega) ?_; intro va2 wb2 HR2n HG2 HMv2; obtain ⟨aa2, na2, ca2, rfl⟩ := HR2n.out.any; have HR2 : Hid (OwnE 50 wb2 w3.heap.size (.slice aa2 na2 ca2) (outs)) := HR2n; have HB2 : Hid (Below w3.heap.size w3 wb2) := HB1.out.grown HG2.out (by have := HB1.out.size; have := HM0.out; omega) (fun k hk => (HR1.out.lt k hk).1)
          simp only [Act.put, List.setIfInBounds_toArray, List.set_cons_zero, List.set_cons_succ]
          refine hK.out _ _ (HSX.out _ HB2.out) (fun hHeld => ?_)
          clear hK K
          refine wpAnyH_ready (rs := [7, 10]) (by kernel_rfl) (by simp) ?_
          refine (AllReadyH.cons (o := { dst := some 37, op := .buildSlice 23 1 #[(0, .tmp 36)], type := 23, pos := "law.go:82", after := #[{ on := 6, ground := .data }], guard := none }) rfl (fun K hK => ?_) (AllReadyH.cons (o := { dst := some 8, op := .alloc 25, type := 0, pos := "law.go:82", after := #[], guard := none }) rfl (fun K hK => ?_) AllReadyH.nil))
          · refine step_build_one elOut rfl _ rfl y rfl ?_; intro wb3 HS3n Hb3n; have Hb3 : Hid (Below wb2.heap.size wb2 wb3) := Hb3n; have HS3 : Hid (Els wb3 (some ⟨wb2.heap.size, 0, none⟩) 1 1 [y]) := HS3n; have HB3 : Hid (Below w3.heap.size w3 wb3) := HB2.out.trans (Hb3.out.mono (by have := HB2.out.size; have := HM0.out; omega)); have HR3 : Hid (OwnE 50 wb3 w3.heap.size (.slice aa2 na2 ca2) (outs)) := HR2.out.below Hb3.out
            simp only [Act.put, List.setIfInBounds_toArray, List.set_cons_zero, List.set_cons_succ]
            refine hK.out _ _ (HSX.out _ HB3.out) (fun hHeld => ?_)
            clear hK K
            refine wpAnyH_ready (rs := [8, 10]) (by kernel_rfl) (by simp) ?_
            refine (AllReadyH.cons (o := { dst := some 38, op := .call { callee := .builtin Go.Builtin.append, args := #[.tmp 35, .tmp 37], argTypes := #[23, 23] }, type := 23, pos := "law.go:82", after := #[{ on := 5, ground := .data }, { on := 7, ground := .data }, { on := 5, ground := .chain }], guard := none }) rfl (fun K hK => ?_) (AllReadyH.cons (o := { dst := some 8, op := .alloc 25, type := 0, pos := "law.go:82", after := #[], guard := none }) rfl (fun K hK => ?_) AllReadyH.nil))
            · refine step_append_e elOut rfl _ _ rfl w3.heap.size _ (outs) rfl HR3.out _ 1 1 [y] rfl HS3.out (by first | (simp only [List.length_nil]; omega) | (rw [HLEN.out]; omega)) (by have := HB3.out.size; have := HM0.out; omega) ?_; intro va4 wb4 HR4n HG4 HMv4; obtain ⟨aa4, na4, ca4, rfl⟩ := HR4n.out.any; have HR4 : Hid (OwnE 50 wb4 w3.heap.size (.slice aa4 na4 ca4) (outs ++ [y])) := HR4n; have HB4 : Hid (Below w3.heap.size w3 wb4) := HB3.out.grown HG4.out (by have := HB3.out.size; have := HM0.out; omega) (fun k hk => (HR3.out.lt k hk).1)
              simp only [Act.put, List.setIfInBounds_toArray, List.set_cons_zero, List.set_cons_succ]
              refine hK.out _ _ (HSX.out _ HB4.out) (fun hHeld => ?_)
              clear hK K
              refine wpAnyH_take (i := 9) (oi := { dst := some 39, op := .build 25 #[(0, .tmp 31), (1, .tmp 38)], type := 25, pos := "law.go:82", after := #[{ on := 1, ground := .data }, { on := 8, ground := .data }], guard := none }) (v := ?_) rfl (by kernel_rfl) (by kernel_rfl) (by kernel_rfl) (fun _ _ _ h => h) (Or.inl ⟨by rfl, ?_⟩) (by assumption) ?_
              rotate_left
              · intro _ _; go_simp; first | done | with_reducible rfl
              simp only [Act.put, List.setIfInBounds_toArray, List.set_cons_zero, List.set_cons_succ]
              refine wpAnyH_ready (rs := [10]) (by kernel_rfl) (by simp) ?_
              refine AllReadyH.cons (o := { dst := some 8, op := .alloc 25, type := 0, pos := "law.go:82", after := #[], guard := none }) rfl (fun K hK => ?_) AllReadyH.nil
              go_simp
              skip; have Hb5q : Below wb4.heap.size wb4 (wb4.alloc (.cells #[.slice none 0 0, .slice none 0 0, .int .i64 0] 25)) := (Below.refl _ wb4).alloc (Nat.le_refl _) _; have HA5q : Blk (wb4.alloc (.cells #[.slice none 0 0, .slice none 0 0, .int .i64 0] 25)) wb4.heap.size [.slice none 0 0, .slice none 0 0, .int .i64 0] := Blk.new wb4 _ _; generalize wb4.alloc (.cells #[.slice none 0 0, .slice none 0 0, .int .i64 0] 25) = wb5 at *; have Hb5 : Hid (Below wb4.heap.size wb4 wb5) := Hb5q; have HB5 : Hid (Below w3.heap.size w3 wb5) := HB4.out.trans (Hb5.out.mono (by have := HB4.out.size; have := HM0.out; omega)); have HR5 : Hid (OwnE 50 wb5 w3.heap.size (.slice aa4 na4 ca4) (outs ++ [y])) := HR4.out.below Hb5.out; have HA5 : Hid (Blk wb5 wb4.heap.size [.slice none 0 0, .slice none 0 0, .int .i64 0]) := HA5q; have HMA : Hid (w3.heap.size ≤ wb4.heap.size) := by { have := HB4.out.size; have := HM0.out; show _ ≤ _; omega }; have HN5 : Hid (∀ k, (.slice aa4 na4 ca4 : Value).ownBlock = some k → k ≠ wb4.heap.size) := fun k hk => by { have h2 := (HR4.out.lt k hk).2; omega }; clear Hb5q HA5q
              go_simp
              refine hK.out _ _ (HSX.out _ HB5.out) (fun hHeld => ?_)
              clear hK K
              refine wpAnyH_ready (rs := [11]) (by kernel_rfl) (by simp) ?_
              refine AllReadyH.cons (o := { dst := none, op := .store 25 (.tmp 8) (.tmp 39), type := 0, pos := "law.go:82", after := #[{ on := 10, ground := .data }, { on := 9, ground := .data }, { on := 8, ground := .chain }, { on := 0, ground := .phase }, { on := 1, ground := .phase }, { on := 2, ground := .phase }, { on := 3, ground := .phase }, { on := 4, ground := .phase }, { on := 5, ground := .phase }, { on := 6, ground := .phase }, { on := 7, ground := .phase }, { on := 8, ground := .phase }, { on := 9, ground := .phase }, { on := 10, ground := .phase }], guard := none }) rfl (fun K hK => ?_) AllReadyH.nil
              refine step_store_mid rfl 25 _ _ rfl wb4.heap.size 0 [.slice a n c, .slice aa4 na4 ca4, .int .i64 0] rfl rfl (HA5.out.there 0 3 (by simp)) (by kernel_rfl) (by intro v hv; simp only [List.mem_cons, List.not_mem_nil, or_false] at hv; rcases hv with rfl | rfl | rfl <;> rfl) ?_; have HBf : Hid (Below w3.heap.size w3 (wb5.setCells wb4.heap.size 0 [.slice a n c, .slice aa4 na4 ca4, .int .i64 0])) := below_setCells HMA.out _ HB5.out _; have HAf : Hid (Blk (wb5.setCells wb4.heap.size 0 [.slice a n c, .slice aa4 na4 ca4, .int .i64 0]) wb4.heap.size [.slice a n c, .slice aa4 na4 ca4, .int .i64 0]) := by { have := HA5.out.cellsAt [.slice a n c, .slice aa4 na4 ca4, .int .i64 0] 0 (by simp); exact this }; have HRf : Hid (OwnE 50 (wb5.setCells wb4.heap.size 0 [.slice a n c, .slice aa4 na4 ca4, .int .i64 0]) w3.heap.size (.slice aa4 na4 ca4) (outs ++ [y])) := HR5.out.same fun k hk => heap_setCells [.slice a n c, .slice aa4 na4 ca4, .int .i64 0] wb5 0 k (HN5.out k hk)
              simp only [Act.put]
              refine hK.out _ _ (HSX.out _ HBf.out) (fun hHeld => ?_)
              clear hK K
              refine wpAnyH_done (by kernel_rfl) ?_ _
              refine NoPanic.normal ?_
              exact HREST.out _ _ (weiB_mk w3 w3.heap.size T A outs y a n c _ _ _ _ ⟨HAf, HRf, HBf, HMA⟩)
            · go_simp
              skip; have Hb4q : Below wb3.heap.size wb3 (wb3.alloc (.cells #[.slice none 0 0, .slice none 0 0, .int .i64 0] 25)) := (Below.refl _ wb3).alloc (Nat.le_refl _) _; have HA4q : Blk (wb3.alloc (.cells #[.slice none 0 0, .slice none 0 0, .int .i64 0] 25)) wb3.heap.size [.slice none 0 0, .slice none 0 0, .int .i64 0] := Blk.new wb3 _ _; generalize wb3.alloc (.cells #[.slice none 0 0, .slice none 0 0, .int .i64 0] 25) = wb4 at *; have Hb4 : Hid (Below wb3.heap.size wb3 wb4) := Hb4q; have HB4 : Hid (Below w3.heap.size w3 wb4) := HB3.out.trans (Hb4.out.mono (by have := HB3.out.size; have := HM0.out; omega)); have HR4 : Hid (OwnE 50 wb4 w3.heap.size (.slice aa2 na2 ca2) (outs)) := HR3.out.below Hb4.out; have HS4 : Hid (Els wb4 (some ⟨wb2.heap.size, 0, none⟩) 1 1 [y]) := HS3.out.below Hb4.out; have HA4 : Hid (Blk wb4 wb3.heap.size [.slice none 0 0, .slice none 0 0, .int .i64 0]) := HA4q; have HMA : Hid (w3.heap.size ≤ wb3.heap.size) := by { have := HB3.out.size; have := HM0.out; show _ ≤ _; omega }; have HN4 : Hid (∀ k, (.slice aa2 na2 ca2 : Value).ownBlock = some k → k ≠ wb3.heap.size) := fun k hk => by { have h2 := (HR3.out.lt k hk).2; omega }; clear Hb4q HA4q
              go_simp
              refine hK.out _ _ (HSX.out _ HB4.out) (fun hHeld => ?_)
              clear hK K
              refine wpAnyH_ready (rs := [8]) (by kernel_rfl) (by simp) ?_
              refine AllReadyH.cons (o := { dst := some 38, op := .call { callee := .builtin Go.Builtin.append, args := #[.tmp 35, .tmp 37], argTypes := #[23, 23] }, type := 23, pos := "law.go:82", after := #[{ on := 5, ground := .data }, { on := 7, ground := .data }, { on := 5, ground := .chain }], guard := none }) rfl (fun K hK => ?_) AllReadyH.nil
              refine step_append_e elOut rfl _ _ rfl w3.heap.size _ (outs) rfl HR4.out _ 1 1 [y] rfl HS4.out (by first | (simp only [List.length_nil]; omega) | (rw [HLEN.out]; omega)) (by have := HB4.out.size; have := HM0.out; omega) ?_; intro va5 wb5 HR5n HG5 HMv5; obtain ⟨aa5, na5, ca5, rfl⟩ := HR5n.out.any; have HR5 : Hid (OwnE 50 wb5 w3.heap.size (.slice aa5 na5 ca5) (outs ++ [y])) := HR5n; have HB5 : Hid (Below w3.heap.size w3 wb5) := HB4.out.grown HG5.out (by have := HB4.out.size; have := HM0.out; omega) (fun k hk => (HR4.out.lt k hk).1); have HA5 : Hid (Blk wb5 wb3.heap.size [.slice none 0 0, .slice none 0 0, .int .i64 0]) := HA4.out.grown HG5.out (fun e => HN4.out _ e rfl); have HN5 : Hid (∀ k, (Value.slice aa5 na5 ca5).ownBlock = some k → k ≠ wb3.heap.size) := fun k hk e => HMv5.out.apart HA4.out.lt (fun h => HN4.out _ h rfl) (e ▸ hk)
              simp only [Act.put, List.setIfInBounds_toArray, List.set_cons_zero, List.set_cons_succ]
              refine hK.out _ _ (HSX.out _ HB5.out) (fun hHeld => ?_)
              clear hK K
              refine wpAnyH_take (i := 9) (oi := { dst := some 39, op := .build 25 #[(0, .tmp 31), (1, .tmp 38)], type := 25, pos := "law.go:82", after := #[{ on := 1, ground := .data }, { on := 8, ground := .data }], guard := none }) (v := ?_) rfl (by kernel_rfl) (by kernel_rfl) (by kernel_rfl) (fun _ _ _ h => h) (Or.inl ⟨by rfl, ?_⟩) (by assumption) ?_
              rotate_left
              · intro _ _; go_simp; first | done | with_reducible rfl
              simp only [Act.put, List.setIfInBounds_toArray, List.set_cons_zero, List.set_cons_succ]
              refine wpAnyH_ready (rs := [11]) (by kernel_rfl) (by simp) ?_
              refine AllReadyH.cons (o := { dst := none, op := .store 25 (.tmp 8) (.tmp 39), type := 0, pos := "law.go:82", after := #[{ on := 10, ground := .data }, { on := 9, ground := .data }, { on := 8, ground := .chain }, { on := 0, ground := .phase }, { on := 1, ground := .phase }, { on := 2, ground := .phase }, { on := 3, ground := .phase }, { on := 4, ground := .phase }, { on := 5, ground := .phase }, { on := 6, ground := .phase }, { on := 7, ground := .phase }, { on := 8, ground := .phase }, { on := 9, ground := .phase }, { on := 10, ground := .phase }], guard := none }) rfl (fun K hK => ?_) AllReadyH.nil
              refine step_store_mid rfl 25 _ _ rfl wb3.heap.size 0 [.slice a n c, .slice aa5 na5 ca5, .int .i64 0] rfl rfl (HA5.out.there 0 3 (by simp)) (by kernel_rfl) (by intro v hv; simp only [List.mem_cons, List.not_mem_nil, or_false] at hv; rcases hv with rfl | rfl | rfl <;> rfl) ?_; have HBf : Hid (Below w3.heap.size w3 (wb5.setCells wb3.heap.size 0 [.slice a n c, .slice aa5 na5 ca5, .int .i64 0])) := below_setCells HMA.out _ HB5.out _; have HAf : Hid (Blk (wb5.setCells wb3.heap.size 0 [.slice a n c, .slice aa5 na5 ca5, .int .i64 0]) wb3.heap.size [.slice a n c, .slice aa5 na5 ca5, .int .i64 0]) := by { have := HA5.out.cellsAt [.slice a n c, .slice aa5 na5 ca5, .int .i64 0] 0 (by simp); exact this }; have HRf : Hid (OwnE 50 (wb5.setCells wb3.heap.size 0 [.slice a n c, .slice aa5 na5 ca5, .int .i64 0]) w3.heap.size (.slice aa5 na5 ca5) (outs ++ [y])) := HR5.out.same fun k hk => heap_setCells [.slice a n c, .slice aa5 na5 ca5, .int .i64 0] wb5 0 k (HN5.out k hk)
              simp only [Act.put]
              refine hK.out _ _ (HSX.out _ HBf.out) (fun hHeld => ?_)
              clear hK K
              refine wpAnyH_done (by kernel_rfl) ?_ _
              refine NoPanic.normal ?_
              exact HREST.out _ _ (weiB_mk w3 w3.heap.size T A outs y a n c _ _ _ _ ⟨HAf, HRf, HBf, HMA⟩)
          · go_simp
            skip; have Hb3q : Below wb2.heap.size wb2 (wb2.alloc (.cells #[.slice none 0 0, .slice none 0 0, .int .i64 0] 25)) := (Below.refl _ wb2).alloc (Nat.le_refl _) _; have HA3q : Blk (wb2.alloc (.cells #[.slice none 0 0, .slice none 0 0, .int .i64 0] 25)) wb2.heap.size [.slice none 0 0, .slice none 0 0, .int .i64 0] := Blk.new wb2 _ _; generalize wb2.alloc (.cells #[.slice none 0 0, .slice none 0 0, .int .i64 0] 25) = wb3 at *; have Hb3 : Hid (Below wb2.heap.size wb2 wb3) := Hb3q; have HB3 : Hid (Below w3.heap.size w3 wb3) := HB2.out.trans (Hb3.out.mono (by have := HB2.out.size; have := HM0.out; omega)); have HR3 : Hid (OwnE 50 wb3 w3.heap.size (.slice aa2 na2 ca2) (outs)) := HR2.out.below Hb3.out; have HA3 : Hid (Blk wb3 wb2.heap.size [.slice none 0 0, .slice none 0 0, .int .i64 0]) := HA3q; have HMA : Hid (w3.heap.size ≤ wb2.heap.size) := by { have := HB2.out.size; have := HM0.out; show _ ≤ _; omega }; have HN3 : Hid (∀ k, (.slice aa2 na2 ca2 : Value).ownBlock = some k → k ≠ wb2.heap.size) := fun k hk => by { have h2 := (HR2.out.lt k hk).2; omega }; clear Hb3q HA3q
            go_simp
            refine hK.out _ _ (HSX.out _ HB3.out) (fun hHeld => ?_)
            clear hK K
            refine wpAnyH_ready (rs := [7]) (by kernel_rfl) (by simp) ?_
            refine AllReadyH.cons (o := { dst := some 37, op := .buildSlice 23 1 #[(0, .tmp 36)], type := 23, pos := "law.go:82", after := #[{ on := 6, ground := .data }], guard := none }) rfl (fun K hK => ?_) AllReadyH.nil
            refine step_build_one elOut rfl _ rfl y rfl ?_; intro wb4 HS4n Hb4n; have Hb4 : Hid (Below wb3.heap.size wb3 wb4) := Hb4n; have HS4 : Hid (Els wb4 (some ⟨wb3.heap.size, 0, none⟩) 1 1 [y]) := HS4n; have HB4 : Hid (Below w3.heap.size w3 wb4) := HB3.out.trans (Hb4.out.mono (by have := HB3.out.size; have := HM0.out; omega)); have HR4 : Hid (OwnE 50 wb4 w3.heap.size (.slice aa2 na2 ca2) (outs)) := HR3.out.below Hb4.out; have HA4 : Hid (Blk wb4 wb2.heap.size [.slice none 0 0, .slice none 0 0, .int .i64 0]) := HA3.out.below Hb4.out HA3.out.lt
            simp only [Act.put, List.setIfInBounds_toArray, List.set_cons_zero, List.set_cons_succ]
            refine hK.out _ _ (HSX.out _ HB4.out) (fun hHeld => ?_)
            clear hK K
            refine wpAnyH_ready (rs := [8]) (by kernel_rfl) (by simp) ?_
            refine AllReadyH.cons (o := { dst := some 38, op := .call { callee := .builtin Go.Builtin.append, args := #[.tmp 35, .tmp 37], argTypes := #[23, 23] }, type := 23, pos := "law.go:82", after := #[{ on := 5, ground := .data }, { on := 7, ground := .data }, { on := 5, ground := .chain }], guard := none }) rfl (fun K hK => ?_) AllReadyH.nil
            refine step_append_e elOut rfl _ _ rfl w3.heap.size _ (outs) rfl HR4.out _ 1 1 [y] rfl HS4.out (by first | (simp only [List.length_nil]; omega) | (rw [HLEN.out]; omega)) (by have := HB4.out.size; have := HM0.out; omega) ?_; intro va5 wb5 HR5n HG5 HMv5; obtain ⟨aa5, na5, ca5, rfl⟩ := HR5n.out.any; have HR5 : Hid (OwnE 50 wb5 w3.heap.size (.slice aa5 na5 ca5) (outs ++ [y])) := HR5n; have HB5 : Hid (Below w3.heap.size w3 wb5) := HB4.out.grown HG5.out (by have := HB4.out.size; have := HM0.out; omega) (fun k hk => (HR4.out.lt k hk).1); have HA5 : Hid (Blk wb5 wb2.heap.size [.slice none 0 0, .slice none 0 0, .int .i64 0]) := HA4.out.grown HG5.out (fun e => HN3.out _ e rfl); have HN5 : Hid (∀ k, (Value.slice aa5 na5 ca5).ownBlock = some k → k ≠ wb2.heap.size) := fun k hk e => HMv5.out.apart HA4.out.lt (fun h => HN3.out _ h rfl) (e ▸ hk)
            simp only [Act.put, List.setIfInBounds_toArray, List.set_cons_zero, List.set_cons_succ]
            refine hK.out _ _ (HSX.out _ HB5.out) (fun hHeld => ?_)
            clear hK K
            refine wpAnyH_take (i := 9) (oi := { dst := some 39, op := .build 25 #[(0, .tmp 31), (1, .tmp 38)], type := 25, pos := "law.go:82", after := #[{ on := 1, ground := .data }, { on := 8, ground := .data }], guard := none }) (v := ?_) rfl (by kernel_rfl) (by kernel_rfl) (by kernel_rfl) (fun _ _ _ h => h) (Or.inl ⟨by rfl, ?_⟩) (by assumption) ?_
            rotate_left
            · intro _ _; go_simp; first | done | with_reducible rfl
            simp only [Act.put, List.setIfInBounds_toArray, List.set_cons_zero, List.set_cons_succ]
            refine wpAnyH_ready (rs := [11]) (by kernel_rfl) (by simp) ?_
            refine AllReadyH.cons (o := { dst := none, op := .store 25 (.tmp 8) (.tmp 39), type := 0, pos := "law.go:82", after := #[{ on := 10, ground := .data }, { on := 9, ground := .data }, { on := 8, ground := .chain }, { on := 0, ground := .phase }, { on := 1, ground := .phase }, { on := 2, ground := .phase }, { on := 3, ground := .phase }, { on := 4, ground := .phase }, { on := 5, ground := .phase }, { on := 6, ground := .phase }, { on := 7, ground := .phase }, { on := 8, ground := .phase }, { on := 9, ground := .phase }, { on := 10, ground := .phase }], guard := none }) rfl (fun K hK => ?_) AllReadyH.nil
            refine step_store_mid rfl 25 _ _ rfl wb2.heap.size 0 [.slice a n c, .slice aa5 na5 ca5, .int .i64 0] rfl rfl (HA5.out.there 0 3 (by simp)) (by kernel_rfl) (by intro v hv; simp only [List.mem_cons, List.not_mem_nil, or_false] at hv; rcases hv with rfl | rfl | rfl <;> rfl) ?_; have HBf : Hid (Below w3.heap.size w3 (wb5.setCells wb2.heap.size 0 [.slice a n c, .slice aa5 na5 ca5, .int .i64 0])) := below_setCells HMA.out _ HB5.out _; have HAf : Hid (Blk (wb5.setCells wb2.heap.size 0 [.slice a n c, .slice aa5 na5 ca5, .int .i64 0]) wb2.heap.size [.slice a n c, .slice aa5 na5 ca5, .int .i64 0]) := by { have := HA5.out.cellsAt [.slice a n c, .slice aa5 na5 ca5, .int .i64 0] 0 (by simp); exact this }; have HRf : Hid (OwnE 50 (wb5.setCells wb2.heap.size 0 [.slice a n c, .slice aa5 na5 ca5, .int .i64 0]) w3.heap.size (.slice aa5 na5 ca5) (outs ++ [y])) := HR5.out.same fun k hk => heap_setCells [.slice a n c, .slice aa5 na5 ca5, .int .i64 0] wb5 0 k (HN5.out k hk)
            simp only [Act.put]
            refine hK.out _ _ (HSX.out _ HBf.out) (fun hHeld => ?_)
            clear hK K
            refine wpAnyH_done (by kernel_rfl) ?_ _
            refine NoPanic.normal ?_
            exact HREST.out _ _ (weiB_mk w3 w3.heap.size T A outs y a n c _ _ _ _ ⟨HAf, HRf, HBf, HMA⟩)
        · refine step_build_one elOut rfl _ rfl y rfl ?_; intro wb2 HS2n Hb2n; have Hb2 : Hid (Below wb1.heap.size wb1 wb2) := Hb2n; have HS2 : Hid (Els wb2 (some ⟨wb1.heap.size, 0, none⟩) 1 1 [y]) := HS2n; have HD : Hid (w3.heap.size ≠ wb1.heap.size) := by { have := (HR1.out.lt w3.heap.size rfl).2; show _ ≠ _; omega }; have HB2 : Hid (Below w3.heap.size w3 wb2) := HB1.out.trans (Hb2.out.mono (by have := HB1.out.size; have := HM0.out; omega)); have HR2 : Hid (OwnE 50 wb2 w3.heap.size (.slice (some ⟨w3.heap.size, 0, none⟩) 0 0) (([] : List Out))) := HR1.out.below Hb2.out
          simp only [Act.put, List.setIfInBounds_toArray, List.set_cons_zero, List.set_cons_succ]
          refine hK.out _ _ (HSX.out _ HB2.out) (fun hHeld => ?_)
          clear hK K
          refine wpAnyH_ready (rs := [5, 10]) (by kernel_rfl) (by simp) ?_
          refine (AllReadyH.cons (o := { dst := some 35, op := .call { callee := .builtin Go.Builtin.append, args := #[.tmp 32, .tmp 34], argTypes := #[23, 23] }, type := 23, pos := "law.go:82", after := #[{ on := 2, ground := .data }, { on := 4, ground := .data }], guard := none }) rfl (fun K hK => ?_) (AllReadyH.cons (o := { dst := some 8, op := .alloc 25, type := 0, pos := "law.go:82", after := #[], guard := none }) rfl (fun K hK => ?_) AllReadyH.nil))
          · refine step_append_e elOut rfl _ _ rfl w3.heap.size _ (([] : List Out)) rfl HR2.out _ _ _ outs rfl (HSRC.out _ HB2.out) (by first | (simp only [List.length_nil]; omega) | (rw [HLEN.out]; omega)) (by have := HB2.out.size; have := HM0.out; omega) ?_; intro va3 wb3 HR3n HG3 HMv3; obtain ⟨aa3, na3, ca3, rfl⟩ := HR3n.out.any; have HR3 : Hid (OwnE 50 wb3 w3.heap.size (.slice aa3 na3 ca3) (outs)) := HR3n; have HB3 : Hid (Below w3.heap.size w3 wb3) := HB2.out.grown HG3.out (by have := HB2.out.size; have := HM0.out; omega) (fun k hk => (HR2.out.lt k hk).1); have HS3 : Hid (Els wb3 (some ⟨wb1.heap.size, 0, none⟩) 1 1 [y]) := HS2.out.later fun b o _ e => HG3.out.block b (HS2.out.blockLt e) (fun h => by { have h1 : some b = some w3.heap.size := h; injection h1 with h1; injection e with e; injection e with e; have := HD.out; omega })
            simp only [Act.put, List.setIfInBounds_toArray, List.set_cons_zero, List.set_cons_succ]
            refine hK.out _ _ (HSX.out _ HB3.out) (fun hHeld => ?_)
            clear hK K
            refine wpAnyH_ready (rs := [8, 10]) (by kernel_rfl) (by simp) ?_
            refine (AllReadyH.cons (o := { dst := some 38, op := .call { callee := .builtin Go.Builtin.append, args := #[.tmp 35, .tmp 37], argTypes := #[23, 23] }, type := 23, pos := "law.go:82", after := #[{ on := 5, ground := .data }, { on := 7, ground := .data }, { on := 5, ground := .chain }], guard := none }) rfl (fun K hK => ?_) (AllReadyH.cons (o := { dst := some 8, op := .alloc 25, type := 0, pos := "law.go:82", after := #[], guard := none }) rfl (fun K hK => ?_) AllReadyH.nil))
            · refine step_append_e elOut rfl _ _ rfl w3.heap.size _ (outs) rfl HR3.out _ 1 1 [y] rfl HS3.out (by first | (simp only [List.length_nil]; omega) | (rw [HLEN.out]; omega)) (by have := HB3.out.size; have := HM0.out; omega) ?_; intro va4 wb4 HR4n HG4 HMv4; obtain ⟨aa4, na4, ca4, rfl⟩ := HR4n.out.any; have HR4 : Hid (OwnE 50 wb4 w3.heap.size (.slice aa4 na4 ca4) (outs ++ [y])) := HR4n; have HB4 : Hid (Below w3.heap.size w3 wb4) := HB3.out.grown HG4.out (by have := HB3.out.size; have := HM0.out; omega) (fun k hk => (HR3.out.lt k hk).1)
              simp only [Act.put, List.setIfInBounds_toArray, List.set_cons_zero, List.set_cons_succ]
              refine hK.out _ _ (HSX.out _ HB4.out) (fun hHeld => ?_)
              clear hK K
              refine wpAnyH_take (i := 9) (oi := { dst := some 39, op := .build 25 #[(0, .tmp 31), (1, .tmp 38)], type := 25, pos := "law.go:82", after := #[{ on := 1, ground := .data }, { on := 8, ground := .data }], guard := none }) (v := ?_) rfl (by kernel_rfl) (by kernel_rfl) (by kernel_rfl) (fun _ _ _ h => h) (Or.inl ⟨by rfl, ?_⟩) (by assumption) ?_
              rotate_left
              · intro _ _; go_simp; first | done | with_reducible rfl
              simp only [Act.put, List.setIfInBounds_toArray, List.set_cons_zero, List.set_cons_succ]
              refine wpAnyH_ready (rs := [10]) (by kernel_rfl) (by simp) ?_
              refine AllReadyH.cons (o := { dst := some 8, op := .alloc 25, type := 0, pos := "law.go:82", after := #[], guard := none }) rfl (fun K hK => ?_) AllReadyH.nil
              go_simp
              skip; have Hb5q : Below wb4.heap.size wb4 (wb4.alloc (.cells #[.slice none 0 0, .slice none 0 0, .int .i64 0] 25)) := (Below.refl _ wb4).alloc (Nat.le_refl _) _; have HA5q : Blk (wb4.alloc (.cells #[.slice none 0 0, .slice none 0 0, .int .i64 0] 25)) wb4.heap.size [.slice none 0 0, .slice none 0 0, .int .i64 0] := Blk.new wb4 _ _; generalize wb4.alloc (.cells #[.slice none 0 0, .slice none 0 0, .int .i64 0] 25) = wb5 at *; have Hb5 : Hid (Below wb4.heap.size wb4 wb5) := Hb5q; have HB5 : Hid (Below w3.heap.size w3 wb5) := HB4.out.trans (Hb5.out.mono (by have := HB4.out.size; have := HM0.out; omega)); have HR5 : Hid (OwnE 50 wb5 w3.heap.size (.slice aa4 na4 ca4) (outs ++ [y])) := HR4.out.below Hb5.out; have HA5 : Hid (Blk wb5 wb4.heap.size [.slice none 0 0, .slice none 0 0, .int .i64 0]) := HA5q; have HMA : Hid (w3.heap.size ≤ wb4.heap.size) := by { have := HB4.out.size; have := HM0.out; show _ ≤ _; omega }; have HN5 : Hid (∀ k, (.slice aa4 na4 ca4 : Value).ownBlock = some k → k ≠ wb4.heap.size) := fun k hk => by { have h2 := (HR4.out.lt k hk).2; omega }; clear Hb5q HA5q
              go_simp
              refine hK.out _ _ (HSX.out _ HB5.out) (fun hHeld => ?_)
              clear hK K
              refine wpAnyH_ready (rs := [11]) (by kernel_rfl) (by simp) ?_
              refine AllReadyH.cons (o := { dst := none, op := .store 25 (.tmp 8) (.tmp 39), type := 0, pos := "law.go:82", after := #[{ on := 10, ground := .data }, { on := 9, ground := .data }, { on := 8, ground := .chain }, { on := 0, ground := .phase }, { on := 1, ground := .phase }, { on := 2, ground := .phase }, { on := 3, ground := .phase }, { on := 4, ground := .phase }, { on := 5, ground := .phase }, { on := 6, ground := .phase }, { on := 7, ground := .phase }, { on := 8, ground := .phase }, { on := 9, ground := .phase }, { on := 10, ground := .phase }], guard := none }) rfl (fun K hK => ?_) AllReadyH.nil
              refine step_store_mid rfl 25 _ _ rfl wb4.heap.size 0 [.slice a n c, .slice aa4 na4 ca4, .int .i64 0] rfl rfl (HA5.out.there 0 3 (by simp)) (by kernel_rfl) (by intro v hv; simp only [List.mem_cons, List.not_mem_nil, or_false] at hv; rcases hv with rfl | rfl | rfl <;> rfl) ?_; have HBf : Hid (Below w3.heap.size w3 (wb5.setCells wb4.heap.size 0 [.slice a n c, .slice aa4 na4 ca4, .int .i64 0])) := below_setCells HMA.out _ HB5.out _; have HAf : Hid (Blk (wb5.setCells wb4.heap.size 0 [.slice a n c, .slice aa4 na4 ca4, .int .i64 0]) wb4.heap.size [.slice a n c, .slice aa4 na4 ca4, .int .i64 0]) := by { have := HA5.out.cellsAt [.slice a n c, .slice aa4 na4 ca4, .int .i64 0] 0 (by simp); exact this }; have HRf : Hid (OwnE 50 (wb5.setCells wb4.heap.size 0 [.slice a n c, .slice aa4 na4 ca4, .int .i64 0]) w3.heap.size (.slice aa4 na4 ca4) (outs ++ [y])) := HR5.out.same fun k hk => heap_setCells [.slice a n c, .slice aa4 na4 ca4, .int .i64 0] wb5 0 k (HN5.out k hk)
              simp only [Act.put]
              refine hK.out _ _ (HSX.out _ HBf.out) (fun hHeld => ?_)
              clear hK K
              refine wpAnyH_done (by kernel_rfl) ?_ _
              refine NoPanic.normal ?_
              exact HREST.out _ _ (weiB_mk w3 w3.heap.size T A outs y a n c _ _ _ _ ⟨HAf, HRf, HBf, HMA⟩)
            · go_simp
              skip; have Hb4q : Below wb3.heap.size wb3 (wb3.alloc (.cells #[.slice none 0 0, .slice none 0 0, .int .i64 0] 25)) := (Below.refl _ wb3).alloc (Nat.le_refl _) _; have HA4q : Blk (wb3.alloc (.cells #[.slice none 0 0, .slice none 0 0, .int .i64 0] 25)) wb3.heap.size [.slice none 0 0, .slice none 0 0, .int .i64 0] := Blk.new wb3 _ _; generalize wb3.alloc (.cells #[.slice none 0 0, .slice none 0 0, .int .i64 0] 25) = wb4 at *; have Hb4 : Hid (Below wb3.heap.size wb3 wb4) := Hb4q; have HB4 : Hid (Below w3.heap.size w3 wb4) := HB3.out.trans (Hb4.out.mono (by have := HB3.out.size; have := HM0.out; omega)); have HR4 : Hid (OwnE 50 wb4 w3.heap.size (.slice aa3 na3 ca3) (outs)) := HR3.out.below Hb4.out; have HS4 : Hid (Els wb4 (some ⟨wb1.heap.size, 0, none⟩) 1 1 [y]) := HS3.out.below Hb4.out; have HA4 : Hid (Blk wb4 wb3.heap.size [.slice none 0 0, .slice none 0 0, .int .i64 0]) := HA4q; have HMA : Hid (w3.heap.size ≤ wb3.heap.size) := by { have := HB3.out.size; have := HM0.out; show _ ≤ _; omega }; have HN4 : Hid (∀ k, (.slice aa3 na3 ca3 : Value).ownBlock = some k → k ≠ wb3.heap.size) := fun k hk => by { have h2 := (HR3.out.lt k hk).2; omega }; clear Hb4q HA4q
              go_simp
              refine hK.out _ _ (HSX.out _ HB4.out) (fun hHeld => ?_)
              clear hK K
              refine wpAnyH_ready (rs := [8]) (by kernel_rfl) (by simp) ?_
              refine AllReadyH.cons (o := { dst := some 38, op := .call { callee := .builtin Go.Builtin.append, args := #[.tmp 35, .tmp 37], argTypes := #[23, 23] }, type := 23, pos := "law.go:82", after := #[{ on := 5, ground := .data }, { on := 7, ground := .data }, { on := 5, ground := .chain }], guard := none }) rfl (fun K hK => ?_) AllReadyH.nil
              refine step_append_e elOut rfl _ _ rfl w3.heap.size _ (outs) rfl HR4.out _ 1 1 [y] rfl HS4.out (by first | (simp only [List.length_nil]; omega) | (rw [HLEN.out]; omega)) (by have := HB4.out.size; have := HM0.out; omega) ?_; intro va5 wb5 HR5n HG5 HMv5; obtain ⟨aa5, na5, ca5, rfl⟩ := HR5n.out.any; have HR5 : Hid (OwnE 50 wb5 w3.heap.size (.slice aa5 na5 ca5) (outs ++ [y])) := HR5n; have HB5 : Hid (Below w3.heap.size w3 wb5) := HB4.out.grown HG5.out (by have := HB4.out.size; have := HM0.out; omega) (fun k hk => (HR4.out.lt k hk).1); have HA5 : Hid (Blk wb5 wb3.heap.size [.slice none 0 0, .slice none 0 0, .int .i64 0]) := HA4.out.grown HG5.out (fun e => HN4.out _ e rfl); have HN5 : Hid (∀ k, (Value.slice aa5 na5 ca5).ownBlock = some k → k ≠ wb3.heap.size) := fun k hk e => HMv5.out.apart HA4.out.lt (fun h => HN4.out _ h rfl) (e ▸ hk)
              simp only [Act.put, List.setIfInBounds_toArray, List.set_cons_zero, List.set_cons_succ]
              refine hK.out _ _ (HSX.out _ HB5.out) (fun hHeld => ?_)
              clear hK K
              refine wpAnyH_take (i := 9) (oi := { dst := some 39, op := .build 25 #[(0, .tmp 31), (1, .tmp 38)], type := 25, pos := "law.go:82", after := #[{ on := 1, ground := .data }, { on := 8, ground := .data }], guard := none }) (v := ?_) rfl (by kernel_rfl) (by kernel_rfl) (by kernel_rfl) (fun _ _ _ h => h) (Or.inl ⟨by rfl, ?_⟩) (by assumption) ?_
              rotate_left
              · intro _ _; go_simp; first | done | with_reducible rfl
              simp only [Act.put, List.setIfInBounds_toArray, List.set_cons_zero, List.set_cons_succ]
              refine wpAnyH_ready (rs := [11]) (by kernel_rfl) (by simp) ?_
              refine AllReadyH.cons (o := { dst := none, op := .store 25 (.tmp 8) (.tmp 39), type := 0, pos := "law.go:82", after := #[{ on := 10, ground := .data }, { on := 9, ground := .data }, { on := 8, ground := .chain }, { on := 0, ground := .phase }, { on := 1, ground := .phase }, { on := 2, ground := .phase }, { on := 3, ground := .phase }, { on := 4, ground := .phase }, { on := 5, ground := .phase }, { on := 6, ground := .phase }, { on := 7, ground := .phase }, { on := 8, ground := .phase }, { on := 9, ground := .phase }, { on := 10, ground := .phase }], guard := none }) rfl (fun K hK => ?_) AllReadyH.nil
              refine step_store_mid rfl 25 _ _ rfl wb3.heap.size 0 [.slice a n c, .slice aa5 na5 ca5, .int .i64 0] rfl rfl (HA5.out.there 0 3 (by simp)) (by kernel_rfl) (by intro v hv; simp only [List.mem_cons, List.not_mem_nil, or_false] at hv; rcases hv with rfl | rfl | rfl <;> rfl) ?_; have HBf : Hid (Below w3.heap.size w3 (wb5.setCells wb3.heap.size 0 [.slice a n c, .slice aa5 na5 ca5, .int .i64 0])) := below_setCells HMA.out _ HB5.out _; have HAf : Hid (Blk (wb5.setCells wb3.heap.size 0 [.slice a n c, .slice aa5 na5 ca5, .int .i64 0]) wb3.heap.size [.slice a n c, .slice aa5 na5 ca5, .int .i64 0]) := by { have := HA5.out.cellsAt [.slice a n c, .slice aa5 na5 ca5, .int .i64 0] 0 (by simp); exact this }; have HRf : Hid (OwnE 50 (wb5.setCells wb3.heap.size 0 [.slice a n c, .slice aa5 na5 ca5, .int .i64 0]) w3.heap.size (.slice aa5 na5 ca5) (outs ++ [y])) := HR5.out.same fun k hk => heap_setCells [.slice a n c, .slice aa5 na5 ca5, .int .i64 0] wb5 0 k (HN5.out k hk)
              simp only [Act.put]
              refine hK.out _ _ (HSX.out _ HBf.out) (fun hHeld => ?_)
              clear hK K
              refine wpAnyH_done (by kernel_rfl) ?_ _
              refine NoPanic.normal ?_
              exact HREST.out _ _ (weiB_mk w3 w3.heap.size T A outs y a n c _ _ _ _ ⟨HAf, HRf, HBf, HMA⟩)
          · go_simp
            skip; have Hb3q : Below wb2.heap.size wb2 (wb2.alloc (.cells #[.slice none 0 0, .slice none 0 0, .int .i64 0] 25)) := (Below.refl _ wb2).alloc (Nat.le_refl _) _; have HA3q : Blk (wb2.alloc (.cells #[.slice none 0 0, .slice none 0 0, .int .i64 0] 25)) wb2.heap.size [.slice none 0 0, .slice none 0 0, .int .i64 0] := Blk.new wb2 _ _; generalize wb2.alloc (.cells #[.slice none 0 0, .slice none 0 0, .int .i64 0] 25) = wb3 at *; have Hb3 : Hid (Below wb2.heap.size wb2 wb3) := Hb3q; have HB3 : Hid (Below w3.heap.size w3 wb3) := HB2.out.trans (Hb3.out.mono (by have := HB2.out.size; have := HM0.out; omega)); have HR3 : Hid (OwnE 50 wb3 w3.heap.size (.slice (some ⟨w3.heap.size, 0, none⟩) 0 0) (([] : List Out))) := HR2.out.below Hb3.out; have HS3 : Hid (Els wb3 (some ⟨wb1.heap.size, 0, none⟩) 1 1 [y]) := HS2.out.below Hb3.out; have HA3 : Hid (Blk wb3 wb2.heap.size [.slice none 0 0, .slice none 0 0, .int .i64 0]) := HA3q; have HMA : Hid (w3.heap.size ≤ wb2.heap.size) := by { have := HB2.out.size; have := HM0.out; show _ ≤ _; omega }; have HN3 : Hid (∀ k, (.slice (some ⟨w3.heap.size, 0, none⟩) 0 0 : Value).ownBlock = some k → k ≠ wb2.heap.size) := fun k hk => by { have h2 := (HR2.out.lt k hk).2; omega }; clear Hb3q HA3q
            go_simp
            refine hK.out _ _ (HSX.out _ HB3.out) (fun hHeld => ?_)
            clear hK K
            refine wpAnyH_ready (rs := [5]) (by kernel_rfl) (by simp) ?_
            refine AllReadyH.cons (o := { dst := some 35, op := .call { callee := .builtin Go.Builtin.append, args := #[.tmp 32, .tmp 34], argTypes := #[23, 23] }, type := 23, pos := "law.go:82", after := #[{ on := 2, ground := .data }, { on := 4, ground := .data }], guard := none }) rfl (fun K hK => ?_) AllReadyH.nil
            refine step_append_e elOut rfl _ _ rfl w3.heap.size _ (([] : List Out)) rfl HR3.out _ _ _ outs rfl (HSRC.out _ HB3.out) (by first | (simp only [List.length_nil]; omega) | (rw [HLEN.out]; omega)) (by have := HB3.out.size; have := HM0.out; omega) ?_; intro va4 wb4 HR4n HG4 HMv4; obtain ⟨aa4, na4, ca4, rfl⟩ := HR4n.out.any; have HR4 : Hid (OwnE 50 wb4 w3.heap.size (.slice aa4 na4 ca4) (outs)) := HR4n; have HB4 : Hid (Below w3.heap.size w3 wb4) := HB3.out.grown HG4.out (by have := HB3.out.size; have := HM0.out; omega) (fun k hk => (HR3.out.lt k hk).1); have HS4 : Hid (Els wb4 (some ⟨wb1.heap.size, 0, none⟩) 1 1 [y]) := HS3.out.later fun b o _ e => HG4.out.block b (HS3.out.blockLt e) (fun h => by { have h1 : some b = some w3.heap.size := h; injection h1 with h1; injection e with e; injection e with e; have := HD.out; omega }); have HA4 : Hid (Blk wb4 wb2.heap.size [.slice none 0 0, .slice none 0 0, .int .i64 0]) := HA3.out.grown HG4.out (fun e => HN3.out _ e rfl); have HN4 : Hid (∀ k, (Value.slice aa4 na4 ca4).ownBlock = some k → k ≠ wb2.heap.size) := fun k hk e => HMv4.out.apart HA3.out.lt (fun h => HN3.out _ h rfl) (e ▸ hk)
            simp only [Act.put, List.setIfInBounds_toArray, List.set_cons_zero, List.set_cons_succ]
            refine hK.out _ _ (HSX.out _ HB4.out) (fun hHeld => ?_)
            clear hK K
            refine wpAnyH_ready (rs := [8]) (by kernel_rfl) (by simp) ?_
            refine AllReadyH.cons (o := { dst := some 38, op := .call { callee := .builtin Go.Builtin.append, args := #[.tmp 35, .tmp 37], argTypes := #[23, 23] }, type := 23, pos := "law.go:82", after := #[{ on := 5, ground := .data }, { on := 7, ground := .data }, { on := 5, ground := .chain }], guard := none }) rfl (fun K hK => ?_) AllReadyH.nil
            refine step_append_e elOut rfl _ _ rfl w3.heap.size _ (outs) rfl HR4.out _ 1 1 [y] rfl HS4.out (by first | (simp only [List.length_nil]; omega) | (rw [HLEN.out]; omega)) (by have := HB4.out.size; have := HM0.out; omega) ?_; intro va5 wb5 HR5n HG5 HMv5; obtain ⟨aa5, na5, ca5, rfl⟩ := HR5n.out.any; have HR5 : Hid (OwnE 50 wb5 w3.heap.size (.slice aa5 na5 ca5) (outs ++ [y])) := HR5n; have HB5 : Hid (Below w3.heap.size w3 wb5) := HB4.out.grown HG5.out (by have := HB4.out.size; have := HM0.out; omega) (fun k hk => (HR4.out.lt k hk).1); have HA5 : Hid (Blk wb5 wb2.heap.size [.slice none 0 0, .slice none 0 0, .int .i64 0]) := HA4.out.grown HG5.out (fun e => HN4.out _ e rfl); have HN5 : Hid (∀ k, (Value.slice aa5 na5 ca5).ownBlock = some k → k ≠ wb2.heap.size) := fun k hk e => HMv5.out.apart HA4.out.lt (fun h => HN4.out _ h rfl) (e ▸ hk)
            simp only [Act.put, List.setIfInBounds_toArray, List.set_cons_zero, List.set_cons_succ]
            refine hK.out _ _ (HSX.out _ HB5.out) (fun hHeld => ?_)
            clear hK K
            refine wpAnyH_take (i := 9) (oi := { dst := some 39, op := .build 25 #[(0, .tmp 31), (1, .tmp 38)], type := 25, pos := "law.go:82", after := #[{ on := 1, ground := .data }, { on := 8, ground := .data }], guard := none }) (v := ?_) rfl (by kernel_rfl) (by kernel_rfl) (by kernel_rfl) (fun _ _ _ h => h) (Or.inl ⟨by rfl, ?_⟩) (by assumption) ?_
            rotate_left
            · intro _ _; go_simp; first | done | with_reducible rfl
            simp only [Act.put, List.setIfInBounds_toArray, List.set_cons_zero, List.set_cons_succ]
            refine wpAnyH_ready (rs := [11]) (by kernel_rfl) (by simp) ?_
            refine AllReadyH.cons (o := { dst := none, op := .store 25 (.tmp 8) (.tmp 39), type := 0, pos := "law.go:82", after := #[{ on := 10, ground := .data }, { on := 9, ground := .data }, { on := 8, ground := .chain }, { on := 0, ground := .phase }, { on := 1, ground := .phase }, { on := 2, ground := .phase }, { on := 3, ground := .phase }, { on := 4, ground := .phase }, { on := 5, ground := .phase }, { on := 6, ground := .phase }, { on := 7, ground := .phase }, { on := 8, ground := .phase }, { on := 9, ground := .phase }, { on := 10, ground := .phase }], guard := none }) rfl (fun K hK => ?_) AllReadyH.nil
            refine step_store_mid rfl 25 _ _ rfl wb2.heap.size 0 [.slice a n c, .slice aa5 na5 ca5, .int .i64 0] rfl rfl (HA5.out.there 0 3 (by simp)) (by kernel_rfl) (by intro v hv; simp only [List.mem_cons, List.not_mem_nil, or_false] at hv; rcases hv with rfl | rfl | rfl <;> rfl) ?_; have HBf : Hid (Below w3.heap.size w3 (wb5.setCells wb2.heap.size 0 [.slice a n c, .slice aa5 na5 ca5, .int .i64 0])) := below_setCells HMA.out _ HB5.out _; have HAf : Hid (Blk (wb5.setCells wb2.heap.size 0 [.slice a n c, .slice aa5 na5 ca5, .int .i64 0]) wb2.heap.size [.slice a n c, .slice aa5 na5 ca5, .int .i64 0]) := by { have := HA5.out.cellsAt [.slice a n c, .slice aa5 na5 ca5, .int .i64 0] 0 (by simp); exact this }; have HRf : Hid (OwnE 50 (wb5.setCells wb2.heap.size 0 [.slice a n c, .slice aa5 na5 ca5, .int .i64 0]) w3.heap.size (.slice aa5 na5 ca5) (outs ++ [y])) := HR5.out.same fun k hk => heap_setCells [.slice a n c, .slice aa5 na5 ca5, .int .i64 0] wb5 0 k (HN5.out k hk)
            simp only [Act.put]
            refine hK.out _ _ (HSX.out _ HBf.out) (fun hHeld => ?_)
            clear hK K
            refine wpAnyH_done (by kernel_rfl) ?_ _
            refine NoPanic.normal ?_
            exact HREST.out _ _ (weiB_mk w3 w3.heap.size T A outs y a n c _ _ _ _ ⟨HAf, HRf, HBf, HMA⟩)
        · go_simp
          skip; have Hb2q : Below wb1.heap.size wb1 (wb1.alloc (.cells #[.slice none 0 0, .slice none 0 0, .int .i64 0] 25)) := (Below.refl _ wb1).alloc (Nat.le_refl _) _; have HA2q : Blk (wb1.alloc (.cells #[.slice none 0 0, .slice none 0 0, .int .i64 0] 25)) wb1.heap.size [.slice none 0 0, .slice none 0 0, .int .i64 0] := Blk.new wb1 _ _; generalize wb1.alloc (.cells #[.slice none 0 0, .slice none 0 0, .int .i64 0] 25) = wb2 at *; have Hb2 : Hid (Below wb1.heap.size wb1 wb2) := Hb2q; have HB2 : Hid (Below w3.heap.size w3 wb2) := HB1.out.trans (Hb2.out.mono (by have := HB1.out.size; have := HM0.out; omega)); have HR2 : Hid (OwnE 50 wb2 w3.heap.size (.slice (some ⟨w3.heap.size, 0, none⟩) 0 0) (([] : List Out))) := HR1.out.below Hb2.out; have HA2 : Hid (Blk wb2 wb1.heap.size [.slice none 0 0, .slice none 0 0, .int .i64 0]) := HA2q; have HMA : Hid (w3.heap.size ≤ wb1.heap.size) := by { have := HB1.out.size; have := HM0.out; show _ ≤ _; omega }; have HN2 : Hid (∀ k, (.slice (some ⟨w3.heap.size, 0, none⟩) 0 0 : Value).ownBlock = some k → k ≠ wb1.heap.size) := fun k hk => by { have h2 := (HR1.out.lt k hk).2; omega }; clear Hb2q HA2q
          go_simp
          refine hK.out _ _ (HSX.out _ HB2.out) (fun hHeld => ?_)
          clear hK K
          refine wpAnyH_ready (rs := [5, 7]) (by kernel_rfl) (by simp) ?_
          refine (AllReadyH.cons (o := { dst := some 35, op := .call { callee := .builtin Go.Builtin.append, args := #[.tmp 32, .tmp 34], argTypes := #[23, 23] }, type := 23, pos := "law.go:82", after := #[{ on := 2, ground := .data }, { on := 4, ground := .data }], guard := none }) rfl (fun K hK => ?_) (AllReadyH.cons (o := { dst := some 37, op := .buildSlice 23 1 #[(0, .tmp 36)], type := 23, pos := "law.go:82", after := #[{ on := 6, ground := .data }], guard := none }) rfl (fun K hK => ?_) AllReadyH.nil))
          · refine step_append_e elOut rfl _ _ rfl w3.heap.size _ (([] : List Out)) rfl HR2.out _ _ _ outs rfl (HSRC.out _ HB2.out) (by first | (simp only [List.length_nil]; omega) | (rw [HLEN.out]; omega)) (by have := HB2.out.size; have := HM0.out; omega) ?_; intro va3 wb3 HR3n HG3 HMv3; obtain ⟨aa3, na3, ca3, rfl⟩ := HR3n.out.any; have HR3 : Hid (OwnE 50 wb3 w3.heap.size (.slice aa3 na3 ca3) (outs)) := HR3n; have HB3 : Hid (Below w3.heap.size w3 wb3) := HB2.out.grown HG3.out (by have := HB2.out.size; have := HM0.out; omega) (fun k hk => (HR2.out.lt k hk).1); have HA3 : Hid (Blk wb3 wb1.heap.size [.slice none 0 0, .slice none 0 0, .int .i64 0]) := HA2.out.grown HG3.out (fun e => HN2.out _ e rfl); have HN3 : Hid (∀ k, (Value.slice aa3 na3 ca3).ownBlock = some k → k ≠ wb1.heap.size) := fun k hk e => HMv3.out.apart HA2.out.lt (fun h => HN2.out _ h rfl) (e ▸ hk)
            simp only [Act.put, List.setIfInBounds_toArray, List.set_cons_zero, List.set_cons_succ]
            refine hK.out _ _ (HSX.out _ HB3.out) (fun hHeld => ?_)
            clear hK K
            refine wpAnyH_ready (rs := [7]) (by kernel_rfl) (by simp) ?_
            refine AllReadyH.cons (o := { dst := some 37, op := .buildSlice 23 1 #[(0, .tmp 36)], type := 23, pos := "law.go:82", after := #[{ on := 6, ground := .data }], guard := none }) rfl (fun K hK => ?_) AllReadyH.nil
            refine step_build_one elOut rfl _ rfl y rfl ?_; intro wb4 HS4n Hb4n; have Hb4 : Hid (Below wb3.heap.size wb3 wb4) := Hb4n; have HS4 : Hid (Els wb4 (some ⟨wb3.heap.size, 0, none⟩) 1 1 [y]) := HS4n; have HB4 : Hid (Below w3.heap.size w3 wb4) := HB3.out.trans (Hb4.out.mono (by have := HB3.out.size; have := HM0.out; omega)); have HR4 : Hid (OwnE 50 wb4 w3.heap.size (.slice aa3 na3 ca3) (outs)) := HR3.out.below Hb4.out; have HA4 : Hid (Blk wb4 wb1.heap.size [.slice none 0 0, .slice none 0 0, .int .i64 0]) := HA3.out.below Hb4.out HA3.out.lt
            simp only [Act.put, List.setIfInBounds_toArray, List.set_cons_zero, List.set_cons_succ]
            refine hK.out _ _ (HSX.out _ HB4.out) (fun hHeld => ?_)
            clear hK K
            refine wpAnyH_ready (rs := [8]) (by kernel_rfl) (by simp) ?_
            refine AllReadyH.cons (o := { dst := some 38, op := .call { callee := .builtin Go.Builtin.append, args := #[.tmp 35, .tmp 37], argTypes := #[23, 23] }, type := 23, pos := "law.go:82", after := #[{ on := 5, ground := .data }, { on := 7, ground := .data }, { on := 5, ground := .chain }], guard := none }) rfl (fun K hK => ?_) AllReadyH.nil
            refine step_append_e elOut rfl _ _ rfl w3.heap.size _ (outs) rfl HR4.out _ 1 1 [y] rfl HS4.out (by first | (simp only [List.length_nil]; omega) | (rw [HLEN.out]; omega)) (by have := HB4.out.size; have := HM0.out; omega) ?_; intro va5 wb5 HR5n HG5 HMv5; obtain ⟨aa5, na5, ca5, rfl⟩ := HR5n.out.any; have HR5 : Hid (OwnE 50 wb5 w3.heap.size (.slice aa5 na5 ca5) (outs ++ [y])) := HR5n; have HB5 : Hid (Below w3.heap.size w3 wb5) := HB4.out.grown HG5.out (by have := HB4.out.size; have := HM0.out; omega) (fun k hk => (HR4.out.lt k hk).1); have HA5 : Hid (Blk wb5 wb1.heap.size [.slice none 0 0, .slice none 0 0, .int .i64 0]) := HA4.out.grown HG5.out (fun e => HN3.out _ e rfl); have HN5 : Hid (∀ k, (Value.slice aa5 na5 ca5).ownBlock = some k → k ≠ wb1.heap.size) := fun k hk e => HMv5.out.apart HA4.out.lt (fun h => HN3.out _ h rfl) (e ▸ hk)
            simp only [Act.put, List.setIfInBounds_toArray, List.set_cons_zero, List.set_cons_succ]
            refine hK.out _ _ (HSX.out _ HB5.out) (fun hHeld => ?_)
            clear hK K
            refine wpAnyH_take (i := 9) (oi := { dst := some 39, op := .build 25 #[(0, .tmp 31), (1, .tmp 38)], type := 25, pos := "law.go:82", after := #[{ on := 1, ground := .data }, { on := 8, ground := .data }], guard := none }) (v := ?_) rfl (by kernel_rfl) (by kernel_rfl) (by kernel_rfl) (fun _ _ _ h => h) (Or.inl ⟨by rfl, ?_⟩) (by assumption) ?_
            rotate_left
            · intro _ _; go_simp; first | done | with_reducible rfl
            simp only [Act.put, List.setIfInBounds_toArray, List.set_cons_zero, List.set_cons_succ]
            refine wpAnyH_ready (rs := [11]) (by kernel_rfl) (by simp) ?_
            refine AllReadyH.cons (o := { dst := none, op := .store 25 (.tmp 8) (.tmp 39), type := 0, pos := "law.go:82", after := #[{ on := 10, ground := .data }, { on := 9, ground := .data }, { on := 8, ground := .chain }, { on := 0, ground := .phase }, { on := 1, ground := .phase }, { on := 2, ground := .phase }, { on := 3, ground := .phase }, { on := 4, ground := .phase }, { on := 5, ground := .phase }, { on := 6, ground := .phase }, { on := 7, ground := .phase }, { on := 8, ground := .phase }, { on := 9, ground := .phase }, { on := 10, ground := .phase }], guard := none }) rfl (fun K hK => ?_) AllReadyH.nil
            refine step_store_mid rfl 25 _ _ rfl wb1.heap.size 0 [.slice a n c, .slice aa5 na5 ca5, .int .i64 0] rfl rfl (HA5.out.there 0 3 (by simp)) (by kernel_rfl) (by intro v hv; simp only [List.mem_cons, List.not_mem_nil, or_false] at hv; rcases hv with rfl | rfl | rfl <;> rfl) ?_; have HBf : Hid (Below w3.heap.size w3 (wb5.setCells wb1.heap.size 0 [.slice a n c, .slice aa5 na5 ca5, .int .i64 0])) := below_setCells HMA.out _ HB5.out _; have HAf : Hid (Blk (wb5.setCells wb1.heap.size 0 [.slice a n c, .slice aa5 na5 ca5, .int .i64 0]) wb1.heap.size [.slice a n c, .slice aa5 na5 ca5, .int .i64 0]) := by { have := HA5.out.cellsAt [.slice a n c, .slice aa5 na5 ca5, .int .i64 0] 0 (by simp); exact this }; have HRf : Hid (OwnE 50 (wb5.setCells wb1.heap.size 0 [.slice a n c, .slice aa5 na5 ca5, .int .i64 0]) w3.heap.size (.slice aa5 na5 ca5) (outs ++ [y])) := HR5.out.same fun k hk => heap_setCells [.slice a n c, .slice aa5 na5 ca5, .int .i64 0] wb5 0 k (HN5.out k hk)
            simp only [Act.put]
            refine hK.out _ _ (HSX.out _ HBf.out) (fun hHeld => ?_)
            clear hK K
            refine wpAnyH_done (by kernel_rfl) ?_ _
            refine NoPanic.normal ?_
            exact HREST.out _ _ (weiB_mk w3 w3.heap.size T A outs y a n c _ _ _ _ ⟨HAf, HRf, HBf, HMA⟩)
          · refine step_build_one elOut rfl _ rfl y rfl ?_; intro wb3 HS3n Hb3n; have Hb3 : Hid (Below wb2.heap.size wb2 wb3) := Hb3n; have HS3 : Hid (Els wb3 (some ⟨wb2.heap.size, 0, none⟩) 1 1 [y]) := HS3n; have HD : Hid (w3.heap.size ≠ wb2.heap.size) := by { have := (HR2.out.lt w3.heap.size rfl).2; show _ ≠ _; omega }; have HB3 : Hid (Below w3.heap.size w3 wb3) := HB2.out.trans (Hb3.out.mono (by have := HB2.out.size; have := HM0.out; omega)); have HR3 : Hid (OwnE 50 wb3 w3.heap.size (.slice (some ⟨w3.heap.size, 0, none⟩) 0 0) (([] : List Out))) := HR2.out.below Hb3.out; have HA3 : Hid (Blk wb3 wb1.heap.size [.slice none 0 0, .slice none 0 0, .int .i64 0]) := HA2.out.below Hb3.out HA2.out.lt
            simp only [Act.put, List.setIfInBounds_toArray, List.set_cons_zero, List.set_cons_succ]
            refine hK.out _ _ (HSX.out _ HB3.out) (fun hHeld => ?_)
            clear hK K
            refine wpAnyH_ready (rs := [5]) (by kernel_rfl) (by simp) ?_
            refine AllReadyH.cons (o := { dst := some 35, op := .call { callee := .builtin Go.Builtin.append, args := #[.tmp 32, .tmp 34], argTypes := #[23, 23] }, type := 23, pos := "law.go:82", after := #[{ on := 2, ground := .data }, { on := 4, ground := .data }], guard := none }) rfl (fun K hK => ?_) AllReadyH.nil
            refine step_append_e elOut rfl _ _ rfl w3.heap.size _ (([] : List Out)) rfl HR3.out _ _ _ outs rfl (HSRC.out _ HB3.out) (by first | (simp only [List.length_nil]; omega) | (rw [HLEN.out]; omega)) (by have := HB3.out.size; have := HM0.out; omega) ?_; intro va4 wb4 HR4n HG4 HMv4; obtain ⟨aa4, na4, ca4, rfl⟩ := HR4n.out.any; have HR4 : Hid (OwnE 50 wb4 w3.heap.size (.slice aa4 na4 ca4) (outs)) := HR4n; have HB4 : Hid (Below w3.heap.size w3 wb4) := HB3.out.grown HG4.out (by have := HB3.out.size; have := HM0.out; omega) (fun k hk => (HR3.out.lt k hk).1); have HS4 : Hid (Els wb4 (some ⟨wb2.heap.size, 0, none⟩) 1 1 [y]) := HS3.out.later fun b o _ e => HG4.out.block b (HS3.out.blockLt e) (fun h => by { have h1 : some b = some w3.heap.size := h; injection h1 with h1; injection e with e; injection e with e; have := HD.out; omega }); have HA4 : Hid (Blk wb4 wb1.heap.size [.slice none 0 0, .slice none 0 0, .int .i64 0]) := HA3.out.grown HG4.out (fun e => HN2.out _ e rfl); have HN4 : Hid (∀ k, (Value.slice aa4 na4 ca4).ownBlock = some k → k ≠ wb1.heap.size) := fun k hk e => HMv4.out.apart HA3.out.lt (fun h => HN2.out _ h rfl) (e ▸ hk)
            simp only [Act.put, List.setIfInBounds_toArray, List.set_cons_zero, List.set_cons_succ]
            refine hK.out _ _ (HSX.out _ HB4.out) (fun hHeld => ?_)
            clear hK K
            refine wpAnyH_ready (rs := [8]) (by kernel_rfl) (by simp) ?_
            refine AllReadyH.cons (o := { dst := some 38, op := .call { callee := .builtin Go.Builtin.append, args := #[.tmp 35, .tmp 37], argTypes := #[23, 23] }, type := 23, pos := "law.go:82", after := #[{ on := 5, ground := .data }, { on := 7, ground := .data }, { on := 5, ground := .chain }], guard := none }) rfl (fun K hK => ?_) AllReadyH.nil
            refine step_append_e elOut rfl _ _ rfl w3.heap.size _ (outs) rfl HR4.out _ 1 1 [y] rfl HS4.out (by first | (simp only [List.length_nil]; omega) | (rw [HLEN.out]; omega)) (by have := HB4.out.size; have := HM0.out; omega) ?_; intro va5 wb5 HR5n HG5 HMv5; obtain ⟨aa5, na5, ca5, rfl⟩ := HR5n.out.any; have HR5 : Hid (OwnE 50 wb5 w3.heap.size (.slice aa5 na5 ca5) (outs ++ [y])) := HR5n; have HB5 : Hid (Below w3.heap.size w3 wb5) := HB4.out.grown HG5.out (by have := HB4.out.size; have := HM0.out; omega) (fun k hk => (HR4.out.lt k hk).1); have HA5 : Hid (Blk wb5 wb1.heap.size [.slice none 0 0, .slice none 0 0, .int .i64 0]) := HA4.out.grown HG5.out (fun e => HN4.out _ e rfl); have HN5 : Hid (∀ k, (Value.slice aa5 na5 ca5).ownBlock = some k → k ≠ wb1.heap.size) := fun k hk e => HMv5.out.apart HA4.out.lt (fun h => HN4.out _ h rfl) (e ▸ hk)
            simp only [Act.put, List.setIfInBounds_toArray, List.set_cons_zero, List.set_cons_succ]
            refine hK.out _ _ (HSX.out _ HB5.out) (fun hHeld => ?_)
            clear hK K
            refine wpAnyH_take (i := 9) (oi := { dst := some 39, op := .build 25 #[(0, .tmp 31), (1, .tmp 38)], type := 25, pos := "law.go:82", after := #[{ on := 1, ground := .data }, { on := 8, ground := .data }], guard := none }) (v := ?_) rfl (by kernel_rfl) (by kernel_rfl) (by kernel_rfl) (fun _ _ _ h => h) (Or.inl ⟨by rfl, ?_⟩) (by assumption) ?_
            rotate_left
            · intro _ _; go_simp; first | done | with_reducible rfl
            simp only [Act.put, List.setIfInBounds_toArray, List.set_cons_zero, List.set_cons_succ]
            refine wpAnyH_ready (rs := [11]) (by kernel_rfl) (by simp) ?_
            refine AllReadyH.cons (o := { dst := none, op := .store 25 (.tmp 8) (.tmp 39), type := 0, pos := "law.go:82", after := #[{ on := 10, ground := .data }, { on := 9, ground := .data }, { on := 8, ground := .chain }, { on := 0, ground := .phase }, { on := 1, ground := .phase }, { on := 2, ground := .phase }, { on := 3, ground := .phase }, { on := 4, ground := .phase }, { on := 5, ground := .phase }, { on := 6, ground := .phase }, { on := 7, ground := .phase }, { on := 8, ground := .phase }, { on := 9, ground := .phase }, { on := 10, ground := .phase }], guard := none }) rfl (fun K hK => ?_) AllReadyH.nil
            refine step_store_mid rfl 25 _ _ rfl wb1.heap.size 0 [.slice a n c, .slice aa5 na5 ca5, .int .i64 0] rfl rfl (HA5.out.there 0 3 (by simp)) (by kernel_rfl) (by intro v hv; simp only [List.mem_cons, List.not_mem_nil, or_false] at hv; rcases hv with rfl | rfl | rfl <;> rfl) ?_; have HBf : Hid (Below w3.heap.size w3 (wb5.setCells wb1.heap.size 0 [.slice a n c, .slice aa5 na5 ca5, .int .i64 0])) := below_setCells HMA.out _ HB5.out _; have HAf : Hid (Blk (wb5.setCells wb1.heap.size 0 [.slice a n c, .slice aa5 na5 ca5, .int .i64 0]) wb1.heap.size [.slice a n c, .slice aa5 na5 ca5, .int .i64 0]) := by { have := HA5.out.cellsAt [.slice a n c, .slice aa5 na5 ca5, .int .i64 0] 0 (by simp); exact this }; have HRf : Hid (OwnE 50 (wb5.setCells wb1.heap.size 0 [.slice a n c, .slice aa5 na5 ca5, .int .i64 0]) w3.heap.size (.slice aa5 na5 ca5) (outs ++ [y])) := HR5.out.same fun k hk => heap_setCells [.slice a n c, .slice aa5 na5 ca5, .int .i64 0] wb5 0 k (HN5.out k hk)
            simp only [Act.put]
            refine hK.out _ _ (HSX.out _ HBf.out) (fun hHeld => ?_)
            clear hK K
            refine wpAnyH_done (by kernel_rfl) ?_ _
            refine NoPanic.normal ?_
            exact HREST.out _ _ (weiB_mk w3 w3.heap.size T A outs y a n c _ _ _ _ ⟨HAf, HRf, HBf, HMA⟩)
      · refine step_build_one elOut rfl _ rfl y rfl ?_; intro wb1 HS1n Hb1n; have Hb1 : Hid (Below w3.heap.size w3.drew wb1) := Hb1n; have HS1 : Hid (Els wb1 (some ⟨w3.heap.size, 0, none⟩) 1 1 [y]) := HS1n; have HB1 : Hid (Below w3.heap.size w3 wb1) := HB00.out.trans (Hb1.out.mono (by have := HB00.out.size; have := HM0.out; omega))
        simp only [Act.put, List.setIfInBounds_toArray, List.set_cons_zero, List.set_cons_succ]
        refine hK.out _ _ (HSX.out _ HB1.out) (fun hHeld => ?_)
        clear hK K
        refine wpAnyH_ready (rs := [2, 10]) (by kernel_rfl) (by simp) ?_
        refine (AllReadyH.cons (o := { dst := some 32, op := .buildSlice 23 0 #[], type := 23, pos := "law.go:82", after := #[], guard := none }) rfl (fun K hK => ?_) (AllReadyH.cons (o := { dst := some 8, op := .alloc 25, type := 0, pos := "law.go:82", after := #[], guard := none }) rfl (fun K hK => ?_) AllReadyH.nil))
        · go_simp
          skip; have Hg2 : Hid (w3.heap.size ≤ wb1.heap.size) := by { have := HB1.out.size; have := HM0.out; show _ ≤ _; omega }; have Hb2q : Below wb1.heap.size wb1 (wb1.alloc (.cells #[] 50)) := (Below.refl _ wb1).alloc (Nat.le_refl _) _; have HR2q : OwnE 50 (wb1.alloc (.cells #[] 50)) w3.heap.size (.slice (some ⟨wb1.heap.size, 0, none⟩) 0 0) ([] : List Out) := World.ownsRow_made (size := El.k Out) wb1 #[] 0 Hg2.out (Nat.zero_le _) (by simp); generalize wb1.alloc (.cells #[] 50) = wb2 at *; have Hb2 : Hid (Below wb1.heap.size wb1 wb2) := Hb2q; have HB2 : Hid (Below w3.heap.size w3 wb2) := HB1.out.trans (Hb2.out.mono (by have := HB1.out.size; have := HM0.out; omega)); have HS2 : Hid (Els wb2 (some ⟨w3.heap.size, 0, none⟩) 1 1 [y]) := HS1.out.below Hb2.out; have HR2 : Hid (OwnE 50 wb2 w3.heap.size (.slice (some ⟨wb1.heap.size, 0, none⟩) 0 0) ([] : List Out)) := HR2q; have HD : Hid (wb1.heap.size ≠ w3.heap.size) := by { have := HS1.out.blockLt rfl; show _ ≠ _; omega }; clear Hb2q HR2q
          go_simp
          refine hK.out _ _ (HSX.out _ HB2.out) (fun hHeld => ?_)
          clear hK K
          refine wpAnyH_ready (rs := [5, 10]) (by kernel_rfl) (by simp) ?_
          refine (AllReadyH.cons (o := { dst := some 35, op := .call { callee := .builtin Go.Builtin.append, args := #[.tmp 32, .tmp 34], argTypes := #[23, 23] }, type := 23, pos := "law.go:82", after := #[{ on := 2, ground := .data }, { on := 4, ground := .data }], guard := none }) rfl (fun K hK => ?_) (AllReadyH.cons (o := { dst := some 8, op := .alloc 25, type := 0, pos := "law.go:82", after := #[], guard := none }) rfl (fun K hK => ?_) AllReadyH.nil))
          · refine step_append_e elOut rfl _ _ rfl w3.heap.size _ (([] : List Out)) rfl HR2.out _ _ _ outs rfl (HSRC.out _ HB2.out) (by first | (simp only [List.length_nil]; omega) | (rw [HLEN.out]; omega)) (by have := HB2.out.size; have := HM0.out; omega) ?_; intro va3 wb3 HR3n HG3 HMv3; obtain ⟨aa3, na3, ca3, rfl⟩ := HR3n.out.any; have HR3 : Hid (OwnE 50 wb3 w3.heap.size (.slice aa3 na3 ca3) (outs)) := HR3n; have HB3 : Hid (Below w3.heap.size w3 wb3) := HB2.out.grown HG3.out (by have := HB2.out.size; have := HM0.out; omega) (fun k hk => (HR2.out.lt k hk).1); have HS3 : Hid (Els wb3 (some ⟨w3.heap.size, 0, none⟩) 1 1 [y]) := HS2.out.later fun b o _ e => HG3.out.block b (HS2.out.blockLt e) (fun h => by { have h1 : some b = some wb1.heap.size := h; injection h1 with h1; injection e with e; injection e with e; have := HD.out; omega })
            simp only [Act.put, List.setIfInBounds_toArray, List.set_cons_zero, List.set_cons_succ]
            refine hK.out _ _ (HSX.out _ HB3.out) (fun hHeld => ?_)
            clear hK K
            refine wpAnyH_ready (rs := [8, 10]) (by kernel_rfl) (by simp) ?_
            refine (AllReadyH.cons (o := { dst := some 38, op := .call { callee := .builtin Go.Builtin.append, args := #[.tmp 35, .tmp 37], argTypes := #[23, 23] }, type := 23, pos := "law.go:82", after := #[{ on := 5, ground := .data }, { on := 7, ground := .data }, { on := 5, ground := .chain }], guard := none }) rfl (fun K hK => ?_) (AllReadyH.cons (o := { dst := some 8, op := .alloc 25, type := 0, pos := "law.go:82", after := #[], guard := none }) rfl (fun K hK => ?_) AllReadyH.nil))
            · refine step_append_e elOut rfl _ _ rfl w3.heap.size _ (outs) rfl HR3.out _ 1 1 [y] rfl HS3.out (by first | (simp only [List.length_nil]; omega) | (rw [HLEN.out]; omega)) (by have := HB3.out.size; have := HM0.out; omega) ?_; intro va4 wb4 HR4n HG4 HMv4; obtain ⟨aa4, na4, ca4, rfl⟩ := HR4n.out.any; have HR4 : Hid (OwnE 50 wb4 w3.heap.size (.slice aa4 na4 ca4) (outs ++ [y])) := HR4n; have HB4 : Hid (Below w3.heap.size w3 wb4) := HB3.out.grown HG4.out (by have := HB3.out.size; have := HM0.out; omega) (fun k hk => (HR3.out.lt k hk).1)
              simp only [Act.put, List.setIfInBounds_toArray, List.set_cons_zero, List.set_cons_succ]
              refine hK.out _ _ (HSX.out _ HB4.out) (fun hHeld => ?_)
              clear hK K
              refine wpAnyH_take (i := 9) (oi := { dst := some 39, op := .build 25 #[(0, .tmp 31), (1, .tmp 38)], type := 25, pos := "law.go:82", after := #[{ on := 1, ground := .data }, { on := 8, ground := .data }], guard := none }) (v := ?_) rfl (by kernel_rfl) (by kernel_rfl) (by kernel_rfl) (fun _ _ _ h => h) (Or.inl ⟨by rfl, ?_⟩) (by assumption) ?_
              rotate_left
              · intro _ _; go_simp; first | done | with_reducible rfl
              simp only [Act.put, List.setIfInBounds_toArray, List.set_cons_zero, List.set_cons_succ]
              refine wpAnyH_ready (rs := [10]) (by kernel_rfl) (by simp) ?_
              refine AllReadyH.cons (o := { dst := some 8, op := .alloc 25, type := 0, pos := "law.go:82", after := #[], guard := none }) rfl (fun K hK => ?_) AllReadyH.nil
              go_simp
              skip; have Hb5q : Below wb4.heap.size wb4 (wb4.alloc (.cells #[.slice none 0 0, .slice none 0 0, .int .i64 0] 25)) := (Below.refl _ wb4).alloc (Nat.le_refl _) _; have HA5q : Blk (wb4.alloc (.cells #[.slice none 0 0, .slice none 0 0, .int .i64 0] 25)) wb4.heap.size [.slice none 0 0, .slice none 0 0, .int .i64 0] := Blk.new wb4 _ _; generalize wb4.alloc (.cells #[.slice none 0 0, .slice none 0 0, .int .i64 0] 25) = wb5 at *; have Hb5 : Hid (Below wb4.heap.size wb4 wb5) := Hb5q; have HB5 : Hid (Below w3.heap.size w3 wb5) := HB4.out.trans (Hb5.out.mono (by have := HB4.out.size; have := HM0.out; omega)); have HR5 : Hid (OwnE 50 wb5 w3.heap.size (.slice aa4 na4 ca4) (outs ++ [y])) := HR4.out.below Hb5.out; have HA5 : Hid (Blk wb5 wb4.heap.size [.slice none 0 0, .slice none 0 0, .int .i64 0]) := HA5q; have HMA : Hid (w3.heap.size ≤ wb4.heap.size) := by { have := HB4.out.size; have := HM0.out; show _ ≤ _; omega }; have HN5 : Hid (∀ k, (.slice aa4 na4 ca4 : Value).ownBlock = some k → k ≠ wb4.heap.size) := fun k hk => by { have h2 := (HR4.out.lt k hk).2; omega }; clear Hb5q HA5q
              go_simp
              refine hK.out _ _ (HSX.out _ HB5.out) (fun hHeld => ?_)
              clear hK K
              refine wpAnyH_ready (rs := [11]) (by kernel_rfl) (by simp) ?_
              refine AllReadyH.cons (o := { dst := none, op := .store 25 (.tmp 8) (.tmp 39), type := 0, pos := "law.go:82", after := #[{ on := 10, ground := .data }, { on := 9, ground := .data }, { on := 8, ground := .chain }, { on := 0, ground := .phase }, { on := 1, ground := .phase }, { on := 2, ground := .phase }, { on := 3, ground := .phase }, { on := 4, ground := .phase }, { on := 5, ground := .phase }, { on := 6, ground := .phase }, { on := 7, ground := .phase }, { on := 8, ground := .phase }, { on := 9, ground := .phase }, { on := 10, ground := .phase }], guard := none }) rfl (fun K hK => ?_) AllReadyH.nil
              refine step_store_mid rfl 25 _ _ rfl wb4.heap.size 0 [.slice a n c, .slice aa4 na4 ca4, .int .i64 0] rfl rfl (HA5.out.there 0 3 (by simp)) (by kernel_rfl) (by intro v hv; simp only [List.mem_cons, List.not_mem_nil, or_false] at hv; rcases hv with rfl | rfl | rfl <;> rfl) ?_; have HBf : Hid (Below w3.heap.size w3 (wb5.setCells wb4.heap.size 0 [.slice a n c, .slice aa4 na4 ca4, .int .i64 0])) := below_setCells HMA.out _ HB5.out _; have HAf : Hid (Blk (wb5.setCells wb4.heap.size 0 [.slice a n c, .slice aa4 na4 ca4, .int .i64 0]) wb4.heap.size [.slice a n c, .slice aa4 na4 ca4, .int .i64 0]) := by { have := HA5.out.cellsAt [.slice a n c, .slice aa4 na4 ca4, .int .i64 0] 0 (by simp); exact this }; have HRf : Hid (OwnE 50 (wb5.setCells wb4.heap.size 0 [.slice a n c, .slice aa4 na4 ca4, .int .i64 0]) w3.heap.size (.slice aa4 na4 ca4) (outs ++ [y])) := HR5.out.same fun k hk => heap_setCells [.slice a n c, .slice aa4 na4 ca4, .int .i64 0] wb5 0 k (HN5.out k hk)
              simp only [Act.put]
              refine hK.out _ _ (HSX.out _ HBf.out) (fun hHeld => ?_)
              clear hK K
              refine wpAnyH_done (by kernel_rfl) ?_ _
              refine NoPanic.normal ?_
              exact HREST.out _ _ (weiB_mk w3 w3.heap.size T A outs y a n c _ _ _ _ ⟨HAf, HRf, HBf, HMA⟩)
            · go_simp
              skip; have Hb4q : Below wb3.heap.size wb3 (wb3.alloc (.cells #[.slice none 0 0, .slice none 0 0, .int .i64 0] 25)) := (Below.refl _ wb3).alloc (Nat.le_refl _) _; have HA4q : Blk (wb3.alloc (.cells #[.slice none 0 0, .slice none 0 0, .int .i64 0] 25)) wb3.heap.size [.slice none 0 0, .slice none 0 0, .int .i64 0] := Blk.new wb3 _ _; generalize wb3.alloc (.cells #[.slice none 0 0, .slice none 0 0, .int .i64 0] 25) = wb4 at *; have Hb4 : Hid (Below wb3.heap.size wb3 wb4) := Hb4q; have HB4 : Hid (Below w3.heap.size w3 wb4) := HB3.out.trans (Hb4.out.mono (by have := HB3.out.size; have := HM0.out; omega)); have HR4 : Hid (OwnE 50 wb4 w3.heap.size (.slice aa3 na3 ca3) (outs)) := HR3.out.below Hb4.out; have HS4 : Hid (Els wb4 (some ⟨w3.heap.size, 0, none⟩) 1 1 [y]) := HS3.out.below Hb4.out; have HA4 : Hid (Blk wb4 wb3.heap.size [.slice none 0 0, .slice none 0 0, .int .i64 0]) := HA4q; have HMA : Hid (w3.heap.size ≤ wb3.heap.size) := by { have := HB3.out.size; have := HM0.out; show _ ≤ _; omega }; have HN4 : Hid (∀ k, (.slice aa3 na3 ca3 : Value).ownBlock = some k → k ≠ wb3.heap.size) := fun k hk => by { have h2 := (HR3.out.lt k hk).2; omega }; clear Hb4q HA4q
              go_simp
              refine hK.out _ _ (HSX.out _ HB4.out) (fun hHeld => ?_)
              clear hK K
              refine wpAnyH_ready (rs := [8]) (by kernel_rfl) (by simp) ?_
              refine AllReadyH.cons (o := { dst := some 38, op := .call { callee := .builtin Go.Builtin.append, args := #[.tmp 35, .tmp 37], argTypes := #[23, 23] }, type := 23, pos := "law.go:82", after := #[{ on := 5, ground := .data }, { on := 7, ground := .data }, { on := 5, ground := .chain }], guard := none }) rfl (fun K hK => ?_) AllReadyH.nil
              refine step_append_e elOut rfl _ _ rfl w3.heap.size _ (outs) rfl HR4.out _ 1 1 [y] rfl HS4.out (by first | (simp only [List.length_nil]; omega) | (rw [HLEN.out]; omega)) (by have := HB4.out.size; have := HM0.out; omega) ?_; intro va5 wb5 HR5n HG5 HMv5; obtain ⟨aa5, na5, ca5, rfl⟩ := HR5n.out.any; have HR5 : Hid (OwnE 50 wb5 w3.heap.size (.slice aa5 na5 ca5) (outs ++ [y])) := HR5n; have HB5 : Hid (Below w3.heap.size w3 wb5) := HB4.out.grown HG5.out (by have := HB4.out.size; have := HM0.out; omega) (fun k hk => (HR4.out.lt k hk).1); have HA5 : Hid (Blk wb5 wb3.heap.size [.slice none 0 0, .slice none 0 0, .int .i64 0]) := HA4.out.grown HG5.out (fun e => HN4.out _ e rfl); have HN5 : Hid (∀ k, (Value.slice aa5 na5 ca5).ownBlock = some k → k ≠ wb3.heap.size) := fun k hk e => HMv5.out.apart HA4.out.lt (fun h => HN4.out _ h rfl) (e ▸ hk)
              simp only [Act.put, List.setIfInBounds_toArray, List.set_cons_zero, List.set_cons_succ]
              refine hK.out _ _ (HSX.out _ HB5.out) (fun hHeld => ?_)
              clear hK K
              refine wpAnyH_take (i := 9) (oi := { dst := some 39, op := .build 25 #[(0, .tmp 31), (1, .tmp 38)], type := 25, pos := "law.go:82", after := #[{ on := 1, ground := .data }, { on := 8, ground := .data }], guard := none }) (v := ?_) rfl (by kernel_rfl) (by kernel_rfl) (by kernel_rfl) (fun _ _ _ h => h) (Or.inl ⟨by rfl, ?_⟩) (by assumption) ?_
              rotate_left
              · intro _ _; go_simp; first | done | with_reducible rfl
              simp only [Act.put, List.setIfInBounds_toArray, List.set_cons_zero, List.set_cons_succ]
              refine wpAnyH_ready (rs := [11]) (by kernel_rfl) (by simp) ?_
              refine AllReadyH.cons (o := { dst := none, op := .store 25 (.tmp 8) (.tmp 39), type := 0, pos := "law.go:82", after := #[{ on := 10, ground := .data }, { on := 9, ground := .data }, { on := 8, ground := .chain }, { on := 0, ground := .phase }, { on := 1, ground := .phase }, { on := 2, ground := .phase }, { on := 3, ground := .phase }, { on := 4, ground := .phase }, { on := 5, ground := .phase }, { on := 6, ground := .phase }, { on := 7, ground := .phase }, { on := 8, ground := .phase }, { on := 9, ground := .phase }, { on := 10, ground := .phase }], guard := none }) rfl (fun K hK => ?_) AllReadyH.nil
              refine step_store_mid rfl 25 _ _ rfl wb3.heap.size 0 [.slice a n c, .slice aa5 na5 ca5, .int .i64 0] rfl rfl (HA5.out.there 0 3 (by simp)) (by kernel_rfl) (by intro v hv; simp only [List.mem_cons, List.not_mem_nil, or_false] at hv; rcases hv with rfl | rfl | rfl <;> rfl) ?_; have HBf : Hid (Below w3.heap.size w3 (wb5.setCells wb3.heap.size 0 [.slice a n c, .slice aa5 na5 ca5, .int .i64 0])) := below_setCells HMA.out _ HB5.out _; have HAf : Hid (Blk (wb5.setCells wb3.heap.size 0 [.slice a n c, .slice aa5 na5 ca5, .int .i64 0]) wb3.heap.size [.slice a n c, .slice aa5 na5 ca5, .int .i64 0]) := by { have := HA5.out.cellsAt [.slice a n c, .slice aa5 na5 ca5, .int .i64 0] 0 (by simp); exact this }; have HRf : Hid (OwnE 50 (wb5.setCells wb3.heap.size 0 [.slice a n c, .slice aa5 na5 ca5, .int .i64 0]) w3.heap.size (.slice aa5 na5 ca5) (outs ++ [y])) := HR5.out.same fun k hk => heap_setCells [.slice a n c, .slice aa5 na5 ca5, .int .i64 0] wb5 0 k (HN5.out k hk)
              simp only [Act.put]
              refine hK.out _ _ (HSX.out _ HBf.out) (fun hHeld => ?_)
              clear hK K
              refine wpAnyH_done (by kernel_rfl) ?_ _
              refine NoPanic.normal ?_
              exact HREST.out _ _ (weiB_mk w3 w3.heap.size T A outs y a n c _ _ _ _ ⟨HAf, HRf, HBf, HMA⟩)
          · go_simp
            skip; have Hb3q : Below wb2.heap.size wb2 (wb2.alloc (.cells #[.slice none 0 0, .slice none 0 0, .int .i64 0] 25)) := (Below.refl _ wb2).alloc (Nat.le_refl _) _; have HA3q : Blk (wb2.alloc (.cells #[.slice none 0 0, .slice none 0 0, .int .i64 0] 25)) wb2.heap.size [.slice none 0 0, .slice none 0 0, .int .i64 0] := Blk.new wb2 _ _; generalize wb2.alloc (.cells #[.slice none 0 0, .slice none 0 0, .int .i64 0] 25) = wb3 at *; have Hb3 : Hid (Below wb2.heap.size wb2 wb3) := Hb3q; have HB3 : Hid (Below w3.heap.size w3 wb3) := HB2.out.trans (Hb3.out.mono (by have := HB2.out.size; have := HM0.out; omega)); have HR3 : Hid (OwnE 50 wb3 w3.heap.size (.slice (some ⟨wb1.heap.size, 0, none⟩) 0 0) (([] : List Out))) := HR2.out.below Hb3.out; have HS3 : Hid (Els wb3 (some ⟨w3.heap.size, 0, none⟩) 1 1 [y]) := HS2.out.below Hb3.out; have HA3 : Hid (Blk wb3 wb2.heap.size [.slice none 0 0, .slice none 0 0, .int .i64 0]) := HA3q; have HMA : Hid (w3.heap.size ≤ wb2.heap.size) := by { have := HB2.out.size; have := HM0.out; show _ ≤ _; omega }; have HN3 : Hid (∀ k, (.slice (some ⟨wb1.heap.size, 0, none⟩) 0 0 : Value).ownBlock = some k → k ≠ wb2.heap.size) := fun k hk => by { have h2 := (HR2.out.lt k hk).2; omega }; clear Hb3q HA3q
            go_simp
            refine hK.out _ _ (HSX.out _ HB3.out) (fun hHeld => ?_)
            clear hK K
            refine wpAnyH_ready (rs := [5]) (by kernel_rfl) (by simp) ?_
            refine AllReadyH.cons (o := { dst := some 35, op := .call { callee := .builtin Go.Builtin.append, args := #[.tmp 32, .tmp 34], argTypes := #[23, 23] }, type := 23, pos := "law.go:82", after := #[{ on := 2, ground := .data }, { on := 4, ground := .data }], guard := none }) rfl (fun K hK => ?_) AllReadyH.nil
            refine step_append_e elOut rfl _ _ rfl w3.heap.size _ (([] : List Out)) rfl HR3.out _ _ _ outs rfl (HSRC.out _ HB3.out) (by first | (simp only [List.length_nil]; omega) | (rw [HLEN.out]; omega)) (by have := HB3.out.size; have := HM0.out; omega) ?_; intro va4 wb4 HR4n HG4 HMv4; obtain ⟨aa4, na4, ca4, rfl⟩ := HR4n.out.any; have HR4 : Hid (OwnE 50 wb4 w3.heap.size (.slice aa4 na4 ca4) (outs)) := HR4n; have HB4 : Hid (Below w3.heap.size w3 wb4) := HB3.out.grown HG4.out (by have := HB3.out.size; have := HM0.out; omega) (fun k hk => (HR3.out.lt k hk).1); have HS4 : Hid (Els wb4 (some ⟨w3.heap.size, 0, none⟩) 1 1 [y]) := HS3.out.later fun b o _ e => HG4.out.block b (HS3.out.blockLt e) (fun h => by { have h1 : some b = some wb1.heap.size := h; injection h1 with h1; injection e with e; injection e with e; have := HD.out; omega }); have HA4 : Hid (Blk wb4 wb2.heap.size [.slice none 0 0, .slice none 0 0, .int .i64 0]) := HA3.out.grown HG4.out (fun e => HN3.out _ e rfl); have HN4 : Hid (∀ k, (Value.slice aa4 na4 ca4).ownBlock = some k → k ≠ wb2.heap.size) := fun k hk e => HMv4.out.apart HA3.out.lt (fun h => HN3.out _ h rfl) (e ▸ hk)
            simp only [Act.put, List.setIfInBounds_toArray, List.set_cons_zero, List.set_cons_succ]
            refine hK.out _ _ (HSX.out _ HB4.out) (fun hHeld => ?_)
            clear hK K
            refine wpAnyH_ready (rs := [8]) (by kernel_rfl) (by simp) ?_
            refine AllReadyH.cons (o := { dst := some 38, op := .call { callee := .builtin Go.Builtin.append, args := #[.tmp 35, .tmp 37], argTypes := #[23, 23] }, type := 23, pos := "law.go:82", after := #[{ on := 5, ground := .data }, { on := 7, ground := .data }, { on := 5, ground := .chain }], guard := none }) rfl (fun K hK => ?_) AllReadyH.nil
            refine step_append_e elOut rfl _ _ rfl w3.heap.size _ (outs) rfl HR4.out _ 1 1 [y] rfl HS4.out (by first | (simp only [List.length_nil]; omega) | (rw [HLEN.out]; omega)) (by have := HB4.out.size; have := HM0.out; omega) ?_; intro va5 wb5 HR5n HG5 HMv5; obtain ⟨aa5, na5, ca5, rfl⟩ := HR5n.out.any; have HR5 : Hid (OwnE 50 wb5 w3.heap.size (.slice aa5 na5 ca5) (outs ++ [y])) := HR5n; have HB5 : Hid (Below w3.heap.size w3 wb5) := HB4.out.grown HG5.out (by have := HB4.out.size; have := HM0.out; omega) (fun k hk => (HR4.out.lt k hk).1); have HA5 : Hid (Blk wb5 wb2.heap.size [.slice none 0 0, .slice none 0 0, .int .i64 0]) := HA4.out.grown HG5.out (fun e => HN4.out _ e rfl); have HN5 : Hid (∀ k, (Value.slice aa5 na5 ca5).ownBlock = some k → k ≠ wb2.heap.size) := fun k hk e => HMv5.out.apart HA4.out.lt (fun h => HN4.out _ h rfl) (e ▸ hk)
            simp only [Act.put, List.setIfInBounds_toArray, List.set_cons_zero, List.set_cons_succ]
            refine hK.out _ _ (HSX.out _ HB5.out) (fun hHeld => ?_)
            clear hK K
            refine wpAnyH_take (i := 9) (oi := { dst := some 39, op := .build 25 #[(0, .tmp 31), (1, .tmp 38)], type := 25, pos := "law.go:82", after := #[{ on := 1, ground := .data }, { on := 8, ground := .data }], guard := none }) (v := ?_) rfl (by kernel_rfl) (by kernel_rfl) (by kernel_rfl) (fun _ _ _ h => h) (Or.inl ⟨by rfl, ?_⟩) (by assumption) ?_
            rotate_left
            · intro _ _; go_simp; first | done | with_reducible rfl
            simp only [Act.put, List.setIfInBounds_toArray, List.set_cons_zero, List.set_cons_succ]
            refine wpAnyH_ready (rs := [11]) (by kernel_rfl) (by simp) ?_
            refine AllReadyH.cons (o := { dst := none, op := .store 25 (.tmp 8) (.tmp 39), type := 0, pos := "law.go:82", after := #[{ on := 10, ground := .data }, { on := 9, ground := .data }, { on := 8, ground := .chain }, { on := 0, ground := .phase }, { on := 1, ground := .phase }, { on := 2, ground := .phase }, { on := 3, ground := .phase }, { on := 4, ground := .phase }, { on := 5, ground := .phase }, { on := 6, ground := .phase }, { on := 7, ground := .phase }, { on := 8, ground := .phase }, { on := 9, ground := .phase }, { on := 10, ground := .phase }], guard := none }) rfl (fun K hK => ?_) AllReadyH.nil
            refine step_store_mid rfl 25 _ _ rfl wb2.heap.size 0 [.slice a n c, .slice aa5 na5 ca5, .int .i64 0] rfl rfl (HA5.out.there 0 3 (by simp)) (by kernel_rfl) (by intro v hv; simp only [List.mem_cons, List.not_mem_nil, or_false] at hv; rcases hv with rfl | rfl | rfl <;> rfl) ?_; have HBf : Hid (Below w3.heap.size w3 (wb5.setCells wb2.heap.size 0 [.slice a n c, .slice aa5 na5 ca5, .int .i64 0])) := below_setCells HMA.out _ HB5.out _; have HAf : Hid (Blk (wb5.setCells wb2.heap.size 0 [.slice a n c, .slice aa5 na5 ca5, .int .i64 0]) wb2.heap.size [.slice a n c, .slice aa5 na5 ca5, .int .i64 0]) := by { have := HA5.out.cellsAt [.slice a n c, .slice aa5 na5 ca5, .int .i64 0] 0 (by simp); exact this }; have HRf : Hid (OwnE 50 (wb5.setCells wb2.heap.size 0 [.slice a n c, .slice aa5 na5 ca5, .int .i64 0]) w3.heap.size (.slice aa5 na5 ca5) (outs ++ [y])) := HR5.out.same fun k hk => heap_setCells [.slice a n c, .slice aa5 na5 ca5, .int .i64 0] wb5 0 k (HN5.out k hk)
            simp only [Act.put]
            refine hK.out _ _ (HSX.out _ HBf.out) (fun hHeld => ?_)
            clear hK K
            refine wpAnyH_done (by kernel_rfl) ?_ _
            refine NoPanic.normal ?_
            exact HREST.out _ _ (weiB_mk w3 w3.heap.size T A outs y a n c _ _ _ _ ⟨HAf, HRf, HBf, HMA⟩)
        · go_simp
          skip; have Hb2q : Below wb1.heap.size wb1 (wb1.alloc (.cells #[.slice none 0 0, .slice none 0 0, .int .i64 0] 25)) := (Below.refl _ wb1).alloc (Nat.le_refl _) _; have HA2q : Blk (wb1.alloc (.cells #[.slice none 0 0, .slice none 0 0, .int .i64 0] 25)) wb1.heap.size [.slice none 0 0, .slice none 0 0, .int .i64 0] := Blk.new wb1 _ _; generalize wb1.alloc (.cells #[.slice none 0 0, .slice none 0 0, .int .i64 0] 25) = wb2 at *; have Hb2 : Hid (Below wb1.heap.size wb1 wb2) := Hb2q; have HB2 : Hid (Below w3.heap.size w3 wb2) := HB1.out.trans (Hb2.out.mono (by have := HB1.out.size; have := HM0.out; omega)); have HS2 : Hid (Els wb2 (some ⟨w3.heap.size, 0, none⟩) 1 1 [y]) := HS1.out.below Hb2.out; have HA2 : Hid (Blk wb2 wb1.heap.size [.slice none 0 0, .slice none 0 0, .int .i64 0]) := HA2q; have HMA : Hid (w3.heap.size ≤ wb1.heap.size) := by { have := HB1.out.size; have := HM0.out; show _ ≤ _; omega }; clear Hb2q HA2q
          go_simp
          refine hK.out _ _ (HSX.out _ HB2.out) (fun hHeld => ?_)
          clear hK K
          refine wpAnyH_ready (rs := [2]) (by kernel_rfl) (by simp) ?_
          refine AllReadyH.cons (o := { dst := some 32, op := .buildSlice 23 0 #[], type := 23, pos := "law.go:82", after := #[], guard := none }) rfl (fun K hK => ?_) AllReadyH.nil
          go_simp
          skip; have Hg3 : Hid (w3.heap.size ≤ wb2.heap.size) := by { have := HB2.out.size; have := HM0.out; show _ ≤ _; omega }; have Hb3q : Below wb2.heap.size wb2 (wb2.alloc (.cells #[] 50)) := (Below.refl _ wb2).alloc (Nat.le_refl _) _; have HR3q : OwnE 50 (wb2.alloc (.cells #[] 50)) w3.heap.size (.slice (some ⟨wb2.heap.size, 0, none⟩) 0 0) ([] : List Out) := World.ownsRow_made (size := El.k Out) wb2 #[] 0 Hg3.out (Nat.zero_le _) (by simp); generalize wb2.alloc (.cells #[] 50) = wb3 at *; have Hb3 : Hid (Below wb2.heap.size wb2 wb3) := Hb3q; have HB3 : Hid (Below w3.heap.size w3 wb3) := HB2.out.trans (Hb3.out.mono (by have := HB2.out.size; have := HM0.out; omega)); have HS3 : Hid (Els wb3 (some ⟨w3.heap.size, 0, none⟩) 1 1 [y]) := HS2.out.below Hb3.out; have HA3 : Hid (Blk wb3 wb1.heap.size [.slice none 0 0, .slice none 0 0, .int .i64 0]) := HA2.out.below Hb3.out HA2.out.lt; have HR3 : Hid (OwnE 50 wb3 w3.heap.size (.slice (some ⟨wb2.heap.size, 0, none⟩) 0 0) ([] : List Out)) := HR3q; have HN3 : Hid (∀ k, (Value.slice (some ⟨wb2.heap.size, 0, none⟩) 0 0).ownBlock = some k → k ≠ wb1.heap.size) := fun k hk => by { have h1 : some wb2.heap.size = some k := hk; injection h1 with h1; have h2 := HA2.out.lt; omega }; have HD : Hid (wb2.heap.size ≠ w3.heap.size) := by { have := HS2.out.blockLt rfl; show _ ≠ _; omega }; clear Hb3q HR3q
          go_simp
          refine hK.out _ _ (HSX.out _ HB3.out) (fun hHeld => ?_)
          clear hK K
          refine wpAnyH_ready (rs := [5]) (by kernel_rfl) (by simp) ?_
          refine AllReadyH.cons (o := { dst := some 35, op := .call { callee := .builtin Go.Builtin.append, args := #[.tmp 32, .tmp 34], argTypes := #[23, 23] }, type := 23, pos := "law.go:82", after := #[{ on := 2, ground := .data }, { on := 4, ground := .data }], guard := none }) rfl (fun K hK => ?_) AllReadyH.nil
          refine step_append_e elOut rfl _ _ rfl w3.heap.size _ (([] : List Out)) rfl HR3.out _ _ _ outs rfl (HSRC.out _ HB3.out) (by first | (simp only [List.length_nil]; omega) | (rw [HLEN.out]; omega)) (by have := HB3.out.size; have := HM0.out; omega) ?_; intro va4 wb4 HR4n HG4 HMv4; obtain ⟨aa4, na4, ca4, rfl⟩ := HR4n.out.any; have HR4 : Hid (OwnE 50 wb4 w3.heap.size (.slice aa4 na4 ca4) (outs)) := HR4n; have HB4 : Hid (Below w3.heap.size w3 wb4) := HB3.out.grown HG4.out (by have := HB3.out.size; have := HM0.out; omega) (fun k hk => (HR3.out.lt k hk).1); have HS4 : Hid (Els wb4 (some ⟨w3.heap.size, 0, none⟩) 1 1 [y]) := HS3.out.later fun b o _ e => HG4.out.block b (HS3.out.blockLt e) (fun h => by { have h1 : some b = some wb2.heap.size := h; injection h1 with h1; injection e with e; injection e with e; have := HD.out; omega }); have HA4 : Hid (Blk wb4 wb1.heap.size [.slice none 0 0, .slice none 0 0, .int .i64 0]) := HA3.out.grown HG4.out (fun e => HN3.out _ e rfl); have HN4 : Hid (∀ k, (Value.slice aa4 na4 ca4).ownBlock = some k → k ≠ wb1.heap.size) := fun k hk e => HMv4.out.apart HA3.out.lt (fun h => HN3.out _ h rfl) (e ▸ hk)
          simp only [Act.put, List.setIfInBounds_toArray, List.set_cons_zero, List.set_cons_succ]
          refine hK.out _ _ (HSX.out _ HB4.out) (fun hHeld => ?_)
          clear hK K
          refine wpAnyH_ready (rs := [8]) (by kernel_rfl) (by simp) ?_
          refine AllReadyH.cons (o := { dst := some 38, op := .call { callee := .builtin Go.Builtin.append, args := #[.tmp 35, .tmp 37], argTypes := #[23, 23] }, type := 23, pos := "law.go:82", after := #[{ on := 5, ground := .data }, { on := 7, ground := .data }, { on := 5, ground := .chain }], guard := none }) rfl (fun K hK => ?_) AllReadyH.nil
          refine step_append_e elOut rfl _ _ rfl w3.heap.size _ (outs) rfl HR4.out _ 1 1 [y] rfl HS4.out (by first | (simp only [List.length_nil]; omega) | (rw [HLEN.out]; omega)) (by have := HB4.out.size; have := HM0.out; omega) ?_; intro va5 wb5 HR5n HG5 HMv5; obtain ⟨aa5, na5, ca5, rfl⟩ := HR5n.out.any; have HR5 : Hid (OwnE 50 wb5 w3.heap.size (.slice aa5 na5 ca5) (outs ++ [y])) := HR5n; have HB5 : Hid (Below w3.heap.size w3 wb5) := HB4.out.grown HG5.out (by have := HB4.out.size; have := HM0.out; omega) (fun k hk => (HR4.out.lt k hk).1); have HA5 : Hid (Blk wb5 wb1.heap.size [.slice none 0 0, .slice none 0 0, .int .i64 0]) := HA4.out.grown HG5.out (fun e => HN4.out _ e rfl); have HN5 : Hid (∀ k, (Value.slice aa5 na5 ca5).ownBlock = some k → k ≠ wb1.heap.size) := fun k hk e => HMv5.out.apart HA4.out.lt (fun h => HN4.out _ h rfl) (e ▸ hk)
          simp only [Act.put, List.setIfInBounds_toArray, List.set_cons_zero, List.set_cons_succ]
          refine hK.out _ _ (HSX.out _ HB5.out) (fun hHeld => ?_)
          clear hK K
          refine wpAnyH_take (i := 9) (oi := { dst := some 39, op := .build 25 #[(0, .tmp 31), (1, .tmp 38)], type := 25, pos := "law.go:82", after := #[{ on := 1, ground := .data }, { on := 8, ground := .data }], guard := none }) (v := ?_) rfl (by kernel_rfl) (by kernel_rfl) (by kernel_rfl) (fun _ _ _ h => h) (Or.inl ⟨by rfl, ?_⟩) (by assumption) ?_
          rotate_left
          · intro _ _; go_simp; first | done | with_reducible rfl
          simp only [Act.put, List.setIfInBounds_toArray, List.set_cons_zero, List.set_cons_succ]
          refine wpAnyH_ready (rs := [11]) (by kernel_rfl) (by simp) ?_
          refine AllReadyH.cons (o := { dst := none, op := .store 25 (.tmp 8) (.tmp 39), type := 0, pos := "law.go:82", after := #[{ on := 10, ground := .data }, { on := 9, ground := .data }, { on := 8, ground := .chain }, { on := 0, ground := .phase }, { on := 1, ground := .phase }, { on := 2, ground := .phase }, { on := 3, ground := .phase }, { on := 4, ground := .phase }, { on := 5, ground := .phase }, { on := 6, ground := .phase }, { on := 7, ground := .phase }, { on := 8, ground := .phase }, { on := 9, ground := .phase }, { on := 10, ground := .phase }], guard := none }) rfl (fun K hK => ?_) AllReadyH.nil
          refine step_store_mid rfl 25 _ _ rfl wb1.heap.size 0 [.slice a n c, .slice aa5 na5 ca5, .int .i64 0] rfl rfl (HA5.out.there 0 3 (by simp)) (by kernel_rfl) (by intro v hv; simp only [List.mem_cons, List.not_mem_nil, or_false] at hv; rcases hv with rfl | rfl | rfl <;> rfl) ?_; have HBf : Hid (Below w3.heap.size w3 (wb5.setCells wb1.heap.size 0 [.slice a n c, .slice aa5 na5 ca5, .int .i64 0])) := below_setCells HMA.out _ HB5.out _; have HAf : Hid (Blk (wb5.setCells wb1.heap.size 0 [.slice a n c, .slice aa5 na5 ca5, .int .i64 0]) wb1.heap.size [.slice a n c, .slice aa5 na5 ca5, .int .i64 0]) := by { have := HA5.out.cellsAt [.slice a n c, .slice aa5 na5 ca5, .int .i64 0] 0 (by simp); exact this }; have HRf : Hid (OwnE 50 (wb5.setCells wb1.heap.size 0 [.slice a n c, .slice aa5 na5 ca5, .int .i64 0]) w3.heap.size (.slice aa5 na5 ca5) (outs ++ [y])) := HR5.out.same fun k hk => heap_setCells [.slice a n c, .slice aa5 na5 ca5, .int .i64 0] wb5 0 k (HN5.out k hk)
          simp only [Act.put]
          refine hK.out _ _ (HSX.out _ HBf.out) (fun hHeld => ?_)
          clear hK K
          refine wpAnyH_done (by kernel_rfl) ?_ _
          refine NoPanic.normal ?_
          exact HREST.out _ _ (weiB_mk w3 w3.heap.size T A outs y a n c _ _ _ _ ⟨HAf, HRf, HBf, HMA⟩)
      · go_simp
        skip; have Hb1q : Below w3.heap.size w3.drew ((w3.alloc (.cells #[.slice none 0 0, .slice none 0 0, .int .i64 0] 25)).drew) := (Below.refl _ w3.drew).alloc (Nat.le_refl _) _; have HA1q : Blk ((w3.alloc (.cells #[.slice none 0 0, .slice none 0 0, .int .i64 0] 25)).drew) w3.heap.size [.slice none 0 0, .slice none 0 0, .int .i64 0] := Blk.new w3.drew _ _; generalize (w3.alloc (.cells #[.slice none 0 0, .slice none 0 0, .int .i64 0] 25)).drew = wb1 at *; have Hb1 : Hid (Below w3.heap.size w3.drew wb1) := Hb1q; have HB1 : Hid (Below w3.heap.size w3 wb1) := HB00.out.trans (Hb1.out.mono (by have := HB00.out.size; have := HM0.out; omega)); have HA1 : Hid (Blk wb1 w3.heap.size [.slice none 0 0, .slice none 0 0, .int .i64 0]) := HA1q; have HMA : Hid (w3.heap.size ≤ w3.heap.size) := by { have := HB00.out.size; have := HM0.out; show _ ≤ _; omega }; clear Hb1q HA1q
        go_simp
        refine hK.out _ _ (HSX.out _ HB1.out) (fun hHeld => ?_)
        clear hK K
        refine wpAnyH_ready (rs := [2, 7]) (by kernel_rfl) (by simp) ?_
        refine (AllReadyH.cons (o := { dst := some 32, op := .buildSlice 23 0 #[], type := 23, pos := "law.go:82", after := #[], guard := none }) rfl (fun K hK => ?_) (AllReadyH.cons (o := { dst := some 37, op := .buildSlice 23 1 #[(0, .tmp 36)], type := 23, pos := "law.go:82", after := #[{ on := 6, ground := .data }], guard := none }) rfl (fun K hK => ?_) AllReadyH.nil))
        · go_simp
          skip; have Hg2 : Hid (w3.heap.size ≤ wb1.heap.size) := by { have := HB1.out.size; have := HM0.out; show _ ≤ _; omega }; have Hb2q : Below wb1.heap.size wb1 (wb1.alloc (.cells #[] 50)) := (Below.refl _ wb1).alloc (Nat.le_refl _) _; have HR2q : OwnE 50 (wb1.alloc (.cells #[] 50)) w3.heap.size (.slice (some ⟨wb1.heap.size, 0, none⟩) 0 0) ([] : List Out) := World.ownsRow_made (size := El.k Out) wb1 #[] 0 Hg2.out (Nat.zero_le _) (by simp); generalize wb1.alloc (.cells #[] 50) = wb2 at *; have Hb2 : Hid (Below wb1.heap.size wb1 wb2) := Hb2q; have HB2 : Hid (Below w3.heap.size w3 wb2) := HB1.out.trans (Hb2.out.mono (by have := HB1.out.size; have := HM0.out; omega)); have HA2 : Hid (Blk wb2 w3.heap.size [.slice none 0 0, .slice none 0 0, .int .i64 0]) := HA1.out.below Hb2.out HA1.out.lt; have HR2 : Hid (OwnE 50 wb2 w3.heap.size (.slice (some ⟨wb1.heap.size, 0, none⟩) 0 0) ([] : List Out)) := HR2q; have HN2 : Hid (∀ k, (Value.slice (some ⟨wb1.heap.size, 0, none⟩) 0 0).ownBlock = some k → k ≠ w3.heap.size) := fun k hk => by { have h1 : some wb1.heap.size = some k := hk; injection h1 with h1; have h2 := HA1.out.lt; omega }; clear Hb2q HR2q
          go_simp
          refine hK.out _ _ (HSX.out _ HB2.out) (fun hHeld => ?_)
          clear hK K
          refine wpAnyH_ready (rs := [5, 7]) (by kernel_rfl) (by simp) ?_
          refine (AllReadyH.cons (o := { dst := some 35, op := .call { callee := .builtin Go.Builtin.append, args := #[.tmp 32, .tmp 34], argTypes := #[23, 23] }, type := 23, pos := "law.go:82", after := #[{ on := 2, ground := .data }, { on := 4, ground := .data }], guard := none }) rfl (fun K hK => ?_) (AllReadyH.cons (o := { dst := some 37, op := .buildSlice 23 1 #[(0, .tmp 36)], type := 23, pos := "law.go:82", after := #[{ on := 6, ground := .data }], guard := none }) rfl (fun K hK => ?_) AllReadyH.nil))
          · refine step_append_e elOut rfl _ _ rfl w3.heap.size _ (([] : List Out)) rfl HR2.out _ _ _ outs rfl (HSRC.out _ HB2.out) (by first | (simp only [List.length_nil]; omega) | (rw [HLEN.out]; omega)) (by have := HB2.out.size; have := HM0.out; omega) ?_; intro va3 wb3 HR3n HG3 HMv3; obtain ⟨aa3, na3, ca3, rfl⟩ := HR3n.out.any; have HR3 : Hid (OwnE 50 wb3 w3.heap.size (.slice aa3 na3 ca3) (outs)) := HR3n; have HB3 : Hid (Below w3.heap.size w3 wb3) := HB2.out.grown HG3.out (by have := HB2.out.size; have := HM0.out; omega) (fun k hk => (HR2.out.lt k hk).1); have HA3 : Hid (Blk wb3 w3.heap.size [.slice none 0 0, .slice none 0 0, .int .i64 0]) := HA2.out.grown HG3.out (fun e => HN2.out _ e rfl); have HN3 : Hid (∀ k, (Value.slice aa3 na3 ca3).ownBlock = some k → k ≠ w3.heap.size) := fun k hk e => HMv3.out.apart HA2.out.lt (fun h => HN2.out _ h rfl) (e ▸ hk)
            simp only [Act.put, List.setIfInBounds_toArray, List.set_cons_zero, List.set_cons_succ]
            refine hK.out _ _ (HSX.out _ HB3.out) (fun hHeld => ?_)
            clear hK K
            refine wpAnyH_ready (rs := [7]) (by kernel_rfl) (by simp) ?_
            refine AllReadyH.cons (o := { dst := some 37, op := .buildSlice 23 1 #[(0, .tmp 36)], type := 23, pos := "law.go:82", after := #[{ on := 6, ground := .data }], guard := none }) rfl (fun K hK => ?_) AllReadyH.nil
            refine step_build_one elOut rfl _ rfl y rfl ?_; intro wb4 HS4n Hb4n; have Hb4 : Hid (Below wb3.heap.size wb3 wb4) := Hb4n; have HS4 : Hid (Els wb4 (some ⟨wb3.heap.size, 0, none⟩) 1 1 [y]) := HS4n; have HB4 : Hid (Below w3.heap.size w3 wb4) := HB3.out.trans (Hb4.out.mono (by have := HB3.out.size; have := HM0.out; omega)); have HR4 : Hid (OwnE 50 wb4 w3.heap.size (.slice aa3 na3 ca3) (outs)) := HR3.out.below Hb4.out; have HA4 : Hid (Blk wb4 w3.heap.size [.slice none 0 0, .slice none 0 0, .int .i64 0]) := HA3.out.below Hb4.out HA3.out.lt
            simp only [Act.put, List.setIfInBounds_toArray, List.set_cons_zero, List.set_cons_succ]
            refine hK.out _ _ (HSX.out _ HB4.out) (fun hHeld => ?_)
            clear hK K
            refine wpAnyH_ready (rs := [8]) (by kernel_rfl) (by simp) ?_
            refine AllReadyH.cons (o := { dst := some 38, op := .call { callee := .builtin Go.Builtin.append, args := #[.tmp 35, .tmp 37], argTypes := #[23, 23] }, type := 23, pos := "law.go:82", after := #[{ on := 5, ground := .data }, { on := 7, ground := .data }, { on := 5, ground := .chain }], guard := none }) rfl (fun K hK => ?_) AllReadyH.nil
            refine step_append_e elOut rfl _ _ rfl w3.heap.size _ (outs) rfl HR4.out _ 1 1 [y] rfl HS4.out (by first | (simp only [List.length_nil]; omega) | (rw [HLEN.out]; omega)) (by have := HB4.out.size; have := HM0.out; omega) ?_; intro va5 wb5 HR5n HG5 HMv5; obtain ⟨aa5, na5, ca5, rfl⟩ := HR5n.out.any; have HR5 : Hid (OwnE 50 wb5 w3.heap.size (.slice aa5 na5 ca5) (outs ++ [y])) := HR5n; have HB5 : Hid (Below w3.heap.size w3 wb5) := HB4.out.grown HG5.out (by have := HB4.out.size; have := HM0.out; omega) (fun k hk => (HR4.out.lt k hk).1); have HA5 : Hid (Blk wb5 w3.heap.size [.slice none 0 0, .slice none 0 0, .int .i64 0]) := HA4.out.grown HG5.out (fun e => HN3.out _ e rfl); have HN5 : Hid (∀ k, (Value.slice aa5 na5 ca5).ownBlock = some k → k ≠ w3.heap.size) := fun k hk e => HMv5.out.apart HA4.out.lt (fun h => HN3.out _ h rfl) (e ▸ hk)
            simp only [Act.put, List.setIfInBounds_toArray, List.set_cons_zero, List.set_cons_succ]
            refine hK.out _ _ (HSX.out _ HB5.out) (fun hHeld => ?_)
            clear hK K
            refine wpAnyH_take (i := 9) (oi := { dst := some 39, op := .build 25 #[(0, .tmp 31), (1, .tmp 38)], type := 25, pos := "law.go:82", after := #[{ on := 1, ground := .data }, { on := 8, ground := .data }], guard := none }) (v := ?_) rfl (by kernel_rfl) (by kernel_rfl) (by kernel_rfl) (fun _ _ _ h => h) (Or.inl ⟨by rfl, ?_⟩) (by assumption) ?_
            rotate_left
            · intro _ _; go_simp; first | done | with_reducible rfl
            simp only [Act.put, List.setIfInBounds_toArray, List.set_cons_zero, List.set_cons_succ]
            refine wpAnyH_ready (rs := [11]) (by kernel_rfl) (by simp) ?_
            refine AllReadyH.cons (o := { dst := none, op := .store 25 (.tmp 8) (.tmp 39), type := 0, pos := "law.go:82", after := #[{ on := 10, ground := .data }, { on := 9, ground := .data }, { on := 8, ground := .chain }, { on := 0, ground := .phase }, { on := 1, ground := .phase }, { on := 2, ground := .phase }, { on := 3, ground := .phase }, { on := 4, ground := .phase }, { on := 5, ground := .phase }, { on := 6, ground := .phase }, { on := 7, ground := .phase }, { on := 8, ground := .phase }, { on := 9, ground := .phase }, { on := 10, ground := .phase }], guard := none }) rfl (fun K hK => ?_) AllReadyH.nil
            refine step_store_mid rfl 25 _ _ rfl w3.heap.size 0 [.slice a n c, .slice aa5 na5 ca5, .int .i64 0] rfl rfl (HA5.out.there 0 3 (by simp)) (by kernel_rfl) (by intro v hv; simp only [List.mem_cons, List.not_mem_nil, or_false] at hv; rcases hv with rfl | rfl | rfl <;> rfl) ?_; have HBf : Hid (Below w3.heap.size w3 (wb5.setCells w3.heap.size 0 [.slice a n c, .slice aa5 na5 ca5, .int .i64 0])) := below_setCells HMA.out _ HB5.out _; have HAf : Hid (Blk (wb5.setCells w3.heap.size 0 [.slice a n c, .slice aa5 na5 ca5, .int .i64 0]) w3.heap.size [.slice a n c, .slice aa5 na5 ca5, .int .i64 0]) := by { have := HA5.out.cellsAt [.slice a n c, .slice aa5 na5 ca5, .int .i64 0] 0 (by simp); exact this }; have HRf : Hid (OwnE 50 (wb5.setCells w3.heap.size 0 [.slice a n c, .slice aa5 na5 ca5, .int .i64 0]) w3.heap.size (.slice aa5 na5 ca5) (outs ++ [y])) := HR5.out.same fun k hk => heap_setCells [.slice a n c, .slice aa5 na5 ca5, .int .i64 0] wb5 0 k (HN5.out k hk)
            simp only [Act.put]
            refine hK.out _ _ (HSX.out _ HBf.out) (fun hHeld => ?_)
            clear hK K
            refine wpAnyH_done (by kernel_rfl) ?_ _
            refine NoPanic.normal ?_
            exact HREST.out _ _ (weiB_mk w3 w3.heap.size T A outs y a n c _ _ _ _ ⟨HAf, HRf, HBf, HMA⟩)
          · refine step_build_one elOut rfl _ rfl y rfl ?_; intro wb3 HS3n Hb3n; have Hb3 : Hid (Below wb2.heap.size wb2 wb3) := Hb3n; have HS3 : Hid (Els wb3 (some ⟨wb2.heap.size, 0, none⟩) 1 1 [y]) := HS3n; have HD : Hid (wb1.heap.size ≠ wb2.heap.size) := by { have := (HR2.out.lt wb1.heap.size rfl).2; show _ ≠ _; omega }; have HB3 : Hid (Below w3.heap.size w3 wb3) := HB2.out.trans (Hb3.out.mono (by have := HB2.out.size; have := HM0.out; omega)); have HR3 : Hid (OwnE 50 wb3 w3.heap.size (.slice (some ⟨wb1.heap.size, 0, none⟩) 0 0) (([] : List Out))) := HR2.out.below Hb3.out; have HA3 : Hid (Blk wb3 w3.heap.size [.slice none 0 0, .slice none 0 0, .int .i64 0]) := HA2.out.below Hb3.out HA2.out.lt
            simp only [Act.put, List.setIfInBounds_toArray, List.set_cons_zero, List.set_cons_succ]
            refine hK.out _ _ (HSX.out _ HB3.out) (fun hHeld => ?_)
            clear hK K
            refine wpAnyH_ready (rs := [5]) (by kernel_rfl) (by simp) ?_
            refine AllReadyH.cons (o := { dst := some 35, op := .call { callee := .builtin Go.Builtin.append, args := #[.tmp 32, .tmp 34], argTypes := #[23, 23] }, type := 23, pos := "law.go:82", after := #[{ on := 2, ground := .data }, { on := 4, ground := .data }], guard := none }) rfl (fun K hK => ?_) AllReadyH.nil
            refine step_append_e elOut rfl _ _ rfl w3.heap.size _ (([] : List Out)) rfl HR3.out _ _ _ outs rfl (HSRC.out _ HB3.out) (by first | (simp only [List.length_nil]; omega) | (rw [HLEN.out]; omega)) (by have := HB3.out.size; have := HM0.out; omega) ?_; intro va4 wb4 HR4n HG4 HMv4; obtain ⟨aa4, na4, ca4, rfl⟩ := HR4n.out.any; have HR4 : Hid (OwnE 50 wb4 w3.heap.size (.slice aa4 na4 ca4) (outs)) := HR4n; have HB4 : Hid (Below w3.heap.size w3 wb4) := HB3.out.grown HG4.out (by have := HB3.out.size; have := HM0.out; omega) (fun k hk => (HR3.out.lt k hk).1); have HS4 : Hid (Els wb4 (some ⟨wb2.heap.size, 0, none⟩) 1 1 [y]) := HS3.out.later fun b o _ e => HG4.out.block b (HS3.out.blockLt e) (fun h => by { have h1 : some b = some wb1.heap.size := h; injection h1 with h1; injection e with e; injection e with e; have := HD.out; omega }); have HA4 : Hid (Blk wb4 w3.heap.size [.slice none 0 0, .slice none 0 0, .int .i64 0]) := HA3.out.grown HG4.out (fun e => HN2.out _ e rfl); have HN4 : Hid (∀ k, (Value.slice aa4 na4 ca4).ownBlock = some k → k ≠ w3.heap.size) := fun k hk e => HMv4.out.apart HA3.out.lt (fun h => HN2.out _ h rfl) (e ▸ hk)
            simp only [Act.put, List.setIfInBounds_toArray, List.set_cons_zero, List.set_cons_succ]
            refine hK.out _ _ (HSX.out _ HB4.out) (fun hHeld => ?_)
            clear hK K
            refine wpAnyH_ready (rs := [8]) (by kernel_rfl) (by simp) ?_
            refine AllReadyH.cons (o := { dst := some 38, op := .call { callee := .builtin Go.Builtin.append, args := #[.tmp 35, .tmp 37], argTypes := #[23, 23] }, type := 23, pos := "law.go:82", after := #[{ on := 5, ground := .data }, { on := 7, ground := .data }, { on := 5, ground := .chain }], guard := none }) rfl (fun K hK => ?_) AllReadyH.nil
            refine step_append_e elOut rfl _ _ rfl w3.heap.size _ (outs) rfl HR4.out _ 1 1 [y] rfl HS4.out (by first | (simp only [List.length_nil]; omega) | (rw [HLEN.out]; omega)) (by have := HB4.out.size; have := HM0.out; omega) ?_; intro va5 wb5 HR5n HG5 HMv5; obtain ⟨aa5, na5, ca5, rfl⟩ := HR5n.out.any; have HR5 : Hid (OwnE 50 wb5 w3.heap.size (.slice aa5 na5 ca5) (outs ++ [y])) := HR5n; have HB5 : Hid (Below w3.heap.size w3 wb5) := HB4.out.grown HG5.out (by have := HB4.out.size; have := HM0.out; omega) (fun k hk => (HR4.out.lt k hk).1); have HA5 : Hid (Blk wb5 w3.heap.size [.slice none 0 0, .slice none 0 0, .int .i64 0]) := HA4.out.grown HG5.out (fun e => HN4.out _ e rfl); have HN5 : Hid (∀ k, (Value.slice aa5 na5 ca5).ownBlock = some k → k ≠ w3.heap.size) := fun k hk e => HMv5.out.apart HA4.out.lt (fun h => HN4.out _ h rfl) (e ▸ hk)
            simp only [Act.put, List.setIfInBounds_toArray, List.set_cons_zero, List.set_cons_succ]
            refine hK.out _ _ (HSX.out _ HB5.out) (fun hHeld => ?_)
            clear hK K
            refine wpAnyH_take (i := 9) (oi := { dst := some 39, op := .build 25 #[(0, .tmp 31), (1, .tmp 38)], type := 25, pos := "law.go:82", after := #[{ on := 1, ground := .data }, { on := 8, ground := .data }], guard := none }) (v := ?_) rfl (by kernel_rfl) (by kernel_rfl) (by kernel_rfl) (fun _ _ _ h => h) (Or.inl ⟨by rfl, ?_⟩) (by assumption) ?_
            rotate_left
            · intro _ _; go_simp; first | done | with_reducible rfl
            simp only [Act.put, List.setIfInBounds_toArray, List.set_cons_zero, List.set_cons_succ]
            refine wpAnyH_ready (rs := [11]) (by kernel_rfl) (by simp) ?_
            refine AllReadyH.cons (o := { dst := none, op := .store 25 (.tmp 8) (.tmp 39), type := 0, pos := "law.go:82", after := #[{ on := 10, ground := .data }, { on := 9, ground := .data }, { on := 8, ground := .chain }, { on := 0, ground := .phase }, { on := 1, ground := .phase }, { on := 2, ground := .phase }, { on := 3, ground := .phase }, { on := 4, ground := .phase }, { on := 5, ground := .phase }, { on := 6, ground := .phase }, { on := 7, ground := .phase }, { on := 8, ground := .phase }, { on := 9, ground := .phase }, { on := 10, ground := .phase }], guard := none }) rfl (fun K hK => ?_) AllReadyH.nil
            refine step_store_mid rfl 25 _ _ rfl w3.heap.size 0 [.slice a n c, .slice aa5 na5 ca5, .int .i64 0] rfl rfl (HA5.out.there 0 3 (by simp)) (by kernel_rfl) (by intro v hv; simp only [List.mem_cons, List.not_mem_nil, or_false] at hv; rcases hv with rfl | rfl | rfl <;> rfl) ?_; have HBf : Hid (Below w3.heap.size w3 (wb5.setCells w3.heap.size 0 [.slice a n c, .slice aa5 na5 ca5, .int .i64 0])) := below_setCells HMA.out _ HB5.out _; have HAf : Hid (Blk (wb5.setCells w3.heap.size 0 [.slice a n c, .slice aa5 na5 ca5, .int .i64 0]) w3.heap.size [.slice a n c, .slice aa5 na5 ca5, .int .i64 0]) := by { have := HA5.out.cellsAt [.slice a n c, .slice aa5 na5 ca5, .int .i64 0] 0 (by simp); exact this }; have HRf : Hid (OwnE 50 (wb5.setCells w3.heap.size 0 [.slice a n c, .slice aa5 na5 ca5, .int .i64 0]) w3.heap.size (.slice aa5 na5 ca5) (outs ++ [y])) := HR5.out.same fun k hk => heap_setCells [.slice a n c, .slice aa5 na5 ca5, .int .i64 0] wb5 0 k (HN5.out k hk)
            simp only [Act.put]
            refine hK.out _ _ (HSX.out _ HBf.out) (fun hHeld => ?_)
            clear hK K
            refine wpAnyH_done (by kernel_rfl) ?_ _
            refine NoPanic.normal ?_
            exact HREST.out _ _ (weiB_mk w3 w3.heap.size T A outs y a n c _ _ _ _ ⟨HAf, HRf, HBf, HMA⟩)
        · refine step_build_one elOut rfl _ rfl y rfl ?_; intro wb2 HS2n Hb2n; have Hb2 : Hid (Below wb1.heap.size wb1 wb2) := Hb2n; have HS2 : Hid (Els wb2 (some ⟨wb1.heap.size, 0, none⟩) 1 1 [y]) := HS2n; have HB2 : Hid (Below w3.heap.size w3 wb2) := HB1.out.trans (Hb2.out.mono (by have := HB1.out.size; have := HM0.out; omega)); have HA2 : Hid (Blk wb2 w3.heap.size [.slice none 0 0, .slice none 0 0, .int .i64 0]) := HA1.out.below Hb2.out HA1.out.lt
          simp only [Act.put, List.setIfInBounds_toArray, List.set_cons_zero, List.set_cons_succ]
          refine hK.out _ _ (HSX.out _ HB2.out) (fun hHeld => ?_)
          clear hK K
          refine wpAnyH_ready (rs := [2]) (by kernel_rfl) (by simp) ?_
          refine AllReadyH.cons (o := { dst := some 32, op := .buildSlice 23 0 #[], type := 23, pos := "law.go:82", after := #[], guard := none }) rfl (fun K hK => ?_) AllReadyH.nil
          go_simp
          skip; have Hg3 : Hid (w3.heap.size ≤ wb2.heap.size) := by { have := HB2.out.size; have := HM0.out; show _ ≤ _; omega }; have Hb3q : Below wb2.heap.size wb2 (wb2.alloc (.cells #[] 50)) := (Below.refl _ wb2).alloc (Nat.le_refl _) _; have HR3q : OwnE 50 (wb2.alloc (.cells #[] 50)) w3.heap.size (.slice (some ⟨wb2.heap.size, 0, none⟩) 0 0) ([] : List Out) := World.ownsRow_made (size := El.k Out) wb2 #[] 0 Hg3.out (Nat.zero_le _) (by simp); generalize wb2.alloc (.cells #[] 50) = wb3 at *; have Hb3 : Hid (Below wb2.heap.size wb2 wb3) := Hb3q; have HB3 : Hid (Below w3.heap.size w3 wb3) := HB2.out.trans (Hb3.out.mono (by have := HB2.out.size; have := HM0.out; omega)); have HS3 : Hid (Els wb3 (some ⟨wb1.heap.size, 0, none⟩) 1 1 [y]) := HS2.out.below Hb3.out; have HA3 : Hid (Blk wb3 w3.heap.size [.slice none 0 0, .slice none 0 0, .int .i64 0]) := HA2.out.below Hb3.out HA2.out.lt; have HR3 : Hid (OwnE 50 wb3 w3.heap.size (.slice (some ⟨wb2.heap.size, 0, none⟩) 0 0) ([] : List Out)) := HR3q; have HN3 : Hid (∀ k, (Value.slice (some ⟨wb2.heap.size, 0, none⟩) 0 0).ownBlock = some k → k ≠ w3.heap.size) := fun k hk => by { have h1 : some wb2.heap.size = some k := hk; injection h1 with h1; have h2 := HA2.out.lt; omega }; have HD : Hid (wb2.heap.size ≠ wb1.heap.size) := by { have := HS2.out.blockLt rfl; show _ ≠ _; omega }; clear Hb3q HR3q
          go_simp
          refine hK.out _ _ (HSX.out _ HB3.out) (fun hHeld => ?_)
          clear hK K
          refine wpAnyH_ready (rs := [5]) (by kernel_rfl) (by simp) ?_
          refine AllReadyH.cons (o := { dst := some 35, op := .call { callee := .builtin Go.Builtin.append, args := #[.tmp 32, .tmp 34], argTypes := #[23, 23] }, type := 23, pos := "law.go:82", after := #[{ on := 2, ground := .data }, { on := 4, ground := .data }], guard := none }) rfl (fun K hK => ?_) AllReadyH.nil
          refine step_append_e elOut rfl _ _ rfl w3.heap.size _ (([] : List Out)) rfl HR3.out _ _ _ outs rfl (HSRC.out _ HB3.out) (by first | (simp only [List.length_nil]; omega) | (rw [HLEN.out]; omega)) (by have := HB3.out.size; have := HM0.out; omega) ?_; intro va4 wb4 HR4n HG4 HMv4; obtain ⟨aa4, na4, ca4, rfl⟩ := HR4n.out.any; have HR4 : Hid (OwnE 50 wb4 w3.heap.size (.slice aa4 na4 ca4) (outs)) := HR4n; have HB4 : Hid (Below w3.heap.size w3 wb4) := HB3.out.grown HG4.out (by have := HB3.out.size; have := HM0.out; omega) (fun k hk => (HR3.out.lt k hk).1); have HS4 : Hid (Els wb4 (some ⟨wb1.heap.size, 0, none⟩) 1 1 [y]) := HS3.out.later fun b o _ e => HG4.out.block b (HS3.out.blockLt e) (fun h => by { have h1 : some b = some wb2.heap.size := h; injection h1 with h1; injection e with e; injection e with e; have := HD.out; omega }); have HA4 : Hid (Blk wb4 w3.heap.size [.slice none 0 0, .slice none 0 0, .int .i64 0]) := HA3.out.grown HG4.out (fun e => HN3.out _ e rfl); have HN4 : Hid (∀ k, (Value.slice aa4 na4 ca4).ownBlock = some k → k ≠ w3.heap.size) := fun k hk e => HMv4.out.apart HA3.out.lt (fun h => HN3.out _ h rfl) (e ▸ hk)
          simp only [Act.put, List.setIfInBounds_toArray, List.set_cons_zero, List.set_cons_succ]
          refine hK.out _ _ (HSX.out _ HB4.out) (fun hHeld => ?_)
          clear hK K
          refine wpAnyH_ready (rs := [8]) (by kernel_rfl) (by simp) ?_
          refine AllReadyH.cons (o := { dst := some 38, op := .call { callee := .builtin Go.Builtin.append, args := #[.tmp 35, .tmp 37], argTypes := #[23, 23] }, type := 23, pos := "law.go:82", after := #[{ on := 5, ground := .data }, { on := 7, ground := .data }, { on := 5, ground := .chain }], guard := none }) rfl (fun K hK => ?_) AllReadyH.nil
          refine step_append_e elOut rfl _ _ rfl w3.heap.size _ (outs) rfl HR4.out _ 1 1 [y] rfl HS4.out (by first | (simp only [List.length_nil]; omega) | (rw [HLEN.out]; omega)) (by have := HB4.out.size; have := HM0.out; omega) ?_; intro va5 wb5 HR5n HG5 HMv5; obtain ⟨aa5, na5, ca5, rfl⟩ := HR5n.out.any; have HR5 : Hid (OwnE 50 wb5 w3.heap.size (.slice aa5 na5 ca5) (outs ++ [y])) := HR5n; have HB5 : Hid (Below w3.heap.size w3 wb5) := HB4.out.grown HG5.out (by have := HB4.out.size; have := HM0.out; omega) (fun k hk => (HR4.out.lt k hk).1); have HA5 : Hid (Blk wb5 w3.heap.size [.slice none 0 0, .slice none 0 0, .int .i64 0]) := HA4.out.grown HG5.out (fun e => HN4.out _ e rfl); have HN5 : Hid (∀ k, (Value.slice aa5 na5 ca5).ownBlock = some k → k ≠ w3.heap.size) := fun k hk e => HMv5.out.apart HA4.out.lt (fun h => HN4.out _ h rfl) (e ▸ hk)
          simp only [Act.put, List.setIfInBounds_toArray, List.set_cons_zero, List.set_cons_succ]
          refine hK.out _ _ (HSX.out _ HB5.out) (fun hHeld => ?_)
          clear hK K
          refine wpAnyH_take (i := 9) (oi := { dst := some 39, op := .build 25 #[(0, .tmp 31), (1, .tmp 38)], type := 25, pos := "law.go:82", after := #[{ on := 1, ground := .data }, { on := 8, ground := .data }], guard := none }) (v := ?_) rfl (by kernel_rfl) (by kernel_rfl) (by kernel_rfl) (fun _ _ _ h => h) (Or.inl ⟨by rfl, ?_⟩) (by assumption) ?_
          rotate_left
          · intro _ _; go_simp; first | done | with_reducible rfl
          simp only [Act.put, List.setIfInBounds_toArray, List.set_cons_zero, List.set_cons_succ]
          refine wpAnyH_ready (rs := [11]) (by kernel_rfl) (by simp) ?_
          refine AllReadyH.cons (o := { dst := none, op := .store 25 (.tmp 8) (.tmp 39), type := 0, pos := "law.go:82", after := #[{ on := 10, ground := .data }, { on := 9, ground := .data }, { on := 8, ground := .chain }, { on := 0, ground := .phase }, { on := 1, ground := .phase }, { on := 2, ground := .phase }, { on := 3, ground := .phase }, { on := 4, ground := .phase }, { on := 5, ground := .phase }, { on := 6, ground := .phase }, { on := 7, ground := .phase }, { on := 8, ground := .phase }, { on := 9, ground := .phase }, { on := 10, ground := .phase }], guard := none }) rfl (fun K hK => ?_) AllReadyH.nil
          refine step_store_mid rfl 25 _ _ rfl w3.heap.size 0 [.slice a n c, .slice aa5 na5 ca5, .int .i64 0] rfl rfl (HA5.out.there 0 3 (by simp)) (by kernel_rfl) (by intro v hv; simp only [List.mem_cons, List.not_mem_nil, or_false] at hv; rcases hv with rfl | rfl | rfl <;> rfl) ?_; have HBf : Hid (Below w3.heap.size w3 (wb5.setCells w3.heap.size 0 [.slice a n c, .slice aa5 na5 ca5, .int .i64 0])) := below_setCells HMA.out _ HB5.out _; have HAf : Hid (Blk (wb5.setCells w3.heap.size 0 [.slice a n c, .slice aa5 na5 ca5, .int .i64 0]) w3.heap.size [.slice a n c, .slice aa5 na5 ca5, .int .i64 0]) := by { have := HA5.out.cellsAt [.slice a n c, .slice aa5 na5 ca5, .int .i64 0] 0 (by simp); exact this }; have HRf : Hid (OwnE 50 (wb5.setCells w3.heap.size 0 [.slice a n c, .slice aa5 na5 ca5, .int .i64 0]) w3.heap.size (.slice aa5 na5 ca5) (outs ++ [y])) := HR5.out.same fun k hk => heap_setCells [.slice a n c, .slice aa5 na5 ca5, .int .i64 0] wb5 0 k (HN5.out k hk)
          simp only [Act.put]
          refine hK.out _ _ (HSX.out _ HBf.out) (fun hHeld => ?_)
          clear hK K
          refine wpAnyH_done (by kernel_rfl) ?_ _
          refine NoPanic.normal ?_
          exact HREST.out _ _ (weiB_mk w3 w3.heap.size T A outs y a n c _ _ _ _ ⟨HAf, HRf, HBf, HMA⟩)
    · rintro aw w4 ⟨B, bN, mN, dN, u', rfl, HA4, HR4, HB4, HMA4⟩
      obtain ⟨a', c', hv, hE4⟩ := HR4.out.els
      injection hv with e1 e2 e3
      subst e1; subst e2; subst e3
      have hly : (outs ++ [y]).length = m + 1 := by rw [List.length_append, HLENO.out]; rfl
      rw [hly] at HA4 hE4
      clear HR4 hly
      have HKP4 : Hid (∀ w', Below w4.heap.size w4 w' → Blk w' T [.slice a n c, .slice b m d, .int .i64 lock] ∧ Blk w' (T + 1) x.cs ∧ Below T w w' ∧ Els w' a n c ins ∧ Els w' b m d outs ∧ Blk w' A [.slice aN (n + 1) cN, .slice b m d, .int .i64 0] ∧ Els w' aN (n + 1) cN (ins ++ [x]) ∧ Blk w' B [.slice a n c, .slice bN (m + 1) dN, .int .i64 0] ∧ Els w' bN (m + 1) dN (outs ++ [y])) := fun w' hb => by
        have hs4 := HB4.out.size
        obtain ⟨h1, h2, h3, h4, h5, h6, h7, h8⟩ := HKP3.out w' (HB4.out.trans (hb.mono hs4))
        exact ⟨h1, h2, h4, h5, h6, h7, h8, HA4.out.below hb HA4.out.lt, hE4.below hb⟩
      clear HKP3 HA4 HB4 HMA4 hE4 HB00 HM0 hs3
      have HW0 : Hid (∀ w', Below w4.heap.size w4 w' → Calls Tryd.prog 16 #[.agg #[.slice a n c, .slice b m d, .int .i64 lock]] w' fun e w'' => e = .returned (.int .i64 (weiN ⟨ins, outs, lock⟩)) ∧ Below w'.heap.size w' w'') := fun w' h => by
        obtain ⟨h1, h2, h3, h4, h5, h6, h7, h8, h9⟩ := HKP4.out w' h
        exact weight_any ⟨a, n, c, b, m, d⟩ ⟨ins, outs, lock⟩ w' ⟨h4, h5⟩ (by show n ≤ _; omega) (by show m ≤ _; omega)
      have HW1 : Hid (∀ w', Below w4.heap.size w4 w' → Calls Tryd.prog 16 #[.agg #[.slice aN (n + 1) cN, .slice b m d, .int .i64 0]] w' fun e w'' => e = .returned (.int .i64 (weiN ⟨ins ++ [x], outs, 0⟩)) ∧ Below w'.heap.size w' w'') := fun w' h => by
        obtain ⟨h1, h2, h3, h4, h5, h6, h7, h8, h9⟩ := HKP4.out w' h
        exact weight_any ⟨aN, n + 1, cN, b, m, d⟩ ⟨ins ++ [x], outs, 0⟩ w' ⟨h7, h5⟩ (by show n + 1 ≤ _; omega) (by show m ≤ _; omega)
      have HW2 : Hid (∀ w', Below w4.heap.size w4 w' → Calls Tryd.prog 16 #[.agg #[.slice a n c, .slice bN (m + 1) dN, .int .i64 0]] w' fun e w'' => e = .returned (.int .i64 (weiN ⟨ins, outs ++ [y], 0⟩)) ∧ Below w'.heap.size w' w'') := fun w' h => by
        obtain ⟨h1, h2, h3, h4, h5, h6, h7, h8, h9⟩ := HKP4.out w' h
        exact weight_any ⟨a, n, c, bN, m + 1, dN⟩ ⟨ins, outs ++ [y], 0⟩ w' ⟨h4, h9⟩ (by show n ≤ _; omega) (by show m + 1 ≤ _; omega)
      have HWZ : Hid (∀ w', Calls Tryd.prog 16 #[.agg #[.slice none 0 0, .slice none 0 0, .int .i64 0]] w' fun e w'' => e = .returned (.int .i64 40) ∧ Below w'.heap.size w' w'') := fun w' =>
        weight_any ⟨none, 0, 0, none, 0, 0⟩ zA w' ⟨Els.nil _, Els.nil _⟩ (by show 0 ≤ _; omega) (by show 0 ≤ _; omega)
      have HSP : Hid (∀ w', Below w4.heap.size w4 w' → Calls Tryd.prog 18 #[.agg #[.slice aN (n + 1) cN, .slice b m d, .int .i64 0], .agg x.prev.cs.toArray] w' fun e w'' => e = .returned (.int .i64 (spN x.prev (ins ++ [x]) 0)) ∧ Below w'.heap.size w' w'') := fun w' h => by
        obtain ⟨h1, h2, h3, h4, h5, h6, h7, h8, h9⟩ := HKP4.out w' h
        exact spends_any ⟨aN, n + 1, cN, b, m, d⟩ ⟨ins ++ [x], outs, 0⟩ x.prev w' ⟨h7, h5⟩ (by show n + 1 ≤ _; omega)
      have HWT : Hid (∀ w', Calls Tryd.prog 17 #[.int .i64 x.kind] w' fun e w'' => e = .returned (.int .i64 (witN x.kind)) ∧ w' = w'') := fun w' => wit_any x.kind w'
      obtain ⟨k0, k1⟩ := witN_range x.kind
      have g0 : 0 ≤ weiN ⟨ins, outs, lock⟩ ∧ weiN ⟨ins, outs, lock⟩ ≤ 100000 := by
        have := witS_range ins
        unfold weiN
        simp only [HLENI.out, HLENO.out] at *
        omega
      have g1 : weiN ⟨ins ++ [x], outs, 0⟩ - weiN ⟨ins, outs, lock⟩ = 164 + witN x.kind := by
        unfold weiN
        simp only [witS_append, witS, List.length_append, List.length_cons, List.length_nil]
        omega
      have g2 : weiN ⟨ins, outs ++ [y], 0⟩ - weiN ⟨ins, outs, lock⟩ = 136 := by
        unfold weiN
        simp only [List.length_append, List.length_cons, List.length_nil]
        omega
      have g3 : 0 ≤ spN x.prev (ins ++ [x]) 0 := spN_has x ins 0 (by omega)
      obtain ⟨g00, g01⟩ := g0
      generalize weiN ⟨ins, outs, lock⟩ = W0 at *
      generalize weiN ⟨ins ++ [x], outs, 0⟩ = W1 at *
      generalize weiN ⟨ins, outs ++ [y], 0⟩ = W2 at *
      generalize spN x.prev (ins ++ [x]) 0 = sp at *
      generalize hwk : witN x.kind = wk at *
      clear hwk
      have r1 : 0 ≤ W1 ∧ W1 ≤ 200000 := by omega
      have r2 : 0 ≤ W2 ∧ W2 ≤ 200000 := by omega
      obtain ⟨r10, r11⟩ := r1
      obtain ⟨r20, r21⟩ := r2
      have HAW : Hid (∀ w', Below w4.heap.size w4 w' → Kw w') := fun w' h => HK.out.below (HKP4.out w' h).2.2.1 hpos
      have HSX : Hid (∀ w', Below w4.heap.size w4 w' → w'.cell? ⟨T, 0, none⟩ = some (.slice a n c) ∧ w'.cell? ⟨T, 1, none⟩ = some (.slice b m d) ∧ w'.cell? ⟨T, 2, none⟩ = some (.int .i64 lock) ∧ w'.cell? ⟨A, 0, none⟩ = some (.slice aN (n + 1) cN) ∧ w'.cell? ⟨A, 1, none⟩ = some (.slice b m d) ∧ w'.cell? ⟨A, 2, none⟩ = some (.int .i64 0) ∧ w'.cell? ⟨B, 0, none⟩ = some (.slice a n c) ∧ w'.cell? ⟨B, 1, none⟩ = some (.slice bN (m + 1) dN) ∧ w'.cell? ⟨B, 2, none⟩ = some (.int .i64 0) ∧ w'.cell? ⟨T + 1, 34, none⟩ = some (.int .i64 x.kind) ∧ w'.rangeAt (T + 1) 0 x.prev.cs) := fun w' h => by
        obtain ⟨h1, h2, h3, h4, h5, h6, h7, h8, h9⟩ := HKP4.out w' h
        exact ⟨h1.one rfl, h1.one rfl, h1.one rfl, h6.one rfl, h6.one rfl, h6.one rfl, h8.one rfl, h8.one rfl, h8.one rfl, h2.one x.kind_at, In.prev_at h2.whole⟩
      go_upto_region 5 with fail
      refine wp_region_noPanic ?_
      refine wp_region_held_drew (S := fun w' => w'.cell? ⟨T, 0, none⟩ = some (.slice a n c) ∧ w'.cell? ⟨T, 1, none⟩ = some (.slice b m d) ∧ w'.cell? ⟨T, 2, none⟩ = some (.int .i64 lock) ∧ w'.cell? ⟨A, 0, none⟩ = some (.slice aN (n + 1) cN) ∧ w'.cell? ⟨A, 1, none⟩ = some (.slice b m d) ∧ w'.cell? ⟨A, 2, none⟩ = some (.int .i64 0) ∧ w'.cell? ⟨B, 0, none⟩ = some (.slice a n c) ∧ w'.cell? ⟨B, 1, none⟩ = some (.slice bN (m + 1) dN) ∧ w'.cell? ⟨B, 2, none⟩ = some (.int .i64 0) ∧ w'.cell? ⟨T + 1, 34, none⟩ = some (.int .i64 x.kind) ∧ w'.rangeAt (T + 1) 0 x.prev.cs) HMO.out (HSX.out _ (Below.refl _ _).drew) (fun hHeld => ?_)
      refine wpAnyH_take (i := 0) (oi := { dst := some 40, op := .load 25 (.tmp 7), type := 25, pos := "law.go:83", after := #[], guard := none }) (v := ?_) rfl (by kernel_rfl) (by kernel_rfl) (by kernel_rfl) (fun _ _ _ h => h) (Or.inl ⟨by rfl, ?_⟩) (by assumption) ?_
      rotate_left
      · intro _ _; go_simp; first | done | with_reducible rfl
      simp only [Act.put, List.setIfInBounds_toArray, List.set_cons_zero, List.set_cons_succ]
      refine wpAnyH_take (i := 2) (oi := { dst := some 42, op := .load 25 (.tmp 3), type := 25, pos := "law.go:83", after := #[], guard := none }) (v := ?_) rfl (by kernel_rfl) (by kernel_rfl) (by kernel_rfl) (fun _ _ _ h => h) (Or.inl ⟨by rfl, ?_⟩) (by assumption) ?_
      rotate_left
      · intro _ _; go_simp; first | done | with_reducible rfl
      simp only [Act.put, List.setIfInBounds_toArray, List.set_cons_zero, List.set_cons_succ]
      refine wpAnyH_take (i := 5) (oi := { dst := some 45, op := .fieldAddr 46 (.tmp 4) 2, type := 0, pos := "law.go:83", after := #[], guard := none }) (v := ?_) rfl (by kernel_rfl) (by kernel_rfl) (by kernel_rfl) (fun _ _ _ h => h) (Or.inl ⟨by rfl, ?_⟩) (by assumption) ?_
      rotate_left
      · intro _ _; go_simp; first | done | with_reducible rfl
      simp only [Act.put, List.setIfInBounds_toArray, List.set_cons_zero, List.set_cons_succ]
      refine wpAnyH_take (i := 6) (oi := { dst := some 46, op := .fieldAddr 42 (.tmp 45) 0, type := 0, pos := "law.go:83", after := #[{ on := 5, ground := .data }], guard := none }) (v := ?_) rfl (by kernel_rfl) (by kernel_rfl) (by kernel_rfl) (fun _ _ _ h => h) (Or.inl ⟨by rfl, ?_⟩) (by assumption) ?_
      rotate_left
      · intro _ _; go_simp; first | done | with_reducible rfl
      simp only [Act.put, List.setIfInBounds_toArray, List.set_cons_zero, List.set_cons_succ]
      refine wpAnyH_take (i := 7) (oi := { dst := some 47, op := .load 3 (.tmp 46), type := 3, pos := "law.go:83", after := #[{ on := 6, ground := .data }], guard := none }) (v := ?_) rfl (by kernel_rfl) (by kernel_rfl) (by kernel_rfl) (fun _ _ _ h => h) (Or.inl ⟨by rfl, ?_⟩) (by assumption) ?_
      rotate_left
      · intro _ _; go_simp; first | done | with_reducible rfl
      simp only [Act.put, List.setIfInBounds_toArray, List.set_cons_zero, List.set_cons_succ]
      refine wpAnyH_ready (rs := [1]) (by kernel_rfl) (by simp) ?_
      refine AllReadyH.cons (o := { dst := some 41, op := .call { callee := .value (.func 16), args := #[.tmp 40], argTypes := #[25] }, type := 3, pos := "law.go:83", after := #[{ on := 0, ground := .data }], guard := none }) rfl (fun K hK => ?_) AllReadyH.nil
      go_simp
      refine Calls.mono (HW1.out _ (Below.refl _ _).drew) ?_; rintro e z1 ⟨rfl, hb1⟩; have HZ1 : Hid (Below w4.heap.size w4 z1) := (Below.refl _ w4).drew.trans hb1; clear hb1
      go_simp
      refine hK.out _ _ (HSX.out _ HZ1.out) (fun hHeld => ?_)
      clear hK K
      refine wpAnyH_ready (rs := [3]) (by kernel_rfl) (by simp) ?_
      refine AllReadyH.cons (o := { dst := some 43, op := .call { callee := .value (.func 16), args := #[.tmp 42], argTypes := #[25] }, type := 3, pos := "law.go:83", after := #[{ on := 2, ground := .data }, { on := 1, ground := .chain }], guard := none }) rfl (fun K hK => ?_) AllReadyH.nil
      go_simp
      refine Calls.mono (HW0.out _ HZ1.out) ?_; rintro e z2 ⟨rfl, hb1⟩; have HZ2 : Hid (Below w4.heap.size w4 z2) := HZ1.out.trans (hb1.mono HZ1.out.size); clear hb1
      go_simp
      refine hK.out _ _ (HSX.out _ HZ2.out) (fun hHeld => ?_)
      clear hK K
      refine wpAnyH_take (i := 4) (oi := { dst := some 44, op := .binOp Go.BinOp.sub 3 (.tmp 41) (.tmp 43) 3, type := 3, pos := "law.go:83", after := #[{ on := 1, ground := .data }, { on := 3, ground := .data }], guard := none }) (v := ?_) rfl (by kernel_rfl) (by kernel_rfl) (by kernel_rfl) (fun _ _ _ h => h) (Or.inl ⟨by rfl, ?_⟩) (by assumption) ?_
      rotate_left
      · intro _ _; go_simp; first | done | with_reducible rfl
      simp only [Act.put, List.setIfInBounds_toArray, List.set_cons_zero, List.set_cons_succ]
      refine wpAnyH_ready (rs := [8]) (by kernel_rfl) (by simp) ?_
      refine AllReadyH.cons (o := { dst := some 48, op := .call { callee := .value (.func 17), args := #[.tmp 47], argTypes := #[3] }, type := 3, pos := "law.go:83", after := #[{ on := 7, ground := .data }, { on := 3, ground := .chain }], guard := none }) rfl (fun K hK => ?_) AllReadyH.nil
      go_simp
      refine Calls.mono (HWT.out _) ?_; rintro e z3 ⟨rfl, rfl⟩
      go_simp
      refine hK.out _ _ (HSX.out _ HZ2.out) (fun hHeld => ?_)
      clear hK K
      refine wpAnyH_take (i := 9) (oi := { dst := some 49, op := .binOp Go.BinOp.add 3 (.const (.int .i64 164)) (.tmp 48) 3, type := 3, pos := "law.go:83", after := #[{ on := 8, ground := .data }], guard := none }) (v := ?_) rfl (by kernel_rfl) (by kernel_rfl) (by kernel_rfl) (fun _ _ _ h => h) (Or.inl ⟨by rfl, ?_⟩) (by assumption) ?_
      rotate_left
      · intro _ _; go_simp; first | done | with_reducible rfl
      simp only [Act.put, List.setIfInBounds_toArray, List.set_cons_zero, List.set_cons_succ]
      refine wpAnyH_take (i := 10) (oi := { dst := some 50, op := .binOp Go.BinOp.eql 3 (.tmp 44) (.tmp 49) 3, type := 4, pos := "law.go:83", after := #[{ on := 4, ground := .data }, { on := 9, ground := .data }], guard := none }) (v := ?_) rfl (by kernel_rfl) (by kernel_rfl) (by kernel_rfl) (fun _ _ _ h => h) (Or.inl ⟨by rfl, ?_⟩) (by assumption) ?_
      rotate_left
      · intro _ _; go_simp; first | done | with_reducible rfl
      simp only [Act.put, List.setIfInBounds_toArray, List.set_cons_zero, List.set_cons_succ]
      refine wpAnyH_take (i := 11) (oi := { dst := some 51, op := .move (.tmp 50), type := 4, pos := "law.go:83", after := #[{ on := 10, ground := .data }, { on := 8, ground := .chain }], guard := none }) (v := ?_) rfl (by kernel_rfl) (by kernel_rfl) (by kernel_rfl) (fun _ _ _ h => h) (Or.inl ⟨by rfl, ?_⟩) (by assumption) ?_
      rotate_left
      · intro _ _; go_simp; first | done | with_reducible rfl
      simp only [Act.put, List.setIfInBounds_toArray, List.set_cons_zero, List.set_cons_succ]
      refine wpAnyH_take (i := 12) (oi := { dst := some 52, op := .load 25 (.tmp 8), type := 25, pos := "law.go:83", after := #[{ on := 11, ground := .guard }], guard := some (11, true) }) (v := ?_) rfl (by kernel_rfl) (by kernel_rfl) (by kernel_rfl) (fun _ _ _ h => h) (Or.inl ⟨by rfl, ?_⟩) (by assumption) ?_
      rotate_left
      · intro _ _; go_simp; first | done | with_reducible rfl
      simp only [Act.put, List.setIfInBounds_toArray, List.set_cons_zero, List.set_cons_succ]
      refine wpAnyH_take (i := 14) (oi := { dst := some 54, op := .load 25 (.tmp 3), type := 25, pos := "law.go:83", after := #[{ on := 11, ground := .guard }], guard := some (11, true) }) (v := ?_) rfl (by kernel_rfl) (by kernel_rfl) (by kernel_rfl) (fun _ _ _ h => h) (Or.inl ⟨by rfl, ?_⟩) (by assumption) ?_
      rotate_left
      · intro _ _; go_simp; first | done | with_reducible rfl
      simp only [Act.put, List.setIfInBounds_toArray, List.set_cons_zero, List.set_cons_succ]
      refine wpAnyH_ready (rs := [13]) (by kernel_rfl) (by simp) ?_
      refine AllReadyH.cons (o := { dst := some 53, op := .call { callee := .value (.func 16), args := #[.tmp 52], argTypes := #[25] }, type := 3, pos := "law.go:83", after := #[{ on := 12, ground := .data }, { on := 11, ground := .chain }, { on := 11, ground := .guard }], guard := some (11, true) }) rfl (fun K hK => ?_) AllReadyH.nil
      go_simp
      refine Calls.mono (HW2.out _ HZ2.out) ?_; rintro e z4 ⟨rfl, hb1⟩; have HZ4 : Hid (Below w4.heap.size w4 z4) := HZ2.out.trans (hb1.mono HZ2.out.size); clear hb1
      go_simp
      refine hK.out _ _ (HSX.out _ HZ4.out) (fun hHeld => ?_)
      clear hK K
      refine wpAnyH_ready (rs := [15]) (by kernel_rfl) (by simp) ?_
      refine AllReadyH.cons (o := { dst := some 55, op := .call { callee := .value (.func 16), args := #[.tmp 54], argTypes := #[25] }, type := 3, pos := "law.go:83", after := #[{ on := 14, ground := .data }, { on := 13, ground := .chain }, { on := 11, ground := .guard }], guard := some (11, true) }) rfl (fun K hK => ?_) AllReadyH.nil
      go_simp
      refine Calls.mono (HW0.out _ HZ4.out) ?_; rintro e z5 ⟨rfl, hb1⟩; have HZ5 : Hid (Below w4.heap.size w4 z5) := HZ4.out.trans (hb1.mono HZ4.out.size); clear hb1
      go_simp
      refine hK.out _ _ (HSX.out _ HZ5.out) (fun hHeld => ?_)
      clear hK K
      refine wpAnyH_take (i := 16) (oi := { dst := some 56, op := .binOp Go.BinOp.sub 3 (.tmp 53) (.tmp 55) 3, type := 3, pos := "law.go:83", after := #[{ on := 13, ground := .data }, { on := 15, ground := .data }, { on := 11, ground := .guard }], guard := some (11, true) }) (v := ?_) rfl (by kernel_rfl) (by kernel_rfl) (by kernel_rfl) (fun _ _ _ h => h) (Or.inl ⟨by rfl, ?_⟩) (by assumption) ?_
      rotate_left
      · intro _ _; go_simp; first | done | with_reducible rfl
      simp only [Act.put, List.setIfInBounds_toArray, List.set_cons_zero, List.set_cons_succ]
      refine wpAnyH_take (i := 17) (oi := { dst := some 57, op := .binOp Go.BinOp.eql 3 (.tmp 56) (.const (.int .i64 136)) 3, type := 4, pos := "law.go:83", after := #[{ on := 16, ground := .data }, { on := 11, ground := .guard }], guard := some (11, true) }) (v := ?_) rfl (by kernel_rfl) (by kernel_rfl) (by kernel_rfl) (fun _ _ _ h => h) (Or.inl ⟨by rfl, ?_⟩) (by assumption) ?_
      rotate_left
      · intro _ _; go_simp; first | done | with_reducible rfl
      simp only [Act.put, List.setIfInBounds_toArray, List.set_cons_zero, List.set_cons_succ]
      refine wpAnyH_take (i := 18) (oi := { dst := some 58, op := .pick (.tmp 51) (.tmp 57) (.const (.bool false)), type := 4, pos := "law.go:83", after := #[{ on := 11, ground := .data }, { on := 17, ground := .data }], guard := none }) (v := ?_) rfl (by kernel_rfl) (by kernel_rfl) (by kernel_rfl) (fun _ _ _ h => h) (Or.inl ⟨by rfl, ?_⟩) (by assumption) ?_
      rotate_left
      · intro _ _; go_simp; first | done | with_reducible rfl
      simp only [Act.put, List.setIfInBounds_toArray, List.set_cons_zero, List.set_cons_succ]
      refine wpAnyH_take (i := 19) (oi := { dst := some 59, op := .move (.tmp 58), type := 4, pos := "law.go:83", after := #[{ on := 18, ground := .data }, { on := 15, ground := .chain }], guard := none }) (v := ?_) rfl (by kernel_rfl) (by kernel_rfl) (by kernel_rfl) (fun _ _ _ h => h) (Or.inl ⟨by rfl, ?_⟩) (by assumption) ?_
      rotate_left
      · intro _ _; go_simp; first | done | with_reducible rfl
      simp only [Act.put, List.setIfInBounds_toArray, List.set_cons_zero, List.set_cons_succ]
      refine wpAnyH_take (i := 20) (oi := { dst := some 60, op := .build 25 #[], type := 25, pos := "law.go:83", after := #[{ on := 19, ground := .guard }], guard := some (19, true) }) (v := ?_) rfl (by kernel_rfl) (by kernel_rfl) (by kernel_rfl) (fun _ _ _ h => h) (Or.inl ⟨by rfl, ?_⟩) (by assumption) ?_
      rotate_left
      · intro _ _; go_simp; first | done | with_reducible rfl
      simp only [Act.put, List.setIfInBounds_toArray, List.set_cons_zero, List.set_cons_succ]
      refine wpAnyH_ready (rs := [21]) (by kernel_rfl) (by simp) ?_
      refine AllReadyH.cons (o := { dst := some 61, op := .call { callee := .value (.func 16), args := #[.tmp 60], argTypes := #[25] }, type := 3, pos := "law.go:83", after := #[{ on := 20, ground := .data }, { on := 19, ground := .chain }, { on := 19, ground := .guard }], guard := some (19, true) }) rfl (fun K hK => ?_) AllReadyH.nil
      go_simp
      refine Calls.mono (HWZ.out _) ?_; rintro e z6 ⟨rfl, hb1⟩; have HZ6 : Hid (Below w4.heap.size w4 z6) := HZ5.out.trans (hb1.mono HZ5.out.size); clear hb1
      go_simp
      refine hK.out _ _ (HSX.out _ HZ6.out) (fun hHeld => ?_)
      clear hK K
      refine wpAnyH_take (i := 22) (oi := { dst := some 62, op := .binOp Go.BinOp.eql 3 (.tmp 61) (.const (.int .i64 40)) 3, type := 4, pos := "law.go:83", after := #[{ on := 21, ground := .data }, { on := 19, ground := .guard }], guard := some (19, true) }) (v := ?_) rfl (by kernel_rfl) (by kernel_rfl) (by kernel_rfl) (fun _ _ _ h => h) (Or.inl ⟨by rfl, ?_⟩) (by assumption) ?_
      rotate_left
      · intro _ _; go_simp; first | done | with_reducible rfl
      simp only [Act.put, List.setIfInBounds_toArray, List.set_cons_zero, List.set_cons_succ]
      refine wpAnyH_take (i := 23) (oi := { dst := some 63, op := .pick (.tmp 59) (.tmp 62) (.const (.bool false)), type := 4, pos := "law.go:83", after := #[{ on := 19, ground := .data }, { on := 22, ground := .data }], guard := none }) (v := ?_) rfl (by kernel_rfl) (by kernel_rfl) (by kernel_rfl) (fun _ _ _ h => h) (Or.inl ⟨by rfl, ?_⟩) (by assumption) ?_
      rotate_left
      · intro _ _; go_simp; first | done | with_reducible rfl
      simp only [Act.put, List.setIfInBounds_toArray, List.set_cons_zero, List.set_cons_succ]
      refine wpAnyH_take (i := 24) (oi := { dst := some 64, op := .move (.tmp 63), type := 4, pos := "law.go:83", after := #[{ on := 23, ground := .data }, { on := 21, ground := .chain }], guard := none }) (v := ?_) rfl (by kernel_rfl) (by kernel_rfl) (by kernel_rfl) (fun _ _ _ h => h) (Or.inl ⟨by rfl, ?_⟩) (by assumption) ?_
      rotate_left
      · intro _ _; go_simp; first | done | with_reducible rfl
      simp only [Act.put, List.setIfInBounds_toArray, List.set_cons_zero, List.set_cons_succ]
      refine wpAnyH_take (i := 25) (oi := { dst := some 65, op := .load 25 (.tmp 7), type := 25, pos := "law.go:83", after := #[{ on := 24, ground := .guard }], guard := some (24, true) }) (v := ?_) rfl (by kernel_rfl) (by kernel_rfl) (by kernel_rfl) (fun _ _ _ h => h) (Or.inl ⟨by rfl, ?_⟩) (by assumption) ?_
      rotate_left
      · intro _ _; go_simp; first | done | with_reducible rfl
      simp only [Act.put, List.setIfInBounds_toArray, List.set_cons_zero, List.set_cons_succ]
      refine wpAnyH_take (i := 26) (oi := { dst := some 66, op := .fieldAddr 46 (.tmp 4) 0, type := 0, pos := "law.go:83", after := #[{ on := 24, ground := .guard }], guard := some (24, true) }) (v := ?_) rfl (by kernel_rfl) (by kernel_rfl) (by kernel_rfl) (fun _ _ _ h => h) (Or.inl ⟨by rfl, ?_⟩) (by assumption) ?_
      rotate_left
      · intro _ _; go_simp; first | done | with_reducible rfl
      simp only [Act.put, List.setIfInBounds_toArray, List.set_cons_zero, List.set_cons_succ]
      refine wpAnyH_take (i := 27) (oi := { dst := some 67, op := .load 44 (.tmp 66), type := 44, pos := "law.go:83", after := #[{ on := 26, ground := .data }, { on := 24, ground := .guard }], guard := some (24, true) }) (v := _) rfl (by kernel_rfl) (by kernel_rfl) (by kernel_rfl) (fun _ _ _ h => h) (yieldsIf_load_mid (by rfl) _ _ rfl (T + 1) (0) rfl (x.prev.cs) _ (fun _ h => h.2.2.2.2.2.2.2.2.2.2) (und_pt.out) rfl (size_pt x.prev)) (by assumption) ?_
      simp only [Act.put, List.setIfInBounds_toArray, List.set_cons_zero, List.set_cons_succ]
      refine wpAnyH_ready (rs := [28]) (by kernel_rfl) (by simp) ?_
      refine AllReadyH.cons (o := { dst := some 68, op := .call { callee := .value (.func 18), args := #[.tmp 65, .tmp 67], argTypes := #[25, 44] }, type := 3, pos := "law.go:83", after := #[{ on := 25, ground := .data }, { on := 27, ground := .data }, { on := 24, ground := .chain }, { on := 24, ground := .guard }], guard := some (24, true) }) rfl (fun K hK => ?_) AllReadyH.nil
      go_simp
      refine Calls.mono (HSP.out _ HZ6.out) ?_; rintro e z7 ⟨rfl, hb1⟩; have HZ7 : Hid (Below w4.heap.size w4 z7) := HZ6.out.trans (hb1.mono HZ6.out.size); clear hb1
      go_simp
      refine hK.out _ _ (HSX.out _ HZ7.out) (fun hHeld => ?_)
      clear hK K
      refine wpAnyH_take (i := 29) (oi := { dst := some 69, op := .binOp Go.BinOp.geq 3 (.tmp 68) (.const (.int .i64 0)) 3, type := 4, pos := "law.go:83", after := #[{ on := 28, ground := .data }, { on := 24, ground := .guard }], guard := some (24, true) }) (v := ?_) rfl (by kernel_rfl) (by kernel_rfl) (by kernel_rfl) (fun _ _ _ h => h) (Or.inl ⟨by rfl, ?_⟩) (by assumption) ?_
      rotate_left
      · intro _ _; go_simp; first | done | with_reducible rfl
      simp only [Act.put, List.setIfInBounds_toArray, List.set_cons_zero, List.set_cons_succ]
      refine wpAnyH_take (i := 30) (oi := { dst := some 70, op := .pick (.tmp 64) (.tmp 69) (.const (.bool false)), type := 4, pos := "law.go:83", after := #[{ on := 24, ground := .data }, { on := 29, ground := .data }], guard := none }) (v := ?_) rfl (by kernel_rfl) (by kernel_rfl) (by kernel_rfl) (fun _ _ _ h => h) (Or.inl ⟨by rfl, ?_⟩) (by assumption) ?_
      rotate_left
      · intro _ _; go_simp; first | done | with_reducible rfl
      simp only [Act.put, List.setIfInBounds_toArray, List.set_cons_zero, List.set_cons_succ]
      refine wpAnyH_take (i := 31) (oi := { dst := some 71, op := .move (.tmp 70), type := 4, pos := "law.go:83", after := #[{ on := 30, ground := .data }, { on := 28, ground := .chain }], guard := none }) (v := ?_) rfl (by kernel_rfl) (by kernel_rfl) (by kernel_rfl) (fun _ _ _ h => h) (Or.inl ⟨by rfl, ?_⟩) (by assumption) ?_
      rotate_left
      · intro _ _; go_simp; first | done | with_reducible rfl
      simp only [Act.put, List.setIfInBounds_toArray, List.set_cons_zero, List.set_cons_succ]
      refine wpAnyH_ready (rs := [32]) (by kernel_rfl) (by simp) ?_
      refine AllReadyH.cons (o := { dst := some 72, op := .call { callee := .value (.func 9), args := #[], argTypes := #[] }, type := 4, pos := "law.go:83", after := #[{ on := 31, ground := .chain }, { on := 31, ground := .guard }], guard := some (31, true) }) rfl (fun K hK => ?_) AllReadyH.nil
      go_simp
      refine (awake_any _ (HAW.out _ HZ7.out)).mono ?_; rintro e z8 ⟨rfl, hb1⟩; have HZ8 : Hid (Below w4.heap.size w4 z8) := HZ7.out.trans (hb1.mono HZ7.out.size); clear hb1
      go_simp
      refine hK.out _ _ (HSX.out _ HZ8.out) (fun hHeld => ?_)
      clear hK K
      refine wpAnyH_take (i := 33) (oi := { dst := some 73, op := .pick (.tmp 71) (.tmp 72) (.const (.bool false)), type := 4, pos := "law.go:83", after := #[{ on := 31, ground := .data }, { on := 32, ground := .data }], guard := none }) (v := ?_) rfl (by kernel_rfl) (by kernel_rfl) (by kernel_rfl) (fun _ _ _ h => h) (Or.inl ⟨by rfl, ?_⟩) (by assumption) ?_
      rotate_left
      · intro _ _; go_simp; first | done | with_reducible rfl
      simp only [Act.put, List.setIfInBounds_toArray, List.set_cons_zero, List.set_cons_succ]
      refine wpAnyH_ready (rs := [34]) (by kernel_rfl) (by simp) ?_
      refine AllReadyH.cons (o := { dst := some 6, op := .assign (.tmp 73), type := 4, pos := "law.go:83", after := #[{ on := 33, ground := .data }, { on := 32, ground := .chain }, { on := 0, ground := .phase }, { on := 1, ground := .phase }, { on := 2, ground := .phase }, { on := 3, ground := .phase }, { on := 4, ground := .phase }, { on := 5, ground := .phase }, { on := 6, ground := .phase }, { on := 7, ground := .phase }, { on := 8, ground := .phase }, { on := 9, ground := .phase }, { on := 10, ground := .phase }, { on := 11, ground := .phase }, { on := 12, ground := .phase }, { on := 13, ground := .phase }, { on := 14, ground := .phase }, { on := 15, ground := .phase }, { on := 16, ground := .phase }, { on := 17, ground := .phase }, { on := 18, ground := .phase }, { on := 19, ground := .phase }, { on := 20, ground := .phase }, { on := 21, ground := .phase }, { on := 22, ground := .phase }, { on := 23, ground := .phase }, { on := 24, ground := .phase }, { on := 25, ground := .phase }, { on := 26, ground := .phase }, { on := 27, ground := .phase }, { on := 28, ground := .phase }, { on := 29, ground := .phase }, { on := 30, ground := .phase }, { on := 31, ground := .phase }, { on := 32, ground := .phase }, { on := 33, ground := .phase }], guard := none }) rfl (fun K hK => ?_) AllReadyH.nil
      go_simp
      skip
      go_simp
      refine hK.out _ _ (HSX.out _ HZ8.out) (fun hHeld => ?_)
      clear hK K
      refine wpAnyH_done (by kernel_rfl) ?_ _
      refine NoPanic.normal ?_
      clear hHeld
      have HEND : Hid (Below T w z8) := (HKP4.out _ HZ8.out).2.2.1
      go_wp2_with fail
      go_ret
      subst hN
      exact ⟨rfl, HEND.out⟩
end Go.Proofs.YteikbpkjikacmaaDoor
