/- wire.Reader: Point, Script, Done. -/
import Derived.Test.YtlaifphedhaemaaGreatDoorCD3
import Derived.Test.YtlaifphedhaemaaGreatDoorZX3
namespace Go.Proofs.YtlaifphedhaemaaGreatDoor
open Go.ChangeShapes Go.WideShapes Go.ChangeAt Go.RowKit

theorem built_range (g : Nat → BitVec 8) (n : Int) : Tryz.prog.built 53 [(0, .agg (u8s ((List.range 32).map g)).toArray), (1, .int .i64 n)] = some (u8s ((List.range 32).map g) ++ [Value.int .i64 n]).toArray := by kernel_rfl
theorem as_range (h : List (BitVec 8)) (hl : h.length = 32) : (List.range 32).map (fun i => h.getD i 0) = h := by
  apply List.ext_getElem
  · simp [hl]
  · intro i h1 h2
    simp [List.getD_eq_getElem?_getD, h2]
theorem built_pt (h : List (BitVec 8)) (n : Int) (hl : h.length = 32) : Tryz.prog.built 53 [(0, .agg (u8s h).toArray), (1, .int .i64 n)] = some (Pt.cs ⟨h, n, hl⟩).toArray := by
  have := built_range (fun i => h.getD i 0) n
  rw [as_range h hl] at this
  exact this
theorem built_range6 (g : Nat → BitVec 8) (a b c d e f : Int) : Tryz.prog.built 65 [(0, .int .i64 a), (1, .int .i64 b), (2, .int .i64 c), (3, .int .i64 d), (4, .int .i64 e), (5, .int .i64 f), (6, .agg (u8s ((List.range 32).map g)).toArray)] = some ([Value.int .i64 a, .int .i64 b, .int .i64 c, .int .i64 d, .int .i64 e, .int .i64 f] ++ u8s ((List.range 32).map g)).toArray := by kernel_rfl
theorem built_scr (h : List (BitVec 8)) (a b c d e f : Int) (hl : h.length = 32) : Tryz.prog.built 65 [(0, .int .i64 a), (1, .int .i64 b), (2, .int .i64 c), (3, .int .i64 d), (4, .int .i64 e), (5, .int .i64 f), (6, .agg (u8s h).toArray)] = some (Scr.cs ⟨a, b, c, d, e, f, h, hl⟩).toArray := by
  have := built_range6 (fun i => h.getD i 0) a b c d e f
  rw [as_range h hl] at this
  exact this
theorem zpt_size (p : Pt) : (default : Pt).cs.toArray.size = p.cs.toArray.size := by simp [Pt.cs_length]
theorem zscr_size (p : Scr) : (default : Scr).cs.toArray.size = p.cs.toArray.size := by simp [Scr.cs_length]
theorem size_scra (x : Scr) : (Tryz.prog.info? 65).map (·.size) = some x.cs.toArray.size := by rw [List.size_toArray, x.cs_length]; kernel_rfl
/-- The answer's block was new: what is there is kept. -/
theorem Rd.row {w : World} {R N T : Nat} {s : RS} (h : Rd w R N s) (hR : R ≠ T) (hN : N ≤ T) (cs : Array Value) : Rd (w.setRow T cs) R N s :=
  h.kept (by simp [World.setRow]) (heap_setRow w T R _ hR) fun b hb _ => heap_setRow w T b _ (by omega)

/-- The next outpoint, and what is left behind it. -/
def rP (s : RS) : Pt × RS := (⟨(rH s).1, (rN (rH s).2).1, rH_length s⟩, (rN (rH s).2).2)
set_option maxRecDepth 100000 in
set_option maxHeartbeats 2000000 in
theorem rpoint_any (R N : Nat) (s : RS) (w : World) (h : Rd w R N s) :
    Calls Tryz.prog 101 #[.pointer (some ⟨R, 0, none⟩)] w fun e w' => e = .returned (.agg (rP s).1.cs.toArray) ∧ Rd w' R N (rP s).2 ∧ Keep R w w' := by
  have hRT := h.lt
  have hbs := h.base
  have H : Hid (Rd w R N s) := h
  obtain ⟨x, s1, n, s2, hx, hs1, hn, hs2⟩ : ∃ x s1 n s2, (rH s).1 = x ∧ (rH s).2 = s1 ∧ (rN s1).1 = n ∧ (rN s1).2 = s2 := ⟨_, _, _, _, rfl, rfl, rfl, rfl⟩
  have hxl : x.length = 32 := by rw [← hx]; exact rH_length s
  have HP : Hid ((rP s).1 = ⟨x, n, hxl⟩ ∧ (rP s).2 = s2) := ⟨Pt.ext hx (by show (rN (rH s).2).1 = n; rw [hs1, hn]), by show (rN (rH s).2).2 = s2; rw [hs1, hs2]⟩
  have HHASH : Hid (∀ w, Rd w R N s → Calls Tryz.prog 67 #[.pointer (some ⟨R, 0, none⟩)] w fun e w' => e = .returned (.agg (u8s x).toArray) ∧ Rd w' R N s1 ∧ Keep R w w') := fun w h => by
    have := rhash_any R N s w h
    rwa [hx, hs1] at this
  have HNUM : Hid (∀ w, Rd w R N s1 → Calls Tryz.prog 68 #[.pointer (some ⟨R, 0, none⟩)] w fun e w' => e = .returned (.int .i64 n) ∧ Rd w' R N s2 ∧ Keep R w w') := fun w h => by
    have := rnum_any R N s1 w h
    rwa [hn, hs2] at this
  have HBU : Hid (Tryz.prog.built 53 [(0, .agg (u8s x).toArray), (1, .int .i64 n)] = some (Pt.cs ⟨x, n, hxl⟩).toArray) := built_pt x n hxl
  obtain ⟨p, hp⟩ : ∃ p : Pt, p = ⟨x, n, hxl⟩ := ⟨_, rfl⟩
  rw [← hp] at HP HBU
  clear hx hs1 hn hs2 hp h
  go_enter Tryz.func101, Tryz.ntmps101
  go_upto_region 1 with fail
  generalize hwv : World.alloc w _ = w1
  have HB0 : Hid (Blk w1 w.heap.size (default : Pt).cs) := by rw [← hwv]; exact Blk.mk _ _ _ rfl rfl
  have HBL : Hid (Below w.heap.size w w1) := by rw [← hwv]; exact (Below.refl _ _).alloc (Nat.le_refl _) _
  clear hwv
  have HR1 : Hid (Rd w1 R N s) := H.out.below HBL.out
  have HK1 : Hid (Keep R w w1) := Keep.of_below HBL.out
  clear HBL
  have hTw := hRT
  generalize hN : w.heap.size = T at *
  go_wp2_with fail
  refine Calls.mono (HHASH.out _ HR1.out) ?_
  rintro e w2 ⟨rfl, hR2, hK2⟩
  have HB2 : Hid (Blk w2 T (default : Pt).cs) := HB0.out.keep hK2 (by omega)
  have HR2 : Hid (Rd w2 R N s1) := hR2
  have HK2 : Hid (Keep R w w2) := HK1.out.trans hK2
  clear hR2 hK2 HB0 HR1 HK1
  go_wp2_with fail
  refine Calls.mono (HNUM.out _ HR2.out) ?_
  rintro e w3 ⟨rfl, hR3, hK3⟩
  have HB3 : Hid (Blk w3 T (default : Pt).cs) := HB2.out.keep hK3 (by omega)
  have HR3 : Hid (Rd w3 R N s2) := hR3
  have HK3 : Hid (Keep R w w3) := HK2.out.trans hK3
  clear hR3 hK3 HB2 HR2 HK2
  obtain ⟨t4, hg4⟩ := HB3.out
  have HG4 : Hid (w3.heap[T]? = _) := hg4
  clear hg4
  go_wp2_with (first
    | (refine wpList_build_is rfl 53 _ rfl _ p.cs HBU.out (by rw [Array.toList_map]; rfl) ?_)
    | (refine wpList_store_row rfl 53 _ _ rfl T p.cs.toArray rfl rfl t4 _ HG4.out (size_pta p) (zpt_size p) p.cs_all ?_))
  refine bodyPost_ret (v := .agg p.cs.toArray) ?_ rfl ⟨by rw [HP.out.1], ?_, ?_⟩
  · obtain ⟨tt, hb⟩ := Blk.row (ds := p.cs) ⟨t4, HG4.out⟩
    exact results_cell_row Tryz.results101 _ _ T tt _ _ _ rfl hb Tryz.underlying53 rfl (size_pta p)
  · rw [HP.out.2]; exact HR3.out.row (by omega) (by omega) _
  · exact HK3.out.other ((Keep.refl _ _).setRow _) (by omega)

/-- The next script, and what is left behind it. -/
def rS (s : RS) : Scr × RS :=
  let a := rN s; let b := rN a.2; let c := rN b.2; let d := rN c.2; let e := rN d.2; let f := rN e.2
  (⟨a.1, b.1, c.1, d.1, e.1, f.1, (rH f.2).1, rH_length f.2⟩, (rH f.2).2)
theorem Scr.ext {p q : Scr} (h1 : p.kind = q.kind) (h2 : p.key = q.key) (h3 : p.other = q.other) (h4 : p.rev = q.rev) (h5 : p.delay = q.delay) (h6 : p.expiry = q.expiry) (h7 : p.hash = q.hash) : p = q := by
  cases p; cases q; cases h1; cases h2; cases h3; cases h4; cases h5; cases h6; cases h7; rfl
set_option maxRecDepth 100000 in
set_option maxHeartbeats 4000000 in
theorem rscript_any (R N : Nat) (s : RS) (w : World) (h : Rd w R N s) :
    Calls Tryz.prog 102 #[.pointer (some ⟨R, 0, none⟩)] w fun e w' => e = .returned (.agg (rS s).1.cs.toArray) ∧ Rd w' R N (rS s).2 ∧ Keep R w w' := by
  have hRT := h.lt
  have hbs := h.base
  have H : Hid (Rd w R N s) := h
  obtain ⟨n1, s1, n2, s2, n3, s3, n4, s4, n5, s5, n6, s6, x, s7, e1, e2, e3, e4, e5, e6, e7⟩ : ∃ n1 s1 n2 s2 n3 s3 n4 s4 n5 s5 n6 s6 x s7, rN s = (n1, s1) ∧ rN s1 = (n2, s2) ∧ rN s2 = (n3, s3) ∧ rN s3 = (n4, s4) ∧ rN s4 = (n5, s5) ∧ rN s5 = (n6, s6) ∧ rH s6 = (x, s7) := ⟨_, _, _, _, _, _, _, _, _, _, _, _, _, _, rfl, rfl, rfl, rfl, rfl, rfl, rfl⟩
  have hxl : x.length = 32 := by have := rH_length s6; rwa [e7] at this
  have HP : Hid ((rS s).1 = ⟨n1, n2, n3, n4, n5, n6, x, hxl⟩ ∧ (rS s).2 = s7) := by
    constructor
    · apply Scr.ext <;> simp only [rS, e1, e2, e3, e4, e5, e6, e7]
    · simp only [rS, e1, e2, e3, e4, e5, e6, e7]
  have HHASH : Hid (∀ w, Rd w R N s6 → Calls Tryz.prog 67 #[.pointer (some ⟨R, 0, none⟩)] w fun e w' => e = .returned (.agg (u8s x).toArray) ∧ Rd w' R N s7 ∧ Keep R w w') := fun w h => by
    have := rhash_any R N s6 w h
    rwa [e7] at this
  have HN1 : Hid (∀ w, Rd w R N s → Calls Tryz.prog 68 #[.pointer (some ⟨R, 0, none⟩)] w fun e w' => e = .returned (.int .i64 n1) ∧ Rd w' R N s1 ∧ Keep R w w') := fun w h => by
    have := rnum_any R N s w h
    rwa [e1] at this
  have HN2 : Hid (∀ w, Rd w R N s1 → Calls Tryz.prog 68 #[.pointer (some ⟨R, 0, none⟩)] w fun e w' => e = .returned (.int .i64 n2) ∧ Rd w' R N s2 ∧ Keep R w w') := fun w h => by
    have := rnum_any R N s1 w h
    rwa [e2] at this
  have HN3 : Hid (∀ w, Rd w R N s2 → Calls Tryz.prog 68 #[.pointer (some ⟨R, 0, none⟩)] w fun e w' => e = .returned (.int .i64 n3) ∧ Rd w' R N s3 ∧ Keep R w w') := fun w h => by
    have := rnum_any R N s2 w h
    rwa [e3] at this
  have HN4 : Hid (∀ w, Rd w R N s3 → Calls Tryz.prog 68 #[.pointer (some ⟨R, 0, none⟩)] w fun e w' => e = .returned (.int .i64 n4) ∧ Rd w' R N s4 ∧ Keep R w w') := fun w h => by
    have := rnum_any R N s3 w h
    rwa [e4] at this
  have HN5 : Hid (∀ w, Rd w R N s4 → Calls Tryz.prog 68 #[.pointer (some ⟨R, 0, none⟩)] w fun e w' => e = .returned (.int .i64 n5) ∧ Rd w' R N s5 ∧ Keep R w w') := fun w h => by
    have := rnum_any R N s4 w h
    rwa [e5] at this
  have HN6 : Hid (∀ w, Rd w R N s5 → Calls Tryz.prog 68 #[.pointer (some ⟨R, 0, none⟩)] w fun e w' => e = .returned (.int .i64 n6) ∧ Rd w' R N s6 ∧ Keep R w w') := fun w h => by
    have := rnum_any R N s5 w h
    rwa [e6] at this
  have HBU : Hid (Tryz.prog.built 65 [(0, .int .i64 n1), (1, .int .i64 n2), (2, .int .i64 n3), (3, .int .i64 n4), (4, .int .i64 n5), (5, .int .i64 n6), (6, .agg (u8s x).toArray)] = some (Scr.cs ⟨n1, n2, n3, n4, n5, n6, x, hxl⟩).toArray) := built_scr x n1 n2 n3 n4 n5 n6 hxl
  obtain ⟨p, hp⟩ : ∃ p : Scr, p = ⟨n1, n2, n3, n4, n5, n6, x, hxl⟩ := ⟨_, rfl⟩
  rw [← hp] at HP HBU
  clear e1 e2 e3 e4 e5 e6 e7 hp h
  go_enter Tryz.func102, Tryz.ntmps102
  go_upto_region 1 with fail
  generalize hwv : World.alloc w _ = w1
  have HB1 : Hid (Blk w1 w.heap.size (default : Scr).cs) := by rw [← hwv]; exact Blk.mk _ _ _ rfl rfl
  have HBL : Hid (Below w.heap.size w w1) := by rw [← hwv]; exact (Below.refl _ _).alloc (Nat.le_refl _) _
  clear hwv
  have HR1 : Hid (Rd w1 R N s) := H.out.below HBL.out
  have HK1 : Hid (Keep R w w1) := Keep.of_below HBL.out
  clear HBL
  have hTw := hRT
  generalize hN : w.heap.size = T at *
  go_wp2_with fail
  refine Calls.mono (HN1.out _ HR1.out) ?_
  rintro e w2 ⟨rfl, hR, hK⟩
  have HB2 : Hid (Blk w2 T (default : Scr).cs) := HB1.out.keep hK (by omega)
  have HR2 : Hid (Rd w2 R N s1) := hR
  have HK2 : Hid (Keep R w w2) := HK1.out.trans hK
  clear hR hK HB1 HR1 HK1
  go_wp2_with fail
  refine Calls.mono (HN2.out _ HR2.out) ?_
  rintro e w3 ⟨rfl, hR, hK⟩
  have HB3 : Hid (Blk w3 T (default : Scr).cs) := HB2.out.keep hK (by omega)
  have HR3 : Hid (Rd w3 R N s2) := hR
  have HK3 : Hid (Keep R w w3) := HK2.out.trans hK
  clear hR hK HB2 HR2 HK2
  go_wp2_with fail
  refine Calls.mono (HN3.out _ HR3.out) ?_
  rintro e w4 ⟨rfl, hR, hK⟩
  have HB4 : Hid (Blk w4 T (default : Scr).cs) := HB3.out.keep hK (by omega)
  have HR4 : Hid (Rd w4 R N s3) := hR
  have HK4 : Hid (Keep R w w4) := HK3.out.trans hK
  clear hR hK HB3 HR3 HK3
  go_wp2_with fail
  refine Calls.mono (HN4.out _ HR4.out) ?_
  rintro e w5 ⟨rfl, hR, hK⟩
  have HB5 : Hid (Blk w5 T (default : Scr).cs) := HB4.out.keep hK (by omega)
  have HR5 : Hid (Rd w5 R N s4) := hR
  have HK5 : Hid (Keep R w w5) := HK4.out.trans hK
  clear hR hK HB4 HR4 HK4
  go_wp2_with fail
  refine Calls.mono (HN5.out _ HR5.out) ?_
  rintro e w6 ⟨rfl, hR, hK⟩
  have HB6 : Hid (Blk w6 T (default : Scr).cs) := HB5.out.keep hK (by omega)
  have HR6 : Hid (Rd w6 R N s5) := hR
  have HK6 : Hid (Keep R w w6) := HK5.out.trans hK
  clear hR hK HB5 HR5 HK5
  go_wp2_with fail
  refine Calls.mono (HN6.out _ HR6.out) ?_
  rintro e w7 ⟨rfl, hR, hK⟩
  have HB7 : Hid (Blk w7 T (default : Scr).cs) := HB6.out.keep hK (by omega)
  have HR7 : Hid (Rd w7 R N s6) := hR
  have HK7 : Hid (Keep R w w7) := HK6.out.trans hK
  clear hR hK HB6 HR6 HK6
  go_wp2_with fail
  refine Calls.mono (HHASH.out _ HR7.out) ?_
  rintro e w8 ⟨rfl, hR, hK⟩
  have HB8 : Hid (Blk w8 T (default : Scr).cs) := HB7.out.keep hK (by omega)
  have HR8 : Hid (Rd w8 R N s7) := hR
  have HK8 : Hid (Keep R w w8) := HK7.out.trans hK
  clear hR hK HB7 HR7 HK7
  obtain ⟨t4, hg4⟩ := HB8.out
  have HG4 : Hid (w8.heap[T]? = _) := hg4
  clear hg4
  go_wp2_with (first
    | (refine wpList_build_is rfl 65 _ rfl _ p.cs HBU.out (by rw [Array.toList_map]; rfl) ?_)
    | (refine wpList_store_row rfl 65 _ _ rfl T p.cs.toArray rfl rfl t4 _ HG4.out (size_scra p) (zscr_size p) p.cs_all ?_))
  refine bodyPost_ret (v := .agg p.cs.toArray) ?_ rfl ⟨by rw [HP.out.1], ?_, ?_⟩
  · obtain ⟨tt, hb⟩ := Blk.row (ds := p.cs) ⟨t4, HG4.out⟩
    exact results_cell_row Tryz.results102 _ _ T tt _ _ _ rfl hb Tryz.underlying65 rfl (size_scra p)
  · rw [HP.out.2]; exact HR8.out.row (by omega) (by omega) _
  · exact HK8.out.other ((Keep.refl _ _).setRow _) (by omega)

/-- Whether all that was read was there, and nothing is left. -/
def rD (s : RS) : Bool := !s.2 && s.1.isEmpty
set_option maxRecDepth 100000 in
set_option maxHeartbeats 2000000 in
theorem rdone_any (R N : Nat) (s : RS) (w : World) (h : Rd w R N s) :
    Calls Tryz.prog 41 #[.pointer (some ⟨R, 0, none⟩)] w fun e w' => e = .returned (.bool (rD s)) ∧ w = w' := by
  obtain ⟨a, cap, hB, _, _⟩ := h.ex
  have c0 : w.cell? ⟨R, 0, none⟩ = some (.slice a s.1.length cap) := hB.one rfl
  have c1 : w.cell? ⟨R, 1, none⟩ = some (.bool s.2) := hB.one rfl
  clear h hB
  obtain ⟨bs, b⟩ := s
  have HD : Hid (rD (bs, b) = (!b && decide (bs.length = 0))) := by
    show _ = _
    unfold rD
    cases bs <;> simp
  simp only at c0 c1
  generalize bs.length = L at *
  cases b
  · go_enter Tryz.func41, Tryz.ntmps41
    go_wp2_with fail
    go_ret
    refine ⟨?_, rfl⟩
    rw [HD.out]
    by_cases hz : L = 0
    · subst hz; rfl
    · have h1 : decide (L = 0) = false := decide_eq_false hz
      have h2 : ((L : Int) == 0) = false := by simp [hz]
      simp [hz]
  · go_enter Tryz.func41, Tryz.ntmps41
    go_wp2_with fail
    go_ret
    refine ⟨?_, rfl⟩
    rw [HD.out]
    rfl
end Go.Proofs.YtlaifphedhaemaaGreatDoor
