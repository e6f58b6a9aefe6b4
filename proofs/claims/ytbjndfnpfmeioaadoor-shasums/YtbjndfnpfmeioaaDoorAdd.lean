/- (*running).add lets one more piece come: the words and what is left over are as behind all bytes. -/
import Derived.Test.YtbjndfnpfmeioaaDoorMix
import Derived.Test.YtbjndfnpfmeioaaDoorKit2
import Derived.Deep.RegionHeld3
namespace Go.Proofs.YtbjndfnpfmeioaaDoor
open Go.ChangeShapes Go.WideShapes Go.ChangeAt Go.RowKit

/-- Block R holds a running sum: the words s, the bytes q that are not mixed in yet, n bytes in all. -/
def Run (w : World) (R : Nat) (s : St) (q : List (BitVec 8)) (n : Nat) : Prop :=
  ∃ blk : List (BitVec 8), blk.length = 64 ∧ blk.take q.length = q ∧ q.length < 64 ∧ Blk w R (runCells s blk q.length n)
/-- A slice of bytes that lie outside block R. -/
structure Src (w : World) (R : Nat) (a : Option Addr) (cap : Nat) (bs : List (BitVec 8)) : Prop where
  room : bs.length ≤ cap
  most : cap ≤ maxLen
  lie : bs ≠ [] → ∃ b off, a = some ⟨b, off, none⟩ ∧ b ≠ R ∧ ∀ j, j < bs.length → w.cell? ⟨b, off + j, none⟩ = some (.int .u8 (Y (bs.getD j 0)))

theorem slice_eq {a : Option Addr} {n n' c c' : Nat} (h : n = n') (h' : c = c') : Value.slice a n c = Value.slice a n' c' := by rw [h, h']
def lenV : Value → Nat | .slice _ n _ => n | _ => 0

def w8 (s : St) : Array Value := #[.int .u32 (U s.a), .int .u32 (U s.b), .int .u32 (U s.c), .int .u32 (U s.d), .int .u32 (U s.e), .int .u32 (U s.f), .int .u32 (U s.g), .int .u32 (U s.h)]
theorem mix_any8 (s s' : St) (p : List (BitVec 8)) (hp : p.length = 64) (hs : s' = mix s p) (w : World) (hK : Kw w) :
    Calls Tryd.prog 29 #[.agg #[.int .u32 (U s.a), .int .u32 (U s.b), .int .u32 (U s.c), .int .u32 (U s.d), .int .u32 (U s.e), .int .u32 (U s.f), .int .u32 (U s.g), .int .u32 (U s.h)], .agg (u8s p).toArray] w fun e w' =>
      e = .returned (.agg #[.int .u32 (U s'.a), .int .u32 (U s'.b), .int .u32 (U s'.c), .int .u32 (U s'.d), .int .u32 (U s'.e), .int .u32 (U s'.f), .int .u32 (U s'.g), .int .u32 (U s'.h)]) ∧ Below w.heap.size w w' := by
  subst hs; exact mix_any s p hp w hK
theorem Blk.cell8 {w : World} {R : Nat} {s : St} {blk : List (BitVec 8)} {f n : Nat} (h : Blk w R (runCells s blk f n)) :
    w.cell? ⟨R, 0, none⟩ = some (.int .u32 (U s.a)) ∧ w.cell? ⟨R, 1, none⟩ = some (.int .u32 (U s.b)) ∧ w.cell? ⟨R, 2, none⟩ = some (.int .u32 (U s.c)) ∧ w.cell? ⟨R, 3, none⟩ = some (.int .u32 (U s.d)) ∧
    w.cell? ⟨R, 4, none⟩ = some (.int .u32 (U s.e)) ∧ w.cell? ⟨R, 5, none⟩ = some (.int .u32 (U s.f)) ∧ w.cell? ⟨R, 6, none⟩ = some (.int .u32 (U s.g)) ∧ w.cell? ⟨R, 7, none⟩ = some (.int .u32 (U s.h)) :=
  ⟨h.cell 0, h.cell 1, h.cell 2, h.cell 3, h.cell 4, h.cell 5, h.cell 6, h.cell 7⟩
theorem Blk.froz {w : World} {R : Nat} {cs : List Value} (h : Blk w R cs) : ∀ i, w.frozen? ⟨R, i, none⟩ = false := h.frozen

set_option maxRecDepth 100000 in
set_option maxHeartbeats 4000000 in
theorem add_any (R : Nat) (s : St) (q : List (BitVec 8)) (n : Nat) (a : Option Addr) (cap : Nat) (bs : List (BitVec 8)) (w : World) (hK : Kw w) (hR : 0 < R)
    (hrun : Run w R s q n) (hsrc : Src w R a cap bs) (hn : n + bs.length < 1152921504606846976) :
    Calls Tryd.prog 23 #[.pointer (some ⟨R, 0, none⟩), .slice a bs.length cap] w fun e w' => e = .returned (.tuple #[]) ∧
      Run w' R (mixAll s (q ++ bs)) (restOf (q ++ bs)) (n + bs.length) ∧ Keep R w w' := by
  obtain ⟨blk, hbl, hbq, hq, hB⟩ := hrun
  have HK : Hid (Kw w) := hK
  have hm := hsrc.most
  unfold maxLen at hm
  have hr := hsrc.room
  have HS : Hid (Src w R a cap bs) := hsrc
  have HBQ : Hid (blk.take q.length = q) := hbq
  clear hK hsrc hbq
  have c73 := hB.cell 73
  rw [runCells_73 s blk _ n hbl] at c73
  have f73 := hB.frozen 73
  go_enter Tryd.func23, Tryd.ntmps23
  go_wp2_with fail
  generalize hw1 : World.setCell w _ _ = w1
  have hB1 : Blk w1 R (runCells s blk q.length (n + bs.length)) := by
    rw [← hw1, show ((n : Int) + (bs.length : Int)) = ((n + bs.length : Nat) : Int) by omega]
    have := hB.set 73 (.int .u64 ((n + bs.length : Nat) : Int))
    rw [runCells_set73 s blk _ n _ hbl] at this
    exact this
  have hK1 : Keep R w w1 := by rw [← hw1]; exact (Keep.refl R w).setCell 73 _
  clear hw1 hB c73 f73
  have hB0 : Run w1 R (mixAll s (q ++ bs.take 0)) (restOf (q ++ bs.take 0)) (n + bs.length) := by
    rw [List.take_zero, List.append_nil, mixAll_short s q hq, restOf_short q hq]
    exact ⟨blk, hbl, HBQ.out, hq, hB1⟩
  clear hB1 hbl HBQ hq
  go_loopw [1] (fun sv wr => ∃ k : Nat, k ≤ bs.length ∧ ∃ pa, sv = .slice pa (bs.length - k) (cap - k) ∧ Hid (k < bs.length → ∀ b off, a = some ⟨b, off, none⟩ → pa = some ⟨b, off + k, none⟩) ∧ Run wr R (mixAll s (q ++ bs.take k)) (restOf (q ++ bs.take k)) (n + bs.length) ∧ Keep R w wr) (fun sv _ => lenV sv)
  case atStart => exact ⟨0, Nat.zero_le _, a, by simp, fun _ b off h => by simpa using h, hB0, hK1⟩
  case round =>
    obtain ⟨k, hk, pa, rfl, HPA, hRun, hKeep⟩ := hrel
    clear hB0 hK1
    obtain ⟨st, hst⟩ : ∃ x, x = mixAll s (q ++ bs.take k) := ⟨_, rfl⟩
    obtain ⟨q1, hq1⟩ : ∃ x, x = restOf (q ++ bs.take k) := ⟨_, rfl⟩
    rw [← hst, ← hq1] at hRun
    have HST : Hid (st = _) := hst
    have HQ1 : Hid (q1 = _) := hq1
    clear hst hq1
    obtain ⟨tot, htot⟩ : ∃ x, x = n + bs.length := ⟨_, rfl⟩
    rw [← htot] at hRun
    have HTOT : Hid (tot = _) := htot
    clear htot
    by_cases hlt : k < bs.length
    · obtain ⟨b, off, rfl, hbR, hcs⟩ := HS.out.lie (by intro h; rw [h] at hlt; simp at hlt)
      obtain rfl := HPA.out hlt b off rfl
      obtain ⟨blk1, hbl1, hbq1, hq1, hB1⟩ := hRun
      obtain ⟨f, hf⟩ : ∃ x, x = q1.length := ⟨_, rfl⟩
      rw [← hf] at hbq1 hq1 hB1
      have HF : Hid (f = q1.length) := hf
      have HBQ1 : Hid (blk1.take f = q1) := hbq1
      clear hf hbq1
      obtain ⟨m, hmin⟩ : ∃ x, x = Nat.min (bs.length - k) (64 - f) := ⟨_, rfl⟩
      have HM : Hid (m = Nat.min (bs.length - k) (64 - f)) := hmin
      have hm1 : m ≤ 64 - f := by rw [hmin]; exact Nat.min_le_right _ _
      have hm2 : m ≤ bs.length - k := by rw [hmin]; exact Nat.min_le_left _ _
      have hm0 : 0 < m := by rw [hmin]; exact Nat.lt_min.2 ⟨by omega, by omega⟩
      have hm3 : m = 64 - f ∨ m = bs.length - k := by
        rw [hmin]; rcases Nat.le_total (bs.length - k) (64 - f) with h | h
        · right; exact Nat.min_eq_left h
        · left; exact Nat.min_eq_right h
      have HM3 : Hid (m = 64 - f ∨ m = bs.length - k) := hm3
      clear hmin hm3
      obtain ⟨X, hX⟩ : ∃ x, x = (bs.drop k).take m := ⟨_, rfl⟩
      have hXl : X.length = m := by rw [hX, List.length_take, List.length_drop]; omega
      have HXC : Hid (∀ j v, (u8s X)[j]? = some v → wr.cell? ((⟨b, off + k, none⟩ : Addr).add j) = some v) := by
        intro j v hv
        have hj : j < X.length := by simpa using (List.getElem?_eq_some_iff.1 hv).1
        rw [u8s_get X j hj] at hv
        have e : X.getD j 0 = bs.getD (k + j) 0 := by
          rw [hX, List.getD_eq_getElem?_getD, List.getD_eq_getElem?_getD, List.getElem?_take_of_lt (by omega), List.getElem?_drop]
        rw [Addr.add_mid, ← hv, e, Nat.add_assoc]
        exact hKeep.cell hbR (hcs (k + j) (by omega))
      have HX : Hid (X = (bs.drop k).take m) := hX
      have HN : Hid ((u8s X).length = Nat.min (bs.length - k) (64 - f)) := by rw [← HM.out]; show (u8s X).length = m; rw [u8s_length]; exact hXl
      have HFIT : Hid (8 + f + (u8s X).length ≤ (runCells st blk1 f tot).length) := by rw [runCells_length st blk1 f tot hbl1]; show 8 + f + (u8s X).length ≤ 74; rw [u8s_length]; omega
      have c72 := hB1.cell 72
      rw [runCells_72 st blk1 f tot hbl1] at c72
      obtain ⟨t1, hg1⟩ := hB1
      have HB1 : Hid (wr.heap[R]? = _) := hg1
      have hrow : Blk (wr.setRow R (splice (runCells st blk1 f tot) (8 + f) (u8s X)).toArray) R (runCells st (splice blk1 f X) f tot) := by
        have := Blk.row (ds := splice (runCells st blk1 f tot) (8 + f) (u8s X)) ⟨t1, hg1⟩
        rw [runCells_copy st blk1 f tot hbl1 f X (by omega)] at this
        rw [runCells_copy st blk1 f tot hbl1 f X (by omega)]
        exact this
      have hsl : (splice blk1 f X).length = 64 := by rw [length_splice _ _ _ (by omega)]; exact hbl1
      have r72 := hrow.cell 72
      rw [runCells_72 st _ f tot hsl] at r72
      have HR72 : Hid (World.cell? _ _ = _) := r72
      have HROW : Hid (Blk _ _ _) := hrow
      clear hg1 hrow r72 hX hcs
      subst hXl
      have e0 : (0 : Int) ≤ (f : Int) := by omega
      have e1 : (f : Int) < 64 := by omega
      have e2 : (f : Int) ≤ 64 := by omega
      have e3 : ¬ 64 = f := by omega
      go_wp2_with fail
      go_region_held3 (fun w1 => w1.cell? ⟨R, 72, none⟩ = some (.int .i64 (f : Int))) (first | exact c72 | exact HR72.out) ((refine step_copy_pos rfl (.tmp 25) (.tmp 26) 22 22 rfl 5 Tryd.underlying22 (by kernel_rfl) R (8 + f) _ _ _ _ _ rfl rfl (runCells st blk1 f tot) t1 HB1.out (u8s X) HN.out HXC.out HFIT.out (u8s_mem X) ?_))
      generalize hw2 : World.setRow _ _ _ = w2
      have hB2 : Blk w2 R (runCells st (splice blk1 f X) f tot) := by rw [← hw2]; exact HROW.out
      have hK2 : Keep R w w2 := by rw [← hw2]; exact hKeep.drew.setRow _
      clear hw2 c72
      obtain ⟨blk2, hblk2⟩ : ∃ x, x = splice blk1 f X := ⟨_, rfl⟩
      rw [← hblk2] at hB2 hsl
      have HBT : Hid (blk2.take (f + X.length) = q1 ++ X) := by
        show blk2.take (f + X.length) = q1 ++ X
        rw [hblk2]; unfold splice
        have h0 : (blk1.take f).length = f := by rw [List.length_take]; omega
        rw [← List.append_assoc, List.take_append_of_le_length (by rw [List.length_append, h0]; exact Nat.le_refl _), List.take_of_length_le (by rw [List.length_append, h0]; exact Nat.le_refl _), HBQ1.out]
      clear hblk2
      have d72 := hB2.cell 72
      rw [runCells_72 st _ f tot hsl] at d72
      have g72 := hB2.frozen 72
      have e4 : (0 : Int) ≤ (X.length : Int) := by omega
      have e5 : (X.length : Int) ≤ ((bs.length - k : Nat) : Int) := by omega
      have e6 : (X.length : Int) ≤ ((cap - k : Nat) : Int) := by omega
      have e7 : (f : Int) + (X.length : Int) ≤ 64 := by omega
      have HT : Hid (bs.take (k + X.length) = bs.take k ++ X) := by
        show bs.take (k + X.length) = bs.take k ++ X
        rw [List.take_add, ← HX.out]
      have HQL : Hid ((q1 ++ X).length = f + X.length) := by show (q1 ++ X).length = f + X.length; rw [List.length_append, HF.out]
      have HAP1 : Hid (mixAll s (q ++ bs.take (k + X.length)) = mixAll st (q1 ++ X)) := by
        show mixAll s (q ++ bs.take (k + X.length)) = mixAll st (q1 ++ X)
        rw [HT.out, ← List.append_assoc, mixAll_app, ← HST.out, ← HQ1.out]
      have HAP2 : Hid (restOf (q ++ bs.take (k + X.length)) = restOf (q1 ++ X)) := by
        show restOf (q ++ bs.take (k + X.length)) = restOf (q1 ++ X)
        rw [HT.out, ← List.append_assoc, restOf_app, ← HQ1.out]
      have HPA2 : Hid (k + X.length < bs.length → ∀ b' off', (some ⟨b, off, none⟩ : Option Addr) = some ⟨b', off', none⟩ → (some ⟨b, off + k + X.length, none⟩ : Option Addr) = some ⟨b', off' + (k + X.length), none⟩) := by
        intro _ b' off' h
        injection h with h; injection h with h1 h2
        subst h1; subst h2; rw [Nat.add_assoc]
      by_cases hfull : f + X.length = 64
      · have e8 : (f : Int) + (X.length : Int) = 64 := by omega
        have hB3 : Blk (w2.setCell ⟨R, 72, none⟩ (.int .i64 64)) R (runCells st blk2 64 tot) := by
          have := hB2.set 72 (.int .i64 ((64 : Nat) : Int))
          rw [runCells_set72 st blk2 f _ tot hsl] at this
          exact this
        obtain ⟨f1, f2⟩ := feed_full st q1 X (by rw [← HF.out]; exact hfull)
        have hq : q1 ++ X = blk2 := by
          have := HBT.out
          rw [hfull, List.take_of_length_le (by omega)] at this
          exact this.symm
        rw [hq] at f1
        have HF1 : Hid (mixAll st (q1 ++ X) = mix st blk2) := by show mixAll st (q1 ++ X) = _; rw [hq]; exact f1
        have HF2 : Hid (restOf (q1 ++ X) = []) := f2
        clear f1 f2 hq
        have hK3 : Keep R w (w2.setCell ⟨R, 72, none⟩ (.int .i64 64)) := hK2.setCell 72 _
        have hu41 := Tryd.underlying41
        have hu44 := Tryd.underlying44
        have hi41 : (Tryd.prog.info? 41).map (·.size) = some (u32s st.list).length := by
          rw [show (u32s st.list).length = 8 by simp [St.list_length]]; kernel_rfl
        have hi44 : (Tryd.prog.info? 44).map (·.size) = some (u8s blk2).length := by
          rw [show (u8s blk2).length = 64 by simp [hsl]]; kernel_rfl
        have HU41 : Hid (_ = _) := hu41
        have HU44 : Hid (_ = _) := hu44
        have HI41 : Hid (_ = _) := hi41
        have HI44 : Hid (_ = _) := hi44
        clear hu41 hu44 hi41 hi44
        have HEND : Hid (∀ w4 : World, Below w4.heap.size w4 w4 → ∀ w3 : World, Blk w3 R (runCells st blk2 64 tot) → Keep R w w3 → Below w3.heap.size w3 w4 →
            Run ((w4.setCells R 0 (u32s (mix st blk2).list)).setCell ⟨R, 72, none⟩ (.int .i64 0)) R (mixAll s (q ++ bs.take (k + X.length))) (restOf (q ++ bs.take (k + X.length))) (n + bs.length) ∧
            Keep R w ((w4.setCells R 0 (u32s (mix st blk2).list)).setCell ⟨R, 72, none⟩ (.int .i64 0))) := by
          intro w4 _ w3 h3 k3 b34
          have h4 : Blk w4 R (runCells st blk2 64 tot) := h3.below b34 h3.lt
          have h5 := Blk.cellsAt (u32s (mix st blk2).list) h4 0 (by rw [runCells_length st blk2 64 tot hsl]; simp [St.list_length])
          rw [runCells_words] at h5
          have h6 := h5.set 72 (.int .i64 ((0 : Nat) : Int))
          rw [runCells_set72 _ blk2 64 _ tot hsl] at h6
          refine ⟨?_, ((k3.trans (Keep.of_below b34)).setCells _ 0).setCell 72 _⟩
          rw [HAP1.out, HAP2.out, HF1.out, HF2.out, ← HTOT.out]
          exact ⟨blk2, hsl, rfl, by decide, h6⟩
        by_cases hcap : cap - k = X.length
        all_goals
          go_wp2_with fail
          generalize hw3 : World.setCell w2 _ _ = w3
          rw [hw3] at hB3 hK3
          clear hw3 hB2 hK2 d72 g72 HROW HR72 HB1 hKeep
          have hKw : Kw w3 := fun i hi => hK3.cell (by omega) (HK.out i hi)
          have hr8 : w3.rangeAt R 8 (u8s blk2) := fun j v hv => by rw [hB3.cell]; exact runCells_blkAt st blk2 64 tot j v hv
          have HKW : Hid (Kw w3) := hKw
          clear hKw
          have hu44 := HU44.out
          have hi44 := HI44.out
          have l64 : (u8s blk2).length = 64 := by simp [hsl]
          obtain ⟨c0, c1, c2, c3, c4, c5, c6, c7⟩ := hB3.cell8
          obtain ⟨sm, hsm⟩ : ∃ x, x = mix st blk2 := ⟨_, rfl⟩
          have HSM : Hid (sm = mix st blk2) := hsm
          clear hsm
          have HB3 : Hid (Blk w3 R _) := hB3
          have HRA : Hid (∀ w4 : World, Below w3.heap.size w3 w4 → (w4.setCells R 0 (u32s sm.list)).rangeAt R 8 (u8s blk2)) := by
            intro w4 hb4 j v hv
            have h4 : Blk w4 R (runCells st blk2 64 tot) := HB3.out.below hb4 HB3.out.lt
            have h5 := Blk.cellsAt (u32s sm.list) h4 0 (by rw [runCells_length st blk2 64 tot hsl]; simp [St.list_length])
            rw [runCells_words] at h5
            rw [h5.cell]; exact runCells_blkAt sm blk2 64 tot j v hv
          clear hB3
          have hmo : Tryd.prog.follows .mixedOrders = true := by kernel_rfl
          refine wp_region_noPanic ?_
          refine wp_region_held_drew (S := fun w' => w'.rangeAt R 8 (u8s blk2)) hmo hr8 (fun hHeld => ?_)
          clear hmo
          refine wpAnyH_take (i := 0) (oi := { dst := some 44, op := .move (.tmp 0), type := 57, pos := "sha.go:126", after := #[], guard := none }) (v := ?_) rfl (by kernel_rfl) (by kernel_rfl) (by kernel_rfl) (fun _ _ _ h => h) (Or.inl ⟨by rfl, ?_⟩) (by assumption) ?_
          rotate_left
          · intro _ _; go_simp; first | done | with_reducible rfl
          simp only [Act.put, List.setIfInBounds_toArray, List.set_cons_zero, List.set_cons_succ]
          refine wpAnyH_take (i := 1) (oi := { dst := some 45, op := .move (.tmp 0), type := 57, pos := "sha.go:126", after := #[], guard := none }) (v := ?_) rfl (by kernel_rfl) (by kernel_rfl) (by kernel_rfl) (fun _ _ _ h => h) (Or.inl ⟨by rfl, ?_⟩) (by assumption) ?_
          rotate_left
          · intro _ _; go_simp; first | done | with_reducible rfl
          simp only [Act.put, List.setIfInBounds_toArray, List.set_cons_zero, List.set_cons_succ]
          refine wpAnyH_take (i := 2) (oi := { dst := some 46, op := .nilCheck (.tmp 45), type := 0, pos := "sha.go:126", after := #[{ on := 1, ground := .data }], guard := none }) (v := ?_) rfl (by kernel_rfl) (by kernel_rfl) (by kernel_rfl) (fun _ _ _ h => h) (Or.inl ⟨by rfl, ?_⟩) (by assumption) ?_
          rotate_left
          · intro _ _; go_simp; first | done | with_reducible rfl
          simp only [Act.put, List.setIfInBounds_toArray, List.set_cons_zero, List.set_cons_succ]
          refine wpAnyH_take (i := 3) (oi := { dst := some 47, op := .fieldAddr 47 (.tmp 46) 0, type := 0, pos := "sha.go:126", after := #[{ on := 2, ground := .data }], guard := none }) (v := ?_) rfl (by kernel_rfl) (by kernel_rfl) (by kernel_rfl) (fun _ _ _ h => h) (Or.inl ⟨by rfl, ?_⟩) (by assumption) ?_
          rotate_left
          · intro _ _; go_simp; first | done | with_reducible rfl
          simp only [Act.put, List.setIfInBounds_toArray, List.set_cons_zero, List.set_cons_succ]
          refine wpAnyH_take (i := 5) (oi := { dst := some 49, op := .move (.tmp 0), type := 57, pos := "sha.go:126", after := #[], guard := none }) (v := ?_) rfl (by kernel_rfl) (by kernel_rfl) (by kernel_rfl) (fun _ _ _ h => h) (Or.inl ⟨by rfl, ?_⟩) (by assumption) ?_
          rotate_left
          · intro _ _; go_simp; first | done | with_reducible rfl
          simp only [Act.put, List.setIfInBounds_toArray, List.set_cons_zero, List.set_cons_succ]
          refine wpAnyH_take (i := 6) (oi := { dst := some 50, op := .nilCheck (.tmp 49), type := 0, pos := "sha.go:126", after := #[{ on := 5, ground := .data }], guard := none }) (v := ?_) rfl (by kernel_rfl) (by kernel_rfl) (by kernel_rfl) (fun _ _ _ h => h) (Or.inl ⟨by rfl, ?_⟩) (by assumption) ?_
          rotate_left
          · intro _ _; go_simp; first | done | with_reducible rfl
          simp only [Act.put, List.setIfInBounds_toArray, List.set_cons_zero, List.set_cons_succ]
          refine wpAnyH_take (i := 7) (oi := { dst := some 51, op := .fieldAddr 47 (.tmp 50) 1, type := 0, pos := "sha.go:126", after := #[{ on := 6, ground := .data }], guard := none }) (v := ?_) rfl (by kernel_rfl) (by kernel_rfl) (by kernel_rfl) (fun _ _ _ h => h) (Or.inl ⟨by rfl, ?_⟩) (by assumption) ?_
          rotate_left
          · intro _ _; go_simp; first | done | with_reducible rfl
          simp only [Act.put, List.setIfInBounds_toArray, List.set_cons_zero, List.set_cons_succ]
          refine wpAnyH_take (i := 8) (oi := { dst := some 52, op := .load 44 (.tmp 51), type := 44, pos := "sha.go:126", after := #[{ on := 7, ground := .data }], guard := none }) (v := _) rfl (by kernel_rfl) (by kernel_rfl) (by kernel_rfl) (fun _ _ _ h => h) (yieldsIf_load_mid (by rfl) _ _ rfl R 8 rfl (u8s blk2) _ (fun _ h => h) HU44.out rfl HI44.out) (by assumption) ?_
          simp only [Act.put, List.setIfInBounds_toArray, List.set_cons_zero, List.set_cons_succ]
          refine wpAnyH_ready (rs := [4]) (by kernel_rfl) (by simp) ?_
          refine AllReadyH.cons (o := { dst := some 48, op := .load 41 (.tmp 47), type := 41, pos := "sha.go:126", after := #[{ on := 3, ground := .data }], guard := none }) rfl (fun K hK => ?_) AllReadyH.nil
          go_simp
          refine hK.out _ _ hr8 (fun hHeld => ?_)
          clear hK K
          refine wpAnyH_ready (rs := [9]) (by kernel_rfl) (by simp) ?_
          refine AllReadyH.cons (o := { dst := some 53, op := .call { callee := .value (.func 29), args := #[.tmp 48, .tmp 52], argTypes := #[41, 44] }, type := 41, pos := "sha.go:126", after := #[{ on := 4, ground := .data }, { on := 8, ground := .data }], guard := none }) rfl (fun K hK => ?_) AllReadyH.nil
          go_simp
          refine (mix_any8 st sm blk2 hsl HSM.out w3.drew HKW.out).mono ?_
          rintro e w4 ⟨rfl, hb4⟩
          have hb4' : Below w3.heap.size w3 w4 := below_undrew hb4
          have hB4 := HB3.out.below hb4' HB3.out.lt
          have hr84 : w4.rangeAt R 8 (u8s blk2) := fun j v hv => by rw [hB4.cell]; exact runCells_blkAt st blk2 64 tot j v hv
          obtain ⟨p0, p1, p2, p3, p4, p5, p6, p7⟩ := hB4.cell8
          have fz := hB4.froz
          clear hB4
          go_simp
          refine hK.out _ _ hr84 (fun hHeld => ?_)
          clear hK K
          refine wpAnyH_take (i := 10) (oi := { dst := some 54, op := .nilCheck (.tmp 44), type := 0, pos := "sha.go:126", after := #[{ on := 0, ground := .data }, { on := 0, ground := .phase }, { on := 1, ground := .phase }, { on := 2, ground := .phase }, { on := 3, ground := .phase }, { on := 4, ground := .phase }, { on := 5, ground := .phase }, { on := 6, ground := .phase }, { on := 7, ground := .phase }, { on := 8, ground := .phase }, { on := 9, ground := .phase }], guard := none }) (v := ?_) rfl (by kernel_rfl) (by kernel_rfl) (by kernel_rfl) (fun _ _ _ h => h) (Or.inl ⟨by rfl, ?_⟩) (by assumption) ?_
          rotate_left
          · intro _ _; go_simp; first | done | with_reducible rfl
          simp only [Act.put, List.setIfInBounds_toArray, List.set_cons_zero, List.set_cons_succ]
          refine wpAnyH_take (i := 11) (oi := { dst := some 55, op := .fieldAddr 47 (.tmp 54) 0, type := 0, pos := "sha.go:126", after := #[{ on := 10, ground := .data }, { on := 0, ground := .phase }, { on := 1, ground := .phase }, { on := 2, ground := .phase }, { on := 3, ground := .phase }, { on := 4, ground := .phase }, { on := 5, ground := .phase }, { on := 6, ground := .phase }, { on := 7, ground := .phase }, { on := 8, ground := .phase }, { on := 9, ground := .phase }], guard := none }) (v := ?_) rfl (by kernel_rfl) (by kernel_rfl) (by kernel_rfl) (fun _ _ _ h => h) (Or.inl ⟨by rfl, ?_⟩) (by assumption) ?_
          rotate_left
          · intro _ _; go_simp; first | done | with_reducible rfl
          simp only [Act.put, List.setIfInBounds_toArray, List.set_cons_zero, List.set_cons_succ]
          refine wpAnyH_ready (rs := [12]) (by kernel_rfl) (by simp) ?_
          refine AllReadyH.cons (o := { dst := none, op := .store 41 (.tmp 55) (.tmp 53), type := 0, pos := "sha.go:126", after := #[{ on := 11, ground := .data }, { on := 9, ground := .data }, { on := 9, ground := .chain }, { on := 0, ground := .phase }, { on := 1, ground := .phase }, { on := 2, ground := .phase }, { on := 3, ground := .phase }, { on := 4, ground := .phase }, { on := 5, ground := .phase }, { on := 6, ground := .phase }, { on := 7, ground := .phase }, { on := 8, ground := .phase }, { on := 9, ground := .phase }], guard := none }) rfl (fun K hK => ?_) AllReadyH.nil
          go_simp
          refine hK.out _ _ (HRA.out w4 hb4') (fun hHeld => ?_)
          clear hK K
          refine wpAnyH_done (by kernel_rfl) ?_ _
          refine NoPanic.normal ?_
          obtain ⟨hE1, hE2⟩ := HEND.out w4 (Below.refl _ _) w3 HB3.out hK3 hb4'
          rw [← HSM.out] at hE1 hE2
          have hB5 : Blk (w4.setCells R 0 (u32s sm.list)) R (runCells sm blk2 64 tot) := by
            have h4 : Blk w4 R (runCells st blk2 64 tot) := HB3.out.below hb4' HB3.out.lt
            have h5 := Blk.cellsAt (u32s sm.list) h4 0 (by rw [runCells_length st blk2 64 tot hsl]; simp [St.list_length])
            rw [runCells_words] at h5
            exact h5
          obtain ⟨w5, hw5⟩ : ∃ x, x = w4.setCells R 0 (u32s sm.list) := ⟨_, rfl⟩
          rw [← hw5] at hE1 hE2 hB5
          have e72 := hB5.cell 72
          rw [runCells_72 sm _ 64 tot hsl] at e72
          have k72 := hB5.frozen 72
          have HE1 : Hid (Run _ _ _ _ _) := hE1
          have HE2 : Hid (Keep _ _ _) := hE2
          clear hE1 hE2 hHeld p0 p1 p2 p3 p4 p5 p6 p7 fz hr84 c0 c1 c2 c3 c4 c5 c6 c7 hr8 hu44 hi44
          generalize hw5' : World.setCell _ ⟨R, 7, none⟩ _ = w6
          obtain rfl : w5 = w6 := hw5.trans hw5'
          clear hw5 hw5'
          go_wp2_with fail
          go_roundw
          case rel =>
            refine ⟨k + X.length, by omega, _, slice_eq (by omega) (by omega), ?_, HE1.out, HE2.out⟩
            first | exact HPA2.out | (intro h; omega)
          case measure => simp [lenV]; omega
      · have e8 : ((f : Int) + (X.length : Int) == 64) = false := by rw [beq_eq_false_iff_ne]; omega
        have HRun : Hid (Run (w2.setCell ⟨R, 72, none⟩ (.int .i64 ((f : Int) + (X.length : Int)))) R (mixAll s (q ++ bs.take (k + X.length))) (restOf (q ++ bs.take (k + X.length))) (n + bs.length)) := by
          show Run _ _ _ _ _
          obtain ⟨f1, f2⟩ := feed_less st q1 X (by rw [← HF.out]; omega)
          rw [HAP1.out, HAP2.out, f1, f2, ← HTOT.out]
          refine ⟨blk2, hsl, by rw [HQL.out]; exact HBT.out, by rw [HQL.out]; omega, ?_⟩
          have := hB2.set 72 (.int .i64 ((f + X.length : Nat) : Int))
          rw [runCells_set72 st blk2 f _ tot hsl] at this
          rw [HQL.out, show ((f : Int) + (X.length : Int)) = ((f + X.length : Nat) : Int) by omega]
          exact this
        by_cases hcap : cap - k = X.length
        all_goals
          go_wp2_with fail
          go_roundw
          case rel =>
            refine ⟨k + X.length, by omega, _, slice_eq (by omega) (by omega), ?_, HRun.out, hK2.setCell 72 _⟩
            first | exact HPA2.out | (intro h; omega)
          case measure => simp [lenV]; omega
    · obtain rfl : k = bs.length := by omega
      rw [HST.out, HQ1.out, HTOT.out, List.take_length] at hRun
      go_wp2
      go_end0
      exact ⟨rfl, hRun, hKeep⟩
end Go.Proofs.YtbjndfnpfmeioaaDoor
