/- (*running).add lets one more piece come: the words and what is left over are as behind all bytes. sha.begin is the sum of which nothing has come. No conditions. (*running).end closes the sum. sha.Sum is the standard's sum of all pieces, one behind the other. -/
import Derived.Test.YtlapnnkahijikaaDoorZS1
import Derived.Test.YtlapnnkahijikaaDoorZS2
import Derived.Deep.RegionHeld3
import Derived.Deep.WholeRow
import Derived.OwnWalk
import Derived.Deep.CutRange
import Derived.Deep.DeepCutAuto
namespace Go.Proofs.YtlapnnkahijikaaDoor
open Go.ChangeShapes Go.WideShapes Go.ChangeAt Go.RowKit

/-- Block R holds a running sum: the words s, the bytes q that are not mixed in yet, n bytes in all. -/
def Run (w : World) (R : Nat) (s : St) (q : List (BitVec 8)) (n : Nat) : Prop :=
  ∃ blk : List (BitVec 8), blk.length = 64 ∧ blk.take q.length = q ∧ q.length < 64 ∧ Blk w R (runCells s blk q.length n)
/-- A slice of bytes that lie outside block R. -/
structure Src (w : World) (R : Nat) (a : Option Addr) (cap : Nat) (bs : List (BitVec 8)) : Prop where
  room : bs.length ≤ cap
  most : cap ≤ maxLen
  lie : bs ≠ [] → ∃ b off, a = some ⟨b, off, none⟩ ∧ b ≠ R ∧ ∀ j, j < bs.length → w.cell? ⟨b, off + j, none⟩ = some (.int .u8 (Y (bs.getD j 0)))

theorem slice_eq {a : Option Addr} {n n' c c' : Nat} (h : n = n') (h' : c = c') : Value.slice a n c = Value.slice a n' c' := by rw [h, h']
def lenV : Value → Nat | .slice _ n _ => n | _ => 0

def w8 (s : St) : Array Value := #[.int .u32 (U s.a), .int .u32 (U s.b), .int .u32 (U s.c), .int .u32 (U s.d), .int .u32 (U s.e), .int .u32 (U s.f), .int .u32 (U s.g), .int .u32 (U s.h)]
theorem mix_any8 (s s' : St) (p : List (BitVec 8)) (hp : p.length = 64) (hs : s' = mix s p) (w : World) (hK : Kw w) :
    Calls Tryd.prog 60 #[.agg #[.int .u32 (U s.a), .int .u32 (U s.b), .int .u32 (U s.c), .int .u32 (U s.d), .int .u32 (U s.e), .int .u32 (U s.f), .int .u32 (U s.g), .int .u32 (U s.h)], .agg (u8s p).toArray] w fun e w' =>
      e = .returned (.agg #[.int .u32 (U s'.a), .int .u32 (U s'.b), .int .u32 (U s'.c), .int .u32 (U s'.d), .int .u32 (U s'.e), .int .u32 (U s'.f), .int .u32 (U s'.g), .int .u32 (U s'.h)]) ∧ Below w.heap.size w w' := by
  subst hs; exact mix_any s p hp w hK
theorem Blk.cell8 {w : World} {R : Nat} {s : St} {blk : List (BitVec 8)} {f n : Nat} (h : Blk w R (runCells s blk f n)) :
    w.cell? ⟨R, 0, none⟩ = some (.int .u32 (U s.a)) ∧ w.cell? ⟨R, 1, none⟩ = some (.int .u32 (U s.b)) ∧ w.cell? ⟨R, 2, none⟩ = some (.int .u32 (U s.c)) ∧ w.cell? ⟨R, 3, none⟩ = some (.int .u32 (U s.d)) ∧
    w.cell? ⟨R, 4, none⟩ = some (.int .u32 (U s.e)) ∧ w.cell? ⟨R, 5, none⟩ = some (.int .u32 (U s.f)) ∧ w.cell? ⟨R, 6, none⟩ = some (.int .u32 (U s.g)) ∧ w.cell? ⟨R, 7, none⟩ = some (.int .u32 (U s.h)) :=
  ⟨h.cell 0, h.cell 1, h.cell 2, h.cell 3, h.cell 4, h.cell 5, h.cell 6, h.cell 7⟩
theorem Blk.froz {w : World} {R : Nat} {cs : List Value} (h : Blk w R cs) : ∀ i, w.frozen? ⟨R, i, none⟩ = false := h.frozen

set_option maxRecDepth 100000 in
set_option maxHeartbeats 4000000 in
theorem add_any (R : Nat) (s : St) (q : List (BitVec 8)) (n : Nat) (a : Option Addr) (cap : Nat) (bs : List (BitVec 8)) (w : World) (hK : Kw w) (hR : 0 < R)
    (hrun : Run w R s q n) (hsrc : Src w R a cap bs) (hn : n + bs.length < 1152921504606846976) :
    Calls Tryd.prog 51 #[.pointer (some ⟨R, 0, none⟩), .slice a bs.length cap] w fun e w' => e = .returned (.tuple #[]) ∧
      Run w' R (mixAll s (q ++ bs)) (restOf (q ++ bs)) (n + bs.length) ∧ Keep R w w' := by
  obtain ⟨blk, hbl, hbq, hq, hB⟩ := hrun
  have HK : Hid (Kw w) := hK
  have hm := hsrc.most
  unfold maxLen at hm
  have hr := hsrc.room
  have HS : Hid (Src w R a cap bs) := hsrc
  have HBQ : Hid (blk.take q.length = q) := hbq
  clear hK hsrc hbq
  have c73 := hB.cell 73
  rw [runCells_73 s blk _ n hbl] at c73
  have f73 := hB.frozen 73
  go_enter Tryd.func51, Tryd.ntmps51
  go_wp2_with fail
  generalize hw1 : World.setCell w _ _ = w1
  have hB1 : Blk w1 R (runCells s blk q.length (n + bs.length)) := by
    rw [← hw1, show ((n : Int) + (bs.length : Int)) = ((n + bs.length : Nat) : Int) by omega]
    have := hB.set 73 (.int .u64 ((n + bs.length : Nat) : Int))
    rw [runCells_set73 s blk _ n _ hbl] at this
    exact this
  have hK1 : Keep R w w1 := by rw [← hw1]; exact (Keep.refl R w).setCell 73 _
  clear hw1 hB c73 f73
  have hB0 : Run w1 R (mixAll s (q ++ bs.take 0)) (restOf (q ++ bs.take 0)) (n + bs.length) := by
    rw [List.take_zero, List.append_nil, mixAll_short s q hq, restOf_short q hq]
    exact ⟨blk, hbl, HBQ.out, hq, hB1⟩
  clear hB1 hbl HBQ hq
  go_loopw [1] (fun sv wr => ∃ k : Nat, k ≤ bs.length ∧ ∃ pa, sv = .slice pa (bs.length - k) (cap - k) ∧ Hid (k < bs.length → ∀ b off, a = some ⟨b, off, none⟩ → pa = some ⟨b, off + k, none⟩) ∧ Run wr R (mixAll s (q ++ bs.take k)) (restOf (q ++ bs.take k)) (n + bs.length) ∧ Keep R w wr) (fun sv _ => lenV sv)
  case atStart => exact ⟨0, Nat.zero_le _, a, by simp, fun _ b off h => by simpa using h, hB0, hK1⟩
  case round =>
    obtain ⟨k, hk, pa, rfl, HPA, hRun, hKeep⟩ := hrel
    clear hB0 hK1
    obtain ⟨st, hst⟩ : ∃ x, x = mixAll s (q ++ bs.take k) := ⟨_, rfl⟩
    obtain ⟨q1, hq1⟩ : ∃ x, x = restOf (q ++ bs.take k) := ⟨_, rfl⟩
    rw [← hst, ← hq1] at hRun
    have HST : Hid (st = _) := hst
    have HQ1 : Hid (q1 = _) := hq1
    clear hst hq1
    obtain ⟨tot, htot⟩ : ∃ x, x = n + bs.length := ⟨_, rfl⟩
    rw [← htot] at hRun
    have HTOT : Hid (tot = _) := htot
    clear htot
    by_cases hlt : k < bs.length
    · obtain ⟨b, off, rfl, hbR, hcs⟩ := HS.out.lie (by intro h; rw [h] at hlt; simp at hlt)
      obtain rfl := HPA.out hlt b off rfl
      obtain ⟨blk1, hbl1, hbq1, hq1, hB1⟩ := hRun
      obtain ⟨f, hf⟩ : ∃ x, x = q1.length := ⟨_, rfl⟩
      rw [← hf] at hbq1 hq1 hB1
      have HF : Hid (f = q1.length) := hf
      have HBQ1 : Hid (blk1.take f = q1) := hbq1
      clear hf hbq1
      obtain ⟨m, hmin⟩ : ∃ x, x = Nat.min (bs.length - k) (64 - f) := ⟨_, rfl⟩
      have HM : Hid (m = Nat.min (bs.length - k) (64 - f)) := hmin
      have hm1 : m ≤ 64 - f := by rw [hmin]; exact Nat.min_le_right _ _
      have hm2 : m ≤ bs.length - k := by rw [hmin]; exact Nat.min_le_left _ _
      have hm0 : 0 < m := by rw [hmin]; exact Nat.lt_min.2 ⟨by omega, by omega⟩
      have hm3 : m = 64 - f ∨ m = bs.length - k := by
        rw [hmin]; rcases Nat.le_total (bs.length - k) (64 - f) with h | h
        · right; exact Nat.min_eq_left h
        · left; exact Nat.min_eq_right h
      have HM3 : Hid (m = 64 - f ∨ m = bs.length - k) := hm3
      clear hmin hm3
      obtain ⟨X, hX⟩ : ∃ x, x = (bs.drop k).take m := ⟨_, rfl⟩
      have hXl : X.length = m := by rw [hX, List.length_take, List.length_drop]; omega
      have HXC : Hid (∀ j v, (u8s X)[j]? = some v → wr.cell? ((⟨b, off + k, none⟩ : Addr).add j) = some v) := by
        intro j v hv
        have hj : j < X.length := by simpa using (List.getElem?_eq_some_iff.1 hv).1
        rw [u8s_get X j hj] at hv
        have e : X.getD j 0 = bs.getD (k + j) 0 := by
          rw [hX, List.getD_eq_getElem?_getD, List.getD_eq_getElem?_getD, List.getElem?_take_of_lt (by omega), List.getElem?_drop]
        rw [Addr.add_mid, ← hv, e, Nat.add_assoc]
        exact hKeep.cell hbR (hcs (k + j) (by omega))
      have HX : Hid (X = (bs.drop k).take m) := hX
      have HN : Hid ((u8s X).length = Nat.min (bs.length - k) (64 - f)) := by rw [← HM.out]; show (u8s X).length = m; rw [u8s_length]; exact hXl
      have HFIT : Hid (8 + f + (u8s X).length ≤ (runCells st blk1 f tot).length) := by rw [runCells_length st blk1 f tot hbl1]; show 8 + f + (u8s X).length ≤ 74; rw [u8s_length]; omega
      have c72 := hB1.cell 72
      rw [runCells_72 st blk1 f tot hbl1] at c72
      obtain ⟨t1, hg1⟩ := hB1
      have HB1 : Hid (wr.heap[R]? = _) := hg1
      have hrow : Blk (wr.setRow R (splice (runCells st blk1 f tot) (8 + f) (u8s X)).toArray) R (runCells st (splice blk1 f X) f tot) := by
        have := Blk.row (ds := splice (runCells st blk1 f tot) (8 + f) (u8s X)) ⟨t1, hg1⟩
        rw [runCells_copy st blk1 f tot hbl1 f X (by omega)] at this
        rw [runCells_copy st blk1 f tot hbl1 f X (by omega)]
        exact this
      have hsl : (splice blk1 f X).length = 64 := by rw [length_splice _ _ _ (by omega)]; exact hbl1
      have r72 := hrow.cell 72
      rw [runCells_72 st _ f tot hsl] at r72
      have HR72 : Hid (World.cell? _ _ = _) := r72
      have HROW : Hid (Blk _ _ _) := hrow
      clear hg1 hrow r72 hX hcs
      subst hXl
      have e0 : (0 : Int) ≤ (f : Int) := by omega
      have e1 : (f : Int) < 64 := by omega
      have e2 : (f : Int) ≤ 64 := by omega
      have e3 : ¬ 64 = f := by omega
      go_wp2_with fail
      go_region_held3 (fun w1 => w1.cell? ⟨R, 72, none⟩ = some (.int .i64 (f : Int))) (first | exact c72 | exact HR72.out) ((refine step_copy_pos rfl (.tmp 25) (.tmp 26) 40 40 rfl 5 Tryd.underlying40 (by kernel_rfl) R (8 + f) _ _ _ _ _ rfl rfl (runCells st blk1 f tot) t1 HB1.out (u8s X) HN.out HXC.out HFIT.out (u8s_mem X) ?_))
      generalize hw2 : World.setRow _ _ _ = w2
      have hB2 : Blk w2 R (runCells st (splice blk1 f X) f tot) := by rw [← hw2]; exact HROW.out
      have hK2 : Keep R w w2 := by rw [← hw2]; exact hKeep.drew.setRow _
      clear hw2 c72
      obtain ⟨blk2, hblk2⟩ : ∃ x, x = splice blk1 f X := ⟨_, rfl⟩
      rw [← hblk2] at hB2 hsl
      have HBT : Hid (blk2.take (f + X.length) = q1 ++ X) := by
        show blk2.take (f + X.length) = q1 ++ X
        rw [hblk2]; unfold splice
        have h0 : (blk1.take f).length = f := by rw [List.length_take]; omega
        rw [← List.append_assoc, List.take_append_of_le_length (by rw [List.length_append, h0]; exact Nat.le_refl _), List.take_of_length_le (by rw [List.length_append, h0]; exact Nat.le_refl _), HBQ1.out]
      clear hblk2
      have d72 := hB2.cell 72
      rw [runCells_72 st _ f tot hsl] at d72
      have g72 := hB2.frozen 72
      have e4 : (0 : Int) ≤ (X.length : Int) := by omega
      have e5 : (X.length : Int) ≤ ((bs.length - k : Nat) : Int) := by omega
      have e6 : (X.length : Int) ≤ ((cap - k : Nat) : Int) := by omega
      have e7 : (f : Int) + (X.length : Int) ≤ 64 := by omega
      have HT : Hid (bs.take (k + X.length) = bs.take k ++ X) := by
        show bs.take (k + X.length) = bs.take k ++ X
        rw [List.take_add, ← HX.out]
      have HQL : Hid ((q1 ++ X).length = f + X.length) := by show (q1 ++ X).length = f + X.length; rw [List.length_append, HF.out]
      have HAP1 : Hid (mixAll s (q ++ bs.take (k + X.length)) = mixAll st (q1 ++ X)) := by
        show mixAll s (q ++ bs.take (k + X.length)) = mixAll st (q1 ++ X)
        rw [HT.out, ← List.append_assoc, mixAll_app, ← HST.out, ← HQ1.out]
      have HAP2 : Hid (restOf (q ++ bs.take (k + X.length)) = restOf (q1 ++ X)) := by
        show restOf (q ++ bs.take (k + X.length)) = restOf (q1 ++ X)
        rw [HT.out, ← List.append_assoc, restOf_app, ← HQ1.out]
      have HPA2 : Hid (k + X.length < bs.length → ∀ b' off', (some ⟨b, off, none⟩ : Option Addr) = some ⟨b', off', none⟩ → (some ⟨b, off + k + X.length, none⟩ : Option Addr) = some ⟨b', off' + (k + X.length), none⟩) := by
        intro _ b' off' h
        injection h with h; injection h with h1 h2
        subst h1; subst h2; rw [Nat.add_assoc]
      by_cases hfull : f + X.length = 64
      · have e8 : (f : Int) + (X.length : Int) = 64 := by omega
        have hB3 : Blk (w2.setCell ⟨R, 72, none⟩ (.int .i64 64)) R (runCells st blk2 64 tot) := by
          have := hB2.set 72 (.int .i64 ((64 : Nat) : Int))
          rw [runCells_set72 st blk2 f _ tot hsl] at this
          exact this
        obtain ⟨f1, f2⟩ := feed_full st q1 X (by rw [← HF.out]; exact hfull)
        have hq : q1 ++ X = blk2 := by
          have := HBT.out
          rw [hfull, List.take_of_length_le (by omega)] at this
          exact this.symm
        rw [hq] at f1
        have HF1 : Hid (mixAll st (q1 ++ X) = mix st blk2) := by show mixAll st (q1 ++ X) = _; rw [hq]; exact f1
        have HF2 : Hid (restOf (q1 ++ X) = []) := f2
        clear f1 f2 hq
        have hK3 : Keep R w (w2.setCell ⟨R, 72, none⟩ (.int .i64 64)) := hK2.setCell 72 _
        have hu41 := Tryd.underlying93
        have hu44 := Tryd.underlying94
        have hi41 : (Tryd.prog.info? 93).map (·.size) = some (u32s st.list).length := by
          rw [show (u32s st.list).length = 8 by simp [St.list_length]]; kernel_rfl
        have hi44 : (Tryd.prog.info? 94).map (·.size) = some (u8s blk2).length := by
          rw [show (u8s blk2).length = 64 by simp [hsl]]; kernel_rfl
        have HU41 : Hid (_ = _) := hu41
        have HU44 : Hid (_ = _) := hu44
        have HI41 : Hid (_ = _) := hi41
        have HI44 : Hid (_ = _) := hi44
        clear hu41 hu44 hi41 hi44
        have HEND : Hid (∀ w4 : World, Below w4.heap.size w4 w4 → ∀ w3 : World, Blk w3 R (runCells st blk2 64 tot) → Keep R w w3 → Below w3.heap.size w3 w4 →
            Run ((w4.setCells R 0 (u32s (mix st blk2).list)).setCell ⟨R, 72, none⟩ (.int .i64 0)) R (mixAll s (q ++ bs.take (k + X.length))) (restOf (q ++ bs.take (k + X.length))) (n + bs.length) ∧
            Keep R w ((w4.setCells R 0 (u32s (mix st blk2).list)).setCell ⟨R, 72, none⟩ (.int .i64 0))) := by
          intro w4 _ w3 h3 k3 b34
          have h4 : Blk w4 R (runCells st blk2 64 tot) := h3.below b34 h3.lt
          have h5 := Blk.cellsAt (u32s (mix st blk2).list) h4 0 (by rw [runCells_length st blk2 64 tot hsl]; simp [St.list_length])
          rw [runCells_words] at h5
          have h6 := h5.set 72 (.int .i64 ((0 : Nat) : Int))
          rw [runCells_set72 _ blk2 64 _ tot hsl] at h6
          refine ⟨?_, ((k3.trans (Keep.of_below b34)).setCells _ 0).setCell 72 _⟩
          rw [HAP1.out, HAP2.out, HF1.out, HF2.out, ← HTOT.out]
          exact ⟨blk2, hsl, rfl, by decide, h6⟩
        by_cases hcap : cap - k = X.length
        all_goals
          go_wp2_with fail
          generalize hw3 : World.setCell w2 _ _ = w3
          rw [hw3] at hB3 hK3
          clear hw3 hB2 hK2 d72 g72 HROW HR72 HB1 hKeep
          have hKw : Kw w3 := fun i hi => hK3.cell (by omega) (HK.out i hi)
          have hr8 : w3.rangeAt R 8 (u8s blk2) := fun j v hv => by rw [hB3.cell]; exact runCells_blkAt st blk2 64 tot j v hv
          have HKW : Hid (Kw w3) := hKw
          clear hKw
          have hu44 := HU44.out
          have hi44 := HI44.out
          have l64 : (u8s blk2).length = 64 := by simp [hsl]
          obtain ⟨c0, c1, c2, c3, c4, c5, c6, c7⟩ := hB3.cell8
          obtain ⟨sm, hsm⟩ : ∃ x, x = mix st blk2 := ⟨_, rfl⟩
          have HSM : Hid (sm = mix st blk2) := hsm
          clear hsm
          have HB3 : Hid (Blk w3 R _) := hB3
          have HRA : Hid (∀ w4 : World, Below w3.heap.size w3 w4 → (w4.setCells R 0 (u32s sm.list)).rangeAt R 8 (u8s blk2)) := by
            intro w4 hb4 j v hv
            have h4 : Blk w4 R (runCells st blk2 64 tot) := HB3.out.below hb4 HB3.out.lt
            have h5 := Blk.cellsAt (u32s sm.list) h4 0 (by rw [runCells_length st blk2 64 tot hsl]; simp [St.list_length])
            rw [runCells_words] at h5
            rw [h5.cell]; exact runCells_blkAt sm blk2 64 tot j v hv
          clear hB3
          have hmo : Tryd.prog.follows .mixedOrders = true := by kernel_rfl
          refine wp_region_noPanic ?_
          refine wp_region_held_drew (S := fun w' => w'.rangeAt R 8 (u8s blk2)) hmo hr8 (fun hHeld => ?_)
          clear hmo
          refine wpAnyH_take (i := 0) (oi := { dst := some 44, op := .move (.tmp 0), type := 107, pos := "sha.go:126", after := #[], guard := none }) (v := ?_) rfl (by kernel_rfl) (by kernel_rfl) (by kernel_rfl) (fun _ _ _ h => h) (Or.inl ⟨by rfl, ?_⟩) (by assumption) ?_
          rotate_left
          · intro _ _; go_simp; first | done | with_reducible rfl
          simp only [Act.put, List.setIfInBounds_toArray, List.set_cons_zero, List.set_cons_succ]
          refine wpAnyH_take (i := 1) (oi := { dst := some 45, op := .move (.tmp 0), type := 107, pos := "sha.go:126", after := #[], guard := none }) (v := ?_) rfl (by kernel_rfl) (by kernel_rfl) (by kernel_rfl) (fun _ _ _ h => h) (Or.inl ⟨by rfl, ?_⟩) (by assumption) ?_
          rotate_left
          · intro _ _; go_simp; first | done | with_reducible rfl
          simp only [Act.put, List.setIfInBounds_toArray, List.set_cons_zero, List.set_cons_succ]
          refine wpAnyH_take (i := 2) (oi := { dst := some 46, op := .nilCheck (.tmp 45), type := 0, pos := "sha.go:126", after := #[{ on := 1, ground := .data }], guard := none }) (v := ?_) rfl (by kernel_rfl) (by kernel_rfl) (by kernel_rfl) (fun _ _ _ h => h) (Or.inl ⟨by rfl, ?_⟩) (by assumption) ?_
          rotate_left
          · intro _ _; go_simp; first | done | with_reducible rfl
          simp only [Act.put, List.setIfInBounds_toArray, List.set_cons_zero, List.set_cons_succ]
          refine wpAnyH_take (i := 3) (oi := { dst := some 47, op := .fieldAddr 97 (.tmp 46) 0, type := 0, pos := "sha.go:126", after := #[{ on := 2, ground := .data }], guard := none }) (v := ?_) rfl (by kernel_rfl) (by kernel_rfl) (by kernel_rfl) (fun _ _ _ h => h) (Or.inl ⟨by rfl, ?_⟩) (by assumption) ?_
          rotate_left
          · intro _ _; go_simp; first | done | with_reducible rfl
          simp only [Act.put, List.setIfInBounds_toArray, List.set_cons_zero, List.set_cons_succ]
          refine wpAnyH_take (i := 5) (oi := { dst := some 49, op := .move (.tmp 0), type := 107, pos := "sha.go:126", after := #[], guard := none }) (v := ?_) rfl (by kernel_rfl) (by kernel_rfl) (by kernel_rfl) (fun _ _ _ h => h) (Or.inl ⟨by rfl, ?_⟩) (by assumption) ?_
          rotate_left
          · intro _ _; go_simp; first | done | with_reducible rfl
          simp only [Act.put, List.setIfInBounds_toArray, List.set_cons_zero, List.set_cons_succ]
          refine wpAnyH_take (i := 6) (oi := { dst := some 50, op := .nilCheck (.tmp 49), type := 0, pos := "sha.go:126", after := #[{ on := 5, ground := .data }], guard := none }) (v := ?_) rfl (by kernel_rfl) (by kernel_rfl) (by kernel_rfl) (fun _ _ _ h => h) (Or.inl ⟨by rfl, ?_⟩) (by assumption) ?_
          rotate_left
          · intro _ _; go_simp; first | done | with_reducible rfl
          simp only [Act.put, List.setIfInBounds_toArray, List.set_cons_zero, List.set_cons_succ]
          refine wpAnyH_take (i := 7) (oi := { dst := some 51, op := .fieldAddr 97 (.tmp 50) 1, type := 0, pos := "sha.go:126", after := #[{ on := 6, ground := .data }], guard := none }) (v := ?_) rfl (by kernel_rfl) (by kernel_rfl) (by kernel_rfl) (fun _ _ _ h => h) (Or.inl ⟨by rfl, ?_⟩) (by assumption) ?_
          rotate_left
          · intro _ _; go_simp; first | done | with_reducible rfl
          simp only [Act.put, List.setIfInBounds_toArray, List.set_cons_zero, List.set_cons_succ]
          refine wpAnyH_take (i := 8) (oi := { dst := some 52, op := .load 94 (.tmp 51), type := 94, pos := "sha.go:126", after := #[{ on := 7, ground := .data }], guard := none }) (v := _) rfl (by kernel_rfl) (by kernel_rfl) (by kernel_rfl) (fun _ _ _ h => h) (yieldsIf_load_mid (by rfl) _ _ rfl R 8 rfl (u8s blk2) _ (fun _ h => h) HU44.out rfl HI44.out) (by assumption) ?_
          simp only [Act.put, List.setIfInBounds_toArray, List.set_cons_zero, List.set_cons_succ]
          refine wpAnyH_ready (rs := [4]) (by kernel_rfl) (by simp) ?_
          refine AllReadyH.cons (o := { dst := some 48, op := .load 93 (.tmp 47), type := 93, pos := "sha.go:126", after := #[{ on := 3, ground := .data }], guard := none }) rfl (fun K hK => ?_) AllReadyH.nil
          go_simp
          refine hK.out _ _ hr8 (fun hHeld => ?_)
          clear hK K
          refine wpAnyH_ready (rs := [9]) (by kernel_rfl) (by simp) ?_
          refine AllReadyH.cons (o := { dst := some 53, op := .call { callee := .value (.func 60), args := #[.tmp 48, .tmp 52], argTypes := #[93, 94] }, type := 93, pos := "sha.go:126", after := #[{ on := 4, ground := .data }, { on := 8, ground := .data }], guard := none }) rfl (fun K hK => ?_) AllReadyH.nil
          go_simp
          refine (mix_any8 st sm blk2 hsl HSM.out w3.drew HKW.out).mono ?_
          rintro e w4 ⟨rfl, hb4⟩
          have hb4' : Below w3.heap.size w3 w4 := below_undrew hb4
          have hB4 := HB3.out.below hb4' HB3.out.lt
          have hr84 : w4.rangeAt R 8 (u8s blk2) := fun j v hv => by rw [hB4.cell]; exact runCells_blkAt st blk2 64 tot j v hv
          obtain ⟨p0, p1, p2, p3, p4, p5, p6, p7⟩ := hB4.cell8
          have fz := hB4.froz
          clear hB4
          go_simp
          refine hK.out _ _ hr84 (fun hHeld => ?_)
          clear hK K
          refine wpAnyH_take (i := 10) (oi := { dst := some 54, op := .nilCheck (.tmp 44), type := 0, pos := "sha.go:126", after := #[{ on := 0, ground := .data }, { on := 0, ground := .phase }, { on := 1, ground := .phase }, { on := 2, ground := .phase }, { on := 3, ground := .phase }, { on := 4, ground := .phase }, { on := 5, ground := .phase }, { on := 6, ground := .phase }, { on := 7, ground := .phase }, { on := 8, ground := .phase }, { on := 9, ground := .phase }], guard := none }) (v := ?_) rfl (by kernel_rfl) (by kernel_rfl) (by kernel_rfl) (fun _ _ _ h => h) (Or.inl ⟨by rfl, ?_⟩) (by assumption) ?_
          rotate_left
          · intro _ _; go_simp; first | done | with_reducible rfl
          simp only [Act.put, List.setIfInBounds_toArray, List.set_cons_zero, List.set_cons_succ]
          refine wpAnyH_take (i := 11) (oi := { dst := some 55, op := .fieldAddr 97 (.tmp 54) 0, type := 0, pos := "sha.go:126", after := #[{ on := 10, ground := .data }, { on := 0, ground := .phase }, { on := 1, ground := .phase }, { on := 2, ground := .phase }, { on := 3, ground := .phase }, { on := 4, ground := .phase }, { on := 5, ground := .phase }, { on := 6, ground := .phase }, { on := 7, ground := .phase }, { on := 8, ground := .phase }, { on := 9, ground := .phase }], guard := none }) (v := ?_) rfl (by kernel_rfl) (by kernel_rfl) (by kernel_rfl) (fun _ _ _ h => h) (Or.inl ⟨by rfl, ?_⟩) (by assumption) ?_
          rotate_left
          · intro _ _; go_simp; first | done | with_reducible rfl
          simp only [Act.put, List.setIfInBounds_toArray, List.set_cons_zero, List.set_cons_succ]
          refine wpAnyH_ready (rs := [12]) (by kernel_rfl) (by simp) ?_
          refine AllReadyH.cons (o := { dst := none, op := .store 93 (.tmp 55) (.tmp 53), type := 0, pos := "sha.go:126", after := #[{ on := 11, ground := .data }, { on := 9, ground := .data }, { on := 9, ground := .chain }, { on := 0, ground := .phase }, { on := 1, ground := .phase }, { on := 2, ground := .phase }, { on := 3, ground := .phase }, { on := 4, ground := .phase }, { on := 5, ground := .phase }, { on := 6, ground := .phase }, { on := 7, ground := .phase }, { on := 8, ground := .phase }, { on := 9, ground := .phase }], guard := none }) rfl (fun K hK => ?_) AllReadyH.nil
          go_simp
          refine hK.out _ _ (HRA.out w4 hb4') (fun hHeld => ?_)
          clear hK K
          refine wpAnyH_done (by kernel_rfl) ?_ _
          refine NoPanic.normal ?_
          obtain ⟨hE1, hE2⟩ := HEND.out w4 (Below.refl _ _) w3 HB3.out hK3 hb4'
          rw [← HSM.out] at hE1 hE2
          have hB5 : Blk (w4.setCells R 0 (u32s sm.list)) R (runCells sm blk2 64 tot) := by
            have h4 : Blk w4 R (runCells st blk2 64 tot) := HB3.out.below hb4' HB3.out.lt
            have h5 := Blk.cellsAt (u32s sm.list) h4 0 (by rw [runCells_length st blk2 64 tot hsl]; simp [St.list_length])
            rw [runCells_words] at h5
            exact h5
          obtain ⟨w5, hw5⟩ : ∃ x, x = w4.setCells R 0 (u32s sm.list) := ⟨_, rfl⟩
          rw [← hw5] at hE1 hE2 hB5
          have e72 := hB5.cell 72
          rw [runCells_72 sm _ 64 tot hsl] at e72
          have k72 := hB5.frozen 72
          have HE1 : Hid (Run _ _ _ _ _) := hE1
          have HE2 : Hid (Keep _ _ _) := hE2
          clear hE1 hE2 hHeld p0 p1 p2 p3 p4 p5 p6 p7 fz hr84 c0 c1 c2 c3 c4 c5 c6 c7 hr8 hu44 hi44
          generalize hw5' : World.setCell _ ⟨R, 7, none⟩ _ = w6
          obtain rfl : w5 = w6 := hw5.trans hw5'
          clear hw5 hw5'
          go_wp2_with fail
          go_roundw
          case rel =>
            refine ⟨k + X.length, by omega, _, slice_eq (by omega) (by omega), ?_, HE1.out, HE2.out⟩
            first | exact HPA2.out | (intro h; omega)
          case measure => simp [lenV]; omega
      · have e8 : ((f : Int) + (X.length : Int) == 64) = false := by rw [beq_eq_false_iff_ne]; omega
        have HRun : Hid (Run (w2.setCell ⟨R, 72, none⟩ (.int .i64 ((f : Int) + (X.length : Int)))) R (mixAll s (q ++ bs.take (k + X.length))) (restOf (q ++ bs.take (k + X.length))) (n + bs.length)) := by
          show Run _ _ _ _ _
          obtain ⟨f1, f2⟩ := feed_less st q1 X (by rw [← HF.out]; omega)
          rw [HAP1.out, HAP2.out, f1, f2, ← HTOT.out]
          refine ⟨blk2, hsl, by rw [HQL.out]; exact HBT.out, by rw [HQL.out]; omega, ?_⟩
          have := hB2.set 72 (.int .i64 ((f + X.length : Nat) : Int))
          rw [runCells_set72 st blk2 f _ tot hsl] at this
          rw [HQL.out, show ((f : Int) + (X.length : Int)) = ((f + X.length : Nat) : Int) by omega]
          exact this
        by_cases hcap : cap - k = X.length
        all_goals
          go_wp2_with fail
          go_roundw
          case rel =>
            refine ⟨k + X.length, by omega, _, slice_eq (by omega) (by omega), ?_, HRun.out, hK2.setCell 72 _⟩
            first | exact HPA2.out | (intro h; omega)
          case measure => simp [lenV]; omega
    · obtain rfl : k = bs.length := by omega
      rw [HST.out, HQ1.out, HTOT.out, List.take_length] at hRun
      go_wp2
      go_end0
      exact ⟨rfl, hRun, hKeep⟩
end Go.Proofs.YtlapnnkahijikaaDoor
namespace Go.Proofs.YtlapnnkahijikaaDoor
open Go.ChangeShapes Go.WideShapes Go.ChangeAt Go.RowKit
def nought : St := ⟨0, 0, 0, 0, 0, 0, 0, 0⟩
def zeros64 : List (BitVec 8) := List.replicate 64 0
theorem zero_running (w : World) : (zeroValue 97).run Tryd.prog w = .ok (.agg (runCells nought zeros64 0 0).toArray) w :=
  (zero_of_info (v := .agg (runCells nought zeros64 0 0).toArray) (n := 74) (by kernel_rfl)).1 w
set_option maxRecDepth 100000 in
set_option maxHeartbeats 4000000 in
theorem begin_any (w : World) :
    Calls Tryd.prog 50 #[] w fun e w' => e = .returned (.agg (runCells start zeros64 0 0).toArray) ∧ Below w.heap.size w w' := by
  have info : (Tryd.prog.info? 97).map (·.size) = some (runCells start zeros64 0 0).toArray.size := by kernel_rfl
  have Hi : Hid (_ = _) := info
  have h1 : (runCells start zeros64 0 0).toArray.all (·.oneCell') = true := by kernel_rfl
  have H1 : Hid (_ = _) := h1
  clear info h1
  have hz := zero_running
  go_enter Tryd.func50, Tryd.ntmps50
  go_wp2_with (first
    | (refine wpList_build rfl 93 _ rfl (by kernel_rfl) ?_)
    | (refine wpList_build rfl 97 _ rfl (by kernel_rfl) ?_)
    | (refine wpList_store_row rfl 97 _ _ rfl w.heap.size (runCells start zeros64 0 0).toArray rfl (by kernel_rfl) 97 _ (heap_alloc_new _ _) Hi.out (by kernel_rfl) H1.out ?_))
  refine bodyPost_ret (v := .agg (runCells start zeros64 0 0).toArray) ?_ rfl ⟨rfl, ?_⟩
  · obtain ⟨t, hb⟩ := (Blk.new w (runCells nought zeros64 0 0).toArray 97).row (ds := runCells start zeros64 0 0)
    exact results_cell_row Tryd.results50 _ _ w.heap.size t _ _ _ rfl hb Tryd.underlying97 rfl Hi.out
  · exact below_setRow ((Below.refl _ _).alloc (Nat.le_refl _) _) (Nat.le_refl _) _
end Go.Proofs.YtlapnnkahijikaaDoor
namespace Go.Proofs.YtlapnnkahijikaaDoor
open Go.ChangeShapes Go.WideShapes Go.ChangeAt Go.RowKit

theorem Src.later {w w' : World} {R : Nat} {a : Option Addr} {cap : Nat} {bs : List (BitVec 8)} (h : Src w R a cap bs) (k : Keep R w w') : Src w' R a cap bs :=
  ⟨h.room, h.most, fun hne => by
    obtain ⟨b, off, ha, hb, hc⟩ := h.lie hne
    exact ⟨b, off, ha, hb, fun j hj => k.cell hb (hc j hj)⟩⟩
theorem Kw.keep {w w' : World} {R : Nat} (h : Kw w) (k : Keep R w w') (hR : 0 < R) : Kw w' := fun i hi => k.cell (by omega) (h i hi)
theorem Run.keep {w w' : World} {R R' : Nat} {s : St} {q : List (BitVec 8)} {n : Nat} (h : Run w R s q n) (k : Keep R' w w') (hR : R ≠ R') : Run w' R s q n := by
  obtain ⟨blk, h1, h2, h3, h4⟩ := h; exact ⟨blk, h1, h2, h3, h4.keep k hR⟩
theorem Run.below {w w' : World} {R B : Nat} {s : St} {q : List (BitVec 8)} {n : Nat} (h : Run w R s q n) (k : Below B w w') (hR : R < B) : Run w' R s q n := by
  obtain ⟨blk, h1, h2, h3, h4⟩ := h; exact ⟨blk, h1, h2, h3, h4.below k hR⟩
theorem Run.fill {w : World} {R : Nat} {s : St} {q : List (BitVec 8)} {n : Nat} (h : Run w R s q n) : w.cell? ⟨R, 72, none⟩ = some (.int .i64 (q.length : Int)) := by
  obtain ⟨blk, h1, h2, h3, h4⟩ := h; rw [h4.cell, runCells_72 s blk _ n h1]
theorem Run.total {w : World} {R : Nat} {s : St} {q : List (BitVec 8)} {n : Nat} (h : Run w R s q n) : w.cell? ⟨R, 73, none⟩ = some (.int .u64 (n : Int)) := by
  obtain ⟨blk, h1, h2, h3, h4⟩ := h; rw [h4.cell, runCells_73 s blk _ n h1]
theorem Run.lt {w : World} {R : Nat} {s : St} {q : List (BitVec 8)} {n : Nat} (h : Run w R s q n) : R < w.heap.size := by
  obtain ⟨blk, h1, h2, h3, h4⟩ := h; exact h4.lt
/-- A slice over a block of bytes that is known whole. -/
theorem Src.blk {w : World} {R b : Nat} {bs : List (BitVec 8)} (h : Blk w b (u8s bs)) (hb : b ≠ R) (hl : bs.length ≤ 1000000) : Src w R (some ⟨b, 0, none⟩) bs.length bs :=
  ⟨Nat.le_refl _, by unfold maxLen; omega, fun _ => ⟨b, 0, rfl, hb, fun j hj => by rw [Nat.zero_add, h.cell, u8s_get bs j hj]⟩⟩

def zeros32 : List (BitVec 8) := List.replicate 32 0
/-- Noughts in a row that 'make' has just laid. -/
theorem Src.made {w : World} {R B g m : Nat} (h : w.ownsRow B 5 1 (.slice (some ⟨g, 0, none⟩) m m) m (List.replicate m (.int .u8 0))) (hg : g ≠ R) (hm : m ≤ 1000000) : Src w R (some ⟨g, 0, none⟩) m (zerosN m) :=
  ⟨by rw [zerosN_length]; exact Nat.le_refl _, by unfold maxLen; omega, fun _ => ⟨g, 0, rfl, hg, fun j hj => by
    rw [zerosN_length] at hj
    have hc := World.ownsRow.cellAt h j (by omega)
    rw [Nat.zero_add, hc]
    simp [zerosN, hj, Y]⟩⟩
theorem Tryd.info8 : (Tryd.prog.info? 5).map (fun i => (i.zero, i.size, i.bytes)) = some (some (.int .u8 0), 1, 1) := by kernel_rfl

theorem add_len (R : Nat) (s : St) (q : List (BitVec 8)) (n : Nat) (a : Option Addr) (m cap : Nat) (bs : List (BitVec 8)) (hm : bs.length = m) (w : World) (hK : Kw w) (hR : 0 < R)
    (hrun : Run w R s q n) (hsrc : Src w R a cap bs) (hn : n + m < 1152921504606846976) :
    Calls Tryd.prog 51 #[.pointer (some ⟨R, 0, none⟩), .slice a m cap] w fun e w' => e = .returned (.tuple #[]) ∧
      Run w' R (mixAll s (q ++ bs)) (restOf (q ++ bs)) (n + m) ∧ Keep R w w' := by
  subst hm; exact add_any R s q n a cap bs w hK hR hrun hsrc hn

theorem Keep.other {w w' w'' : World} {R C : Nat} (h : Keep R w w') (k : Keep C w' w'') (hC : w.heap.size ≤ C) : Keep R w w'' :=
  ⟨k.os.trans h.os, k.tape.trans h.tape, k.output.trans h.output, Nat.le_trans h.size k.size, fun i hi hr => (k.block i (Nat.lt_of_lt_of_le hi h.size) (by omega)).trans (h.block i hi hr)⟩
theorem last_byte (x : BitVec 32) : U x % 256 = U x / (1 : Int) % 256 := by rw [Int.ediv_one]
theorem blk_val {w : World} {C k : Nat} {a b : Int} {cs : List Value} (h : Blk (w.setCell ⟨C, k, none⟩ (.int .u8 a)) C cs) (e : b = a) : Blk (w.setCell ⟨C, k, none⟩ (.int .u8 b)) C cs := by rw [e]; exact h
theorem keep_val {w w0 : World} {C k : Nat} {a b : Int} (h : Keep C w0 (w.setCell ⟨C, k, none⟩ (.int .u8 a))) (e : b = a) : Keep C w0 (w.setCell ⟨C, k, none⟩ (.int .u8 b)) := by rw [e]; exact h

set_option maxRecDepth 100000 in
set_option maxHeartbeats 4000000 in
theorem end_any (R : Nat) (s : St) (q : List (BitVec 8)) (n : Nat) (w : World) (hK : Kw w) (hR : 0 < R) (hrun : Run w R s q n) (hn : n < 144115188075855872) (hq : q.length = n % 64) :
    Calls Tryd.prog 52 #[.pointer (some ⟨R, 0, none⟩)] w fun e w' => e = .returned (.agg (u8s (mixAll s (q ++ padOf n)).bytes).toArray) ∧ Keep R w w' := by
  have c73 := hrun.total
  have hRl := hrun.lt
  have HRUN : Hid (Run w R s q n) := hrun
  have HK : Hid (Kw w) := hK
  have HQ : Hid (q.length = n % 64) := hq
  clear hrun hK hq
  go_enter Tryd.func52, Tryd.ntmps52
  go_wp2_with fail
  generalize hw1 : World.alloc (World.alloc w _) _ = w1
  have hz1 : w1.heap.size = w.heap.size + 2 := by rw [← hw1]; simp
  have hN1 : Blk w1 w.heap.size (u8s zeros32) := by rw [← hw1]; exact (Blk.mk _ _ _ rfl rfl).alloc _
  have hP1 : Blk w1 (w.heap.size + 1) (u8s [128#8]) := by rw [← hw1]; exact Blk.mk _ _ _ (by simp) rfl
  have hk1 : Keep R w w1 := by rw [← hw1]; exact ((Keep.refl R w).alloc _).alloc _
  have hb1 : Below w.heap.size w w1 := by rw [← hw1]; exact ((Below.refl _ _).alloc (Nat.le_refl _) _).alloc (by simp) _
  clear hw1 c73
  refine (add_any R s q n (some ⟨w.heap.size + 1, 0, none⟩) 1 [128#8] w1 (HK.out.keep hk1 hR) hR (HRUN.out.below hb1 hRl) (Src.blk hP1 (by omega) (by decide)) (by show n + 1 < _; omega)).mono ?_
  rintro e w2 ⟨rfl, hrun2, hk2⟩
  have hN2 : Blk w2 w.heap.size (u8s zeros32) := hN1.keep hk2 (by omega)
  have hkk2 : Keep R w w2 := hk1.trans hk2
  have hz2 := hk2.size
  clear hN1 hP1 hk1 hb1 hk2
  have hl2 : (restOf (q ++ [128#8])).length = (n + 1) % 64 := by rw [rest_len, HQ.out]; show (n % 64 + 1) % 64 = _; omega
  obtain ⟨q2, hq2⟩ : ∃ x, x = restOf (q ++ [128#8]) := ⟨_, rfl⟩
  rw [← hq2] at hrun2 hl2
  have HQ2 : Hid (q2 = _) := hq2
  clear hq2
  have c72 := hrun2.fill
  obtain ⟨f2, hf2⟩ : ∃ x, x = q2.length := ⟨_, rfl⟩
  rw [← hf2] at c72 hl2
  have HF2 : Hid (f2 = q2.length) := hf2
  clear hf2
  have e0 : (0 : Int) ≤ (f2 : Int) := by omega
  have e1 : (f2 : Int) < 64 := by omega
  have HL2 : Hid (f2 = (n + 1) % 64) := hl2
  have hf64 : f2 < 64 := by omega
  clear hl2
  go_upto_if 20 with fail
  obtain ⟨i0, hi0, hi1, hi2, hi3⟩ := info_parts Tryd.info8
  go_cut [] from 8 (fun wc => ∃ (z : Nat) (q3 : List (BitVec 8)), Run wc R (mixAll s (q ++ ([128#8] ++ zerosN z))) q3 (n + 1 + z) ∧ Hid (q3 = restOf (q ++ ([128#8] ++ zerosN z))) ∧ q3.length ≤ 56 ∧ Hid (z + (56 - q3.length) = noughts n) ∧ z ≤ 64 ∧ Keep R w wc ∧ Blk wc w.heap.size (u8s zeros32))
  case first =>
    by_cases hfar : 56 < f2
    · have e2 : (56 : Int) < (f2 : Int) := by omega
      go_wp2_with (at_make; refine wpList_make_full _ rfl _ _ 40 rfl w2.heap.size 5 i0 (.int .u8 0) 1 Tryd.underlying40 hi0 hi1 hi2 .i64 .i64 _ _ (64 - f2) rfl rfl (by omega) (by omega) (by rw [hi3]; omega) (by unfold maxLen; omega) (Nat.le_refl _) ?_)
      intro w3 hown hgrow
      have hb3 : Below w2.heap.size w2 w3 := (Below.refl _ w2).grown hgrow (Nat.le_refl _) (by simp)
      have hown' : w3.ownsRow w2.heap.size 5 1 (.slice (some ⟨w2.heap.size, 0, none⟩) (64 - f2) (64 - f2)) (64 - f2) (List.replicate (64 - f2) (.int .u8 0)) := by
        rw [toList_madeCells_one] at hown; exact hown
      go_wp2_with fail
      refine (add_len R _ q2 (n + 1) (some ⟨w2.heap.size, 0, none⟩) (64 - f2) (64 - f2) (zerosN (64 - f2)) (zerosN_length _) w3 ((HK.out.keep hkk2 hR).keep (Keep.of_below hb3) hR) hR (hrun2.below hb3 hrun2.lt) (Src.made hown' (by omega) (by omega)) (by omega)).mono ?_
      rintro e w4 ⟨rfl, hrun4, hk4⟩
      go_wp2_with fail
      go_meet
      case rel =>
        refine ⟨64 - f2, _, ?_, rfl, ?_, ?_, by omega, hkk2.trans ((Keep.of_below hb3).trans hk4), (hN2.below hb3 (by omega)).keep hk4 (by omega)⟩
        · rw [HQ2.out, two_pieces, two_rests] at hrun4; exact hrun4
        · rw [← two_rests, ← HQ2.out, rest_len, zerosN_length, ← HF2.out]; omega
        · show 64 - f2 + (56 - (restOf (q ++ ([128#8] ++ zerosN (64 - f2)))).length) = noughts n
          rw [← two_rests, ← HQ2.out, rest_len, zerosN_length, ← HF2.out]
          have := HL2.out; unfold noughts; omega
    · have e2 : decide ((56 : Int) < (f2 : Int)) = false := by rw [decide_eq_false_iff_not]; omega
      go_wp2_with fail
      go_meet
      case rel =>
        refine ⟨0, q2, ?_, ?_, ?_, ?_, by omega, hkk2, hN2⟩
        · simpa [zerosN] using hrun2
        · show q2 = _; rw [HQ2.out]; simp [zerosN]
        · rw [← HF2.out]; omega
        · show 0 + (56 - q2.length) = noughts n
          rw [← HF2.out]; have := HL2.out; unfold noughts; omega
  case rest =>
    obtain ⟨z, q3, hrun3, HQ3, hq3, HZ, hz, hk3, hN3⟩ := hcut
    clear hrun2 hkk2 hN2 c72
    obtain ⟨f3, hf3⟩ : ∃ x, x = q3.length := ⟨_, rfl⟩
    have c72 := hrun3.fill
    rw [← hf3] at c72 hq3
    have HF3 : Hid (f3 = q3.length) := hf3
    have e3 : (0 : Int) ≤ (f3 : Int) := by omega
    have e4 : (f3 : Int) ≤ 56 := by omega
    have HZ' : Hid (z + (56 - f3) = noughts n) := by show z + (56 - f3) = noughts n; rw [hf3]; exact HZ.out
    clear hf3
    have hzc := hk3.size
    go_wp2_with (at_make; refine wpList_make_full _ rfl _ _ 40 rfl wc.heap.size 5 i0 (.int .u8 0) 1 Tryd.underlying40 hi0 hi1 hi2 .i64 .i64 _ _ (56 - f3) rfl rfl (by omega) (by omega) (by rw [hi3]; omega) (by unfold maxLen; omega) (Nat.le_refl _) ?_)
    intro w4 hown hgrow
    have hb4 : Below wc.heap.size wc w4 := (Below.refl _ wc).grown hgrow (Nat.le_refl _) (by simp)
    rw [toList_madeCells_one] at hown
    go_wp2_with fail
    refine (add_len R _ q3 (n + 1 + z) (some ⟨wc.heap.size, 0, none⟩) (56 - f3) (56 - f3) (zerosN (56 - f3)) (zerosN_length _) w4 ((HK.out.keep hk3 hR).keep (Keep.of_below hb4) hR) hR (hrun3.below hb4 hrun3.lt) (Src.made hown (by omega) (by omega)) (by omega)).mono ?_
    rintro e w5 ⟨rfl, hrun5, hk5⟩
    have hk05 : Keep R w w5 := hk3.trans ((Keep.of_below hb4).trans hk5)
    have hN5 : Blk w5 w.heap.size (u8s zeros32) := (hN3.below hb4 hN3.lt).keep hk5 (by omega)
    have hz5 := hk05.size
    have hr5 : Run w5 R (mixAll s (q ++ ([128#8] ++ zerosN (noughts n)))) (restOf (q ++ ([128#8] ++ zerosN (noughts n)))) (n + 1 + z + (56 - f3)) := by
      rw [HQ3.out, two_pieces, two_rests] at hrun5
      rw [List.append_assoc, zerosN_add, HZ'.out] at hrun5
      exact hrun5
    clear hrun3 hrun5 hown hgrow hb4 hk5 hN3 hk3 c72
    go_wp2_with fail
    generalize hw6 : World.alloc w5 _ = w6
    have hC6 : Blk w6 w5.heap.size (u8s (List.replicate 8 0)) := by rw [← hw6]; exact Blk.mk _ _ _ rfl rfl
    have hb6 : Below w5.heap.size w5 w6 := by rw [← hw6]; exact (Below.refl _ _).alloc (Nat.le_refl _) _
    clear hw6
    have hr6 := hr5.below hb6 hr5.lt
    have hN6 := hN5.below hb6 hN5.lt
    have hk06 : Keep R w w6 := hk05.trans (Keep.of_below hb6)
    have hRC : R ≠ w5.heap.size := by have := hr5.lt; omega
    have hNC : w.heap.size ≠ w5.heap.size := by have := hN5.lt; omega
    have hC6l := hC6.lt
    generalize hC : w5.heap.size = C at *
    clear hb6 hr5 hN5 hk05
    go_loopw [37] (fun i wr => ∃ k : Nat, k ≤ 8 ∧ i = .int .i64 k ∧ Blk wr C (u8s ((counted n).take k ++ List.replicate (8 - k) 0)) ∧ Keep C w6 wr) (fun i _ => 8 - (intOf i).toNat)
    case atStart => exact ⟨0, by omega, rfl, hC6, Keep.refl _ _⟩
    case round =>
      obtain ⟨k, hk, rfl, hrC, hrK⟩ := hrel
      by_cases hlt : k < 8
      · have hset := hrC.set k (.int .u8 (Y ((counted n).getD k 0)))
        rw [u8s_set, fill_set _ _ _ 8 k (by rw [List.length_take, counted_length]; omega) hlt, ← take_next _ k (by rw [counted_length]; exact hlt)] at hset
        have hcell := hrC.cell k
        rw [u8s_get _ k (by simp [counted_length]; omega)] at hcell
        have hfr := hrC.frozen k
        have hval := counted_get n k hlt
        rw [hval] at hset
        have HSET : Hid (Blk _ _ _) := hset
        have hkeep := hrK.setCell k (.int .u8 ((8 * n / 2 ^ (8 * (7 - k)) % 256 : Nat) : Int))
        have HKEEP : Hid (Keep _ _ _) := hkeep
        clear hset hval hrC hrK hkeep
        generalize Y (((counted n).take k ++ List.replicate (8 - k) 0).getD k 0) = y0 at hcell
        obtain (rfl | rfl | rfl | rfl | rfl | rfl | rfl | rfl) : k = 0 ∨ k = 1 ∨ k = 2 ∨ k = 3 ∨ k = 4 ∨ k = 5 ∨ k = 6 ∨ k = 7 := by omega
        all_goals
          go_wp2_with fail
          go_roundw
          case rel =>
            refine ⟨_, ?_, rfl, blk_val HSET.out ?_, keep_val HKEEP.out ?_⟩
            · decide
            all_goals (simp only [Nat.reduceMul, Nat.reduceSub, Nat.reducePow]; omega)
          case measure => simp [intOf]
      · obtain rfl : k = 8 := by omega
        have hrC' : Blk wr C (u8s (counted n)) := by
          rw [List.take_of_length_le (by rw [counted_length]; exact Nat.le_refl _)] at hrC
          simpa using hrC
        have hr7 := hr6.keep hrK hRC
        have hN7 := hN6.keep hrK hNC
        have hz7 := hrK.size
        clear hrC hlt
        go_wp2_with fail
        have hSrc : Src wr R (some ⟨C, 0, none⟩) 8 (counted n) := by
          have := Src.blk (R := R) hrC' (fun e => hRC e.symm) (by rw [counted_length]; decide)
          rw [counted_length] at this; exact this
        have hk07 : Keep R w wr := hk06.other hrK hz5
        refine (add_len R _ _ _ (some ⟨C, 0, none⟩) 8 8 (counted n) (counted_length n) wr (HK.out.keep hk07 hR) hR hr7 hSrc (by omega)).mono ?_
        rintro e w8 ⟨rfl, hrun8, hk8⟩
        have hN8 := hN7.keep hk8 (by omega)
        have hk08 : Keep R w w8 := hk07.trans hk8
        have hz8 := hk08.size
        rw [two_pieces] at hrun8
        have hm : mixAll s (q ++ ([128#8] ++ zerosN (noughts n) ++ counted n)) = mixAll s (q ++ padOf n) := rfl
        rw [hm] at hrun8
        obtain ⟨sf, hsf⟩ : ∃ x, x = mixAll s (q ++ padOf n) := ⟨_, rfl⟩
        rw [← hsf] at hrun8
        have HSF : Hid (sf = mixAll s (q ++ padOf n)) := hsf
        obtain ⟨blk8, _, _, _, hB8⟩ := hrun8
        obtain ⟨c0, c1, c2, c3, c4, c5, c6, c7⟩ := hB8.cell8
        clear hm hsf hr7 hN7 hr6 hN6 hk06 hk07 hSrc hrC' hrK hC6 hC6l hk8
        go_wp2_with fail
        generalize hw9 : World.alloc w8 _ = w9
        have hD9 : Blk w9 w8.heap.size (u8s (List.replicate 32 0)) := by rw [← hw9]; exact Blk.mk _ _ _ rfl rfl
        have hb9 : Below w8.heap.size w8 w9 := by rw [← hw9]; exact (Below.refl _ _).alloc (Nat.le_refl _) _
        clear hw9
        have hN9 := hN8.below hb9 hN8.lt
        have hk09 : Keep R w w9 := hk08.trans (Keep.of_below hb9)
        obtain ⟨b0, b1, b2, b3, b4, b5, b6, b7⟩ := (hB8.below hb9 hB8.lt).cell8
        have hRD : R ≠ w8.heap.size := by have := hB8.lt; omega
        have hND : w.heap.size ≠ w8.heap.size := by have := hN8.lt; omega
        generalize hD : w8.heap.size = D at *
        clear hb9 hB8 hN8 hk08 c0 c1 c2 c3 c4 c5 c6 c7
        go_loopw [52] (fun i wr => ∃ k : Nat, k ≤ 32 ∧ i = .int .i64 k ∧ Blk wr D (u8s (sf.bytes.take k ++ List.replicate (32 - k) 0)) ∧ Keep D w9 wr) (fun i _ => 32 - (intOf i).toNat)
        case atStart => exact ⟨0, by omega, rfl, hD9, Keep.refl _ _⟩
        case round =>
          obtain ⟨k, hk, rfl, hrC, hrK⟩ := hrel
          have d0 := hrK.cell hRD b0
          have d1 := hrK.cell hRD b1
          have d2 := hrK.cell hRD b2
          have d3 := hrK.cell hRD b3
          have d4 := hrK.cell hRD b4
          have d5 := hrK.cell hRD b5
          have d6 := hrK.cell hRD b6
          have d7 := hrK.cell hRD b7
          by_cases hlt : k < 32
          · have hset := hrC.set k (.int .u8 (Y (sf.bytes.getD k 0)))
            rw [u8s_set, fill_set _ _ _ 32 k (by rw [List.length_take, St.bytes_length]; omega) hlt, ← take_next _ k (by rw [St.bytes_length]; exact hlt)] at hset
            have hcell := hrC.cell k
            rw [u8s_get _ k (by simp [St.bytes_length]; omega)] at hcell
            have hfr := hrC.frozen k
            have hval : Y (sf.bytes.getD k 0) = U (sf.list.getD (k / 4) 0) / ((2 ^ (8 * (3 - k % 4)) : Nat) : Int) % 256 := by rw [bytes_get sf k hlt, Y_shr]
            rw [hval] at hset
            have HSET : Hid (Blk _ _ _) := hset
            have HKEEP : Hid (Keep _ _ _) := hrK.setCell k (.int .u8 (U (sf.list.getD (k / 4) 0) / ((2 ^ (8 * (3 - k % 4)) : Nat) : Int) % 256))
            clear hset hval hrC hrK b0 b1 b2 b3 b4 b5 b6 b7
            generalize Y ((sf.bytes.take k ++ List.replicate (32 - k) 0).getD k 0) = y0 at hcell
            obtain (rfl | rfl | rfl | rfl | rfl | rfl | rfl | rfl | rfl | rfl | rfl | rfl | rfl | rfl | rfl | rfl | rfl | rfl | rfl | rfl | rfl | rfl | rfl | rfl | rfl | rfl | rfl | rfl | rfl | rfl | rfl | rfl) : k = 0 ∨ k = 1 ∨ k = 2 ∨ k = 3 ∨ k = 4 ∨ k = 5 ∨ k = 6 ∨ k = 7 ∨ k = 8 ∨ k = 9 ∨ k = 10 ∨ k = 11 ∨ k = 12 ∨ k = 13 ∨ k = 14 ∨ k = 15 ∨ k = 16 ∨ k = 17 ∨ k = 18 ∨ k = 19 ∨ k = 20 ∨ k = 21 ∨ k = 22 ∨ k = 23 ∨ k = 24 ∨ k = 25 ∨ k = 26 ∨ k = 27 ∨ k = 28 ∨ k = 29 ∨ k = 30 ∨ k = 31 := by omega
            all_goals
              go_wp2_with fail
              go_roundw
              case rel =>
                refine ⟨_, ?_, rfl, blk_val HSET.out ?_, keep_val HKEEP.out ?_⟩
                · decide
                all_goals (first | rfl | exact last_byte _)
              case measure => simp [intOf]
          · obtain rfl : k = 32 := by omega
            have hrC' : Blk wr D (u8s sf.bytes) := by
              rw [List.take_of_length_le (by rw [St.bytes_length]; exact Nat.le_refl _)] at hrC
              simpa using hrC
            have hNr := hN9.keep hrK hND
            have hKr : Keep R w wr := hk09.other hrK hz8
            clear hN9 hk09 hrC hrK b0 b1 b2 b3 b4 b5 b6 b7 d0 d1 d2 d3 d4 d5 d6 d7 hlt
            have info28 : (Tryd.prog.info? 74).map (·.size) = some (u8s sf.bytes).toArray.size := by
              rw [show (u8s sf.bytes).toArray.size = 32 by simp [St.bytes_length]]; kernel_rfl
            have Hi : Hid (_ = _) := info28
            have hsz : (u8s zeros32).toArray.size = (u8s sf.bytes).toArray.size := by simp [St.bytes_length, zeros32]
            have HSZ : Hid (_ = _) := hsz
            obtain ⟨tD, hgD⟩ := hrC'
            obtain ⟨tN, hgN⟩ := hNr
            have HgD : Hid (wr.heap[D]? = _) := hgD
            have HgN : Hid (wr.heap[w.heap.size]? = _) := hgN
            clear info28 hsz hgD hgN
            go_wp2_with (first
              | (refine wpList_load_row rfl 74 _ rfl D rfl tD _ _ _ HgD.out Tryd.underlying74 rfl Hi.out ?_)
              | (refine wpList_store_row rfl 74 _ _ rfl w.heap.size (u8s sf.bytes).toArray rfl rfl tN _ HgN.out Hi.out HSZ.out (u8s_one _) ?_))
            refine bodyPost_ret (v := .agg (u8s sf.bytes).toArray) ?_ rfl ⟨?_, ?_⟩
            · obtain ⟨t, hb⟩ := Blk.row (ds := u8s sf.bytes) ⟨tN, HgN.out⟩
              exact results_cell_row Tryd.results52 _ _ w.heap.size t _ _ _ rfl hb Tryd.underlying74 rfl Hi.out
            · rw [HSF.out]
            · refine hKr.other ((Keep.refl w.heap.size wr).setRow _) (Nat.le_refl _)
end Go.Proofs.YtlapnnkahijikaaDoor
namespace Go.Proofs.YtlapnnkahijikaaDoor
open Go.ChangeShapes Go.WideShapes Go.ChangeAt Go.RowKit

/-- A slice of bytes that can be read in this world. -/
structure Bytes (w : World) (a : Option Addr) (cap : Nat) (bs : List (BitVec 8)) : Prop where
  room : bs.length ≤ cap
  most : cap ≤ maxLen
  lie : bs ≠ [] → ∃ b off, a = some ⟨b, off, none⟩ ∧ ∀ j, j < bs.length → w.cell? ⟨b, off + j, none⟩ = some (.int .u8 (Y (bs.getD j 0)))
theorem Bytes.src {w w' : World} {R B : Nat} {a : Option Addr} {cap : Nat} {bs : List (BitVec 8)} (h : Bytes w a cap bs) (hb : Below B w w') (hB : w.heap.size ≤ B) (hR : w.heap.size ≤ R) : Src w' R a cap bs :=
  ⟨h.room, h.most, fun hne => by
    obtain ⟨b, off, ha, hc⟩ := h.lie hne
    have hl : b < w.heap.size := World.block_lt_of_cell? w _ (hc 0 (List.length_pos_iff.2 hne))
    exact ⟨b, off, ha, by omega, fun j hj => by rw [hb.cell (p := ⟨b, off + j, none⟩) (show b < B by omega)]; exact hc j hj⟩⟩
theorem Bytes.later {w w' : World} {B : Nat} {a : Option Addr} {cap : Nat} {bs : List (BitVec 8)} (h : Bytes w a cap bs) (hb : Below B w w') (hB : w.heap.size ≤ B) : Bytes w' a cap bs :=
  ⟨h.room, h.most, fun hne => by
    obtain ⟨b, off, ha, hc⟩ := h.lie hne
    have hl : b < w.heap.size := World.block_lt_of_cell? w _ (hc 0 (List.length_pos_iff.2 hne))
    exact ⟨b, off, ha, fun j hj => by rw [hb.cell (p := ⟨b, off + j, none⟩) (show b < B by omega)]; exact hc j hj⟩⟩
/-- A row of such slices. -/
def Pieces (w : World) (a : Option Addr) (ps : List (List (BitVec 8))) : Prop :=
  ∀ i, i < ps.length → ∃ b off ai ci, a = some ⟨b, off, none⟩ ∧ w.cell? ⟨b, off + i, none⟩ = some (.slice ai (ps.getD i []).length ci) ∧ Bytes w ai ci (ps.getD i [])
theorem Pieces.later {w w' : World} {B : Nat} {a : Option Addr} {ps : List (List (BitVec 8))} (h : Pieces w a ps) (hb : Below B w w') (hB : w.heap.size ≤ B) : Pieces w' a ps := fun i hi => by
  obtain ⟨b, off, ai, ci, ha, hc, hbs⟩ := h i hi
  have hl := World.block_lt_of_cell? w _ hc
  exact ⟨b, off, ai, ci, ha, by rw [hb.cell (p := ⟨b, off + i, none⟩) (by show b < B; have : b < w.heap.size := hl; omega)]; exact hc, hbs.later hb hB⟩

theorem flat_next (ps : List (List (BitVec 8))) (k : Nat) (h : k < ps.length) : (ps.take (k + 1)).flatten = (ps.take k).flatten ++ ps.getD k [] := by
  rw [List.take_succ_eq_append_getElem h, List.flatten_append, List.getD_eq_getElem?_getD, List.getElem?_eq_getElem h]; simp
theorem flat_le (ps : List (List (BitVec 8))) (k : Nat) : (ps.take k).flatten.length ≤ ps.flatten.length := by
  have h : ps.flatten = (ps.take k).flatten ++ (ps.drop k).flatten := by rw [← List.flatten_append, List.take_append_drop]
  have h2 := congrArg List.length h
  rw [List.length_append] at h2; omega
theorem sum_end (l : List (BitVec 8)) : (mixAll (mixAll start l) (restOf l ++ padOf l.length)).bytes = sum l := by
  unfold sum; rw [closed_pad, mixAll_app start l]

set_option maxRecDepth 100000 in
set_option maxHeartbeats 4000000 in
theorem sum_any (a : Option Addr) (m cap : Nat) (ps : List (List (BitVec 8))) (hm : ps.length = m) (w : World) (hK : Kw w) (hcap : m ≤ 1000000) (hp : Pieces w a ps) (hn : ps.flatten.length < 144115188075855872) :
    Calls Tryd.prog 40 #[.slice a m cap] w fun e w' => e = .returned (.agg (u8s (sum ps.flatten)).toArray) ∧ Below w.heap.size w w' := by
  have HK : Hid (Kw w) := hK
  have HP : Hid (Pieces w a ps) := hp
  have HM : Hid (ps.length = m) := hm
  have hpos := hK.pos
  have hzr := zero_running
  clear hK hp hm
  go_enter Tryd.func40, Tryd.ntmps40
  go_wp2_with fail
  generalize hw1 : World.alloc w _ = w1
  have hN1 : Blk w1 w.heap.size (u8s zeros32) := by rw [← hw1]; exact Blk.mk _ _ _ rfl rfl
  have hb1 : Below w.heap.size w w1 := by rw [← hw1]; exact (Below.refl _ _).alloc (Nat.le_refl _) _
  clear hw1
  refine (begin_any w1).mono ?_
  rintro e w2 ⟨rfl, hb2⟩
  have hN2 := hN1.below hb2 hN1.lt
  have hb02 : Below w.heap.size w w2 := hb1.trans (hb2.mono hb1.size)
  have hz2 := hN2.lt
  clear hN1 hb1 hb2
  have i47 : (Tryd.prog.info? 97).map (·.size) = some (runCells start zeros64 0 0).toArray.size := by kernel_rfl
  have I47 : Hid (_ = _) := i47
  have hsz : (runCells nought zeros64 0 0).toArray.size = (runCells start zeros64 0 0).toArray.size := by kernel_rfl
  have HSZ : Hid (_ = _) := hsz
  have hone : (runCells start zeros64 0 0).toArray.all (·.oneCell') = true := by kernel_rfl
  have HONE : Hid (_ = _) := hone
  clear i47 hsz hone
  go_wp2_with (refine wpList_store_row rfl 97 _ _ rfl w2.heap.size (runCells start zeros64 0 0).toArray rfl rfl 97 (runCells nought zeros64 0 0).toArray (heap_alloc_new _ _) I47.out HSZ.out HONE.out ?_)
  generalize hw3 : World.setRow _ _ _ = w3
  have hR3 : Blk w3 w2.heap.size (runCells start zeros64 0 0) := by rw [← hw3]; exact (Blk.new w2 _ _).row
  have hb3 : Below w2.heap.size w2 w3 := by rw [← hw3]; exact below_setRow ((Below.refl _ _).alloc (Nat.le_refl _) _) (Nat.le_refl _) _
  clear hw3
  have hN3 := hN2.below hb3 hz2
  have hb03 : Below w.heap.size w w3 := hb02.trans (hb3.mono hb02.size)
  have hrun3 : Run w3 w2.heap.size (mixAll start (ps.take 0).flatten) (restOf (ps.take 0).flatten) (ps.take 0).flatten.length := by
    rw [List.take_zero]
    show Run w3 w2.heap.size (mixAll start []) (restOf []) 0
    rw [mixAll_short _ _ (by decide), restOf_short _ (by decide)]
    exact ⟨zeros64, rfl, rfl, by decide, hR3⟩
  have hR3l := hR3.lt
  generalize hR : w2.heap.size = R at *
  clear hR3 hb3 hN2 hb02
  go_loopw [9] (fun i wr => ∃ k : Nat, k ≤ m ∧ i = .int .i64 k ∧ Run wr R (mixAll start (ps.take k).flatten) (restOf (ps.take k).flatten) (ps.take k).flatten.length ∧ Keep R w3 wr) (fun i _ => m - (intOf i).toNat)
  case atStart => exact ⟨0, Nat.zero_le _, rfl, hrun3, Keep.refl _ _⟩
  case round =>
    obtain ⟨k, hk, rfl, hrun, hkeep⟩ := hrel
    have hbr : Below w.heap.size w wr := hb03.trans (hkeep.below (by omega) hb03.size)
    by_cases hlt : k < m
    · have hkl : k < ps.length := by rw [HM.out]; exact hlt
      obtain ⟨b, off, ai, ci, rfl, hc, hbs⟩ := HP.out k hkl
      have hbl : b < w.heap.size := World.block_lt_of_cell? w _ hc
      have hcr : wr.cell? ⟨b, off + k, none⟩ = some (.slice ai (ps.getD k []).length ci) := by rw [hbr.cell (p := ⟨b, off + k, none⟩) hbl]; exact hc
      have HSRC : Hid (Src wr R ai ci (ps.getD k [])) := hbs.src hbr (Nat.le_refl _) (by omega)
      have hfl := flat_le ps (k + 1)
      rw [flat_next ps k hkl, List.length_append] at hfl
      obtain ⟨bs, hbsq⟩ : ∃ x, x = ps.getD k [] := ⟨_, rfl⟩
      rw [← hbsq] at hcr HSRC hfl
      have HBS : Hid (bs = ps.getD k []) := hbsq
      clear hbsq hc hbs
      have e0 : (0 : Int) ≤ (k : Int) := by omega
      have e1 : (k : Int) < (m : Int) := by omega
      go_wp2_with fail
      refine (add_any R _ _ _ ai ci bs wr (HK.out.below hbr hpos) (by omega) hrun HSRC.out (by omega)).mono ?_
      rintro e w5 ⟨rfl, hrun5, hk5⟩
      go_wp2_with fail
      go_roundw
      case rel =>
        refine ⟨k + 1, by omega, by go_num, ?_, hkeep.trans hk5⟩
        rw [flat_next ps k hkl, ← HBS.out, mixAll_app, restOf_app, List.length_append]
        exact hrun5
      case measure => simp [intOf]; omega
    · obtain rfl : k = m := by omega
      have e1 : ¬ (k : Int) < (k : Int) := by omega
      rw [← HM.out, List.take_length] at hrun
      have hNr := hN3.keep hkeep (by omega)
      go_wp2_with fail
      refine (end_any R _ _ _ wr (HK.out.below hbr hpos) (by omega) hrun hn (restOf_length _)).mono ?_
      rintro e w6 ⟨rfl, hk6⟩
      rw [sum_end]
      have hN6 := hNr.keep hk6 (by omega)
      have hb6 : Below w.heap.size w w6 := hbr.trans (hk6.below (by omega) hbr.size)
      have i28 : (Tryd.prog.info? 74).map (·.size) = some (u8s (sum ps.flatten)).toArray.size := by
        rw [show (u8s (sum ps.flatten)).toArray.size = 32 by simp [sum_length]]; kernel_rfl
      have I28 : Hid (_ = _) := i28
      have hsz : (u8s zeros32).toArray.size = (u8s (sum ps.flatten)).toArray.size := by simp [sum_length, zeros32]
      have HS28 : Hid (_ = _) := hsz
      obtain ⟨tN, hgN⟩ := hN6
      have HgN : Hid (w6.heap[w.heap.size]? = _) := hgN
      clear i28 hsz hgN
      go_wp2_with (refine wpList_store_row rfl 74 _ _ rfl w.heap.size (u8s (sum ps.flatten)).toArray rfl rfl tN _ HgN.out I28.out HS28.out (u8s_one _) ?_)
      refine bodyPost_ret (v := .agg (u8s (sum ps.flatten)).toArray) ?_ rfl ⟨rfl, ?_⟩
      · obtain ⟨t, hb⟩ := Blk.row (ds := u8s (sum ps.flatten)) ⟨tN, HgN.out⟩
        exact results_cell_row Tryd.results40 _ _ w.heap.size t _ _ _ rfl hb Tryd.underlying74 rfl I28.out
      · exact below_setRow hb6 (Nat.le_refl _) _
end Go.Proofs.YtlapnnkahijikaaDoor
