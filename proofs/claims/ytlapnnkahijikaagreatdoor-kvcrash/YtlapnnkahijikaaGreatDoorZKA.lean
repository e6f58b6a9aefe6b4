/- wire.Reader: what is left to be read; fail, Num, Count, take, Text, Done, Read. -/
import Derived.Test.YtlapnnkahijikaaGreatDoorZK3
namespace Go.Proofs.YtlapnnkahijikaaGreatDoor
open Go.ChangeShapes Go.WideShapes Go.ChangeAt Go.RowKit Go.Lib

theorem OwnB.bytes {w : World} {B : Nat} {v : Value} {bs : List (BitVec 8)} (h : OwnB w B v bs) : ∃ a cap, v = .slice a bs.length cap ∧ Bytes w a cap bs := by
  have h0 := h
  rcases h.2 with ⟨rfl, hn⟩ | ⟨g, cap, cur, rfl, _, _, hnc, hcm, _⟩
  · obtain rfl := List.eq_nil_of_length_eq_zero hn
    exact ⟨none, 0, rfl, ⟨Nat.le_refl _, Nat.zero_le _, fun e => absurd rfl e⟩⟩
  · refine ⟨_, _, rfl, ⟨hnc, hcm, fun _ => ⟨g, 0, rfl, fun j hj => ?_⟩⟩⟩
    have := World.ownsRow.cells h0 (g := g) rfl j _ (u8s_get bs j hj)
    rwa [Addr.add_mid] at this

theorem Bytes.cut {w : World} {a : Option Addr} {cap : Nat} {bs : List (BitVec 8)} (h : Bytes w a cap bs) (p q : Nat) (hq : q ≤ bs.length) :
    Bytes w (if cap = p then a else a.map (·.add p)) (cap - p) ((bs.drop p).take (q - p)) := by
  have hr := h.room
  refine ⟨by rw [List.length_take, List.length_drop]; omega, Nat.le_trans (Nat.sub_le _ _) h.most, fun hne => ?_⟩
  have hl : 0 < ((bs.drop p).take (q - p)).length := List.length_pos_iff.2 hne
  rw [List.length_take, List.length_drop] at hl
  obtain ⟨b, off, rfl, hc⟩ := h.lie (by intro e; rw [e] at hl; simp at hl)
  rw [if_neg (by omega)]
  refine ⟨b, off + p, by rw [Option.map_some, Addr.add_mid], fun j hj => ?_⟩
  rw [List.length_take, List.length_drop] at hj
  rw [Nat.add_assoc, hc (p + j) (by omega), List.getD_eq_getElem?_getD, List.getD_eq_getElem?_getD, List.getElem?_take_of_lt (by omega), List.getElem?_drop]
theorem Bytes.tail {w : World} {a : Option Addr} {cap : Nat} {bs : List (BitVec 8)} (h : Bytes w a cap bs) (p : Nat) :
    Bytes w (if cap = p then a else a.map (·.add p)) (cap - p) (bs.drop p) := by
  have := h.cut p bs.length (Nat.le_refl _)
  rwa [List.take_of_length_le (by rw [List.length_drop]; omega)] at this
theorem Bytes.kept {w w' : World} {a : Option Addr} {cap : Nat} {bs : List (BitVec 8)} (h : Bytes w a cap bs) (hw : ∀ b o, a = some ⟨b, o, none⟩ → w'.heap[b]? = w.heap[b]?) : Bytes w' a cap bs :=
  ⟨h.room, h.most, fun hne => by
    obtain ⟨b, off, ha, hc⟩ := h.lie hne
    exact ⟨b, off, ha, fun j hj => by rw [World.cell?_of_block (a := ⟨b, off + j, none⟩) (hw b off ha)]; exact hc j hj⟩⟩
theorem Bytes.at {w : World} {a : Option Addr} {cap : Nat} {bs : List (BitVec 8)} (h : Bytes w a cap bs) : BytesAt w a cap (bs.map Y) :=
  ⟨by rw [List.length_map]; exact h.room, h.most, fun x hx => by
    obtain ⟨y, _, rfl⟩ := List.mem_map.1 hx
    have := y.isLt
    unfold Y; omega, fun hne => by
    obtain ⟨b, off, ha, hc⟩ := h.lie (by intro e; rw [e] at hne; exact hne rfl)
    refine ⟨b, off, ha, fun i hi => ?_⟩
    rw [List.length_map] at hi
    rw [hc i hi]
    congr 2
    rw [List.getD_eq_getElem?_getD, List.getD_eq_getElem?_getD, List.getElem?_map, List.getElem?_eq_getElem hi]; rfl⟩

/-- What is left, and whether something was not there. -/
abbrev RS := List (BitVec 8) × Bool
structure Rd (w : World) (R N : Nat) (s : RS) : Prop where
  base : N ≤ w.heap.size
  ex : ∃ a cap, Blk w R [.slice a s.1.length cap, .bool s.2] ∧ Bytes w a cap s.1 ∧ ∀ x : Addr, a = some x → x.block ≠ R ∧ x.block < N
section
variable {w w' : World} {R N : Nat} {s : RS}
theorem Rd.kept (h : Rd w R N s) (hs : w.heap.size ≤ w'.heap.size) (hR : w'.heap[R]? = w.heap[R]?) (hb : ∀ b, b < N → b ≠ R → w'.heap[b]? = w.heap[b]?) : Rd w' R N s := by
  obtain ⟨h0, a, cap, ⟨t, h1⟩, h2, h3⟩ := h
  exact ⟨Nat.le_trans h0 hs, a, cap, ⟨t, hR.trans h1⟩, h2.kept fun b o e => hb b (h3 _ e).2 (h3 _ e).1, h3⟩
theorem Rd.below (h : Rd w R N s) (hb : Below w.heap.size w w') : Rd w' R N s :=
  h.kept hb.size (hb.block R (by obtain ⟨a, cap, h1, _⟩ := h.ex; exact h1.lt)) fun b hb' _ => hb.block b (Nat.lt_of_lt_of_le hb' h.base)
theorem Rd.lt (h : Rd w R N s) : R < w.heap.size := by obtain ⟨a, cap, h1, _⟩ := h.ex; exact h1.lt
end
theorem zero_bytes (w : World) : Bytes w none 0 [] := ⟨Nat.le_refl _, Nat.zero_le _, fun e => absurd rfl e⟩
theorem fail_any (R N : Nat) (s : RS) (w : World) (h : Rd w R N s) :
    Calls Tryz.prog 83 #[.pointer (some ⟨R, 0, none⟩)] w fun e w' => e = .returned (.tuple #[]) ∧ Rd w' R N ([], true) ∧ Keep R w w' := by
  have hbase := h.base
  obtain ⟨a, cap, hB, _, _⟩ := h.ex
  have HB : Hid (Blk w R [.slice a s.1.length cap, .bool s.2]) := hB
  clear h
  have c0 : w.cell? ⟨R, 0, none⟩ = some (.slice a s.1.length cap) := hB.one rfl
  have c1 : w.cell? ⟨R, 1, none⟩ = some (.bool s.2) := hB.one rfl
  have f0 : w.frozen? ⟨R, 0, none⟩ = false := hB.frozen 0
  have f1 : w.frozen? ⟨R, 1, none⟩ = false := hB.frozen 1
  clear hB
  go_enter Tryz.func83, Tryz.ntmps83
  go_wp2_with fail
  go_end0
  have h1 : Blk ((w.setCell ⟨R, 0, none⟩ (.slice none 0 0)).setCell ⟨R, 1, none⟩ (.bool true)) R [.slice none 0 0, .bool true] := (HB.out.set 0 _).set 1 _
  exact ⟨rfl, ⟨by simpa [World.setCell] using hbase, none, 0, h1, zero_bytes _, fun x e => nomatch e⟩, ((Keep.refl _ _).setCell 0 _).setCell 1 _⟩

theorem getR_ok (l : List Int) (hb : IsBytes l) : ((getR l).2.2 = 0 ∧ ∃ u : Nat, (getR l).2.1 = u ∧ 1 ≤ u ∧ u ≤ l.length ∧ 0 ≤ (getR l).1 ∧ (getR l).1 ≤ 4611686018427387904) ∨ getR l = (0, 0, 2) := by
  by_cases h0 : l = []
  · right; subst h0; rfl
  · have hl : 1 ≤ l.length := List.length_pos_iff.2 h0
    have hx := isBytes_getD hb 0
    rcases spanN_cases (l.getD 0 0) with ⟨_, h2⟩ | ⟨_, h2⟩ | ⟨_, h2⟩ | ⟨_, _, _, h2⟩
    case inr.inr.inr =>
      left
      rw [getR_one h0 h2]
      exact ⟨rfl, 1, rfl, Nat.le_refl _, hl, by simp only; omega, by simp only; omega⟩
    all_goals
      first
      | (have hs : spanN (l.getD 0 0) = ((3 : Nat) : Int) := h2
         have hv := rdAt_nonneg hb 3 1
         by_cases hlt : l.length < 3
         · right; exact getR_short h0 hs (by omega) hlt
         · rw [getR_long h0 hs (by omega) (by omega)]
           by_cases hc : 4611686018427387904 < rdAt l 3 1 ∨ sizeN (rdAt l 3 1) ≠ ((3 : Nat) : Int)
           · right; rw [if_pos hc]
           · left; rw [if_neg hc]; exact ⟨rfl, 3, rfl, by omega, by omega, by simp only; omega, by simp only; omega⟩)
      | (have hs : spanN (l.getD 0 0) = ((5 : Nat) : Int) := h2
         have hv := rdAt_nonneg hb 5 1
         by_cases hlt : l.length < 5
         · right; exact getR_short h0 hs (by omega) hlt
         · rw [getR_long h0 hs (by omega) (by omega)]
           by_cases hc : 4611686018427387904 < rdAt l 5 1 ∨ sizeN (rdAt l 5 1) ≠ ((5 : Nat) : Int)
           · right; rw [if_pos hc]
           · left; rw [if_neg hc]; exact ⟨rfl, 5, rfl, by omega, by omega, by simp only; omega, by simp only; omega⟩)
      | (have hs : spanN (l.getD 0 0) = ((9 : Nat) : Int) := h2
         have hv := rdAt_nonneg hb 9 1
         by_cases hlt : l.length < 9
         · right; exact getR_short h0 hs (by omega) hlt
         · rw [getR_long h0 hs (by omega) (by omega)]
           by_cases hc : 4611686018427387904 < rdAt l 9 1 ∨ sizeN (rdAt l 9 1) ≠ ((9 : Nat) : Int)
           · right; rw [if_pos hc]
           · left; rw [if_neg hc]; exact ⟨rfl, 9, rfl, by omega, by omega, by simp only; omega, by simp only; omega⟩)
theorem bytes_Y (bs : List (BitVec 8)) : IsBytes (bs.map Y) := fun x hx => by
  obtain ⟨y, _, rfl⟩ := List.mem_map.1 hx
  have := y.isLt
  unfold Y; omega
theorem add_block (y : Addr) (u : Nat) : (y.add u).block = y.block := by unfold Addr.add; split <;> rfl
theorem tail_apart {a : Option Addr} {cap u R n : Nat} {x : Addr} (e : (if cap = u then a else Option.map (fun x => x.add u) a) = some x) (h : ∀ x : Addr, a = some x → x.block ≠ R ∧ x.block < n) : x.block ≠ R ∧ x.block < n := by
  split at e
  · exact h x e
  · cases ha : a with
    | none => rw [ha] at e; cases e
    | some y =>
      rw [ha] at e
      injection e with e
      rw [← e, add_block]
      exact h y ha
/-- The next number, and what is left behind it. -/
def rN (s : RS) : Int × RS := if (getR (s.1.map Y)).2.2 = 0 then ((getR (s.1.map Y)).1, (s.1.drop (getR (s.1.map Y)).2.1.toNat, s.2)) else (0, ([], true))
theorem rN_range (s : RS) : 0 ≤ (rN s).1 ∧ (rN s).1 ≤ 4611686018427387904 := by
  unfold rN
  rcases getR_ok _ (bytes_Y s.1) with ⟨h, u, _, _, _, h1, h2⟩ | h
  · rw [if_pos h]; exact ⟨h1, h2⟩
  · rw [h]; exact ⟨by show (0 : Int) ≤ 0; omega, by show (0 : Int) ≤ _; omega⟩
set_option maxRecDepth 100000 in
set_option maxHeartbeats 2000000 in
theorem rnum_any (R N : Nat) (s : RS) (w : World) (h : Rd w R N s) :
    Calls Tryz.prog 82 #[.pointer (some ⟨R, 0, none⟩)] w fun e w' => e = .returned (.int .i64 (rN s).1) ∧ Rd w' R N (rN s).2 ∧ Keep R w w' := by
  obtain ⟨a, cap, hB, hBy, hap⟩ := h.ex
  have H : Hid (Rd w R N s) := h
  have HB : Hid (Blk w R [.slice a s.1.length cap, .bool s.2]) := hB
  have HBY : Hid (Bytes w a cap s.1) := hBy
  have HAP : Hid (∀ x : Addr, a = some x → x.block ≠ R ∧ x.block < N) := hap
  have c0 : w.cell? ⟨R, 0, none⟩ = some (.slice a s.1.length cap) := hB.one rfl
  have f0 : w.frozen? ⟨R, 0, none⟩ = false := hB.frozen 0
  have hroom := hBy.room
  have hmost : cap ≤ 9223372036854775807 := by have := hBy.most; unfold maxLen at this; omega
  have HGET : Hid (Calls Tryz.prog 108 #[.slice a s.1.length cap] w fun e w' => e = .returned (getV (s.1.map Y)) ∧ w = w') := by
    have := get_any a cap (s.1.map Y) w hBy.at
    rwa [List.length_map] at this
  clear h hB hBy hap
  rcases getR_ok _ (bytes_Y s.1) with ⟨h0, u, h1, h2, h3, h4, h5⟩ | hbad
  · rw [List.length_map] at h3
    have HRN : Hid (rN s = ((getR (s.1.map Y)).1, (s.1.drop u, s.2))) := by
      show _ = _
      unfold rN; rw [if_pos h0, h1]; rfl
    have hv : getV (s.1.map Y) = .tuple #[.int .i64 (getR (s.1.map Y)).1, .int .i64 u, .int .i64 0] := by unfold getV; rw [h0, h1]
    rw [hv] at HGET
    generalize (getR (s.1.map Y)).1 = n at *
    have HDL : Hid (s.1.length - u = (s.1.drop u).length) := show _ = _ by rw [List.length_drop]
    obtain ⟨adr, hadr⟩ : ∃ x, (if cap = u then a else Option.map (fun x => x.add u) a) = x := ⟨_, rfl⟩
    have HT : Hid (Bytes w adr (cap - u) (s.1.drop u)) := by rw [← hadr]; exact HBY.out.tail u
    have HAP2 : Hid (∀ x : Addr, adr = some x → x.block ≠ R ∧ x.block < N) := fun x e => tail_apart (hadr.trans e) HAP.out
    clear h0 h1 hv
    generalize hL : s.1.length = L at *
    have e1 : (0 : Int) ≤ (u : Int) := by omega
    have e2 : (u : Int) ≤ (L : Int) := by omega
    have e3 : (u : Int) ≤ (cap : Int) := by omega
    go_enter Tryz.func82, Tryz.ntmps82
    go_wp2_with fail
    refine wp_scope_hops 0 ?_
    go_hide hQ
    go_wp2_with fail
    refine Calls.mono HGET.out ?_
    rintro e w' ⟨rfl, rfl⟩
    go_wp2_with fail
    subst hQ
    rw [hops_ret]
    go_ret
    have h1 : Blk (w.setCell ⟨R, 0, none⟩ (.slice adr (L - u) (cap - u))) R [.slice adr (L - u) (cap - u), .bool s.2] := HB.out.set 0 _
    refine ⟨ret_int (by rw [HRN.out]), ?_, (Keep.refl _ _).setCell 0 _⟩
    rw [HRN.out]
    refine ⟨by simpa [World.setCell] using H.out.base, adr, cap - u, ?_, HT.out.kept fun b o e => Below.heap_setCell w _ _ b (HAP2.out _ e).1, HAP2.out⟩
    show Blk _ R [.slice adr (s.1.drop u).length (cap - u), .bool s.2]
    rw [← HDL.out]; exact h1
  · have HRN : Hid (rN s = (0, ([], true))) := by
      show _ = _
      unfold rN; rw [hbad]; rfl
    have hv : getV (s.1.map Y) = .tuple #[.int .i64 0, .int .i64 0, .int .i64 2] := by unfold getV; rw [hbad]
    rw [hv] at HGET
    clear hv hbad
    generalize hL : s.1.length = L at *
    go_enter Tryz.func82, Tryz.ntmps82
    go_wp2_with fail
    refine wp_scope_hops 1 ?_
    go_hide hQ
    go_wp2_with fail
    refine Calls.mono HGET.out ?_
    rintro e w' ⟨rfl, rfl⟩
    go_wp2_with fail
    go_step3
    simp only [Exit.then]
    subst hQ
    rw [hops_goto]
    refine ⟨_, rfl, ?_⟩
    go_hide hQ
    go_wp2_with fail
    refine (fail_any R N s w H.out).mono ?_
    rintro e w2 ⟨rfl, hR2, hK2⟩
    go_wp2_with fail
    subst hQ
    rw [hops_ret]
    go_ret
    rw [HRN.out]
    exact ⟨rfl, hR2, hK2⟩
/-- How many follow, most at most. -/
def rC (s : RS) (most : Int) : Int × RS := if (rN s).1 ≤ most then rN s else (0, ([], true))
set_option maxRecDepth 100000 in
set_option maxHeartbeats 2000000 in
theorem rcount_any (R N : Nat) (s : RS) (most : Int) (w : World) (h : Rd w R N s) :
    Calls Tryz.prog 53 #[.pointer (some ⟨R, 0, none⟩), .int .i64 most] w fun e w' => e = .returned (.int .i64 (rC s most).1) ∧ Rd w' R N (rC s most).2 ∧ Keep R w w' := by
  have H : Hid (Rd w R N s) := h
  obtain ⟨n0, n1⟩ := rN_range s
  have HNUM : Hid (∀ w, Rd w R N s → Calls Tryz.prog 82 #[.pointer (some ⟨R, 0, none⟩)] w fun e w' => e = .returned (.int .i64 (rN s).1) ∧ Rd w' R N (rN s).2 ∧ Keep R w w') := fun w h => rnum_any R N s w h
  clear h
  by_cases hm : (rN s).1 ≤ most
  · have HC : Hid (rC s most = rN s) := show _ = _ from if_pos hm
    obtain ⟨s', hs'⟩ : ∃ x, (rN s).2 = x := ⟨_, rfl⟩
    rw [hs'] at HNUM
    obtain ⟨n, hn⟩ : ∃ x, (rN s).1 = x := ⟨_, rfl⟩
    rw [hn] at HNUM hm n0 n1
    have HN : Hid ((rN s).1 = n ∧ (rN s).2 = s') := ⟨hn, hs'⟩
    have hd : decide (most < n) = false := decide_eq_false (by omega)
    clear hn hs'
    go_enter Tryz.func53, Tryz.ntmps53
    go_wp2_with fail
    refine wp_scope_hops 0 ?_
    go_hide hQ
    go_wp2_with fail
    refine Calls.mono (HNUM.out w H.out) ?_
    rintro e w1 ⟨rfl, hR1, hK1⟩
    go_wp2_with fail
    subst hQ
    rw [hops_ret]
    go_ret
    rw [HC.out, HN.out.1, HN.out.2]
    exact ⟨rfl, hR1, hK1⟩
  · have HC : Hid (rC s most = (0, ([], true))) := show _ = _ from if_neg hm
    obtain ⟨s', hs'⟩ : ∃ x, (rN s).2 = x := ⟨_, rfl⟩
    rw [hs'] at HNUM
    obtain ⟨n, hn⟩ : ∃ x, (rN s).1 = x := ⟨_, rfl⟩
    rw [hn] at HNUM hm n0 n1
    have hd : decide (most < n) = true := decide_eq_true (by omega)
    clear hn hs'
    go_enter Tryz.func53, Tryz.ntmps53
    go_wp2_with fail
    refine wp_scope_hops 1 ?_
    go_hide hQ
    go_wp2_with fail
    refine Calls.mono (HNUM.out w H.out) ?_
    rintro e w1 ⟨rfl, hR1, hK1⟩
    have HR1 : Hid (Rd w1 R N s') := hR1
    clear hR1
    go_wp2_with fail
    go_step3
    simp only [Exit.then]
    subst hQ
    rw [hops_goto]
    refine ⟨_, rfl, ?_⟩
    go_hide hQ
    go_wp2_with fail
    refine (fail_any R N s' w1 HR1.out).mono ?_
    rintro e w2 ⟨rfl, hR2, hK2⟩
    go_wp2_with fail
    subst hQ
    rw [hops_ret]
    go_ret
    rw [HC.out]
    exact ⟨rfl, hR2, hK1.trans hK2⟩
/-- The next n bytes, and what is left behind them. -/
def rT (s : RS) (n : Int) : List (BitVec 8) × RS := if n ≤ s.1.length then (s.1.take n.toNat, (s.1.drop n.toNat, s.2)) else ([], ([], true))
theorem ret_slice {a : Option Addr} {n m cap : Nat} (h : n = m) : Ending.returned (.slice a n cap) = .returned (.slice a m cap) := by rw [h]
set_option maxRecDepth 100000 in
set_option maxHeartbeats 2000000 in
theorem take_any (R N : Nat) (s : RS) (n : Int) (w : World) (h : Rd w R N s) (hn : 0 ≤ n) (hn2 : n ≤ 4611686018427387904) :
    Calls Tryz.prog 84 #[.pointer (some ⟨R, 0, none⟩), .int .i64 n] w fun e w' => ∃ a cap, e = .returned (.slice a (rT s n).1.length cap) ∧ Bytes w' a cap (rT s n).1 ∧ (∀ x : Addr, a = some x → x.block ≠ R ∧ x.block < N) ∧ Rd w' R N (rT s n).2 ∧ Keep R w w' := by
  have hmo : Tryz.prog.follows .mixedOrders = true := by kernel_rfl
  have HMO : Hid (_ = true) := hmo
  obtain ⟨a, cap, hB, hBy, hap⟩ := h.ex
  have H : Hid (Rd w R N s) := h
  have HB : Hid (Blk w R [.slice a s.1.length cap, .bool s.2]) := hB
  have HBY : Hid (Bytes w a cap s.1) := hBy
  have HAP : Hid (∀ x : Addr, a = some x → x.block ≠ R ∧ x.block < N) := hap
  have c0 : w.cell? ⟨R, 0, none⟩ = some (.slice a s.1.length cap) := hB.one rfl
  have f0 : w.frozen? ⟨R, 0, none⟩ = false := hB.frozen 0
  have hroom := hBy.room
  have hmost : cap ≤ 9223372036854775807 := by have := hBy.most; unfold maxLen at this; omega
  clear h hB hBy hap hmo
  obtain ⟨u, rfl⟩ : ∃ u : Nat, n = (u : Int) := ⟨n.toNat, by omega⟩
  by_cases hle : u ≤ s.1.length
  · have HRN : Hid (rT s (u : Int) = (s.1.take u, (s.1.drop u, s.2))) := by
      show _ = _
      unfold rT; rw [if_pos (by omega)]; rfl
    have HDL : Hid (s.1.length - u = (s.1.drop u).length) := show _ = _ by rw [List.length_drop]
    have HTL : Hid (u = (s.1.take u).length) := show _ = _ by rw [List.length_take]; omega
    obtain ⟨adr, hadr⟩ : ∃ x, (if cap = u then a else Option.map (fun x => x.add u) a) = x := ⟨_, rfl⟩
    have HT : Hid (Bytes w adr (cap - u) (s.1.drop u)) := by rw [← hadr]; exact HBY.out.tail u
    have HAP2 : Hid (∀ x : Addr, adr = some x → x.block ≠ R ∧ x.block < N) := fun x e => tail_apart (hadr.trans e) HAP.out
    have HCUT : Hid (∀ {w : World} {a : Option Addr} {cap : Nat}, Bytes w a cap s.1 → Bytes w a cap (s.1.take u)) := fun {w a cap} h => by
      have := h.cut 0 u hle
      rw [List.drop_zero, Nat.sub_zero, Nat.sub_zero] at this
      refine ⟨this.room, this.most, fun hne => ?_⟩
      obtain ⟨b, o, e, hc⟩ := h.lie (by intro e; rw [e] at hne; simp at hne)
      refine ⟨b, o, e, fun j hj => ?_⟩
      rw [List.length_take] at hj
      rw [hc j (by omega), List.getD_eq_getElem?_getD, List.getD_eq_getElem?_getD, List.getElem?_take_of_lt (by omega)]
    generalize hL : s.1.length = L at *
    have e0 : decide ((L : Int) < (u : Int)) = false := decide_eq_false (by omega)
    have e1 : (0 : Int) ≤ (u : Int) := by omega
    have e2 : (u : Int) ≤ (L : Int) := by omega
    have e3 : (u : Int) ≤ (cap : Int) := by omega
    go_enter Tryz.func84, Tryz.ntmps84
    go_wp2_with fail
    refine wp_scope_hops 0 ?_
    go_hide hQ
    go_upto_region 3 with fail
    refine wp_region_noPanic ?_
    refine wp_region_held_drew (S := fun _ => True) HMO.out (trivial) (fun hHeld => ?_)
    refine wpAnyH_take (i := 0) (oi := { dst := some 13, op := .move (.tmp 0), type := 98, pos := "wire.go:128", after := #[{ on := 13, ground := .gcOnly Go.Departure.lateStores }], guard := none }) (v := ?_) rfl (by kernel_rfl) (by kernel_rfl) (by kernel_rfl) (fun _ _ _ h => h) (Or.inl ⟨by rfl, ?_⟩) (by assumption) ?_
    rotate_left
    · intro _ _; go_simp; first | done | with_reducible rfl
    simp only [Act.put, List.setIfInBounds_toArray, List.set_cons_zero, List.set_cons_succ]
    refine wpAnyH_take (i := 1) (oi := { dst := some 14, op := .move (.tmp 0), type := 98, pos := "wire.go:128", after := #[], guard := none }) (v := ?_) rfl (by kernel_rfl) (by kernel_rfl) (by kernel_rfl) (fun _ _ _ h => h) (Or.inl ⟨by rfl, ?_⟩) (by assumption) ?_
    rotate_left
    · intro _ _; go_simp; first | done | with_reducible rfl
    simp only [Act.put, List.setIfInBounds_toArray, List.set_cons_zero, List.set_cons_succ]
    refine wpAnyH_take (i := 2) (oi := { dst := some 15, op := .nilCheck (.tmp 14), type := 0, pos := "wire.go:128", after := #[{ on := 1, ground := .data }], guard := none }) (v := ?_) rfl (by kernel_rfl) (by kernel_rfl) (by kernel_rfl) (fun _ _ _ h => h) (Or.inl ⟨by rfl, ?_⟩) (by assumption) ?_
    rotate_left
    · intro _ _; go_simp; first | done | with_reducible rfl
    simp only [Act.put, List.setIfInBounds_toArray, List.set_cons_zero, List.set_cons_succ]
    refine wpAnyH_take (i := 3) (oi := { dst := some 16, op := .fieldAddr 130 (.tmp 15) 0, type := 0, pos := "wire.go:128", after := #[{ on := 2, ground := .data }], guard := none }) (v := ?_) rfl (by kernel_rfl) (by kernel_rfl) (by kernel_rfl) (fun _ _ _ h => h) (Or.inl ⟨by rfl, ?_⟩) (by assumption) ?_
    rotate_left
    · intro _ _; go_simp; first | done | with_reducible rfl
    simp only [Act.put, List.setIfInBounds_toArray, List.set_cons_zero, List.set_cons_succ]
    refine wpAnyH_take (i := 5) (oi := { dst := some 18, op := .move (.tmp 1), type := 3, pos := "wire.go:128", after := #[], guard := none }) (v := ?_) rfl (by kernel_rfl) (by kernel_rfl) (by kernel_rfl) (fun _ _ _ h => h) (Or.inl ⟨by rfl, ?_⟩) (by assumption) ?_
    rotate_left
    · intro _ _; go_simp; first | done | with_reducible rfl
    simp only [Act.put, List.setIfInBounds_toArray, List.set_cons_zero, List.set_cons_succ]
    refine wpAnyH_take (i := 7) (oi := { dst := some 20, op := .move (.tmp 0), type := 98, pos := "wire.go:128", after := #[], guard := none }) (v := ?_) rfl (by kernel_rfl) (by kernel_rfl) (by kernel_rfl) (fun _ _ _ h => h) (Or.inl ⟨by rfl, ?_⟩) (by assumption) ?_
    rotate_left
    · intro _ _; go_simp; first | done | with_reducible rfl
    simp only [Act.put, List.setIfInBounds_toArray, List.set_cons_zero, List.set_cons_succ]
    refine wpAnyH_take (i := 8) (oi := { dst := some 21, op := .nilCheck (.tmp 20), type := 0, pos := "wire.go:128", after := #[{ on := 7, ground := .data }], guard := none }) (v := ?_) rfl (by kernel_rfl) (by kernel_rfl) (by kernel_rfl) (fun _ _ _ h => h) (Or.inl ⟨by rfl, ?_⟩) (by assumption) ?_
    rotate_left
    · intro _ _; go_simp; first | done | with_reducible rfl
    simp only [Act.put, List.setIfInBounds_toArray, List.set_cons_zero, List.set_cons_succ]
    refine wpAnyH_take (i := 9) (oi := { dst := some 22, op := .fieldAddr 130 (.tmp 21) 0, type := 0, pos := "wire.go:128", after := #[{ on := 8, ground := .data }], guard := none }) (v := ?_) rfl (by kernel_rfl) (by kernel_rfl) (by kernel_rfl) (fun _ _ _ h => h) (Or.inl ⟨by rfl, ?_⟩) (by assumption) ?_
    rotate_left
    · intro _ _; go_simp; first | done | with_reducible rfl
    simp only [Act.put, List.setIfInBounds_toArray, List.set_cons_zero, List.set_cons_succ]
    refine wpAnyH_take (i := 11) (oi := { dst := some 24, op := .move (.tmp 1), type := 3, pos := "wire.go:128", after := #[], guard := none }) (v := ?_) rfl (by kernel_rfl) (by kernel_rfl) (by kernel_rfl) (fun _ _ _ h => h) (Or.inl ⟨by rfl, ?_⟩) (by assumption) ?_
    rotate_left
    · intro _ _; go_simp; first | done | with_reducible rfl
    simp only [Act.put, List.setIfInBounds_toArray, List.set_cons_zero, List.set_cons_succ]
    refine wpAnyH_ready (rs := [4, 10]) (by kernel_rfl) (by simp) ?_
    refine (AllReadyH.cons (o := { dst := some 17, op := .load 67 (.tmp 16), type := 67, pos := "wire.go:128", after := #[{ on := 3, ground := .data }], guard := none }) rfl (fun K hK => ?_) (AllReadyH.cons (o := { dst := some 23, op := .load 67 (.tmp 22), type := 67, pos := "wire.go:128", after := #[{ on := 9, ground := .data }], guard := none }) rfl (fun K hK => ?_) AllReadyH.nil))
    · go_simp
      skip
      go_simp
      refine hK.out _ _ (trivial) (fun hHeld => ?_)
      clear hK K
      refine wpAnyH_take (i := 6) (oi := { dst := some 19, op := .slice 67 (.tmp 17) none (some (.tmp 18)) none, type := 67, pos := "wire.go:128", after := #[{ on := 4, ground := .data }, { on := 5, ground := .data }], guard := none }) (v := ?_) rfl (by kernel_rfl) (by kernel_rfl) (by kernel_rfl) (fun _ _ _ h => h) (Or.inl ⟨by rfl, ?_⟩) (by assumption) ?_
      rotate_left
      · intro _ _; go_simp; first | done | with_reducible rfl
      simp only [Act.put, List.setIfInBounds_toArray, List.set_cons_zero, List.set_cons_succ]
      refine wpAnyH_take (i := 13) (oi := { dst := some 5, op := .assign (.tmp 19), type := 67, pos := "wire.go:128", after := #[{ on := 6, ground := .data }, { on := 0, ground := .textOnly Go.Departure.lateStores }, { on := 1, ground := .phase }, { on := 2, ground := .phase }, { on := 3, ground := .phase }, { on := 4, ground := .phase }, { on := 5, ground := .phase }, { on := 6, ground := .phase }, { on := 7, ground := .textOnly Go.Departure.lateStores }, { on := 8, ground := .textOnly Go.Departure.lateStores }, { on := 9, ground := .textOnly Go.Departure.lateStores }, { on := 10, ground := .textOnly Go.Departure.lateStores }, { on := 11, ground := .textOnly Go.Departure.lateStores }, { on := 12, ground := .textOnly Go.Departure.lateStoresUnsure }], guard := none }) (v := ?_) rfl (by kernel_rfl) (by kernel_rfl) (by kernel_rfl) (fun _ _ _ h => h) (Or.inl ⟨by rfl, ?_⟩) (by assumption) ?_
      rotate_left
      · intro _ _; go_simp; first | done | with_reducible rfl
      simp only [Act.put, List.setIfInBounds_toArray, List.set_cons_zero, List.set_cons_succ]
      refine wpAnyH_ready (rs := [10]) (by kernel_rfl) (by simp) ?_
      refine AllReadyH.cons (o := { dst := some 23, op := .load 67 (.tmp 22), type := 67, pos := "wire.go:128", after := #[{ on := 9, ground := .data }], guard := none }) rfl (fun K hK => ?_) AllReadyH.nil
      go_simp
      skip
      go_simp
      refine hK.out _ _ (trivial) (fun hHeld => ?_)
      clear hK K
      refine wpAnyH_take (i := 12) (oi := { dst := some 25, op := .slice 67 (.tmp 23) (some (.tmp 24)) none none, type := 67, pos := "wire.go:128", after := #[{ on := 10, ground := .data }, { on := 11, ground := .data }], guard := none }) (v := ?_) rfl (by kernel_rfl) (by kernel_rfl) (by kernel_rfl) (fun _ _ _ h => h) (Or.inl ⟨by rfl, ?_⟩) (by assumption) ?_
      rotate_left
      · intro _ _; go_simp; first | done | with_reducible rfl
      simp only [Act.put, List.setIfInBounds_toArray, List.set_cons_zero, List.set_cons_succ]
      refine wpAnyH_take (i := 14) (oi := { dst := some 26, op := .nilCheck (.tmp 13), type := 0, pos := "wire.go:128", after := #[{ on := 0, ground := .data }, { on := 0, ground := .phase }, { on := 1, ground := .phase }, { on := 2, ground := .phase }, { on := 3, ground := .phase }, { on := 4, ground := .phase }, { on := 5, ground := .phase }, { on := 6, ground := .phase }, { on := 7, ground := .phase }, { on := 8, ground := .phase }, { on := 9, ground := .phase }, { on := 10, ground := .phase }, { on := 11, ground := .phase }, { on := 12, ground := .phase }, { on := 13, ground := .phase }], guard := none }) (v := ?_) rfl (by kernel_rfl) (by kernel_rfl) (by kernel_rfl) (fun _ _ _ h => h) (Or.inl ⟨by rfl, ?_⟩) (by assumption) ?_
      rotate_left
      · intro _ _; go_simp; first | done | with_reducible rfl
      simp only [Act.put, List.setIfInBounds_toArray, List.set_cons_zero, List.set_cons_succ]
      refine wpAnyH_take (i := 15) (oi := { dst := some 27, op := .fieldAddr 130 (.tmp 26) 0, type := 0, pos := "wire.go:128", after := #[{ on := 14, ground := .data }, { on := 0, ground := .phase }, { on := 1, ground := .phase }, { on := 2, ground := .phase }, { on := 3, ground := .phase }, { on := 4, ground := .phase }, { on := 5, ground := .phase }, { on := 6, ground := .phase }, { on := 7, ground := .phase }, { on := 8, ground := .phase }, { on := 9, ground := .phase }, { on := 10, ground := .phase }, { on := 11, ground := .phase }, { on := 12, ground := .phase }, { on := 13, ground := .phase }], guard := none }) (v := ?_) rfl (by kernel_rfl) (by kernel_rfl) (by kernel_rfl) (fun _ _ _ h => h) (Or.inl ⟨by rfl, ?_⟩) (by assumption) ?_
      rotate_left
      · intro _ _; go_simp; first | done | with_reducible rfl
      simp only [Act.put, List.setIfInBounds_toArray, List.set_cons_zero, List.set_cons_succ]
      refine wpAnyH_ready (rs := [16]) (by kernel_rfl) (by simp) ?_
      refine AllReadyH.cons (o := { dst := none, op := .store 67 (.tmp 27) (.tmp 25), type := 0, pos := "wire.go:128", after := #[{ on := 15, ground := .data }, { on := 12, ground := .data }, { on := 13, ground := .chain }, { on := 0, ground := .phase }, { on := 1, ground := .phase }, { on := 2, ground := .phase }, { on := 3, ground := .phase }, { on := 4, ground := .phase }, { on := 5, ground := .phase }, { on := 6, ground := .phase }, { on := 7, ground := .phase }, { on := 8, ground := .phase }, { on := 9, ground := .phase }, { on := 10, ground := .phase }, { on := 11, ground := .phase }, { on := 12, ground := .phase }, { on := 13, ground := .phase }], guard := none }) rfl (fun K hK => ?_) AllReadyH.nil
      go_simp
      skip
      go_simp
      refine hK.out _ _ (trivial) (fun hHeld => ?_)
      clear hK K
      refine wpAnyH_done (by kernel_rfl) ?_ _
      refine NoPanic.normal ?_
      go_wp2_with fail
      subst hQ
      rw [hops_ret]
      go_ret
      have h1 : Blk (w.setCell ⟨R, 0, none⟩ (.slice adr (L - u) (cap - u))) R [.slice adr (L - u) (cap - u), .bool s.2] := HB.out.set 0 _
      have hsz : (w.setCell ⟨R, 0, none⟩ (.slice adr (L - u) (cap - u))).heap.size = w.heap.size := by simp [World.setCell]
      refine ⟨a, cap, ret_slice (by rw [HRN.out]; exact HTL.out), ?_, HAP.out, ?_, ((Keep.refl _ _).setCell 0 _).drew⟩
      · rw [HRN.out]
        exact (HCUT.out HBY.out).kept fun b o e => Below.heap_setCell w _ _ b (HAP.out _ e).1
      · rw [HRN.out]
        refine ⟨Nat.le_trans H.out.base (Nat.le_of_eq hsz.symm), adr, cap - u, ?_, HT.out.kept fun b o e => Below.heap_setCell w _ _ b (HAP2.out _ e).1, HAP2.out⟩
        show Blk _ R [.slice adr (s.1.drop u).length (cap - u), .bool s.2]
        rw [← HDL.out]; exact h1
    · go_simp
      skip
      go_simp
      refine hK.out _ _ (trivial) (fun hHeld => ?_)
      clear hK K
      refine wpAnyH_take (i := 12) (oi := { dst := some 25, op := .slice 67 (.tmp 23) (some (.tmp 24)) none none, type := 67, pos := "wire.go:128", after := #[{ on := 10, ground := .data }, { on := 11, ground := .data }], guard := none }) (v := ?_) rfl (by kernel_rfl) (by kernel_rfl) (by kernel_rfl) (fun _ _ _ h => h) (Or.inl ⟨by rfl, ?_⟩) (by assumption) ?_
      rotate_left
      · intro _ _; go_simp; first | done | with_reducible rfl
      simp only [Act.put, List.setIfInBounds_toArray, List.set_cons_zero, List.set_cons_succ]
      refine wpAnyH_ready (rs := [4]) (by kernel_rfl) (by simp) ?_
      refine AllReadyH.cons (o := { dst := some 17, op := .load 67 (.tmp 16), type := 67, pos := "wire.go:128", after := #[{ on := 3, ground := .data }], guard := none }) rfl (fun K hK => ?_) AllReadyH.nil
      go_simp
      skip
      go_simp
      refine hK.out _ _ (trivial) (fun hHeld => ?_)
      clear hK K
      refine wpAnyH_take (i := 6) (oi := { dst := some 19, op := .slice 67 (.tmp 17) none (some (.tmp 18)) none, type := 67, pos := "wire.go:128", after := #[{ on := 4, ground := .data }, { on := 5, ground := .data }], guard := none }) (v := ?_) rfl (by kernel_rfl) (by kernel_rfl) (by kernel_rfl) (fun _ _ _ h => h) (Or.inl ⟨by rfl, ?_⟩) (by assumption) ?_
      rotate_left
      · intro _ _; go_simp; first | done | with_reducible rfl
      simp only [Act.put, List.setIfInBounds_toArray, List.set_cons_zero, List.set_cons_succ]
      refine wpAnyH_take (i := 13) (oi := { dst := some 5, op := .assign (.tmp 19), type := 67, pos := "wire.go:128", after := #[{ on := 6, ground := .data }, { on := 0, ground := .textOnly Go.Departure.lateStores }, { on := 1, ground := .phase }, { on := 2, ground := .phase }, { on := 3, ground := .phase }, { on := 4, ground := .phase }, { on := 5, ground := .phase }, { on := 6, ground := .phase }, { on := 7, ground := .textOnly Go.Departure.lateStores }, { on := 8, ground := .textOnly Go.Departure.lateStores }, { on := 9, ground := .textOnly Go.Departure.lateStores }, { on := 10, ground := .textOnly Go.Departure.lateStores }, { on := 11, ground := .textOnly Go.Departure.lateStores }, { on := 12, ground := .textOnly Go.Departure.lateStoresUnsure }], guard := none }) (v := ?_) rfl (by kernel_rfl) (by kernel_rfl) (by kernel_rfl) (fun _ _ _ h => h) (Or.inl ⟨by rfl, ?_⟩) (by assumption) ?_
      rotate_left
      · intro _ _; go_simp; first | done | with_reducible rfl
      simp only [Act.put, List.setIfInBounds_toArray, List.set_cons_zero, List.set_cons_succ]
      refine wpAnyH_take (i := 14) (oi := { dst := some 26, op := .nilCheck (.tmp 13), type := 0, pos := "wire.go:128", after := #[{ on := 0, ground := .data }, { on := 0, ground := .phase }, { on := 1, ground := .phase }, { on := 2, ground := .phase }, { on := 3, ground := .phase }, { on := 4, ground := .phase }, { on := 5, ground := .phase }, { on := 6, ground := .phase }, { on := 7, ground := .phase }, { on := 8, ground := .phase }, { on := 9, ground := .phase }, { on := 10, ground := .phase }, { on := 11, ground := .phase }, { on := 12, ground := .phase }, { on := 13, ground := .phase }], guard := none }) (v := ?_) rfl (by kernel_rfl) (by kernel_rfl) (by kernel_rfl) (fun _ _ _ h => h) (Or.inl ⟨by rfl, ?_⟩) (by assumption) ?_
      rotate_left
      · intro _ _; go_simp; first | done | with_reducible rfl
      simp only [Act.put, List.setIfInBounds_toArray, List.set_cons_zero, List.set_cons_succ]
      refine wpAnyH_take (i := 15) (oi := { dst := some 27, op := .fieldAddr 130 (.tmp 26) 0, type := 0, pos := "wire.go:128", after := #[{ on := 14, ground := .data }, { on := 0, ground := .phase }, { on := 1, ground := .phase }, { on := 2, ground := .phase }, { on := 3, ground := .phase }, { on := 4, ground := .phase }, { on := 5, ground := .phase }, { on := 6, ground := .phase }, { on := 7, ground := .phase }, { on := 8, ground := .phase }, { on := 9, ground := .phase }, { on := 10, ground := .phase }, { on := 11, ground := .phase }, { on := 12, ground := .phase }, { on := 13, ground := .phase }], guard := none }) (v := ?_) rfl (by kernel_rfl) (by kernel_rfl) (by kernel_rfl) (fun _ _ _ h => h) (Or.inl ⟨by rfl, ?_⟩) (by assumption) ?_
      rotate_left
      · intro _ _; go_simp; first | done | with_reducible rfl
      simp only [Act.put, List.setIfInBounds_toArray, List.set_cons_zero, List.set_cons_succ]
      refine wpAnyH_ready (rs := [16]) (by kernel_rfl) (by simp) ?_
      refine AllReadyH.cons (o := { dst := none, op := .store 67 (.tmp 27) (.tmp 25), type := 0, pos := "wire.go:128", after := #[{ on := 15, ground := .data }, { on := 12, ground := .data }, { on := 13, ground := .chain }, { on := 0, ground := .phase }, { on := 1, ground := .phase }, { on := 2, ground := .phase }, { on := 3, ground := .phase }, { on := 4, ground := .phase }, { on := 5, ground := .phase }, { on := 6, ground := .phase }, { on := 7, ground := .phase }, { on := 8, ground := .phase }, { on := 9, ground := .phase }, { on := 10, ground := .phase }, { on := 11, ground := .phase }, { on := 12, ground := .phase }, { on := 13, ground := .phase }], guard := none }) rfl (fun K hK => ?_) AllReadyH.nil
      go_simp
      skip
      go_simp
      refine hK.out _ _ (trivial) (fun hHeld => ?_)
      clear hK K
      refine wpAnyH_done (by kernel_rfl) ?_ _
      refine NoPanic.normal ?_
      go_wp2_with fail
      subst hQ
      rw [hops_ret]
      go_ret
      have h1 : Blk (w.setCell ⟨R, 0, none⟩ (.slice adr (L - u) (cap - u))) R [.slice adr (L - u) (cap - u), .bool s.2] := HB.out.set 0 _
      have hsz : (w.setCell ⟨R, 0, none⟩ (.slice adr (L - u) (cap - u))).heap.size = w.heap.size := by simp [World.setCell]
      refine ⟨a, cap, ret_slice (by rw [HRN.out]; exact HTL.out), ?_, HAP.out, ?_, ((Keep.refl _ _).setCell 0 _).drew⟩
      · rw [HRN.out]
        exact (HCUT.out HBY.out).kept fun b o e => Below.heap_setCell w _ _ b (HAP.out _ e).1
      · rw [HRN.out]
        refine ⟨Nat.le_trans H.out.base (Nat.le_of_eq hsz.symm), adr, cap - u, ?_, HT.out.kept fun b o e => Below.heap_setCell w _ _ b (HAP2.out _ e).1, HAP2.out⟩
        show Blk _ R [.slice adr (s.1.drop u).length (cap - u), .bool s.2]
        rw [← HDL.out]; exact h1
  · have HRN : Hid (rT s (u : Int) = ([], ([], true))) := by
      show _ = _
      unfold rT; rw [if_neg (by omega)]
    generalize hL : s.1.length = L at *
    have e0 : decide ((L : Int) < (u : Int)) = true := decide_eq_true (by omega)
    go_enter Tryz.func84, Tryz.ntmps84
    go_wp2_with fail
    refine wp_scope_hops 1 ?_
    go_hide hQ
    go_wp2_with fail
    go_step3
    simp only [Exit.then]
    subst hQ
    rw [hops_goto]
    refine ⟨_, rfl, ?_⟩
    go_hide hQ
    go_wp2_with fail
    refine (fail_any R N s w H.out).mono ?_
    rintro e w2 ⟨rfl, hR2, hK2⟩
    go_wp2_with fail
    subst hQ
    rw [hops_ret]
    go_ret
    rw [HRN.out]
    exact ⟨none, 0, rfl, zero_bytes _, (fun x e => by cases e), hR2, hK2⟩
theorem Bytes.str {w : World} {a : Option Addr} {cap : Nat} {bs : List (BitVec 8)} (h : Bytes w a cap bs) : (convert 67 9 (.slice a bs.length cap)).run Tryz.prog w = .ok (.string (ofB bs)) w := by
  by_cases hne : bs = []
  · subst hne
    cases a with
    | none => exact run_convert_bytes_nil w 67 5 Tryz.underlying67 Tryz.underlying5 0 cap 9 Tryz.underlying9
    | some x =>
      rw [run_convert_bytes_string w _ _ _ _ _ _ Tryz.underlying67 Tryz.underlying5 Tryz.underlying9]
      exact run_bytesToString w x 0 cap [] (run_loadCells_list (P := Tryz.prog) w x [] fun j v hv => by simp at hv)
  · obtain ⟨b, off, rfl, hc⟩ := h.lie hne
    exact run_convert_bytes_arg w 67 5 Tryz.underlying67 Tryz.underlying5 b off bs.length cap (bs.map Y) (by rw [List.length_map]) (fun i hi => by
      rw [hc i hi]
      congr 2
      rw [List.getD_eq_getElem?_getD, List.getD_eq_getElem?_getD, List.getElem?_map, List.getElem?_eq_getElem hi]; rfl) 9 Tryz.underlying9

theorem ret_str {a b : ByteArray} (h : a = b) : Ending.returned (.string a) = .returned (.string b) := by rw [h]
/-- The next text, and what is left behind it. -/
def rX (s : RS) : ByteArray × RS := (ofB (rT (rN s).2 (rN s).1).1, (rT (rN s).2 (rN s).1).2)
set_option maxRecDepth 100000 in
set_option maxHeartbeats 2000000 in
theorem rtext_any (R N : Nat) (s : RS) (w : World) (h : Rd w R N s) :
    Calls Tryz.prog 54 #[.pointer (some ⟨R, 0, none⟩)] w fun e w' => e = .returned (.string (rX s).1) ∧ Rd w' R N (rX s).2 ∧ Keep R w w' := by
  have H : Hid (Rd w R N s) := h
  have HNUM : Hid (∀ w, Rd w R N s → Calls Tryz.prog 82 #[.pointer (some ⟨R, 0, none⟩)] w fun e w' => e = .returned (.int .i64 (rN s).1) ∧ Rd w' R N (rN s).2 ∧ Keep R w w') := fun w h => rnum_any R N s w h
  clear h
  have HX : Hid (rX s = (ofB (rT (rN s).2 (rN s).1).1, (rT (rN s).2 (rN s).1).2)) := rfl
  obtain ⟨n0, n1⟩ := rN_range s
  generalize (rN s).2 = s1 at *
  generalize (rN s).1 = n at *
  have HTAKE : Hid (∀ w, Rd w R N s1 → Calls Tryz.prog 84 #[.pointer (some ⟨R, 0, none⟩), .int .i64 n] w fun e w' => ∃ a cap, e = .returned (.slice a (rT s1 n).1.length cap) ∧ Bytes w' a cap (rT s1 n).1 ∧ (∀ x : Addr, a = some x → x.block ≠ R ∧ x.block < N) ∧ Rd w' R N (rT s1 n).2 ∧ Keep R w w') := fun w h => take_any R N s1 n w h n0 n1
  rw [HX.out]
  clear HX n0 n1
  generalize (rT s1 n).2 = s2 at *
  generalize (rT s1 n).1 = bs at *
  go_enter Tryz.func54, Tryz.ntmps54
  go_wp2_with fail
  refine Calls.mono (HNUM.out w H.out) ?_
  rintro e w1 ⟨rfl, hR1, hK1⟩
  have HR1 : Hid (Rd w1 R N s1) := hR1
  clear hR1
  go_wp2_with fail
  refine Calls.mono (HTAKE.out w1 HR1.out) ?_
  rintro e w2 ⟨a, cap, rfl, hby, _, hR2, hK2⟩
  have c1 := hby.str
  obtain ⟨sb, hsb⟩ : ∃ x, ofB bs = x := ⟨_, rfl⟩
  rw [hsb] at c1
  have HSB : Hid (ofB bs = sb) := hsb
  clear hsb
  generalize bs.length = ln at *
  go_wp2_with fail
  go_ret
  exact ⟨ret_str HSB.out.symm, hR2, hK1.trans hK2⟩


/-- Whether all that was read was there, and nothing is left. -/
def rD (s : RS) : Bool := !s.2 && s.1.isEmpty
set_option maxRecDepth 100000 in
set_option maxHeartbeats 2000000 in
theorem rdone_any (R N : Nat) (s : RS) (w : World) (h : Rd w R N s) :
    Calls Tryz.prog 55 #[.pointer (some ⟨R, 0, none⟩)] w fun e w' => e = .returned (.bool (rD s)) ∧ w = w' := by
  obtain ⟨a, cap, hB, _, _⟩ := h.ex
  have c0 : w.cell? ⟨R, 0, none⟩ = some (.slice a s.1.length cap) := hB.one rfl
  have c1 : w.cell? ⟨R, 1, none⟩ = some (.bool s.2) := hB.one rfl
  clear h hB
  obtain ⟨bs, b⟩ := s
  have HD : Hid (rD (bs, b) = (!b && decide (bs.length = 0))) := by
    show _ = _
    unfold rD
    cases bs <;> simp
  simp only at c0 c1
  generalize bs.length = L at *
  cases b
  · go_enter Tryz.func55, Tryz.ntmps55
    go_wp2_with fail
    go_ret
    refine ⟨?_, rfl⟩
    rw [HD.out]
    by_cases hz : L = 0
    · subst hz; rfl
    · have h1 : decide (L = 0) = false := decide_eq_false hz
      have h2 : ((L : Int) == 0) = false := by simp [hz]
      simp [hz]
  · go_enter Tryz.func55, Tryz.ntmps55
    go_wp2_with fail
    go_ret
    refine ⟨?_, rfl⟩
    rw [HD.out]
    rfl

theorem ret_ptr {a b : Nat} (h : a = b) : Ending.returned (.pointer (some ⟨a, 0, none⟩)) = .returned (.pointer (some ⟨b, 0, none⟩)) := by rw [h]
set_option maxRecDepth 100000 in
set_option maxHeartbeats 2000000 in
theorem reader_any (v : Value) (bs : List (BitVec 8)) (w : World) (h : SrcB w v bs) (hl : bs.length ≤ 50000000) :
    Calls Tryz.prog 52 #[v] w fun e w' => ∃ R, e = .returned (.pointer (some ⟨R, 0, none⟩)) ∧ w.heap.size ≤ R ∧ Rd w' R w'.heap.size (bs, false) ∧ Below w.heap.size w w' := by
  have HCL : Hid (Calls Tryz.prog 44 #[v] w fun e w' => ∃ v', e = .returned v' ∧ OwnB w' w.heap.size v' bs ∧ Below w.heap.size w w') := bclone_any v bs w h hl
  clear h
  go_enter Tryz.func52, Tryz.ntmps52
  go_wp2_with fail
  refine Calls.mono HCL.out ?_
  rintro e w1 ⟨v', rfl, hO, hB⟩
  have HB : Hid (Below w.heap.size w w1) := hB
  obtain ⟨a, cap, rfl, hby⟩ := hO.bytes
  have HAP : Hid (∀ x : Addr, a = some x → x.block < w1.heap.size) := fun x e => (hO.lt x.block (by rw [e]; rfl)).2
  have HBY : Hid (Bytes w1 a cap bs) := hby
  have hs1 := hB.size
  clear hO hB hby
  generalize hL : bs.length = L at *
  go_wp2_with fail
  go_ret
  refine ⟨w1.heap.size, rfl, hs1, ?_, HB.out.alloc hs1 _⟩
  have hbk : Blk (w1.alloc (.cells #[.slice a L cap, .bool false] 130)) w1.heap.size [.slice a L cap, .bool false] := Blk.mk _ _ _ rfl rfl
  refine ⟨Nat.le_refl _, a, cap, by rw [hL]; exact hbk, HBY.out.kept fun b o e => Below.heap_alloc w1 _ b (HAP.out _ e), fun x e => ?_⟩
  have := HAP.out x e
  exact ⟨by omega, by simp; omega⟩
end Go.Proofs.YtlapnnkahijikaaGreatDoor
