/- wal: Dead, Bytes, beside, heed, ask, write. wal: write. wal: Append. wal: Reset. -/
import Derived.Test.YtlapnnkahijikaaDoorZW2
namespace Go.Proofs.YtlapnnkahijikaaDoor
open Go.ChangeShapes Go.WideShapes Go.ChangeAt Go.RowKit Go.Lib

/-- A log's cells. -/
def lgC (f : Nat) (nm : ByteArray) (size : Nat) (dead : Bool) : List Value := [.pointer (some ⟨f, 0, none⟩), .string nm, .int .i64 size, .bool dead]
def besE : ByteArray := ⟨#[46, 110, 101, 119]⟩
def bes (nm : ByteArray) : ByteArray := nm ++ besE
set_option maxRecDepth 100000 in
set_option maxHeartbeats 2000000 in
theorem dead_any (l f : Nat) (nm : ByteArray) (size : Nat) (dead : Bool) (w : World) (h : Blk w l (lgC f nm size dead)) :
    Calls Tryd.prog 8 #[.pointer (some ⟨l, 0, none⟩)] w fun e w' => e = .returned (.bool dead) ∧ w' = w := by
  have c3 : w.cell? ⟨l, 3, none⟩ = some (.bool dead) := h.one rfl
  clear h
  go_enter Tryd.func8, Tryd.ntmps8
  go_wp2_with fail
  go_ret
  exact ⟨by simp, rfl⟩
set_option maxRecDepth 100000 in
set_option maxHeartbeats 2000000 in
theorem dead_nil (w : World) :
    Calls Tryd.prog 8 #[.pointer none] w fun e w' => e = .returned (.bool true) ∧ w' = w := by
  go_enter Tryd.func8, Tryd.ntmps8
  go_wp2_with fail
  go_ret
  exact ⟨rfl, rfl⟩
set_option maxRecDepth 100000 in
set_option maxHeartbeats 2000000 in
theorem bytes_any (l f : Nat) (nm : ByteArray) (size : Nat) (dead : Bool) (w : World) (h : Blk w l (lgC f nm size dead)) :
    Calls Tryd.prog 14 #[.pointer (some ⟨l, 0, none⟩)] w fun e w' => e = .returned (.int .i64 size) ∧ w' = w := by
  have c2 : w.cell? ⟨l, 2, none⟩ = some (.int .i64 size) := h.one rfl
  clear h
  go_enter Tryd.func14, Tryd.ntmps14
  go_wp2_with fail
  go_ret
  exact ⟨rfl, rfl⟩
set_option maxRecDepth 100000 in
set_option maxHeartbeats 2000000 in
theorem beside_any (l f : Nat) (nm : ByteArray) (size : Nat) (dead : Bool) (w : World) (h : Blk w l (lgC f nm size dead)) (hs : nm.size ≤ 40) :
    Calls Tryd.prog 29 #[.pointer (some ⟨l, 0, none⟩)] w fun e w' => e = .returned (.string (bes nm)) ∧ w' = w := by
  have c1 : w.cell? ⟨l, 1, none⟩ = some (.string nm) := h.one rfl
  have HB : Hid (nm ++ ⟨#[46, 110, 101, 119]⟩ = bes nm) := show _ = _ from rfl
  clear h
  go_enter Tryd.func29, Tryd.ntmps29
  go_wp2_with fail
  go_ret
  exact ⟨by rw [← HB.out]; rfl, rfl⟩
set_option maxRecDepth 100000 in
set_option maxHeartbeats 2000000 in
theorem heed_any (l f : Nat) (nm : ByteArray) (size : Nat) (dead : Bool) (E : Int) (w : World) (h : Blk w l (lgC f nm size dead)) :
    Calls Tryd.prog 23 #[.pointer (some ⟨l, 0, none⟩), .int .i64 E] w fun e w' => e = .returned (.int .i64 E) ∧ Blk w' l (lgC f nm size (dead || E == 7)) ∧ Keep l w w' := by
  have c3 : w.cell? ⟨l, 3, none⟩ = some (.bool dead) := h.one rfl
  have g3 : w.frozen? ⟨l, 3, none⟩ = false := h.frozen 3
  have H : Hid (Blk w l (lgC f nm size dead)) := h
  clear h
  cases dead with
  | true =>
    go_enter Tryd.func23, Tryd.ntmps23
    go_wp2_with fail
    go_ret
    exact ⟨rfl, H.out.set 3 _, (Keep.refl _ _).setCell _ _⟩
  | false =>
    by_cases hE : E = 7
    · subst hE
      go_enter Tryd.func23, Tryd.ntmps23
      go_wp2_with fail
      go_ret
      exact ⟨rfl, H.out.set 3 _, (Keep.refl _ _).setCell _ _⟩
    · have hE' : (E == 7) = false := beq_eq_false_iff_ne.2 hE
      go_enter Tryd.func23, Tryd.ntmps23
      go_wp2_with fail
      go_ret
      refine ⟨rfl, ?_, (Keep.refl _ _).setCell _ _⟩
      rw [hE']
      exact H.out.set 3 _
/-- Each leads to its bytes, or to none. -/
def AllW (w : World) (xs : List Value) (rs : List (List (BitVec 8))) : Prop := xs.length = rs.length ∧ ∀ i x, xs[i]? = some x → Bw w x (rs.getD i [])
theorem All2.weak {w : World} {xs : List Value} {rs : List (List (BitVec 8))} (h : All2 w xs rs) : AllW w xs rs := ⟨h.1, fun i x hx => .inl (h.2 i x hx)⟩
theorem AllW.below {w w' : World} {xs : List Value} {rs : List (List (BitVec 8))} (h : AllW w xs rs) (hb : Below w.heap.size w w') : AllW w' xs rs := ⟨h.1, fun i x hx => (h.2 i x hx).below hb⟩
theorem AllW.one {w : World} {x : Value} {bs : List (BitVec 8)} (h : Bw w x bs) : AllW w [x] [bs] := ⟨rfl, fun i y hy => by
  cases i with
  | zero => injection hy with hy; subst hy; exact h
  | succ i => simp at hy⟩
/-- Slices of bytes that can be read, and their bytes. -/
def RowsB (w : World) (v : Value) (rs : List (List (BitVec 8))) : Prop := ∃ xs, SrcX w v xs ∧ AllW w xs rs
theorem RowsB.shape {w : World} {v : Value} {rs : List (List (BitVec 8))} (h : RowsB w v rs) : ∃ a cap, v = .slice a rs.length cap := by
  obtain ⟨xs, h1, h2⟩ := h
  obtain ⟨a, c, hv⟩ := h1.shape
  exact ⟨a, c, by rw [hv, h2.1]⟩
theorem RowsB.at {w : World} {a : Option Addr} {n c : Nat} {rs : List (List (BitVec 8))} (h : RowsB w (.slice a n c) rs) {k : Nat} (hk : k < rs.length) : ∃ b o x, a = some ⟨b, o, none⟩ ∧ w.cell? ⟨b, o + k, none⟩ = some x ∧ Bw w x (rs.getD k []) := by
  obtain ⟨xs, h1, h2⟩ := h
  rcases h1 with ⟨hv, rfl⟩ | ⟨b, o, cap, hv, _, _, hc⟩
  · have := h2.1
    simp at this
    omega
  · injection hv with e1 _ _
    have hkx : k < xs.length := by rw [h2.1]; exact hk
    have hx : xs[k]? = some xs[k] := List.getElem?_eq_getElem hkx
    exact ⟨b, o, xs[k], e1, hc k _ hx, h2.2 k _ hx⟩
/-- What ask tells. -/
def askE (dead : Bool) (rs : List (List (BitVec 8))) : Int := if rs.all (fun r => decide (r.length ≤ 1048576)) = true then (if dead = true then 7 else 0) else 3
theorem all_false {rs : List (List (BitVec 8))} {k : Nat} (hk : k < rs.length) (hf : ¬ (rs.getD k []).length ≤ 1048576) : rs.all (fun r => decide (r.length ≤ 1048576)) = false := by
  rw [List.all_eq_false]
  refine ⟨rs.getD k [], ?_, by simpa using hf⟩
  rw [List.getD_eq_getElem?_getD, List.getElem?_eq_getElem hk]
  exact List.getElem_mem hk
theorem all_true {rs : List (List (BitVec 8))} (h : ∀ j, j < rs.length → (rs.getD j []).length ≤ 1048576) : rs.all (fun r => decide (r.length ≤ 1048576)) = true := by
  rw [List.all_eq_true]
  intro x hx
  obtain ⟨j, hj, rfl⟩ := List.getElem_of_mem hx
  have := h j hj
  rw [List.getD_eq_getElem?_getD, List.getElem?_eq_getElem hj] at this
  simpa using this
set_option maxRecDepth 100000 in
set_option maxHeartbeats 2000000 in
/-- ask, at a log or at none (dead). -/
theorem ask_any (l : Option Addr) (dead : Bool) (v : Value) (rs : List (List (BitVec 8))) (w : World) (hr : RowsB w v rs) (hn : rs.length ≤ 1000000)
    (hd : Calls Tryd.prog 8 #[.pointer l] w fun e w' => e = .returned (.bool dead) ∧ w' = w) :
    Calls Tryd.prog 21 #[.pointer l, v] w fun e w' => e = .returned (.int .i64 (askE dead rs)) ∧ w' = w := by
  have HD : Hid (Calls Tryd.prog 8 #[.pointer l] w fun e w' => e = .returned (.bool dead) ∧ w' = w) := hd
  obtain ⟨a, c, hv⟩ := hr.shape
  subst hv
  obtain ⟨n, hnn⟩ : ∃ n, n = rs.length := ⟨_, rfl⟩
  rw [← hnn] at hn hr ⊢
  have HN : Hid (n = rs.length) := hnn
  have HR : Hid (RowsB w (.slice a n c) rs) := hr
  have HE : Hid (askE dead rs = if rs.all (fun r => decide (r.length ≤ 1048576)) = true then (if dead = true then 7 else 0) else 3) := show _ = _ from rfl
  clear hd hnn hr
  generalize askE dead rs = E at *
  go_enter Tryd.func21, Tryd.ntmps21
  go_wp2_with fail
  refine wp_scope_hops 1 ?_
  go_hide hQ
  go_wp2_with fail
  go_loopw [10] (fun i wr => ∃ k : Nat, k ≤ n ∧ i = .int .i64 k ∧ wr = w ∧ Hid (∀ j, j < k → (rs.getD j []).length ≤ 1048576)) (fun i _ => n - (intOf i).toNat)
  case atStart => exact ⟨0, by omega, rfl, rfl, fun j hj => absurd hj (Nat.not_lt_zero _)⟩
  case round =>
    obtain ⟨k, hk, rfl, rfl, HALL⟩ := hrel
    by_cases hlt : k < n
    · have e0 : (0 : Int) ≤ (k : Int) := by omega
      have e1 : (k : Int) < (n : Int) := by omega
      obtain ⟨b, o, x, rfl, hc, hb⟩ := HR.out.at (k := k) (by rw [← HN.out]; exact hlt)
      obtain ⟨ax, cx, rfl, _, _, _⟩ := hb.shape
      obtain ⟨m, hm⟩ : ∃ m, m = (rs.getD k []).length := ⟨_, rfl⟩
      rw [← hm] at hc
      have HM : Hid (m = (rs.getD k []).length) := hm
      clear hb hm
      by_cases hbig : m ≤ 1048576
      · have hb' : ¬ ((m : Int) > 1048576) := by omega
        go_wp2_with fail
        go_roundw
        case rel =>
          refine ⟨k + 1, by omega, by go_num, trivial, fun j hj => ?_⟩
          by_cases e : j = k
          · rw [e, ← HM.out]; exact hbig
          · exact HALL.out j (by omega)
        case measure => simp [intOf]; omega
      · have hb' : (m : Int) > 1048576 := by omega
        have HE' : Hid (E = 3) := show _ = _ by
          rw [HE.out, all_false (k := k) (by rw [← HN.out]; exact hlt) (by rw [← HM.out]; exact hbig)]; rfl
        go_wp2_with fail
        go_step3
        subst hQ
        refine show hops _ _ _ 1 (Exit.goto 0) _ _ from ?_
        rw [hops_goto]
        refine ⟨_, rfl, ?_⟩
        go_hide hQ
        go_wp2_with fail
        subst hQ
        rw [hops_ret]
        go_ret
        exact ⟨ret_int HE'.out.symm, rfl⟩
    · obtain rfl : k = n := by omega
      have e1 : ¬ (k : Int) < (k : Int) := by omega
      have HE2 : Hid (E = if dead = true then 7 else 0) := show _ = _ by
        rw [HE.out, all_true fun j hj => HALL.out j (by rw [HN.out]; exact hj), if_pos rfl]
      cases dead with
      | true =>
        have HE' : Hid (E = 7) := HE2.out
        go_wp2_with fail
        refine Calls.mono HD.out ?_
        rintro e w1 ⟨rfl, rfl⟩
        go_wp2_with fail
        go_step3
        simp only [Exit.then]
        subst hQ
        rw [hops_goto]
        refine ⟨_, rfl, ?_⟩
        go_hide hQ
        go_wp2_with fail
        subst hQ
        rw [hops_ret]
        go_ret
        exact ⟨ret_int HE'.out.symm, rfl⟩
      | false =>
        have HE' : Hid (E = 0) := HE2.out
        go_wp2_with fail
        refine Calls.mono HD.out ?_
        rintro e w1 ⟨rfl, rfl⟩
        go_wp2_with fail
        go_step3
        go_wp2_with fail
        subst hQ
        rw [hops_ret]
        go_ret
        exact ⟨ret_int HE'.out.symm, rfl⟩
end Go.Proofs.YtlapnnkahijikaaDoor
namespace Go.Proofs.YtlapnnkahijikaaDoor
open Go.ChangeShapes Go.WideShapes Go.ChangeAt Go.RowKit Go.Lib

/-- What write makes of files, and tells. -/
def wrE (A : Abs) (n : ByteArray) (b : List (BitVec 8)) : Int := if A.appE n b = 0 then (A.app n b).opn [n] n else A.appE n b
def wrA (A : Abs) (n : ByteArray) (b : List (BitVec 8)) : Abs := if A.appE n b = 0 then (A.app n b).syn n else A.app n b
set_option maxRecDepth 100000 in
set_option maxHeartbeats 2000000 in
theorem write_any {w wi wj : World} {f : Nat} {S : FS} {Bl : List (Nat × List Value)} {m : Nat} (l : Nat) (nm0 : ByteArray) (size : Nat) (dead : Bool) (h : Sys w wi f S ((l, lgC f nm0 size dead) :: Bl)) (hOK : S.abs.OK m) (hm : m ≤ 4611686018427387000) (hb : Below wi.heap.size wi wj) (nm : ByteArray) (v : Value) (bs : List (BitVec 8)) (hv : SrcB wj v bs) (hl : bs.length ≤ 50000000) (hn : ∀ k, v.ownBlock = some k → wi.heap.size ≤ k) :
    Calls Tryd.prog 24 #[.pointer (some ⟨l, 0, none⟩), .string nm, v] wj fun e w' => e = .returned (.int .i64 (wrE S.abs nm bs)) ∧ Step w wi f S (((l, lgC f nm0 size dead) :: Bl).map Prod.fst) (wrA S.abs nm bs) ((l, lgC f nm0 size dead) :: Bl) w' := by
  obtain ⟨a, c, rfl⟩ := hv.shape
  have hj := h.below hb
  have c0 : wj.cell? ⟨l, 0, none⟩ = some (.pointer (some ⟨f, 0, none⟩)) := hj.blk.one rfl
  have HA : Hid (Calls Tryd.prog 35 #[.pointer (some ⟨f, 0, none⟩), .string nm, .slice a bs.length c] wj fun e w' => e = .returned (.int .i64 (S.abs.appE nm bs)) ∧ Step w wi f S (((l, lgC f nm0 size dead) :: Bl).map Prod.fst) (S.abs.app nm bs) ((l, lgC f nm0 size dead) :: Bl) w') := sys_append h hOK (by omega) hb nm _ bs hv hl hn
  have HE : Hid (wrE S.abs nm bs = if S.abs.appE nm bs = 0 then (S.abs.app nm bs).opn [nm] nm else S.abs.appE nm bs) := show _ = _ from rfl
  have HW : Hid (wrA S.abs nm bs = if S.abs.appE nm bs = 0 then (S.abs.app nm bs).syn nm else S.abs.app nm bs) := show _ = _ from rfl
  have HOK : Hid ((S.abs.app nm bs).OK (m + 1)) := hOK.app
  clear hj h hOK hv hn hb
  generalize S.abs.appE nm bs = E1 at *
  generalize wrE S.abs nm bs = E at *
  go_enter Tryd.func24, Tryd.ntmps24
  go_wp2_with fail
  refine wp_scope_hops 1 ?_
  go_hide hQ
  go_wp2_with fail
  refine Calls.mono HA.out ?_
  rintro e w1 ⟨rfl, S1, hS1, hs1, hg1⟩
  have H1 : Hid (Sys w w1 f S1 ((l, lgC f nm0 size dead) :: Bl)) := hs1
  have HG1 : Hid (GrB f (((l, lgC f nm0 size dead) :: Bl).map Prod.fst) S S1 wi w1) := hg1
  rw [← hS1] at HE HW HOK
  have HS1 : Hid (S1.abs = S.abs.app nm bs) := hS1
  clear hs1 hg1 hS1 HA c0
  by_cases hz : E1 = 0
  · subst hz
    have HE' : Hid (E = S1.abs.opn [nm] nm) := by have := HE.out; rw [if_pos rfl] at this; exact this
    have HW' : Hid (wrA S.abs nm bs = S1.abs.syn nm) := by have := HW.out; rw [if_pos rfl] at this; exact this
    have c0 : w1.cell? ⟨l, 0, none⟩ = some (.pointer (some ⟨f, 0, none⟩)) := H1.out.blk.one rfl
    have HSy := sys_sync H1.out HOK.out (by omega) nm
    have HSy' : Hid (Calls Tryd.prog 37 #[.pointer (some ⟨f, 0, none⟩), .string nm] w1 fun e w' => e = .returned (.int .i64 (S1.abs.opn [nm] nm)) ∧ Step w w1 f S1 (((l, lgC f nm0 size dead) :: Bl).map Prod.fst) (S1.abs.syn nm) ((l, lgC f nm0 size dead) :: Bl) w') := HSy
    clear HSy HE HW
    go_wp2_with fail
    refine Calls.mono HSy'.out ?_
    rintro e w2 ⟨rfl, S2, hS2, hs2, hg2⟩
    have H2 : Hid (Sys w w2 f S2 ((l, lgC f nm0 size dead) :: Bl)) := hs2
    have HG2 : Hid (GrB f (((l, lgC f nm0 size dead) :: Bl).map Prod.fst) S S2 wi w2) := HG1.out.trans hg2
    have HS2 : Hid (S2.abs = S1.abs.syn nm) := hS2
    clear hs2 hg2 hS2 HSy'
    go_wp2_with fail
    go_step3
    go_wp2_with fail
    subst hQ
    rw [hops_ret]
    go_ret
    exact ⟨ret_int HE'.out.symm, S2, by rw [HS2.out, HW'.out], H2.out, HG2.out⟩
  · have hz' : (E1 != 0) = true := bne_iff_ne.2 hz
    have HE' : Hid (E = E1) := by have := HE.out; rw [if_neg hz] at this; exact this
    have HW' : Hid (wrA S.abs nm bs = S1.abs) := by have := HW.out; rw [if_neg hz] at this; exact this
    clear HE HW
    go_wp2_with fail
    go_step3
    simp only [Exit.then]
    subst hQ
    rw [hops_goto]
    refine ⟨_, rfl, ?_⟩
    go_hide hQ
    go_wp2_with fail
    subst hQ
    rw [hops_ret]
    go_ret
    exact ⟨ret_int HE'.out.symm, S1, by rw [HW'.out], H1.out, HG1.out⟩
end Go.Proofs.YtlapnnkahijikaaDoor
namespace Go.Proofs.YtlapnnkahijikaaDoor
open Go.ChangeShapes Go.WideShapes Go.ChangeAt Go.RowKit Go.Lib

theorem rows_one {w : World} {g : Nat} {x : Value} {bs : List (BitVec 8)} (h : Blk w g [x]) (hb : Bw w x bs) : RowsB w (.slice (some ⟨g, 0, none⟩) 1 1) [bs] :=
  ⟨[x], .inr ⟨g, 0, 1, rfl, Nat.le_refl _, by unfold maxLen; omega, fun j y hy => by rw [Nat.zero_add]; exact h.one hy⟩, AllW.one hb⟩
/-- What Append tells, and leaves. -/
def apE (A : Abs) (dead : Bool) (nm : ByteArray) (b : List (BitVec 8)) : Int := if askE dead [b] = 0 then wrE A nm (frB b) else askE dead [b]
def apA (A : Abs) (dead : Bool) (nm : ByteArray) (b : List (BitVec 8)) : Abs := if askE dead [b] = 0 then wrA A nm (frB b) else A
def apZ (A : Abs) (size : Nat) (dead : Bool) (nm : ByteArray) (b : List (BitVec 8)) : Nat := if askE dead [b] = 0 then (if wrE A nm (frB b) = 0 then size + (frB b).length else size) else size
def apD (A : Abs) (dead : Bool) (nm : ByteArray) (b : List (BitVec 8)) : Bool := if askE dead [b] = 0 then (dead || wrE A nm (frB b) == 7) else dead
set_option maxRecDepth 100000 in
set_option maxHeartbeats 4000000 in
theorem lappend_any {w wi : World} {f : Nat} {S : FS} {Bl : List (Nat × List Value)} {m : Nat} (hK : Kw w) (l : Nat) (nm : ByteArray) (size : Nat) (dead : Bool) (h : Sys w wi f S ((l, lgC f nm size dead) :: Bl)) (hOK : S.abs.OK m) (hm : m ≤ 4611686018427387000) (hz : size ≤ 1000000000000) (v : Value) (bs : List (BitVec 8)) (hv : Bw wi v bs) (hl : bs.length ≤ 40000000) :
    Calls Tryd.prog 11 #[.pointer (some ⟨l, 0, none⟩), v] wi fun e w' => e = .returned (.int .i64 (apE S.abs dead nm bs)) ∧ Step w wi f S (((l, lgC f nm size dead) :: Bl).map Prod.fst) (apA S.abs dead nm bs) ((l, lgC f nm (apZ S.abs size dead nm bs) (apD S.abs dead nm bs)) :: Bl) w' := by
  obtain ⟨a, c, rfl, _⟩ := hv.shape
  obtain ⟨n, hn⟩ : ∃ n, n = bs.length := ⟨_, rfl⟩
  rw [← hn] at hv hl ⊢
  have HV : Hid (Bw wi (.slice a n c) bs) := hv
  have HN : Hid (n = bs.length) := hn
  have HK : Hid (Kw w) := hK
  have H : Hid (Sys w wi f S ((l, lgC f nm size dead) :: Bl)) := h
  have HOK : Hid (S.abs.OK m) := hOK
  have HE : Hid (apE S.abs dead nm bs = if askE dead [bs] = 0 then wrE S.abs nm (frB bs) else askE dead [bs]) := show _ = _ from rfl
  have HA : Hid (apA S.abs dead nm bs = if askE dead [bs] = 0 then wrA S.abs nm (frB bs) else S.abs) := show _ = _ from rfl
  have HZ : Hid (apZ S.abs size dead nm bs = if askE dead [bs] = 0 then (if wrE S.abs nm (frB bs) = 0 then size + (frB bs).length else size) else size) := show _ = _ from rfl
  have HD : Hid (apD S.abs dead nm bs = if askE dead [bs] = 0 then (dead || wrE S.abs nm (frB bs) == 7) else dead) := show _ = _ from rfl
  have HASK : Hid (askE dead [bs] = askE dead [bs]) := show _ = _ from rfl
  clear hK h hOK hv hn
  generalize apE S.abs dead nm bs = E at *
  generalize apZ S.abs size dead nm bs = Z at *
  generalize apD S.abs dead nm bs = D at *
  go_enter Tryd.func11, Tryd.ntmps11
  go_wp2_with fail
  refine wp_scope_hops 1 ?_
  go_hide hQ
  go_wp2_with fail
  generalize hw1 : World.alloc _ _ = w1
  have HC1 : Hid (Blk w1 wi.heap.size [.slice a n c]) := by rw [← hw1]; exact Blk.mk wi _ _ rfl rfl
  have HB1 : Hid (Below wi.heap.size wi w1) := by rw [← hw1]; exact (Below.refl _ _).alloc (Nat.le_refl _) _
  have HS1 : Hid (Sys w w1 f S ((l, lgC f nm size dead) :: Bl)) := H.out.below HB1.out
  clear hw1
  refine Calls.mono (ask_any (some ⟨l, 0, none⟩) dead _ [bs] w1 (rows_one HC1.out (HV.out.below HB1.out)) (by simp) (dead_any l f nm size dead w1 HS1.out.blk)) ?_
  rintro e w2 ⟨rfl, rfl⟩
  obtain ⟨K, hK⟩ : ∃ K, K = askE dead [bs] := ⟨_, rfl⟩
  rw [← hK] at HE HA HZ HD ⊢
  clear hK HASK
  by_cases hk : K = 0
  · subst hk
    have HE1 : Hid (E = wrE S.abs nm (frB bs)) := by have := HE.out; rw [if_pos rfl] at this; exact this
    have HA1 : Hid (apA S.abs dead nm bs = wrA S.abs nm (frB bs)) := by have := HA.out; rw [if_pos rfl] at this; exact this
    have HZ1 : Hid (Z = if wrE S.abs nm (frB bs) = 0 then size + (frB bs).length else size) := by have := HZ.out; rw [if_pos rfl] at this; exact this
    have HD1 : Hid (D = (dead || wrE S.abs nm (frB bs) == 7)) := by have := HD.out; rw [if_pos rfl] at this; exact this
    clear HE HA HZ HD
    go_wp2_with fail
    refine Calls.mono (frame_any _ bs w2 (HS1.out.kw HK.out) (HV.out.below HB1.out) (by rw [← HN.out]; omega)) ?_
    rintro e w3 ⟨v3, rfl, ho3, hb3⟩
    obtain ⟨a3, c3, rfl⟩ := ho3.shape
    obtain ⟨q, hq⟩ : ∃ q, q = (frB bs).length := ⟨_, rfl⟩
    have hql : q ≤ n + 41 := by rw [hq, HN.out]; exact frB_le bs
    rw [← hq] at ho3 HZ1 ⊢
    have HQ : Hid (q = (frB bs).length) := hq
    have HO3 : Hid (OwnB w3 w2.heap.size (.slice a3 q c3) (frB bs)) := ho3
    have HB3 : Hid (Below w2.heap.size w2 w3) := hb3
    have HS3 : Hid (Sys w w3 f S ((l, lgC f nm size dead) :: Bl)) := HS1.out.below hb3
    have c1 : w3.cell? ⟨l, 1, none⟩ = some (.string nm) := HS3.out.blk.one rfl
    have HWR : Hid (Calls Tryd.prog 24 #[.pointer (some ⟨l, 0, none⟩), .string nm, .slice a3 q c3] w3 fun e w' => e = .returned (.int .i64 (wrE S.abs nm (frB bs))) ∧ Step w w2 f S (((l, lgC f nm size dead) :: Bl).map Prod.fst) (wrA S.abs nm (frB bs)) ((l, lgC f nm size dead) :: Bl) w') :=
      write_any l nm size dead HS1.out HOK.out hm HB3.out nm _ (frB bs) HO3.out.src (by rw [← HQ.out]; omega) fun k hk => (HO3.out.lt k hk).1
    clear ho3 hb3 hq
    obtain ⟨W, hW⟩ : ∃ W, W = wrE S.abs nm (frB bs) := ⟨_, rfl⟩
    rw [← hW] at HWR HE1 HZ1 HD1
    clear hW
    go_wp2_with fail
    refine Calls.mono HWR.out ?_
    rintro e w4 ⟨rfl, S4, hS4, hs4, hg4⟩
    have HS4 : Hid (Sys w w4 f S4 ((l, lgC f nm size dead) :: Bl)) := hs4
    have HG4 : Hid (GrB f (((l, lgC f nm size dead) :: Bl).map Prod.fst) S S4 wi w4) := (GrB.of_below HB1.out).trans hg4
    have HA4 : Hid (S4.abs = wrA S.abs nm (frB bs)) := hS4
    clear hS4 hs4 hg4 HWR c1
    go_wp2_with fail
    refine Calls.mono (heed_any l f nm size dead W w4 HS4.out.blk) ?_
    rintro e w5 ⟨rfl, hb5, hk5⟩
    rw [← HD1.out] at hb5
    obtain ⟨hs5, hg5⟩ := HS4.out.keep hk5 hb5
    have HS5 : Hid (Sys w w5 f S4 ((l, lgC f nm size D) :: Bl)) := hs5
    have HG5 : Hid (GrB f (((l, lgC f nm size dead) :: Bl).map Prod.fst) S S4 wi w5) := HG4.out.trans hg5
    clear hb5 hk5 hs5 hg5
    by_cases hw0 : W = 0
    · subst hw0
      have HZ2 : Hid (Z = size + q) := by have := HZ1.out; rw [if_pos rfl] at this; exact this
      have c2 : w5.cell? ⟨l, 2, none⟩ = some (.int .i64 size) := HS5.out.blk.one rfl
      have g2 : w5.frozen? ⟨l, 2, none⟩ = false := HS5.out.blk.frozen 2
      clear HZ1
      go_wp2_with fail
      go_step3
      go_wp2_with fail
      subst hQ
      rw [hops_ret]
      go_ret
      have hbl : Blk (w5.setCell ⟨l, 2, none⟩ (.int .i64 ((size : Int) + (q : Int)))) l (lgC f nm Z D) := by
        rw [HZ2.out]
        have := HS5.out.blk.set 2 (.int .i64 ((size : Int) + (q : Int)))
        rw [← Int.natCast_add] at this
        exact this
      obtain ⟨hs6, hg6⟩ := HS5.out.keep ((Keep.refl _ _).setCell 2 _) hbl
      exact ⟨ret_int HE1.out.symm, S4, by rw [HA4.out, HA1.out], hs6, HG5.out.trans hg6⟩
    · have hw' : (W != 0) = true := bne_iff_ne.2 hw0
      have HZ2 : Hid (Z = size) := by have := HZ1.out; rw [if_neg hw0] at this; exact this
      clear HZ1
      go_wp2_with fail
      go_step3
      simp only [Exit.then]
      subst hQ
      rw [hops_goto]
      refine ⟨_, rfl, ?_⟩
      go_hide hQ
      go_wp2_with fail
      subst hQ
      rw [hops_ret]
      go_ret
      exact ⟨ret_int HE1.out.symm, S4, by rw [HA4.out, HA1.out], by rw [HZ2.out]; exact HS5.out, HG5.out⟩
  · have hk' : (K != 0) = true := bne_iff_ne.2 hk
    have HE1 : Hid (E = K) := by have := HE.out; rw [if_neg hk] at this; exact this
    have HA1 : Hid (apA S.abs dead nm bs = S.abs) := by have := HA.out; rw [if_neg hk] at this; exact this
    have HZ1 : Hid (Z = size) := by have := HZ.out; rw [if_neg hk] at this; exact this
    have HD1 : Hid (D = dead) := by have := HD.out; rw [if_neg hk] at this; exact this
    clear HE HA HZ HD
    go_wp2_with fail
    go_step3
    simp only [Exit.then]
    subst hQ
    rw [hops_goto]
    refine ⟨_, rfl, ?_⟩
    go_hide hQ
    go_wp2_with fail
    subst hQ
    rw [hops_ret]
    go_ret
    exact ⟨ret_int HE1.out.symm, S, HA1.out.symm, by rw [HZ1.out, HD1.out]; exact HS1.out, GrB.of_below HB1.out⟩
end Go.Proofs.YtlapnnkahijikaaDoor
namespace Go.Proofs.YtlapnnkahijikaaDoor
open Go.ChangeShapes Go.WideShapes Go.ChangeAt Go.RowKit Go.Lib

theorem RowsB.below {w w' : World} {v : Value} {rs : List (List (BitVec 8))} (h : RowsB w v rs) (hb : Below w.heap.size w w') : RowsB w' v rs := by
  obtain ⟨xs, h1, h2⟩ := h
  exact ⟨xs, h1.below hb, h2.below hb⟩
theorem frs_next (rs : List (List (BitVec 8))) (k : Nat) (h : k < rs.length) : frs (rs.take (k + 1)) = frs (rs.take k) ++ frB (rs.getD k []) := by
  rw [List.take_succ_eq_append_getElem h, frs_append, frs_one, List.getD_eq_getElem?_getD, List.getElem?_eq_getElem h]; rfl
theorem frs_take_le (rs : List (List (BitVec 8))) (k : Nat) : (frs (rs.take k)).length ≤ (frs rs).length := by
  have h : frs rs = frs (rs.take k) ++ frs (rs.drop k) := by rw [← frs_append, List.take_append_drop]
  have h2 := congrArg List.length h
  rw [List.length_append] at h2; omega
/-- What Reset tells, and leaves. -/
def rsE (A : Abs) (dead : Bool) (nm : ByteArray) (rs : List (List (BitVec 8))) : Int :=
  if askE dead rs = 0 then (if wrE A (bes nm) (frs rs) = 0 then (wrA A (bes nm) (frs rs)).opn [nm, bes nm] (bes nm) else wrE A (bes nm) (frs rs)) else askE dead rs
def rsA (A : Abs) (dead : Bool) (nm : ByteArray) (rs : List (List (BitVec 8))) : Abs :=
  if askE dead rs = 0 then (if wrE A (bes nm) (frs rs) = 0 then (wrA A (bes nm) (frs rs)).ren (bes nm) nm else wrA A (bes nm) (frs rs)) else A
def rsZ (A : Abs) (size : Nat) (dead : Bool) (nm : ByteArray) (rs : List (List (BitVec 8))) : Nat := if rsE A dead nm rs = 0 then (frs rs).length else size
def rsD (A : Abs) (dead : Bool) (nm : ByteArray) (rs : List (List (BitVec 8))) : Bool := if askE dead rs = 0 then (dead || rsE A dead nm rs == 7) else dead
theorem Abs.OK.wr {A : Abs} {m : Nat} {n : ByteArray} {b : List (BitVec 8)} (h : A.OK m) : (wrA A n b).OK (m + 2) := by
  unfold wrA
  split
  · exact h.app.syn
  · exact h.app.mono (by omega)
set_option maxRecDepth 100000 in
set_option maxHeartbeats 4000000 in
theorem lreset_any {w wi : World} {f : Nat} {S : FS} {Bl : List (Nat × List Value)} {m : Nat} (hK : Kw w) (l : Nat) (nm : ByteArray) (size : Nat) (dead : Bool) (h : Sys w wi f S ((l, lgC f nm size dead) :: Bl)) (hOK : S.abs.OK m) (hm : m ≤ 4611686018427387000) (hnm : nm.size ≤ 40) (v : Value) (rs : List (List (BitVec 8))) (hv : RowsB wi v rs) (hn : rs.length ≤ 1000000) (hl : (frs rs).length ≤ 40000000) :
    Calls Tryd.prog 15 #[.pointer (some ⟨l, 0, none⟩), v] wi fun e w' => e = .returned (.int .i64 (rsE S.abs dead nm rs)) ∧ Step w wi f S (((l, lgC f nm size dead) :: Bl).map Prod.fst) (rsA S.abs dead nm rs) ((l, lgC f nm (rsZ S.abs size dead nm rs) (rsD S.abs dead nm rs)) :: Bl) w' := by
  obtain ⟨a, c, rfl⟩ := hv.shape
  obtain ⟨n, hnn⟩ : ∃ n, n = rs.length := ⟨_, rfl⟩
  rw [← hnn] at hv hn ⊢
  have HV : Hid (RowsB wi (.slice a n c) rs) := hv
  have HN : Hid (n = rs.length) := hnn
  have HK : Hid (Kw w) := hK
  have H : Hid (Sys w wi f S ((l, lgC f nm size dead) :: Bl)) := h
  have HOK : Hid (S.abs.OK m) := hOK
  have HE : Hid (rsE S.abs dead nm rs = if askE dead rs = 0 then (if wrE S.abs (bes nm) (frs rs) = 0 then (wrA S.abs (bes nm) (frs rs)).opn [nm, bes nm] (bes nm) else wrE S.abs (bes nm) (frs rs)) else askE dead rs) := show _ = _ from rfl
  have HA : Hid (rsA S.abs dead nm rs = if askE dead rs = 0 then (if wrE S.abs (bes nm) (frs rs) = 0 then (wrA S.abs (bes nm) (frs rs)).ren (bes nm) nm else wrA S.abs (bes nm) (frs rs)) else S.abs) := show _ = _ from rfl
  have HZ : Hid (rsZ S.abs size dead nm rs = if rsE S.abs dead nm rs = 0 then (frs rs).length else size) := show _ = _ from rfl
  have HD : Hid (rsD S.abs dead nm rs = if askE dead rs = 0 then (dead || rsE S.abs dead nm rs == 7) else dead) := show _ = _ from rfl
  have HL : Hid ((frs rs).length ≤ 40000000) := hl
  clear hK h hOK hv hnn hl
  generalize rsE S.abs dead nm rs = E at *
  generalize rsZ S.abs size dead nm rs = Z at *
  generalize rsD S.abs dead nm rs = D at *
  have HMO : Hid (Tryd.prog.follows .mixedOrders = true) := show _ = _ by kernel_rfl
  go_enter Tryd.func15, Tryd.ntmps15
  go_wp2_with fail
  refine wp_scope_hops 1 ?_
  go_hide hQ
  go_wp2_with fail
  refine Calls.mono (ask_any (some ⟨l, 0, none⟩) dead _ rs wi HV.out (by rw [← HN.out]; exact hn) (dead_any l f nm size dead wi H.out.blk)) ?_
  rintro e w2 ⟨rfl, rfl⟩
  obtain ⟨K, hK⟩ : ∃ K, K = askE dead rs := ⟨_, rfl⟩
  rw [← hK] at HE HA HD ⊢
  clear hK
  by_cases hk : K = 0
  · subst hk
    have HE1 : Hid (E = if wrE S.abs (bes nm) (frs rs) = 0 then (wrA S.abs (bes nm) (frs rs)).opn [nm, bes nm] (bes nm) else wrE S.abs (bes nm) (frs rs)) := by have := HE.out; rw [if_pos rfl] at this; exact this
    have HA1 : Hid (rsA S.abs dead nm rs = if wrE S.abs (bes nm) (frs rs) = 0 then (wrA S.abs (bes nm) (frs rs)).ren (bes nm) nm else wrA S.abs (bes nm) (frs rs)) := by have := HA.out; rw [if_pos rfl] at this; exact this
    have HD1 : Hid (D = (dead || E == 7)) := by have := HD.out; rw [if_pos rfl] at this; exact this
    clear HE HA HD
    go_wp2_with fail
    go_loopw [5, 16] (fun rv i wr => ∃ (k : Nat), k ≤ n ∧ i = .int .i64 k ∧ Hid (OwnB wr w2.heap.size rv (frs (rs.take k))) ∧ Hid (Below w2.heap.size w2 wr)) (fun _ i _ => n - (intOf i).toNat)
    case atStart => exact ⟨0, Nat.zero_le _, rfl, by rw [List.take_zero]; exact OwnB.nil _ _, Below.refl _ _⟩
    case round =>
      obtain ⟨k, hkn, rfl, HO, HB⟩ := hrel
      obtain ⟨ra, rc, hrv⟩ := HO.out.shape
      subst hrv
      obtain ⟨q, hq⟩ : ∃ q, q = (frs (rs.take k)).length := ⟨_, rfl⟩
      have hql : q ≤ 40000000 := by have := HL.out; have := frs_take_le rs k; omega
      rw [← hq] at HO
      have HQ : Hid (q = (frs (rs.take k)).length) := hq
      by_cases hlt : k < n
      · have e0 : (0 : Int) ≤ (k : Int) := by omega
        have e1 : (k : Int) < (n : Int) := by omega
        rw [← hq]
        clear hq
        obtain ⟨b, o, x, hab, hcx, hbx⟩ := HV.out.at (k := k) (by rw [← HN.out]; exact hlt)
        subst hab
        have hcx' := cell_below HB.out hcx
        have hbx' := hbx.below HB.out
        obtain ⟨ax, cx, rfl, _⟩ := hbx.shape
        have hfl : (frB (rs.getD k [])).length ≤ 40000000 := by
          have h1 := frs_take_le rs (k + 1)
          rw [frs_next rs k (by rw [← HN.out]; exact hlt), List.length_append] at h1
          have := HL.out
          omega
        have hrl : (rs.getD k []).length ≤ 40000000 := by
          have := frB_length (rs.getD k [])
          omega
        have HFR : Hid (Calls Tryd.prog 22 #[.slice ax (rs.getD k []).length cx] wr fun e w' => ∃ v', e = .returned v' ∧ OwnB w' wr.heap.size v' (frB (rs.getD k [])) ∧ Below wr.heap.size wr w') := frame_any _ _ wr ((H.out.below HB.out).kw HK.out) hbx' (by omega)
        have HFL : Hid ((frB (rs.getD k [])).length ≤ 40000000) := hfl
        obtain ⟨r, hr⟩ : ∃ r, r = rs.getD k [] := ⟨_, rfl⟩
        rw [← hr] at HFR HFL hcx'
        have HR : Hid (r = rs.getD k []) := hr
        clear hcx hbx hbx' hfl hrl hr
        generalize r.length = rl at *
        go_wp2_with fail
        refine Calls.mono HFR.out ?_
        rintro e w3 ⟨v3, rfl, ho3, hb3⟩
        obtain ⟨a3, c3, rfl⟩ := ho3.shape
        obtain ⟨fl, hfl⟩ : ∃ fl, fl = (frB r).length := ⟨_, rfl⟩
        rw [← hfl] at ho3 HFL ⊢
        have HFQ : Hid (fl = (frB r).length) := hfl
        have HO3 : Hid (OwnB w3 wr.heap.size (.slice a3 fl c3) (frB r)) := ho3
        have HB3 : Hid (Below w2.heap.size w2 w3) := HB.out.trans (hb3.mono HB.out.size)
        have HOk : Hid (OwnB w3 w2.heap.size (.slice ra q rc) (frs (rs.take k))) := HO.out.below hb3
        clear ho3 hb3 HFR hcx' HB HO hfl
        go_wp2_with (at_builtin; refine wpList_append_b rfl _ _ rfl w2.heap.size _ (frs (rs.take k)) rfl HOk.out _ (frB r) rfl HO3.out.src (by rw [← HQ.out, ← HFQ.out]; have := HFL.out; omega) HB3.out.size ?_; intro v4 w4 HO4 HG4 _)
        have HB4 : Hid (Below w2.heap.size w2 w4) := HB3.out.grown HG4.out HB3.out.size fun k hk => (HOk.out.lt k hk).1
        go_roundw
        case rel =>
          refine ⟨k + 1, by omega, by go_num, ?_, HB4.out⟩
          rw [frs_next rs k (by rw [← HN.out]; exact hlt), ← HR.out]
          exact HO4.out
        case measure => simp [intOf]; omega
      · obtain rfl : k = n := by omega
        have e1 : ¬ (k : Int) < (k : Int) := by omega
        have htk : rs.take k = rs := by rw [HN.out, List.take_length]
        rw [htk] at HO HQ
        have HSr : Hid (Sys w wr f S ((l, lgC f nm size dead) :: Bl)) := H.out.below HB.out
        rw [← hq]
        have HOq : Hid (OwnB wr w2.heap.size (.slice ra q rc) (frs rs)) := HO.out
        have HWR : Hid (Calls Tryd.prog 24 #[.pointer (some ⟨l, 0, none⟩), .string (bes nm), .slice ra q rc] wr fun e w' => e = .returned (.int .i64 (wrE S.abs (bes nm) (frs rs))) ∧ Step w w2 f S (((l, lgC f nm size dead) :: Bl).map Prod.fst) (wrA S.abs (bes nm) (frs rs)) ((l, lgC f nm size dead) :: Bl) w') :=
          write_any l nm size dead H.out HOK.out hm HB.out (bes nm) _ (frs rs) HOq.out.src (by rw [← HQ.out]; omega) fun k hk => (HOq.out.lt k hk).1
        obtain ⟨W, hW⟩ : ∃ W, W = wrE S.abs (bes nm) (frs rs) := ⟨_, rfl⟩
        rw [← hW] at HWR HE1 HA1
        clear hW hq htk HO
        go_wp2_with fail
        refine Calls.mono (beside_any l f nm size dead wr HSr.out.blk hnm) ?_
        rintro e w3 ⟨rfl, rfl⟩
        go_wp2_with fail
        refine Calls.mono HWR.out ?_
        rintro e w4 ⟨rfl, S4, hS4, hs4, hg4⟩
        have HS4 : Hid (Sys w w4 f S4 ((l, lgC f nm size dead) :: Bl)) := hs4
        have HG4 : Hid (GrB f (((l, lgC f nm size dead) :: Bl).map Prod.fst) S S4 w2 w4) := hg4
        have HA4 : Hid (S4.abs = wrA S.abs (bes nm) (frs rs)) := hS4
        have HOK4 : Hid (S4.abs.OK (m + 2)) := by have := HOK.out.wr (n := bes nm) (b := frs rs); rw [← hS4] at this; exact this
        rw [← hS4] at HE1 HA1
        clear hS4 hs4 hg4 HWR HSr HOq HB
        go_wp2_with fail
        refine Calls.mono (heed_any l f nm size dead W w4 HS4.out.blk) ?_
        rintro e w5 ⟨rfl, hb5, hk5⟩
        by_cases hw0 : W = 0
        · subst hw0
          have hdd : (dead || (0 : Int) == 7) = dead := by simp
          rw [hdd] at hb5
          obtain ⟨hs5, hg5⟩ := HS4.out.keep hk5 hb5
          have HS5 : Hid (Sys w w5 f S4 ((l, lgC f nm size dead) :: Bl)) := hs5
          have HG5 : Hid (GrB f (((l, lgC f nm size dead) :: Bl).map Prod.fst) S S4 w2 w5) := HG4.out.trans hg5
          have HE2 : Hid (E = S4.abs.opn [nm, bes nm] (bes nm)) := by have := HE1.out; rw [if_pos rfl] at this; exact this
          have HA2 : Hid (rsA S.abs dead nm rs = S4.abs.ren (bes nm) nm) := by have := HA1.out; rw [if_pos rfl] at this; exact this
          clear hb5 hk5 hs5 hg5 HS4 HG4 HE1 HA1 hdd
          obtain ⟨R, hR⟩ : ∃ R, R = S4.abs.opn [nm, bes nm] (bes nm) := ⟨_, rfl⟩
          have hRN := sys_rename HS5.out.drew HOK4.out (by omega) (bes nm) nm
          rw [← hR] at hRN HE2
          have HRN : Hid (Calls Tryd.prog 30 #[.pointer (some ⟨f, 0, none⟩), .string (bes nm), .string nm] w5.drew fun e w' => e = .returned (.int .i64 R) ∧ Step w w5.drew f S4 (((l, lgC f nm size dead) :: Bl).map Prod.fst) (S4.abs.ren (bes nm) nm) ((l, lgC f nm size dead) :: Bl) w') := hRN
          clear hR hRN
          have c0 : w5.cell? ⟨l, 0, none⟩ = some (.pointer (some ⟨f, 0, none⟩)) := HS5.out.blk.one rfl
          have c1 : w5.cell? ⟨l, 1, none⟩ = some (.string nm) := HS5.out.blk.one rfl
          go_upto_region 11 with fail
          clear c0 c1
          refine wp_region_noPanic ?_
          refine wp_region_held_drew (S := fun w' => w'.cell? ⟨l, 0, none⟩ = some (.pointer (some ⟨f, 0, none⟩)) ∧ w'.cell? ⟨l, 1, none⟩ = some (.string nm)) HMO.out (⟨HS5.out.drew.blk.one rfl, HS5.out.drew.blk.one rfl⟩) (fun hHeld => ?_)
          refine wpAnyH_take (i := 0) (oi := { dst := some 34, op := .move (.tmp 0), type := 27, pos := "wal.go:79", after := #[], guard := none }) (v := ?_) rfl (by kernel_rfl) (by kernel_rfl) (by kernel_rfl) (fun _ _ _ h => h) (Or.inl ⟨by rfl, ?_⟩) (by assumption) ?_
          rotate_left
          · intro _ _; go_simp; first | done | with_reducible rfl
          simp only [Act.put, List.setIfInBounds_toArray, List.set_cons_zero, List.set_cons_succ]
          refine wpAnyH_take (i := 1) (oi := { dst := some 35, op := .move (.tmp 0), type := 27, pos := "wal.go:79", after := #[], guard := none }) (v := ?_) rfl (by kernel_rfl) (by kernel_rfl) (by kernel_rfl) (fun _ _ _ h => h) (Or.inl ⟨by rfl, ?_⟩) (by assumption) ?_
          rotate_left
          · intro _ _; go_simp; first | done | with_reducible rfl
          simp only [Act.put, List.setIfInBounds_toArray, List.set_cons_zero, List.set_cons_succ]
          refine wpAnyH_take (i := 2) (oi := { dst := some 36, op := .nilCheck (.tmp 35), type := 0, pos := "wal.go:79", after := #[{ on := 1, ground := .data }], guard := none }) (v := ?_) rfl (by kernel_rfl) (by kernel_rfl) (by kernel_rfl) (fun _ _ _ h => h) (Or.inl ⟨by rfl, ?_⟩) (by assumption) ?_
          rotate_left
          · intro _ _; go_simp; first | done | with_reducible rfl
          simp only [Act.put, List.setIfInBounds_toArray, List.set_cons_zero, List.set_cons_succ]
          refine wpAnyH_take (i := 3) (oi := { dst := some 37, op := .fieldAddr 50 (.tmp 36) 0, type := 0, pos := "wal.go:79", after := #[{ on := 2, ground := .data }], guard := none }) (v := ?_) rfl (by kernel_rfl) (by kernel_rfl) (by kernel_rfl) (fun _ _ _ h => h) (Or.inl ⟨by rfl, ?_⟩) (by assumption) ?_
          rotate_left
          · intro _ _; go_simp; first | done | with_reducible rfl
          simp only [Act.put, List.setIfInBounds_toArray, List.set_cons_zero, List.set_cons_succ]
          refine wpAnyH_take (i := 4) (oi := { dst := some 38, op := .load 25 (.tmp 37), type := 25, pos := "wal.go:79", after := #[{ on := 3, ground := .data }], guard := none }) (v := .pointer (some ⟨f, 0, none⟩)) rfl (by kernel_rfl) (by kernel_rfl) (by kernel_rfl) (fun _ _ _ h => h) (Or.inl ⟨by rfl, ?_⟩) (by assumption) ?_
          · intro _ _; rename_i wz hz; have cz := hz.1; go_simp
          simp only [Act.put, List.setIfInBounds_toArray, List.set_cons_zero, List.set_cons_succ]
          refine wpAnyH_take (i := 5) (oi := { dst := some 39, op := .move (.tmp 0), type := 27, pos := "wal.go:79", after := #[], guard := none }) (v := ?_) rfl (by kernel_rfl) (by kernel_rfl) (by kernel_rfl) (fun _ _ _ h => h) (Or.inl ⟨by rfl, ?_⟩) (by assumption) ?_
          rotate_left
          · intro _ _; go_simp; first | done | with_reducible rfl
          simp only [Act.put, List.setIfInBounds_toArray, List.set_cons_zero, List.set_cons_succ]
          refine wpAnyH_take (i := 7) (oi := { dst := some 41, op := .move (.tmp 0), type := 27, pos := "wal.go:79", after := #[], guard := none }) (v := ?_) rfl (by kernel_rfl) (by kernel_rfl) (by kernel_rfl) (fun _ _ _ h => h) (Or.inl ⟨by rfl, ?_⟩) (by assumption) ?_
          rotate_left
          · intro _ _; go_simp; first | done | with_reducible rfl
          simp only [Act.put, List.setIfInBounds_toArray, List.set_cons_zero, List.set_cons_succ]
          refine wpAnyH_take (i := 8) (oi := { dst := some 42, op := .nilCheck (.tmp 41), type := 0, pos := "wal.go:79", after := #[{ on := 7, ground := .data }], guard := none }) (v := ?_) rfl (by kernel_rfl) (by kernel_rfl) (by kernel_rfl) (fun _ _ _ h => h) (Or.inl ⟨by rfl, ?_⟩) (by assumption) ?_
          rotate_left
          · intro _ _; go_simp; first | done | with_reducible rfl
          simp only [Act.put, List.setIfInBounds_toArray, List.set_cons_zero, List.set_cons_succ]
          refine wpAnyH_take (i := 9) (oi := { dst := some 43, op := .fieldAddr 50 (.tmp 42) 1, type := 0, pos := "wal.go:79", after := #[{ on := 8, ground := .data }], guard := none }) (v := ?_) rfl (by kernel_rfl) (by kernel_rfl) (by kernel_rfl) (fun _ _ _ h => h) (Or.inl ⟨by rfl, ?_⟩) (by assumption) ?_
          rotate_left
          · intro _ _; go_simp; first | done | with_reducible rfl
          simp only [Act.put, List.setIfInBounds_toArray, List.set_cons_zero, List.set_cons_succ]
          refine wpAnyH_take (i := 10) (oi := { dst := some 44, op := .load 9 (.tmp 43), type := 9, pos := "wal.go:79", after := #[{ on := 9, ground := .data }], guard := none }) (v := .string nm) rfl (by kernel_rfl) (by kernel_rfl) (by kernel_rfl) (fun _ _ _ h => h) (Or.inl ⟨by rfl, ?_⟩) (by assumption) ?_
          · intro _ _; rename_i wz hz; have cz := hz.2; go_simp
          simp only [Act.put, List.setIfInBounds_toArray, List.set_cons_zero, List.set_cons_succ]
          refine wpAnyH_ready (rs := [6]) (by kernel_rfl) (by simp) ?_
          refine AllReadyH.cons (o := { dst := some 40, op := .call { callee := .value (.func 29), args := #[.tmp 39], argTypes := #[27] }, type := 9, pos := "wal.go:79", after := #[{ on := 5, ground := .data }], guard := none }) rfl (fun K hK => ?_) AllReadyH.nil
          go_simp
          refine Calls.mono (beside_any l f nm size dead _ HS5.out.drew.blk hnm) ?_; rintro e w6 ⟨rfl, rfl⟩
          go_simp
          refine hK.out _ _ (⟨HS5.out.drew.blk.one rfl, HS5.out.drew.blk.one rfl⟩) (fun hHeld => ?_)
          clear hK K
          refine wpAnyH_ready (rs := [11]) (by kernel_rfl) (by simp) ?_
          refine AllReadyH.cons (o := { dst := some 45, op := .call { callee := .value (.func 30), args := #[.tmp 38, .tmp 40, .tmp 44], argTypes := #[25, 9, 9] }, type := 28, pos := "wal.go:79", after := #[{ on := 4, ground := .data }, { on := 6, ground := .data }, { on := 10, ground := .data }, { on := 6, ground := .chain }], guard := none }) rfl (fun K hK => ?_) AllReadyH.nil
          go_simp
          refine Calls.mono HRN.out ?_; rintro e w7 ⟨rfl, S7, hS7, hs7, hg7⟩; have HS7 : Hid (Sys w w7 f S7 ((l, lgC f nm size dead) :: Bl)) := hs7; have HG7 : Hid (GrB f (((l, lgC f nm size dead) :: Bl).map Prod.fst) S S7 w2 w7) := (HG5.out.trans (GrB.of_below (Below.refl _ _).drew)).trans hg7; have HA7 : Hid (S7.abs = S4.abs.ren (bes nm) nm) := hS7; clear hS7 hs7 hg7
          go_simp
          refine hK.out _ _ (⟨HS7.out.blk.one rfl, HS7.out.blk.one rfl⟩) (fun hHeld => ?_)
          clear hK K
          refine wpAnyH_ready (rs := [12]) (by kernel_rfl) (by simp) ?_
          refine AllReadyH.cons (o := { dst := some 46, op := .call { callee := .value (.func 23), args := #[.tmp 34, .tmp 45], argTypes := #[27, 28] }, type := 28, pos := "wal.go:79", after := #[{ on := 0, ground := .data }, { on := 11, ground := .data }, { on := 11, ground := .chain }], guard := none }) rfl (fun K hK => ?_) AllReadyH.nil
          go_simp
          refine Calls.mono (heed_any l f nm size dead R w7 HS7.out.blk) ?_; rintro e w8 ⟨rfl, hb8, hk8⟩; rw [← HE2.out, ← HD1.out] at hb8; obtain ⟨hs8, hg8⟩ := HS7.out.keep hk8 hb8; have HS8 : Hid (Sys w w8 f S7 ((l, lgC f nm size D) :: Bl)) := hs8; have HG8 : Hid (GrB f (((l, lgC f nm size dead) :: Bl).map Prod.fst) S S7 w2 w8) := HG7.out.trans hg8; clear hb8 hk8 hs8 hg8
          go_simp
          refine hK.out _ _ (⟨HS8.out.blk.one rfl, HS8.out.blk.one rfl⟩) (fun hHeld => ?_)
          clear hK K
          refine wpAnyH_take (i := 13) (oi := { dst := some 6, op := .assign (.tmp 46), type := 28, pos := "wal.go:79", after := #[{ on := 12, ground := .data }, { on := 12, ground := .chain }, { on := 0, ground := .phase }, { on := 1, ground := .phase }, { on := 2, ground := .phase }, { on := 3, ground := .phase }, { on := 4, ground := .phase }, { on := 5, ground := .phase }, { on := 6, ground := .phase }, { on := 7, ground := .phase }, { on := 8, ground := .phase }, { on := 9, ground := .phase }, { on := 10, ground := .phase }, { on := 11, ground := .phase }, { on := 12, ground := .phase }], guard := none }) (v := ?_) rfl (by kernel_rfl) (by kernel_rfl) (by kernel_rfl) (fun _ _ _ h => h) (Or.inl ⟨by rfl, ?_⟩) (by assumption) ?_
          rotate_left
          · intro _ _; go_simp; first | done | with_reducible rfl
          simp only [Act.put, List.setIfInBounds_toArray, List.set_cons_zero, List.set_cons_succ]
          refine wpAnyH_done (by kernel_rfl) ?_ _
          refine NoPanic.normal ?_
          clear hHeld
          by_cases hr0 : R = 0
          · subst hr0
            have HZ2 : Hid (Z = q) := by have := HZ.out; rw [HE2.out, if_pos rfl] at this; rw [HQ.out]; exact this
            have c2 : w8.cell? ⟨l, 2, none⟩ = some (.int .i64 size) := HS8.out.blk.one rfl
            have g2 : w8.frozen? ⟨l, 2, none⟩ = false := HS8.out.blk.frozen 2
            go_wp2_with fail
            go_step3
            go_wp2_with fail
            subst hQ
            rw [hops_ret]
            go_ret
            have hbl : Blk (w8.setCell ⟨l, 2, none⟩ (.int .i64 (q : Int))) l (lgC f nm Z D) := by
              rw [HZ2.out]
              exact HS8.out.blk.set 2 (.int .i64 (q : Int))
            obtain ⟨hs9, hg9⟩ := HS8.out.keep ((Keep.refl _ _).setCell 2 _) hbl
            exact ⟨ret_int HE2.out.symm, S7, by rw [HA7.out, HA2.out], hs9, HG8.out.trans hg9⟩
          · have hr' : (R != 0) = true := bne_iff_ne.2 hr0
            have HZ2 : Hid (Z = size) := by have := HZ.out; rw [HE2.out, if_neg hr0] at this; exact this
            go_wp2_with fail
            go_step3
            simp only [Exit.then]
            subst hQ
            rw [hops_goto]
            refine ⟨_, rfl, ?_⟩
            go_hide hQ
            go_wp2_with fail
            subst hQ
            rw [hops_ret]
            go_ret
            exact ⟨ret_int HE2.out.symm, S7, by rw [HA7.out, HA2.out], by rw [HZ2.out]; exact HS8.out, HG8.out⟩
        · have hw' : (W != 0) = true := bne_iff_ne.2 hw0
          have HE2 : Hid (E = W) := by have := HE1.out; rw [if_neg hw0] at this; exact this
          have HA2 : Hid (rsA S.abs dead nm rs = S4.abs) := by have := HA1.out; rw [if_neg hw0] at this; exact this
          have HZ2 : Hid (Z = size) := by have := HZ.out; rw [HE2.out, if_neg hw0] at this; exact this
          rw [← HE2.out, ← HD1.out] at hb5
          obtain ⟨hs5, hg5⟩ := HS4.out.keep hk5 hb5
          have HS5 : Hid (Sys w w5 f S4 ((l, lgC f nm size D) :: Bl)) := hs5
          have HG5 : Hid (GrB f (((l, lgC f nm size dead) :: Bl).map Prod.fst) S S4 w2 w5) := HG4.out.trans hg5
          clear hb5 hk5 hs5 hg5 HE1 HA1 HZ
          go_wp2_with fail
          go_step3
          simp only [Exit.then]
          subst hQ
          rw [hops_goto]
          refine ⟨_, rfl, ?_⟩
          go_hide hQ
          go_wp2_with fail
          subst hQ
          rw [hops_ret]
          go_ret
          exact ⟨ret_int HE2.out.symm, S4, HA2.out.symm, by rw [HZ2.out]; exact HS5.out, HG5.out⟩
  · have hk' : (K != 0) = true := bne_iff_ne.2 hk
    have HE1 : Hid (E = K) := by have := HE.out; rw [if_neg hk] at this; exact this
    have HA1 : Hid (rsA S.abs dead nm rs = S.abs) := by have := HA.out; rw [if_neg hk] at this; exact this
    have HZ1 : Hid (Z = size) := by have := HZ.out; rw [HE1.out, if_neg hk] at this; exact this
    have HD1 : Hid (D = dead) := by have := HD.out; rw [if_neg hk] at this; exact this
    clear HE HA HZ HD
    go_wp2_with fail
    go_step3
    simp only [Exit.then]
    subst hQ
    rw [hops_goto]
    refine ⟨_, rfl, ?_⟩
    go_hide hQ
    go_wp2_with fail
    subst hQ
    rw [hops_ret]
    go_ret
    exact ⟨ret_int HE1.out.symm, S, HA1.out.symm, by rw [HZ1.out, HD1.out]; exact H.out, GrB.refl _ _ _ _⟩
end Go.Proofs.YtlapnnkahijikaaDoor
