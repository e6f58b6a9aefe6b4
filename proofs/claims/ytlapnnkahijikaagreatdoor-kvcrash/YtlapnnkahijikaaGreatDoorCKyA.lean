/- kv: a store whose power may go (Kq), one that is dead (Kz), files behind a crash. -/
import Derived.Test.YtlapnnkahijikaaGreatDoorCKyT
import Derived.Test.YtlapnnkahijikaaGreatDoorCWlZ
namespace Go.Proofs.YtlapnnkahijikaaGreatDoor
open Go.ChangeShapes Go.WideShapes Go.ChangeAt Go.RowKit Go.Lib

/-- A store whose power may go. -/
structure Kq (w wi : World) (f : Nat) (S : FS) (l s r : Nat) (nm : ByteArray) (m : Int) (H : List (List Pr)) (q : Nat) : Prop where
  lq : Lq w wi f S l nm (H.map batB) [] q
  sto : ∃ A, Sto w wi f S l s r m A ∧ Shows A (thist H)
  hist : Hist H
/-- A store that is dead: what a crash leaves of it. -/
structure Kz (w wi : World) (f : Nat) (S : FS) (l s r : Nat) (nm : ByteArray) (H Z : List (List Pr)) (q : Nat) : Prop where
  sto : ∃ size m A, Sys w wi f S [(l, lgC f nm size true)] ∧ Sto w wi f S l s r m A
  good : Good S.abs q
  ends : Ends S.abs nm (H.map batB) (Z.map batB)
  hist : Hist H
  histZ : Hist Z
section
variable {w wi wj : World} {f : Nat} {S : FS} {l s r : Nat} {nm : ByteArray} {m : Int} {H Z : List (List Pr)} {q : Nat}
theorem Kq.below (h : Kq w wi f S l s r nm m H q) (hb : Below wi.heap.size wi wj) : Kq w wj f S l s r nm m H q := by
  obtain ⟨A, h1, h2⟩ := h.sto
  exact ⟨h.lq.below hb, ⟨A, h1.below hb, h2⟩, h.hist⟩
theorem Kz.below (h : Kz w wi f S l s r nm H Z q) (hb : Below wi.heap.size wi wj) : Kz w wj f S l s r nm H Z q := by
  obtain ⟨z, m, A, h1, h2⟩ := h.sto
  exact ⟨⟨z, m, A, h1.below hb, h2.below hb⟩, h.good, h.ends, h.hist, h.histZ⟩
theorem Kq.idsLt (h : Kq w wi f S l s r nm m H q) : ∀ j ∈ [l, s, r], j < wi.heap.size := by
  obtain ⟨A, hst, _⟩ := h.sto
  intro j hj
  simp only [List.mem_cons, List.not_mem_nil, or_false] at hj
  rcases hj with rfl | rfl | rfl
  · exact h.lq.sys.blk.lt
  · exact hst.blk.lt
  · exact hst.map.lt
theorem Kq.foot (h : Kq w wi f S l s r nm m H q) : ∀ j, S.foot f j → j < wi.heap.size := fun _ e => h.lq.sys.fs.lt e
theorem Kq.keep {X : Nat} (h : Kq w wi f S l s r nm m H q) (hk : Keep X wi wj) (hx : Free f S [l, s, r] wi X) (hw : w.heap.size ≤ X) : Kq w wj f S l s r nm m H q := by
  obtain ⟨A, hst, hsh⟩ := h.sto
  have hx1 : X ≠ l ∧ X ≠ s ∧ X ≠ r := by have := hx.2.2; simpa using this
  have hx2 : Free f S [l] wi X := hx.reids fun j hj => .inl (by rw [List.mem_singleton] at hj; rw [hj]; simp)
  exact ⟨⟨h.lq.sys.keepFree hk hx2 hw, h.lq.file, h.lq.good⟩, ⟨A, ⟨hst.blk.keep hk hx1.2.1.symm, hst.map.same (hk.block r hst.map.lt hx1.2.2.symm), ⟨⟨Nat.lt_of_lt_of_le hst.ss.1.1 hk.size, hst.ss.1.2⟩, hst.ss.2⟩, ⟨⟨Nat.lt_of_lt_of_le hst.rr.1.1 hk.size, hst.rr.1.2⟩, hst.rr.2⟩⟩, hsh⟩, h.hist⟩
theorem Kz.keep {X : Nat} (h : Kz w wi f S l s r nm H Z q) (hk : Keep X wi wj) (hx : Free f S [l, s, r] wi X) (hw : w.heap.size ≤ X) : Kz w wj f S l s r nm H Z q := by
  obtain ⟨z, m, A, hsy, hst⟩ := h.sto
  have hx1 : X ≠ l ∧ X ≠ s ∧ X ≠ r := by have := hx.2.2; simpa using this
  have hx2 : Free f S [l] wi X := hx.reids fun j hj => .inl (by rw [List.mem_singleton] at hj; rw [hj]; simp)
  exact ⟨⟨z, m, A, hsy.keepFree hk hx2 hw, ⟨hst.blk.keep hk hx1.2.1.symm, hst.map.same (hk.block r hst.map.lt hx1.2.2.symm), ⟨⟨Nat.lt_of_lt_of_le hst.ss.1.1 hk.size, hst.ss.1.2⟩, hst.ss.2⟩, ⟨⟨Nat.lt_of_lt_of_le hst.rr.1.1 hk.size, hst.rr.1.2⟩, hst.rr.2⟩⟩⟩, h.good, h.ends, h.hist, h.histZ⟩
theorem Kv.kq (h : Kv w wi f S l s r nm m H q) : Kq w wi f S l s r nm m H q := ⟨h.lg.lq, h.sto, h.hist⟩
/-- The power is bounded. -/
theorem kv_cut (h : Kv w wi f S l s r nm m H q) (n : Int) (h0 : 0 ≤ n) (h1 : n ≤ 9223372036854775807) :
    Calls Tryz.prog 21 #[.pointer (some ⟨f, 0, none⟩), .int .i64 n] wi fun e w' => e = .returned (.tuple #[]) ∧ ∃ S', Kq w w' f S' l s r nm m H q ∧ GrB f [l, s, r] S S' wi w' := by
  obtain ⟨A, hst, hsh⟩ := h.sto
  refine (lq_cut h.lg.lq n h0 h1).mono ?_
  rintro _ w' ⟨rfl, S', hq, hg⟩
  exact ⟨rfl, S', ⟨hq, ⟨A, hst.step hg, hsh⟩, h.hist⟩, hg.wider fun j hj => by simp only [List.map_cons, List.map_nil, List.mem_cons, List.not_mem_nil, or_false] at hj ⊢; omega⟩
theorem kq_put (hK : Kw w) (h : Kq w wi f S l s r nm m H q) (hq : q ≤ 1000000000000) (hn : NameL nm) (hm0 : 0 ≤ m) (hm : m ≤ 1000000000000) (a : Option Addr) (n cap : Nat) (b : List Pr)
    (hb : ∀ S' wj, GrB f [l] S S' wi wj → Below w.heap.size w wj → Els wj a n cap b) (hk : kask b = 0) (hs : ∀ p ∈ b, SmP p) (hl : H.flatten.length + b.length ≤ 1000) :
    Calls Tryz.prog 12 #[.pointer (some ⟨s, 0, none⟩), .slice a n cap] wi fun e w' => ∃ S', GrB f [l, s, r] S S' wi w' ∧
      ((e = .returned (.int .i64 0) ∧ Kq w w' f S' l s r nm (m + 1) (H ++ [b]) (q + 2)) ∨ (e = .returned (.int .i64 7) ∧ Kz w w' f S' l s r nm H (H ++ [b]) (q + 2))) := by
  obtain ⟨A, hst, hsh⟩ := h.sto
  have hh := h.hist.snoc hk hs hl
  have hf := h.hist.frs
  have hbl := hh.bat (b := b) (by simp)
  have hfb := frB_le (batB b)
  obtain ⟨g1, _, _, g4⟩ := apnd_out h.lq.good hn.ok.1 h.lq.file (r := batB b) (by omega) (by omega)
  refine (put_ok hK l nm (frs (H.map batB)).length false h.lq.sys s r m A hst h.lq.good.ok (by omega) (by omega) hm0 hm a n cap b hb hk (by have := prsB_sm hs; have := hh.len (b := b) (by simp); omega)).mono ?_
  rintro _ w' ⟨S', hS', hsy, rfl, hg, hst'⟩
  refine ⟨S', hg, ?_⟩
  rcases g4 with ⟨e, d, z, lf⟩ | ⟨e, d, _, t, z, k1, k2, k3, k4⟩
  · rw [e, if_pos rfl, if_pos rfl] at hst'
    rw [d, z] at hsy
    refine .inl ⟨by rw [e], ⟨?_, ?_, ?_⟩, ⟨_, hst', ?_⟩, hh⟩
    · rw [List.map_append, List.map_cons, List.map_nil, frs_append, frs_one, List.length_append]; exact hsy
    · rw [hS', List.map_append]; exact lf
    · rw [hS']; exact g1
    · rw [thist_snoc]; exact (shows_bat hsh hst.map.nodup).1
  · rw [d] at hsy
    refine .inr ⟨by rw [e], ⟨_, _, _, hsy, hst'⟩, by rw [hS']; exact g1, ?_, h.hist, hh⟩
    rw [hS', List.map_append]
    exact cut_ends k1 k2 k3 k4 (by omega) (by rw [List.length_append]; omega)
theorem kq_compact (hK : Kw w) (h : Kq w wi f S l s r nm m H q) (hq : q ≤ 1000000000000) (hn : NameL nm) (hm0 : 0 ≤ m) (hm : m ≤ 1000000000000) :
    Calls Tryz.prog 15 #[.pointer (some ⟨s, 0, none⟩)] wi fun e w' => ∃ S', GrB f [l, s] S S' wi w' ∧
      ((e = .returned (.int .i64 0) ∧ Kq w w' f S' l s r nm (m + 1) (packH (thist H)) (q + 3)) ∨ (e = .returned (.int .i64 7) ∧ Kz w w' f S' l s r nm H H (q + 3))) := by
  obtain ⟨A, hst, hsh⟩ := h.sto
  have hh := h.hist.pack
  have hf := hh.frs
  obtain ⟨t1, t2⟩ := h.hist.tab
  have t3 := h.hist.few
  have t4 := h.hist.frs
  obtain ⟨z1, z2⟩ := hsh.sizes h.hist
  have hrs := hh.recs
  rw [packH_map] at hf hrs
  obtain ⟨g1, _, _, g4⟩ := rset_out h.lq.good hn.ok.1 hn.ok.2 h.lq.file (rs := packR (thist H)) hrs (by omega)
  refine (compact_any hK l nm (frs (H.map batB)).length false h.lq.sys s r m A (thist H) hst hsh h.lq.good.ok (by omega) hn.hi hm0 hm z1 z2 (fun p hp => by have := (t2 p hp).1; unfold SmP at this; omega) (by have := prsB_sm fun p hp => (t2 p hp).1; omega)).mono ?_
  rintro _ w' ⟨S', hS', hsy, rfl, hg, hst'⟩
  refine ⟨S', hg, ?_⟩
  rcases g4 with ⟨e, d, z, lf⟩ | ⟨e, d, _, k1⟩
  · rw [e, if_pos rfl] at hst'
    rw [d, z] at hsy
    refine .inl ⟨by rw [e], ⟨?_, ?_, ?_⟩, ⟨A, hst', ?_⟩, hh⟩
    · rw [packH_map]; exact hsy
    · rw [hS', packH_map]; exact lf
    · rw [hS']; exact g1
    · rw [packH_hist (up_hist H)]; exact hsh
  · rw [d] at hsy
    refine .inr ⟨by rw [e], ⟨_, _, _, hsy, hst'⟩, by rw [hS']; exact g1, ?_, h.hist, h.hist⟩
    rw [hS']
    exact TornF.ends ⟨[], firstR_nil, by rw [List.append_nil]; omega, by rw [List.append_nil]; exact k1⟩
/-- What a crash may leave of a store whose power may go. -/
theorem Kq.kz (h : Kq w wi f S l s r nm m H q) : Sys w wi f S [(l, lgC f nm (frs (H.map batB)).length false)] ∧ Good S.abs q ∧ Ends S.abs nm (H.map batB) (H.map batB) :=
  ⟨h.lq.sys, h.lq.good, (h.lq.file.torn (by have := h.hist.frs; omega)).ends⟩
/-- A place that was begun behind another one. -/
theorem Sys.rebase {w0 : World} {Bl : List (Nat × List Value)} (h : Sys w wi f S Bl) (hb : Below w0.heap.size w0 w) : Sys w0 wi f S Bl :=
  ⟨hb.trans (h.base.mono hb.size), h.fs, fun k e => Nat.le_trans hb.size (h.low k e), fun p hp => ⟨Nat.le_trans hb.size (h.blks p hp).1, (h.blks p hp).2⟩, h.nodup⟩
theorem Tq.rebase {w0 : World} {X : List (List (BitVec 8))} {Bl : List (Nat × List Value)} {n : Nat} (h : Tq w wi f S nm X Bl n) (hb : Below w0.heap.size w0 w) : Tq w0 wi f S nm X Bl n := ⟨h.sys.rebase hb, h.good, h.torn⟩
theorem tq_kopen (hK : Kw w) (h : Tq w wi f S nm (H.map batB) [] q) (hq : q ≤ 1000000) (hn : NameL nm) (hh : Hist H) :
    Calls Tryz.prog 10 #[.pointer (some ⟨f, 0, none⟩), .string nm] wi fun e w' => ∃ p x S' Bl', e = .returned (.tuple #[.pointer p, .int .i64 x]) ∧ Tq w w' f S' nm (H.map batB) Bl' (q + 4) ∧ GrB f [] S S' wi w' := by
  obtain ⟨g, t⟩ := torn_mend h.good hn.ok.1 hn.ok.2 hh.recs h.torn
  obtain ⟨tl, h1, h2, h3⟩ := h.torn
  obtain ⟨_, _, _, g4⟩ := mend_out h.good hn.ok.1 hn.ok.2 hh.recs h1 (s := (frs (H.map batB) ++ tl).length) (by rw [h3]; rfl) h2
  refine (kopen_any hK nm h.sys h.good.ok (by omega) hn.lo hn.hi H hh.ask (fun b hb => by have := hh.bat hb; omega) (by have := hh.length; omega) (fun e0 => ?_)).mono ?_
  · rcases g4 with ⟨_, y, lf⟩ | ⟨e7, _⟩
    · rw [y]; exact recR_is lf hh.recs
    · rw [e7] at e0; cases e0
  · rintro _ w' (⟨_, s, l, r, A, S', rfl, hS', hsy, hst, hsh, hlt, hg'⟩ | ⟨hne, rfl, S', hS', hsy, hg'⟩)
    · exact ⟨_, _, S', _, rfl, ⟨hsy, by rw [hS']; exact g, by rw [hS']; exact t⟩, hg'⟩
    · exact ⟨_, _, S', _, rfl, ⟨hsy, by rw [hS']; exact g, by rw [hS']; exact t⟩, hg'⟩
theorem kv_open2 (hK : Kw w) (h : Tq w wi f S nm (H.map batB) [] q) (hlv : Live S.abs) (hq : q ≤ 1000000) (hn : NameL nm) (hh : Hist H) :
    Calls Tryz.prog 10 #[.pointer (some ⟨f, 0, none⟩), .string nm] wi fun e w' => ∃ s l r, e = .returned (.tuple #[.pointer (some ⟨s, 0, none⟩), .int .i64 0]) ∧ (wi.heap.size ≤ s ∧ wi.heap.size ≤ l ∧ wi.heap.size ≤ r) ∧ ∃ S', Kv w w' f S' l s r nm 0 H (q + 4) ∧ GrB f [] S S' wi w' := by
  obtain ⟨tl, h1, h2, h3⟩ := h.torn
  obtain ⟨g1, g2, g3, g4⟩ := mend_out h.good hn.ok.1 hn.ok.2 hh.recs h1 (s := (frs (H.map batB) ++ tl).length) (by rw [h3]; rfl) h2
  rcases g4 with ⟨e, y, lf⟩ | ⟨_, nl, _⟩
  · refine (kopen_any hK nm h.sys h.good.ok (by omega) hn.lo hn.hi H hh.ask (fun b hb => by have := hh.bat hb; omega) (by have := hh.length; omega) (fun _ => by rw [y]; exact recR_is lf hh.recs)).mono ?_
    rintro _ w' (⟨_, s, l, r, A, S', rfl, hS', hsy, hst, hsh, hlt, hg'⟩ | ⟨hne, _⟩)
    · rw [y] at hsy
      refine ⟨s, l, r, rfl, hlt, S', ⟨⟨hsy, ?_, ?_, ?_, hh.recs⟩, ⟨A, hst, hsh⟩, hh⟩, hg'⟩
      · rw [hS']; exact lf
      · rw [hS']; exact g1
      · rw [hS']; exact g2 hlv
    · exact absurd e hne
  · exact absurd hlv nl
theorem tq_cut2 {X : List (List (BitVec 8))} (h : Tq w wi f S nm X [] q) (n : Int) (h0 : 0 ≤ n) (h1 : n ≤ 9223372036854775807) :
    Calls Tryz.prog 21 #[.pointer (some ⟨f, 0, none⟩), .int .i64 n] wi fun e w' => e = .returned (.tuple #[]) ∧ ∃ S', Tq w w' f S' nm X [] q ∧ GrB f [] S S' wi w' := by
  refine (sys_cut h.sys n).mono ?_
  rintro _ w' ⟨rfl, S', hS', hs, hg⟩
  exact ⟨rfl, S', ⟨hs, by rw [hS']; exact good_cut h.good n h0 h1, by rw [hS']; exact h.torn⟩, hg⟩
end
/-- The law's store and tables behind so many rounds: sure is what was told last; maybe is what a crash may show as well. -/
structure Cr (w wi : World) (f l s r X Y k : Nat) : Prop where
  st : ∃ (S : FS) (kv vv ku vu : Value) (U : List Pr) (H : List (List Pr)) (m : Int) (q : Nat), Tab2 w wi f S [l, s, r] X Y kv vv (thist H) ku vu U ∧ (Up U ∧ U.length ≤ 1000) ∧ q ≤ 4 + 5 * k ∧ (0 ≤ m ∧ m ≤ 2 * k) ∧ H.flatten.length ≤ 10 * k ∧
    (Kq w wi f S l s r ⟨#[115]⟩ m H q ∨ ∃ Z, Kz w wi f S l s r ⟨#[115]⟩ H Z q ∧ (thist Z = U ∨ Z = H) ∧ Z.flatten.length ≤ 10 * k + 10)
/-- What a crash makes of it. -/
structure Cz (w wi : World) (f : Nat) (S : FS) (H Z : List (List Pr)) (U : List Pr) (q : Nat) : Prop where
  sys : ∃ Bl, Sys w wi f S Bl
  good : Good S.abs q
  ends : Ends S.abs ⟨#[115]⟩ (H.map batB) (Z.map batB)
  hist : Hist H
  histZ : Hist Z
  or : thist Z = U ∨ Z = H
section
variable {w wi wj : World} {f : Nat} {S : FS} {l s r : Nat} {nm : ByteArray} {m : Int} {H Z : List (List Pr)} {U : List Pr} {q : Nat}
theorem Kq.cz (h : Kq w wi f S l s r ⟨#[115]⟩ m H q) : Cz w wi f S H H U q := ⟨⟨_, h.kz.1⟩, h.kz.2.1, h.kz.2.2, h.hist, h.hist, .inr rfl⟩
theorem Kz.cz (h : Kz w wi f S l s r ⟨#[115]⟩ H Z q) (hu : thist Z = U ∨ Z = H) : Cz w wi f S H Z U q := by
  obtain ⟨z, m, A, hs, _⟩ := h.sto
  exact ⟨⟨_, hs⟩, h.good, h.ends, h.hist, h.histZ, hu⟩
theorem cz_crash (h : Cz w wi f S H Z U q) (hm : q ≤ 1000000) (a : Option Addr) (n c : Nat) (P : List Int) (hz : Ints wi a P) (hn : P.length = n) (hc : n ≤ c) (hcm : c ≤ maxLen) :
    Calls Tryz.prog 22 #[.pointer (some ⟨f, 0, none⟩), .slice a n c] wi fun e w' => ∃ g T Y, e = .returned (.pointer (some ⟨g, 0, none⟩)) ∧ Tq wi w' g T ⟨#[115]⟩ (Y.map batB) [] q ∧ Hist Y ∧ (Y = H ∨ Y = Z) ∧ (thist Y = thist H ∨ thist Y = U) := by
  obtain ⟨Bl, hs⟩ := h.sys
  refine (lz_crash hs h.good h.ends hm a n c P hz hn hc hcm).mono ?_
  rintro _ w' ⟨g, T, rfl, h1 | h1⟩
  · exact ⟨g, T, H, rfl, h1, h.hist, .inl rfl, .inl rfl⟩
  · exact ⟨g, T, Z, rfl, h1, h.histZ, .inr rfl, h.or.symm.imp (fun e => by rw [e]) id⟩
end
theorem Kz.dead {w wi : World} {f : Nat} {S : FS} {l s r : Nat} {nm : ByteArray} {H Z : List (List Pr)} {q : Nat} (h : Kz w wi f S l s r nm H Z q) :
    Calls Tryz.prog 18 #[.pointer (some ⟨s, 0, none⟩)] wi fun e w' => e = .returned (.bool true) ∧ w' = wi := by
  obtain ⟨z, m, A, hs, hst⟩ := h.sto
  exact kdead_any s r l f _ _ _ true wi hst.blk hs.blk
theorem Kq.dead {w wi : World} {f : Nat} {S : FS} {l s r : Nat} {nm : ByteArray} {m : Int} {H : List (List Pr)} {q : Nat} (h : Kq w wi f S l s r nm m H q) :
    Calls Tryz.prog 18 #[.pointer (some ⟨s, 0, none⟩)] wi fun e w' => e = .returned (.bool false) ∧ w' = wi := by
  obtain ⟨A, hst, _⟩ := h.sto
  exact kdead_any s r l f _ _ _ false wi hst.blk h.lq.sys.blk
theorem Kq.tab2 {w wi : World} {f : Nat} {S : FS} {l s r : Nat} {nm : ByteArray} {m : Int} {H : List (List Pr)} {q : Nat} (h : Kq w wi f S l s r nm m H q) (T : TypeId) : Tab2 w ((wi.alloc (.cells #[.slice none 0 0, .slice none 0 0] T)).alloc (.cells #[.slice none 0 0, .slice none 0 0] T)) f S [l, s, r] wi.heap.size (wi.heap.size + 1) (.slice none 0 0) (.slice none 0 0) [] (.slice none 0 0) (.slice none 0 0) [] := by
  have hw := h.lq.sys.base.size
  refine ⟨?_, ?_, by omega, fun k e => (by rcases e with e | e <;> cases e), fun k e => (by rcases e with e | e <;> cases e)⟩
  · refine ⟨(Blk.mk wi _ _ rfl rfl).alloc _, TabAt.nil _ _, ⟨⟨by simp; omega, fun e => by have := h.foot _ e; omega, fun e => by have := h.idsLt _ e; omega⟩, hw⟩, fun k e => ?_⟩
    rcases e with e | e <;> cases e
  · refine ⟨Blk.mk _ _ _ (by simp) rfl, TabAt.nil _ _, ⟨⟨by simp, fun e => by have := h.foot _ e; omega, fun e => by have := h.idsLt _ e; omega⟩, by omega⟩, fun k e => ?_⟩
    rcases e with e | e <;> cases e
def lastP : List Pr := [⟨⟨#[122, 122]⟩, ⟨#[101, 110, 100]⟩, false⟩]
end Go.Proofs.YtlapnnkahijikaaGreatDoor
