/- wal: a log whose power may go (Lq), one that is dead (Lz), files behind a crash (Tq); Cut. -/
import Derived.Test.YtlapnnkahijikaaGreatDoorZW8
import Derived.Test.YtlapnnkahijikaaGreatDoorCWlY
import Derived.Test.YtlapnnkahijikaaGreatDoorZW6
namespace Go.Proofs.YtlapnnkahijikaaGreatDoor
open Go.ChangeShapes Go.WideShapes Go.ChangeAt Go.RowKit Go.Lib

theorem sys_cut {w wi : World} {f : Nat} {S : FS} {Bl : List (Nat × List Value)} (h : Sys w wi f S Bl) (n : Int) :
    Calls Tryz.prog 21 #[.pointer (some ⟨f, 0, none⟩), .int .i64 n] wi fun e w' => e = .returned (.tuple #[]) ∧ Step w wi f S (Bl.map Prod.fst) { S.abs with counted := true, left := n } Bl w' := by
  refine (cut_any f S n wi h.fs).mono ?_
  rintro _ w' ⟨rfl, h1, h2, _⟩
  exact ⟨rfl, _, rfl, h.grown (Below.refl _ _) h1 h2, GrB.of_grown h2⟩
theorem nowZ_le (A : Abs) (size : Nat) (dead : Bool) (nm : ByteArray) (kind n z : Int) : nowZ A size dead nm kind n z ≤ size + 1000000 := by
  have h1 := saidB_length n z
  have h2 := frB_le (saidB n z)
  have h3 := then2_small n z
  unfold nowZ apZ rsZ
  repeat' split
  all_goals omega
/-- A log whose power may go. -/
structure Lq (w wi : World) (f : Nat) (S : FS) (l : Nat) (nm : ByteArray) (X : List (List (BitVec 8))) (Bl : List (Nat × List Value)) (m : Nat) : Prop where
  sys : Sys w wi f S ((l, lgC f nm (frs X).length false) :: Bl)
  file : LogF S.abs nm X
  good : Good S.abs m
/-- A log that is dead. -/
def Lz (w wi : World) (f : Nat) (S : FS) (l : Nat) (nm : ByteArray) (X Z : List (List (BitVec 8))) (Bl : List (Nat × List Value)) (m : Nat) : Prop :=
  ∃ size : Nat, Sys w wi f S ((l, lgC f nm size true) :: Bl) ∧ size ≤ 1000000000 ∧ Good S.abs m ∧ Ends S.abs nm X Z
/-- Files behind a crash, or behind an Open that power failed. -/
structure Tq (w wi : World) (f : Nat) (S : FS) (nm : ByteArray) (X : List (List (BitVec 8))) (Bl : List (Nat × List Value)) (m : Nat) : Prop where
  sys : Sys w wi f S Bl
  good : Good S.abs m
  torn : TornF S.abs nm X
section
variable {w wi : World} {f : Nat} {S : FS} {l : Nat} {nm : ByteArray} {X Z : List (List (BitVec 8))} {Bl : List (Nat × List Value)} {m : Nat}
theorem Lq.below {wj : World} (h : Lq w wi f S l nm X Bl m) (hb : Below wi.heap.size wi wj) : Lq w wj f S l nm X Bl m := ⟨h.sys.below hb, h.file, h.good⟩
theorem Lz.below {wj : World} (h : Lz w wi f S l nm X Z Bl m) (hb : Below wi.heap.size wi wj) : Lz w wj f S l nm X Z Bl m := by obtain ⟨s, h1, h0, h2, h3⟩ := h; exact ⟨s, h1.below hb, h0, h2, h3⟩
theorem Tq.below {wj : World} (h : Tq w wi f S nm X Bl m) (hb : Below wi.heap.size wi wj) : Tq w wj f S nm X Bl m := ⟨h.sys.below hb, h.good, h.torn⟩
theorem Lg.lq (h : Lg w wi f S l nm X Bl m) : Lq w wi f S l nm X Bl m := ⟨h.sys, h.file, h.good⟩
theorem lq_cut (h : Lq w wi f S l nm X Bl m) (n : Int) (h0 : 0 ≤ n) (h1 : n ≤ 9223372036854775807) :
    Calls Tryz.prog 21 #[.pointer (some ⟨f, 0, none⟩), .int .i64 n] wi fun e w' => e = .returned (.tuple #[]) ∧ ∃ S', Lq w w' f S' l nm X Bl m ∧ GrB f (((l, lgC f nm (frs X).length false) :: Bl).map Prod.fst) S S' wi w' := by
  refine (sys_cut h.sys n).mono ?_
  rintro _ w' ⟨rfl, S', hS', hs, hg⟩
  exact ⟨rfl, S', ⟨hs, by rw [hS']; exact h.file, by rw [hS']; exact good_cut h.good n h0 h1⟩, hg⟩
theorem tq_cut (h : Tq w wi f S nm X Bl m) (n : Int) (h0 : 0 ≤ n) (h1 : n ≤ 9223372036854775807) :
    Calls Tryz.prog 21 #[.pointer (some ⟨f, 0, none⟩), .int .i64 n] wi fun e w' => e = .returned (.tuple #[]) ∧ ∃ S', Tq w w' f S' nm X Bl m := by
  refine (sys_cut h.sys n).mono ?_
  rintro _ w' ⟨rfl, S', hS', hs, hg⟩
  exact ⟨rfl, S', hs, by rw [hS']; exact good_cut h.good n h0 h1, by rw [hS']; exact h.torn⟩
/-- A dead log refuses. -/
theorem lz_append (hK : Kw w) (h : Lz w wi f S l nm X Z Bl m) (hm : m ≤ 1000000) (_ : NameL nm) :
    Calls Tryz.prog 33 #[.pointer (some ⟨l, 0, none⟩), .slice none 0 0] wi fun e w' => e = .returned (.int .i64 7) ∧ ∃ S', Lz w w' f S' l nm X Z Bl m ∧ ∀ s, GrB f (((l, lgC f nm s true) :: Bl).map Prod.fst) S S' wi w' := by
  obtain ⟨s, h1, h0, h2, h3⟩ := h
  have ha : askE true [[]] = 7 := rfl
  have hE : apE S.abs true nm [] = 7 := by unfold apE; rw [if_neg (by rw [ha]; decide), ha]
  have hA : apA S.abs true nm [] = S.abs := by unfold apA; rw [if_neg (by rw [ha]; decide)]
  have hD : apD S.abs true nm [] = true := by unfold apD; rw [if_neg (by rw [ha]; decide)]
  refine (lappend_any hK l nm s true h1 h2.ok (by omega) (by omega) (.slice none 0 0) [] (.inl ⟨none, 0, rfl, Nat.le_refl _, by unfold maxLen; omega, .inl ⟨rfl, rfl⟩⟩) (by simp)).mono ?_
  rintro _ w' ⟨rfl, S', hS', hs, hg⟩
  rw [hA] at hS'
  rw [hD] at hs
  have hZ : apZ S.abs s true nm [] = s := by unfold apZ; rw [if_neg (by rw [ha]; decide)]
  rw [hZ] at hs
  exact ⟨by rw [hE], S', ⟨_, hs, h0, by rw [hS']; exact h2, by rw [hS']; exact h3⟩, fun _ => hg⟩
theorem tq_open (hK : Kw w) (h : Tq w wi f S nm X Bl m) (hm : m ≤ 1000000) (hn : NameL nm) (hX : ∀ r ∈ X, r.length ≤ 1048576) :
    Calls Tryz.prog 27 #[.pointer (some ⟨f, 0, none⟩), .string nm] wi fun e w' => ∃ p x S' Bl', e = .returned (.tuple #[.pointer p, .int .i64 x]) ∧ Tq w w' f S' nm X Bl' (m + 4) := by
  obtain ⟨g, t⟩ := torn_mend h.good hn.ok.1 hn.ok.2 hX h.torn
  refine (wopen_any hK nm h.sys h.good.ok (by omega) hn.lo hn.hi).mono ?_
  rintro _ w' (⟨_, l, rfl, hl, S', hS', hs, hg'⟩ | ⟨hne, rfl, S', hS', hs, hg'⟩)
  · exact ⟨_, _, S', _, rfl, hs, by rw [hS']; exact g, by rw [hS']; exact t⟩
  · exact ⟨_, _, S', _, rfl, hs, by rw [hS']; exact g, by rw [hS']; exact t⟩
theorem tq_crash (h : Tq w wi f S nm X Bl m) (hm : m ≤ 1000000) (a : Option Addr) (n c : Nat) (P : List Int) (hz : Ints wi a P) (hn : P.length = n) (hc : n ≤ c) (hcm : c ≤ maxLen) :
    Calls Tryz.prog 22 #[.pointer (some ⟨f, 0, none⟩), .slice a n c] wi fun e w' => ∃ g T, e = .returned (.pointer (some ⟨g, 0, none⟩)) ∧ Tq wi w' g T nm X [] m ∧ Live T.abs := by
  refine (crash_lg h.sys h.good hm a n c P hz hn hc hcm).mono ?_
  rintro _ w' ⟨g, T, rfl, hT, hs⟩
  obtain ⟨h1, h2, _⟩ := crash_out h.good P
  exact ⟨g, T, rfl, ⟨hs, by rw [hT]; exact h1, by rw [hT]; exact torn_crash h.torn h.good P⟩, by rw [hT]; exact h2⟩
theorem lz_crash (h : Sys w wi f S Bl) (hg : Good S.abs m) (he : Ends S.abs nm X Z) (hm : m ≤ 1000000) (a : Option Addr) (n c : Nat) (P : List Int) (hz : Ints wi a P) (hn : P.length = n) (hc : n ≤ c) (hcm : c ≤ maxLen) :
    Calls Tryz.prog 22 #[.pointer (some ⟨f, 0, none⟩), .slice a n c] wi fun e w' => ∃ g T, e = .returned (.pointer (some ⟨g, 0, none⟩)) ∧ (Tq wi w' g T nm X [] m ∨ Tq wi w' g T nm Z [] m) := by
  refine (crash_lg h hg hm a n c P hz hn hc hcm).mono ?_
  rintro _ w' ⟨g, T, rfl, hT, hs⟩
  obtain ⟨h1, h2, _⟩ := crash_out hg P
  refine ⟨g, T, rfl, ?_⟩
  rcases he m P hg with h | h
  · exact .inl ⟨hs, by rw [hT]; exact h1, by rw [hT]; exact h⟩
  · exact .inr ⟨hs, by rw [hT]; exact h1, by rw [hT]; exact h⟩
theorem tq_lg (hK : Kw w) (h : Tq w wi f S nm X Bl m) (hl : Live S.abs) (hm : m ≤ 1000000) (hn : NameL nm) (hX : ∀ r ∈ X, r.length ≤ 1048576) :
    Calls Tryz.prog 27 #[.pointer (some ⟨f, 0, none⟩), .string nm] wi fun e w' => ∃ l, e = .returned (.tuple #[.pointer (some ⟨l, 0, none⟩), .int .i64 0]) ∧ wi.heap.size ≤ l ∧ LgStep w wi f S l nm (Bl.map Prod.fst) X Bl (m + 4) w' := by
  obtain ⟨t, h1, h2, h3⟩ := h.torn
  exact lg_open hK h.sys h.good hl (by omega) hn hX h1 (by rw [h3]; rfl) h2
end
def onC : List (BitVec 8) := [111#8, 110#8]
theorem onC_len : (frB onC).length = 35 := by rw [frB_length]; rfl
theorem bs_on {w : World} {b : Nat} (h : ∀ j, w.cell? ⟨b, j, none⟩ = (#[Value.int .u8 111, Value.int .u8 110] : Array Value)[j]?) : Bs w (.slice (some ⟨b, 0, none⟩) 2 2) onC :=
  ⟨some ⟨b, 0, none⟩, 2, rfl, Nat.le_refl _, by unfold maxLen; omega, .inr ⟨b, 0, rfl, fun j hj => by
    rw [Nat.zero_add, h j]
    match j, hj with
    | 0, _ => rfl
    | 1, _ => rfl
    | j + 2, hj => exact absurd hj (by simp [onC])⟩⟩
theorem srcX_lit1 (w : World) (x : Value) (n : Nat) (hn : n = w.heap.size) : SrcX (w.alloc (.cells #[x] 67)) (.slice (some ⟨n, 0, none⟩) 1 1) [x] :=
  .inr ⟨n, 0, 1, rfl, Nat.le_refl _, by unfold maxLen; omega, fun j y hy => by rw [Nat.zero_add]; exact (Blk.mk (b := n) w #[x] _ hn rfl).one hy⟩
theorem AllW.cells {w : World} {xs : List Value} {rs : List (List (BitVec 8))} (h : AllW w xs rs) : ∀ u ∈ xs, u.oneCell' = true := fun u hu => by
  obtain ⟨i, hi, e⟩ := List.mem_iff_getElem.1 hu
  obtain ⟨a, c, hv, _⟩ := (h.2 i u (by rw [List.getElem?_eq_getElem hi, e])).shape
  rw [hv]; rfl
end Go.Proofs.YtlapnnkahijikaaGreatDoor
