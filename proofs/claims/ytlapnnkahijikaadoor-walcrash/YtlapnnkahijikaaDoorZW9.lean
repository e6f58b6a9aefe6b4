/- wal: a crash within a turn, and one within the Open that follows: what the log's file holds (TornF, Ends), with power or without. wal: a log whose power may go (Lq), one that is dead (Lz), files behind a crash (Tq); Cut. -/
import Derived.Test.YtlapnnkahijikaaDoorZW7
import Derived.Test.YtlapnnkahijikaaDoorZW8
import Derived.Test.YtlapnnkahijikaaDoorZW6
namespace Go.Proofs.YtlapnnkahijikaaDoor
open Go.ChangeShapes Go.WideShapes Go.ChangeAt Go.RowKit Go.Lib

/-- What a crash leaves of a log's file: whole records and perhaps the beginning of one more, all of it safe. -/
def TornF (A : Abs) (nm : ByteArray) (X : List (List (BitVec 8))) : Prop := ∃ t, firstR t = none ∧ (frs X ++ t).length ≤ 16777216 ∧ alook nm A.L = some ⟨frs X ++ t, (frs X ++ t).length⟩
/-- A crash here leaves the ones or the others. -/
def Ends (A : Abs) (nm : ByteArray) (X Z : List (List (BitVec 8))) : Prop := ∀ m ps, Good A m → TornF (A.crash ps) nm X ∨ TornF (A.crash ps) nm Z
section
variable {A : Abs} {m : Nat} {nm : ByteArray} {X Z : List (List (BitVec 8))} {r : List (BitVec 8)}
theorem LogF.torn (h : LogF A nm X) (hb : (frs X).length ≤ 16777216) : TornF A nm X := ⟨[], firstR_nil, by rw [List.append_nil]; exact hb, by rw [List.append_nil]; exact h.1⟩
theorem torn_crash (hT : TornF A nm X) (h : Good A m) (ps : List Int) : TornF (A.crash ps) nm X := by
  obtain ⟨t, h1, h2, h3⟩ := hT
  obtain ⟨k, e, k1, k2⟩ := (crash_out h ps).2.2 nm _ h3
  have hk : k = (frs X ++ t).length := by
    have a1 : (frs X ++ t).length ≤ k := k1
    have a2 : k ≤ (frs X ++ t).length := k2 (Nat.le_refl _)
    omega
  refine ⟨t, h1, h2, ?_⟩
  rw [e, hk]
  show some (Fl.mk ((frs X ++ t).take (frs X ++ t).length) _) = _
  rw [List.take_length]
theorem TornF.ends (hT : TornF A nm X) : Ends A nm X Z := fun _ ps h => .inl (torn_crash hT h ps)
/-- Append died: none of it, all of it or a part of it stands there. -/
theorem cut_ends {t : List (BitVec 8)} {s : Nat} (hf : alook nm A.L = some ⟨frs X ++ t, s⟩) (h1 : (frs X).length ≤ s) (h2 : s ≤ (frs X ++ t).length) (ht : t = [] ∨ t = frB r) (hr : r.length ≤ 1048576) (hb : (frs X ++ frB r).length ≤ 16777216) : Ends A nm X (X ++ [r]) := fun m ps h => by
  obtain ⟨k, e, k1, k2⟩ := (crash_out h ps).2.2 nm _ hf
  have a1 : s ≤ k := k1
  have a2 : k ≤ (frs X ++ t).length := k2 h2
  have e : alook nm (A.crash ps).L = some ⟨(frs X ++ t).take k, k⟩ := e
  rw [List.length_append] at hb
  rcases ht with ht | ht
  · subst ht
    rw [List.append_nil] at e a2
    have hk : k = (frs X).length := by omega
    rw [hk, List.take_length] at e
    exact .inl ⟨[], firstR_nil, by rw [List.append_nil]; omega, by rw [List.append_nil]; exact e⟩
  · subst ht
    rw [List.length_append] at a2
    have hl : ((frB r).take (k - (frs X).length)).length = k - (frs X).length := by rw [List.length_take]; omega
    by_cases hk : k = (frs X).length + (frB r).length
    · right
      refine ⟨[], firstR_nil, by rw [List.append_nil, frs_append, frs_one, List.length_append]; omega, ?_⟩
      rw [List.append_nil, frs_append, frs_one, e, hk, ← List.length_append, List.take_length]
    · left
      refine ⟨(frB r).take (k - (frs X).length), firstR_cut r _ hr (by omega), by rw [List.length_append, hl]; omega, ?_⟩
      rw [e, List.take_append, List.take_of_length_le (by omega : (frs X).length ≤ k), List.length_append, hl]
      have : k = (frs X).length + (k - (frs X).length) := by omega
      rw [← this]
theorem torn_mend (h : Good A m) (hn : nameOK nm = true) (hn2 : nameOK (bes nm) = true) (hX : ∀ r ∈ X, r.length ≤ 1048576) (hT : TornF A nm X) : Good (mend A nm).2.1 (m + 4) ∧ TornF (mend A nm).2.1 nm X := by
  obtain ⟨t, h1, h2, h3⟩ := hT
  have hb : (frs X).length ≤ 16777216 := by rw [List.length_append] at h2; omega
  obtain ⟨g1, _, _, g4⟩ := mend_out h hn hn2 hX h1 (s := (frs X ++ t).length) (by rw [h3]; rfl) h2
  refine ⟨g1, ?_⟩
  rcases g4 with ⟨_, _, lf⟩ | ⟨_, _, e | e | e⟩
  · exact lf.torn hb
  · exact ⟨t, h1, h2, e.trans h3⟩
  · exact ⟨t, h1, h2, e⟩
  · refine ⟨[], firstR_nil, by rw [List.append_nil]; exact hb, ?_⟩
    rw [List.append_nil, e]
    have : min (frs X ++ t).length (frs X).length = (frs X).length := by rw [List.length_append]; omega
    rw [this]
theorem good_cut (h : Good A m) (n : Int) (h0 : 0 ≤ n) (h1 : n ≤ 9223372036854775807) : Good { A with counted := true, left := n } m := ⟨h.nodup, h.small, h.len, by
  obtain ⟨o1, o2, o3, o4⟩ := h.ok
  exact ⟨o1, o2, by show (-9223372036854775808 : Int) ≤ n; omega, h1⟩⟩
theorem torn_cut {n : Int} (h : TornF A nm X) : TornF { A with counted := true, left := n } nm X := h
/-- A turn, with power or without. -/
theorem now_out (h : Good A m) (hn : NameL nm) (hX : LogF A nm X) (hXl : X.length ≤ 1000) (hXs : ∀ r ∈ X, r.length ≤ 399) (kind n z : Int) :
    Good (nowA A false nm kind n z) (m + 3) ∧
    ((nowE A false nm kind n z = 0 ∧ nowD A false nm kind n z = false ∧ nowZ A (frs X).length false nm kind n z = (frs (thenR X kind n z)).length ∧ LogF (nowA A false nm kind n z) nm (thenR X kind n z)) ∨
     (nowE A false nm kind n z = 7 ∧ nowD A false nm kind n z = true ∧ Ends (nowA A false nm kind n z) nm X (thenR X kind n z))) := by
  have hfX : (frs X).length ≤ 440 * 1000 := by
    have h1 := frs_bound hXs
    have h2 : (399 + 41) * X.length ≤ 440 * 1000 := Nat.mul_le_mul_left _ hXl
    omega
  by_cases h1 : kind = 1
  · subst h1
    have hsl := saidB_length n z
    have hfb := frB_le (saidB n z)
    have e1 : nowE A false nm 1 n z = apE A false nm (saidB n z) := rfl
    have e2 : nowA A false nm 1 n z = apA A false nm (saidB n z) := rfl
    have e3 : nowZ A (frs X).length false nm 1 n z = apZ A (frs X).length false nm (saidB n z) := rfl
    have e4 : nowD A false nm 1 n z = apD A false nm (saidB n z) := rfl
    have e5 : thenR X 1 n z = X ++ [saidB n z] := rfl
    rw [e1, e2, e3, e4, e5]
    obtain ⟨g1, _, _, g4⟩ := apnd_out h hn.ok.1 hX (r := saidB n z) (by omega) (by omega)
    refine ⟨g1.mono (by omega), ?_⟩
    rcases g4 with ⟨e, d, zz, lf⟩ | ⟨e, d, _, t, s, k1, k2, k3, k4⟩
    · exact .inl ⟨e, d, by rw [zz, frs_append, frs_one, List.length_append], lf⟩
    · exact .inr ⟨e, d, cut_ends k1 k2 k3 k4 (by omega) (by rw [List.length_append]; omega)⟩
  · by_cases h2 : kind = 2
    · subst h2
      have hsm := then2_small n z
      have e1 : nowE A false nm 2 n z = rsE A false nm (thenR [] 2 n z) := rfl
      have e2 : nowA A false nm 2 n z = rsA A false nm (thenR [] 2 n z) := rfl
      have e3 : nowZ A (frs X).length false nm 2 n z = rsZ A (frs X).length false nm (thenR [] 2 n z) := rfl
      have e4 : nowD A false nm 2 n z = rsD A false nm (thenR [] 2 n z) := rfl
      rw [e1, e2, e3, e4, thenR_two]
      have hr : ∀ r ∈ thenR [] 2 n z, r.length ≤ 1048576 := fun r hr => by have := hsm.2.2 r hr; omega
      obtain ⟨g1, _, _, g4⟩ := rset_out h hn.ok.1 hn.ok.2 hX hr (by omega)
      refine ⟨g1, ?_⟩
      rcases g4 with ⟨e, d, zz, lf⟩ | ⟨e, d, _, k1⟩
      · exact .inl ⟨e, d, zz _, lf⟩
      · exact .inr ⟨e, d, TornF.ends ⟨[], firstR_nil, by rw [List.append_nil]; omega, by rw [List.append_nil]; exact k1⟩⟩
    · have e1 : nowE A false nm kind n z = 0 := by unfold nowE; rw [if_neg h1, if_neg h2]
      have e2 : nowA A false nm kind n z = A := by unfold nowA; rw [if_neg h1, if_neg h2]
      have e3 : nowZ A (frs X).length false nm kind n z = (frs X).length := by unfold nowZ; rw [if_neg h1, if_neg h2]
      have e4 : nowD A false nm kind n z = false := by unfold nowD; rw [if_neg h1, if_neg h2]
      have e5 : thenR X kind n z = X := by unfold thenR; rw [if_neg h1, if_neg h2]
      rw [e1, e2, e3, e4, e5]
      exact ⟨h.mono (by omega), .inl ⟨rfl, rfl, rfl, hX⟩⟩
end
end Go.Proofs.YtlapnnkahijikaaDoor
namespace Go.Proofs.YtlapnnkahijikaaDoor
open Go.ChangeShapes Go.WideShapes Go.ChangeAt Go.RowKit Go.Lib

theorem sys_cut {w wi : World} {f : Nat} {S : FS} {Bl : List (Nat × List Value)} (h : Sys w wi f S Bl) (n : Int) :
    Calls Tryd.prog 7 #[.pointer (some ⟨f, 0, none⟩), .int .i64 n] wi fun e w' => e = .returned (.tuple #[]) ∧ Step w wi f S (Bl.map Prod.fst) { S.abs with counted := true, left := n } Bl w' := by
  refine (cut_any f S n wi h.fs).mono ?_
  rintro _ w' ⟨rfl, h1, h2, _⟩
  exact ⟨rfl, _, rfl, h.grown (Below.refl _ _) h1 h2, GrB.of_grown h2⟩
theorem nowZ_le (A : Abs) (size : Nat) (dead : Bool) (nm : ByteArray) (kind n z : Int) : nowZ A size dead nm kind n z ≤ size + 1000000 := by
  have h1 := saidB_length n z
  have h2 := frB_le (saidB n z)
  have h3 := then2_small n z
  unfold nowZ apZ rsZ
  repeat' split
  all_goals omega
/-- A log whose power may go. -/
structure Lq (w wi : World) (f : Nat) (S : FS) (l : Nat) (nm : ByteArray) (X : List (List (BitVec 8))) (Bl : List (Nat × List Value)) (m : Nat) : Prop where
  sys : Sys w wi f S ((l, lgC f nm (frs X).length false) :: Bl)
  file : LogF S.abs nm X
  good : Good S.abs m
/-- A log that is dead. -/
def Lz (w wi : World) (f : Nat) (S : FS) (l : Nat) (nm : ByteArray) (X Z : List (List (BitVec 8))) (Bl : List (Nat × List Value)) (m : Nat) : Prop :=
  ∃ size : Nat, Sys w wi f S ((l, lgC f nm size true) :: Bl) ∧ size ≤ 1000000000 ∧ Good S.abs m ∧ Ends S.abs nm X Z
/-- Files behind a crash, or behind an Open that power failed. -/
structure Tq (w wi : World) (f : Nat) (S : FS) (nm : ByteArray) (X : List (List (BitVec 8))) (Bl : List (Nat × List Value)) (m : Nat) : Prop where
  sys : Sys w wi f S Bl
  good : Good S.abs m
  torn : TornF S.abs nm X
section
variable {w wi : World} {f : Nat} {S : FS} {l : Nat} {nm : ByteArray} {X Z : List (List (BitVec 8))} {Bl : List (Nat × List Value)} {m : Nat}
theorem Lq.below {wj : World} (h : Lq w wi f S l nm X Bl m) (hb : Below wi.heap.size wi wj) : Lq w wj f S l nm X Bl m := ⟨h.sys.below hb, h.file, h.good⟩
theorem Lz.below {wj : World} (h : Lz w wi f S l nm X Z Bl m) (hb : Below wi.heap.size wi wj) : Lz w wj f S l nm X Z Bl m := by obtain ⟨s, h1, h0, h2, h3⟩ := h; exact ⟨s, h1.below hb, h0, h2, h3⟩
theorem Tq.below {wj : World} (h : Tq w wi f S nm X Bl m) (hb : Below wi.heap.size wi wj) : Tq w wj f S nm X Bl m := ⟨h.sys.below hb, h.good, h.torn⟩
theorem Lg.lq (h : Lg w wi f S l nm X Bl m) : Lq w wi f S l nm X Bl m := ⟨h.sys, h.file, h.good⟩
theorem lq_cut (h : Lq w wi f S l nm X Bl m) (n : Int) (h0 : 0 ≤ n) (h1 : n ≤ 9223372036854775807) :
    Calls Tryd.prog 7 #[.pointer (some ⟨f, 0, none⟩), .int .i64 n] wi fun e w' => e = .returned (.tuple #[]) ∧ ∃ S', Lq w w' f S' l nm X Bl m ∧ GrB f (((l, lgC f nm (frs X).length false) :: Bl).map Prod.fst) S S' wi w' := by
  refine (sys_cut h.sys n).mono ?_
  rintro _ w' ⟨rfl, S', hS', hs, hg⟩
  exact ⟨rfl, S', ⟨hs, by rw [hS']; exact h.file, by rw [hS']; exact good_cut h.good n h0 h1⟩, hg⟩
theorem tq_cut (h : Tq w wi f S nm X Bl m) (n : Int) (h0 : 0 ≤ n) (h1 : n ≤ 9223372036854775807) :
    Calls Tryd.prog 7 #[.pointer (some ⟨f, 0, none⟩), .int .i64 n] wi fun e w' => e = .returned (.tuple #[]) ∧ ∃ S', Tq w w' f S' nm X Bl m := by
  refine (sys_cut h.sys n).mono ?_
  rintro _ w' ⟨rfl, S', hS', hs, hg⟩
  exact ⟨rfl, S', hs, by rw [hS']; exact good_cut h.good n h0 h1, by rw [hS']; exact h.torn⟩
theorem lq_now (hK : Kw w) (h : Lq w wi f S l nm X Bl m) (hm : m ≤ 1000000) (hn : NameL nm) (hXl : X.length ≤ 1000) (hX : ∀ r ∈ X, r.length ≤ 399) (kind n z : Int) :
    Calls Tryd.prog 9 #[.pointer (some ⟨l, 0, none⟩), turnV kind n z] wi fun e w' => ∃ S', GrB f (((l, lgC f nm (frs X).length false) :: Bl).map Prod.fst) S S' wi w' ∧
      ((e = .returned (.int .i64 0) ∧ Lq w w' f S' l nm (thenR X kind n z) Bl (m + 3)) ∨ (e = .returned (.int .i64 7) ∧ Lz w w' f S' l nm X (thenR X kind n z) Bl (m + 3))) := by
  have hfX : (frs X).length ≤ 440 * 1000 := by
    have h1 := frs_bound hX
    have h2 : (399 + 41) * X.length ≤ 440 * 1000 := Nat.mul_le_mul_left _ hXl
    omega
  refine (now_any hK l nm (frs X).length false h.sys h.good.ok (by omega) hn.hi (by omega) kind n z).mono ?_
  rintro _ w' ⟨rfl, S', hS', hs, hg⟩
  refine ⟨S', hg, ?_⟩
  obtain ⟨g, o⟩ := now_out h.good hn h.file hXl hX kind n z
  rw [← hS'] at g
  rcases o with ⟨e, d, zz, lf⟩ | ⟨e, d, en⟩
  · rw [d, zz] at hs
    exact .inl ⟨by rw [e], hs, by rw [hS']; exact lf, g⟩
  · rw [d] at hs
    exact .inr ⟨by rw [e], _, hs, by have := nowZ_le S.abs (frs X).length false nm kind n z; omega, g, by rw [hS']; exact en⟩
/-- A dead log refuses. -/
theorem lz_append (hK : Kw w) (h : Lz w wi f S l nm X Z Bl m) (hm : m ≤ 1000000) (_ : NameL nm) :
    Calls Tryd.prog 11 #[.pointer (some ⟨l, 0, none⟩), .slice none 0 0] wi fun e w' => e = .returned (.int .i64 7) ∧ ∃ S', Lz w w' f S' l nm X Z Bl m ∧ ∀ s, GrB f (((l, lgC f nm s true) :: Bl).map Prod.fst) S S' wi w' := by
  obtain ⟨s, h1, h0, h2, h3⟩ := h
  have ha : askE true [[]] = 7 := rfl
  have hE : apE S.abs true nm [] = 7 := by unfold apE; rw [if_neg (by rw [ha]; decide), ha]
  have hA : apA S.abs true nm [] = S.abs := by unfold apA; rw [if_neg (by rw [ha]; decide)]
  have hD : apD S.abs true nm [] = true := by unfold apD; rw [if_neg (by rw [ha]; decide)]
  refine (lappend_any hK l nm s true h1 h2.ok (by omega) (by omega) (.slice none 0 0) [] (.inl ⟨none, 0, rfl, Nat.le_refl _, by unfold maxLen; omega, .inl ⟨rfl, rfl⟩⟩) (by simp)).mono ?_
  rintro _ w' ⟨rfl, S', hS', hs, hg⟩
  rw [hA] at hS'
  rw [hD] at hs
  have hZ : apZ S.abs s true nm [] = s := by unfold apZ; rw [if_neg (by rw [ha]; decide)]
  rw [hZ] at hs
  exact ⟨by rw [hE], S', ⟨_, hs, h0, by rw [hS']; exact h2, by rw [hS']; exact h3⟩, fun _ => hg⟩
theorem tq_open (hK : Kw w) (h : Tq w wi f S nm X Bl m) (hm : m ≤ 1000000) (hn : NameL nm) (hX : ∀ r ∈ X, r.length ≤ 1048576) :
    Calls Tryd.prog 6 #[.pointer (some ⟨f, 0, none⟩), .string nm] wi fun e w' => ∃ p x S' Bl', e = .returned (.tuple #[.pointer p, .int .i64 x]) ∧ Tq w w' f S' nm X Bl' (m + 4) := by
  obtain ⟨g, t⟩ := torn_mend h.good hn.ok.1 hn.ok.2 hX h.torn
  refine (wopen_any hK nm h.sys h.good.ok (by omega) hn.lo hn.hi).mono ?_
  rintro _ w' (⟨_, l, rfl, hl, S', hS', hs, hg'⟩ | ⟨hne, rfl, S', hS', hs, hg'⟩)
  · exact ⟨_, _, S', _, rfl, hs, by rw [hS']; exact g, by rw [hS']; exact t⟩
  · exact ⟨_, _, S', _, rfl, hs, by rw [hS']; exact g, by rw [hS']; exact t⟩
theorem tq_crash (h : Tq w wi f S nm X Bl m) (hm : m ≤ 1000000) (a : Option Addr) (n c : Nat) (P : List Int) (hz : Ints wi a P) (hn : P.length = n) (hc : n ≤ c) (hcm : c ≤ maxLen) :
    Calls Tryd.prog 12 #[.pointer (some ⟨f, 0, none⟩), .slice a n c] wi fun e w' => ∃ g T, e = .returned (.pointer (some ⟨g, 0, none⟩)) ∧ Tq wi w' g T nm X [] m ∧ Live T.abs := by
  refine (crash_lg h.sys h.good hm a n c P hz hn hc hcm).mono ?_
  rintro _ w' ⟨g, T, rfl, hT, hs⟩
  obtain ⟨h1, h2, _⟩ := crash_out h.good P
  exact ⟨g, T, rfl, ⟨hs, by rw [hT]; exact h1, by rw [hT]; exact torn_crash h.torn h.good P⟩, by rw [hT]; exact h2⟩
theorem lz_crash (h : Sys w wi f S Bl) (hg : Good S.abs m) (he : Ends S.abs nm X Z) (hm : m ≤ 1000000) (a : Option Addr) (n c : Nat) (P : List Int) (hz : Ints wi a P) (hn : P.length = n) (hc : n ≤ c) (hcm : c ≤ maxLen) :
    Calls Tryd.prog 12 #[.pointer (some ⟨f, 0, none⟩), .slice a n c] wi fun e w' => ∃ g T, e = .returned (.pointer (some ⟨g, 0, none⟩)) ∧ (Tq wi w' g T nm X [] m ∨ Tq wi w' g T nm Z [] m) := by
  refine (crash_lg h hg hm a n c P hz hn hc hcm).mono ?_
  rintro _ w' ⟨g, T, rfl, hT, hs⟩
  obtain ⟨h1, h2, _⟩ := crash_out hg P
  refine ⟨g, T, rfl, ?_⟩
  rcases he m P hg with h | h
  · exact .inl ⟨hs, by rw [hT]; exact h1, by rw [hT]; exact h⟩
  · exact .inr ⟨hs, by rw [hT]; exact h1, by rw [hT]; exact h⟩
theorem tq_lg (hK : Kw w) (h : Tq w wi f S nm X Bl m) (hl : Live S.abs) (hm : m ≤ 1000000) (hn : NameL nm) (hX : ∀ r ∈ X, r.length ≤ 1048576) :
    Calls Tryd.prog 6 #[.pointer (some ⟨f, 0, none⟩), .string nm] wi fun e w' => ∃ l, e = .returned (.tuple #[.pointer (some ⟨l, 0, none⟩), .int .i64 0]) ∧ wi.heap.size ≤ l ∧ LgStep w wi f S l nm (Bl.map Prod.fst) X Bl (m + 4) w' := by
  obtain ⟨t, h1, h2, h3⟩ := h.torn
  exact lg_open hK h.sys h.good hl (by omega) hn hX h1 (by rw [h3]; rfl) h2
end
def onC : List (BitVec 8) := [111#8, 110#8]
theorem onC_len : (frB onC).length = 35 := by rw [frB_length]; rfl
theorem bs_on {w : World} {b : Nat} (h : ∀ j, w.cell? ⟨b, j, none⟩ = (#[Value.int .u8 111, Value.int .u8 110] : Array Value)[j]?) : Bs w (.slice (some ⟨b, 0, none⟩) 2 2) onC :=
  ⟨some ⟨b, 0, none⟩, 2, rfl, Nat.le_refl _, by unfold maxLen; omega, .inr ⟨b, 0, rfl, fun j hj => by
    rw [Nat.zero_add, h j]
    match j, hj with
    | 0, _ => rfl
    | 1, _ => rfl
    | j + 2, hj => exact absurd hj (by simp [onC])⟩⟩
theorem srcX_lit1 (w : World) (x : Value) (n : Nat) (hn : n = w.heap.size) : SrcX (w.alloc (.cells #[x] 40)) (.slice (some ⟨n, 0, none⟩) 1 1) [x] :=
  .inr ⟨n, 0, 1, rfl, Nat.le_refl _, by unfold maxLen; omega, fun j y hy => by rw [Nat.zero_add]; exact (Blk.mk (b := n) w #[x] _ hn rfl).one hy⟩
theorem AllW.cells {w : World} {xs : List Value} {rs : List (List (BitVec 8))} (h : AllW w xs rs) : ∀ u ∈ xs, u.oneCell' = true := fun u hu => by
  obtain ⟨i, hi, e⟩ := List.mem_iff_getElem.1 hu
  obtain ⟨a, c, hv, _⟩ := (h.2 i u (by rw [List.getElem?_eq_getElem hi, e])).shape
  rw [hv]; rfl
end Go.Proofs.YtlapnnkahijikaaDoor
