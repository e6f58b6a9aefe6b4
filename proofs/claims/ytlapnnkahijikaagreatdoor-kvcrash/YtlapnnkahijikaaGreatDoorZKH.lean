/- kv: a store with power for all acts, act by act. Law 9: awake. -/
import Derived.Test.YtlapnnkahijikaaGreatDoorZK9
import Derived.Test.YtlapnnkahijikaaGreatDoorZKC
import Derived.Test.YtlapnnkahijikaaGreatDoorZKG
import Derived.Test.YtlapnnkahijikaaGreatDoorZW6
namespace Go.Proofs.YtlapnnkahijikaaGreatDoor
open Go.ChangeShapes Go.WideShapes Go.ChangeAt Go.RowKit Go.Lib

def SmP (p : Pr) : Prop := p.k.size ≤ 150 ∧ p.v.size ≤ 300
/-- What a store was given: batches that may be put, and not many. -/
structure Hist (H : List (List Pr)) : Prop where
  ask : ∀ b ∈ H, kask b = 0
  sm : ∀ b ∈ H, ∀ p ∈ b, SmP p
  few : H.flatten.length ≤ 1000
theorem Hist.nil : Hist [] := ⟨(fun _ h => by cases h), (fun _ h => by cases h), by simp⟩
theorem Hist.snoc {H : List (List Pr)} {b : List Pr} (h : Hist H) (hk : kask b = 0) (hs : ∀ p ∈ b, SmP p) (hl : H.flatten.length + b.length ≤ 1000) : Hist (H ++ [b]) := by
  refine ⟨fun c hc => ?_, fun c hc => ?_, by simpa using hl⟩
  · rcases List.mem_append.1 hc with hc | hc
    · exact h.ask c hc
    · rw [List.mem_singleton] at hc; rw [hc]; exact hk
  · rcases List.mem_append.1 hc with hc | hc
    · exact h.sm c hc
    · rw [List.mem_singleton] at hc; rw [hc]; exact hs
theorem prsB_sm {b : List Pr} (h : ∀ p ∈ b, SmP p) : (prsB b).length ≤ 477 * b.length := prsB_bound fun p hp => by
  have := prB_le p
  have := h p hp
  unfold SmP at this; omega
theorem Hist.len {H : List (List Pr)} (h : Hist H) {b : List Pr} (hb : b ∈ H) : b.length ≤ 1000 := (kask_zero (h.ask b hb)).2.1
theorem Hist.bat {H : List (List Pr)} (h : Hist H) {b : List Pr} (hb : b ∈ H) : (batB b).length ≤ 477009 := by
  have h1 := prsB_sm (h.sm b hb)
  have h2 := h.len hb
  have h3 := batB_le b
  omega
theorem Hist.recs {H : List (List Pr)} (h : Hist H) : ∀ r ∈ H.map batB, r.length ≤ 1048576 := fun r hr => by
  obtain ⟨b, hb, rfl⟩ := List.mem_map.1 hr
  have := h.bat hb
  omega
theorem hist_frs : ∀ {H : List (List Pr)}, (∀ b ∈ H, kask b = 0) → (∀ b ∈ H, ∀ p ∈ b, SmP p) → (frs (H.map batB)).length ≤ 527 * H.flatten.length ∧ H.length ≤ H.flatten.length
  | [], _, _ => ⟨by simp [frs], by simp⟩
  | b :: H, ha, hs => by
    obtain ⟨h1, h2⟩ := hist_frs (H := H) (fun c hc => ha c (List.mem_cons_of_mem _ hc)) (fun c hc => hs c (List.mem_cons_of_mem _ hc))
    have h3 := (kask_zero (ha b (List.mem_cons_self ..))).1
    have h4 := prsB_sm (hs b (List.mem_cons_self ..))
    have h5 := batB_le b
    have h6 := frB_le (batB b)
    rw [List.map_cons, frs_cons, List.length_append, List.flatten_cons, List.length_append, List.length_cons, Nat.mul_add]
    omega
theorem Hist.frs {H : List (List Pr)} (h : Hist H) : (frs (H.map batB)).length ≤ 527000 := by
  have h1 := (hist_frs h.ask h.sm).1
  have := h.few
  omega
theorem Hist.length {H : List (List Pr)} (h : Hist H) : H.length ≤ 1000 := Nat.le_trans (hist_frs h.ask h.sm).2 h.few
theorem thist_mem {x : Pr} : ∀ {H : List (List Pr)} {T : List Pr}, x ∈ H.foldl tbat T → x ∈ T ∨ ∃ b ∈ H, x ∈ b
  | [], _, h => .inl h
  | b :: H, T, h => by
    rcases thist_mem (H := H) (T := tbat T b) h with h | ⟨c, hc, h⟩
    · rcases tbat_mem h with h | h
      · exact .inl h
      · exact .inr ⟨b, List.mem_cons_self .., h⟩
    · exact .inr ⟨c, List.mem_cons_of_mem _ hc, h⟩
theorem thist_length : ∀ {H : List (List Pr)} {T : List Pr}, (H.foldl tbat T).length ≤ T.length + H.flatten.length
  | [], T => by simp
  | b :: H, T => by
    have h1 := thist_length (H := H) (T := tbat T b)
    have h2 := tbat_length (b := b) (T := T)
    rw [List.foldl_cons, List.flatten_cons, List.length_append]
    omega
theorem Hist.tab {H : List (List Pr)} (h : Hist H) : (thist H).length ≤ H.flatten.length ∧ (∀ p ∈ thist H, SmP p ∧ pArg p = true ∧ p.g = false) := by
  refine ⟨by have := thist_length (H := H) (T := []); simpa [thist] using this, fun p hp => ?_⟩
  have hg := (up_hist H).2 p hp
  rcases thist_mem hp with e | ⟨b, hb, e⟩
  · cases e
  · exact ⟨h.sm b hb p e, ((kask_zero (h.ask b hb)).2.2 p e).1, hg⟩
/-- What a Compact leaves of it. -/
def packH (T : List Pr) : List (List Pr) := if T = [] then [] else [T]
theorem packH_map (T : List Pr) : (packH T).map batB = packR T := by unfold packH packR; split <;> rfl
theorem packH_hist {T : List Pr} (h : Up T) : thist (packH T) = T := by
  unfold packH
  split
  · rename_i e; rw [e]; rfl
  · exact tbat_up h
theorem packH_flat (T : List Pr) : (packH T).flatten.length = T.length := by
  unfold packH
  split
  · rename_i e; rw [e]; rfl
  · simp
theorem Hist.pack {H : List (List Pr)} (h : Hist H) : Hist (packH (thist H)) := by
  obtain ⟨h1, h2⟩ := h.tab
  have h3 := h.few
  refine ⟨fun b hb => ?_, fun b hb => ?_, by rw [packH_flat]; omega⟩
  · unfold packH at hb
    split at hb
    · cases hb
    · rename_i hne
      rw [List.mem_singleton] at hb
      rw [hb]
      refine kask_of (by have : (thist H).length ≠ 0 := fun e => hne (List.eq_nil_of_length_eq_zero e); omega) (by omega) fun p hp => ⟨(h2 p hp).2.1, ?_⟩
      have := (h2 p hp).1.2
      unfold pBig
      rw [decide_eq_true_eq]; omega
  · unfold packH at hb
    split at hb
    · cases hb
    · rw [List.mem_singleton] at hb
      rw [hb]
      exact fun p hp => (h2 p hp).1
structure Kv (w wi : World) (f : Nat) (S : FS) (l s r : Nat) (nm : ByteArray) (m : Int) (H : List (List Pr)) (q : Nat) : Prop where
  lg : Lg w wi f S l nm (H.map batB) [] q
  sto : ∃ A, Sto w wi f S l s r m A ∧ Shows A (thist H)
  hist : Hist H
theorem Shows.sizes {A : List (ByteArray × Pr)} {H : List (List Pr)} (h : Shows A (thist H)) (hh : Hist H) : A.length ≤ 1000 ∧ ∀ p ∈ A, p.1.size ≤ 1000000 := by
  obtain ⟨h1, h2⟩ := hh.tab
  have := hh.few
  refine ⟨by rw [← h.length]; omega, fun p hp => ?_⟩
  have h3 := h.perm.mem_iff.2 (List.mem_map.2 ⟨p, hp, rfl⟩)
  have h4 := (h2 _ h3).1.1
  rw [h.key p hp] at h4; omega
section
variable {w wi : World} {f : Nat} {S : FS} {l s r : Nat} {nm : ByteArray} {m : Int} {H : List (List Pr)} {q : Nat}
theorem Kv.below {wj : World} (h : Kv w wi f S l s r nm m H q) (hb : Below wi.heap.size wi wj) : Kv w wj f S l s r nm m H q := by
  obtain ⟨A, h1, h2⟩ := h.sto
  exact ⟨h.lg.below hb, ⟨A, h1.below hb, h2⟩, h.hist⟩
theorem kv_put (hK : Kw w) (h : Kv w wi f S l s r nm m H q) (hq : q ≤ 1000000000000) (hn : NameL nm) (hm0 : 0 ≤ m) (hm : m ≤ 1000000000000) (a : Option Addr) (n cap : Nat) (b : List Pr)
    (hb : ∀ S' wj, GrB f [l] S S' wi wj → Below w.heap.size w wj → Els wj a n cap b) (hk : kask b = 0) (hs : ∀ p ∈ b, SmP p) (hl : H.flatten.length + b.length ≤ 1000) :
    Calls Tryz.prog 12 #[.pointer (some ⟨s, 0, none⟩), .slice a n cap] wi fun e w' => e = .returned (.int .i64 0) ∧ ∃ S', Kv w w' f S' l s r nm (m + 1) (H ++ [b]) (q + 2) ∧ GrB f [l, s, r] S S' wi w' ∧ ∀ x, x ≠ nm → alook x S'.abs.L = alook x S.abs.L := by
  obtain ⟨A, hst, hsh⟩ := h.sto
  have hh := h.hist.snoc hk hs hl
  have hf := h.hist.frs
  have hbl := hh.bat (b := b) (by simp)
  have hfb := frB_le (batB b)
  obtain ⟨g1, g2, g3, g4⟩ := apnd_out h.lg.good hn.ok.1 h.lg.file (r := batB b) (by omega) (by omega)
  rcases g4 with ⟨e, d, z, lf⟩ | ⟨_, _, nl, _⟩
  · refine (put_ok hK l nm (frs (H.map batB)).length false h.lg.sys s r m A hst h.lg.good.ok (by omega) (by omega) hm0 hm a n cap b hb hk (by have := prsB_sm hs; have := hh.len (b := b) (by simp); omega)).mono ?_
    rintro _ w' ⟨S', hS', hsy, rfl, hg, hst'⟩
    rw [e, if_pos rfl, if_pos rfl] at hst'
    rw [d, z] at hsy
    refine ⟨by rw [e], S', ⟨⟨?_, ?_, ?_, ?_, hh.recs⟩, ⟨_, hst', ?_⟩, hh⟩, hg, fun x hx => by rw [hS']; exact g3 x hx⟩
    · rw [List.map_append, List.map_cons, List.map_nil, frs_append, frs_one, List.length_append]; exact hsy
    · rw [hS', List.map_append]; exact lf
    · rw [hS']; exact g1
    · rw [hS']; exact g2 h.lg.live
    · rw [thist_snoc]; exact (shows_bat hsh hst.map.nodup).1
  · exact absurd h.lg.live nl
theorem kv_compact (hK : Kw w) (h : Kv w wi f S l s r nm m H q) (hq : q ≤ 1000000000000) (hn : NameL nm) (hm0 : 0 ≤ m) (hm : m ≤ 1000000000000) :
    Calls Tryz.prog 15 #[.pointer (some ⟨s, 0, none⟩)] wi fun e w' => e = .returned (.int .i64 0) ∧ ∃ S', Kv w w' f S' l s r nm (m + 1) (packH (thist H)) (q + 3) ∧ GrB f [l, s] S S' wi w' ∧ ∀ x, x ≠ nm → x ≠ bes nm → alook x S'.abs.L = alook x S.abs.L := by
  obtain ⟨A, hst, hsh⟩ := h.sto
  have hh := h.hist.pack
  have hf := hh.frs
  obtain ⟨t1, t2⟩ := h.hist.tab
  have t3 := h.hist.few
  obtain ⟨z1, z2⟩ := hsh.sizes h.hist
  have hrs := hh.recs
  rw [packH_map] at hf hrs
  obtain ⟨g1, g2, g3, g4⟩ := rset_out h.lg.good hn.ok.1 hn.ok.2 h.lg.file (rs := packR (thist H)) hrs (by omega)
  rcases g4 with ⟨e, d, z, lf⟩ | ⟨_, _, nl, _⟩
  · refine (compact_any hK l nm (frs (H.map batB)).length false h.lg.sys s r m A (thist H) hst hsh h.lg.good.ok (by omega) hn.hi hm0 hm z1 z2 (fun p hp => by have := (t2 p hp).1; unfold SmP at this; omega) (by have := prsB_sm fun p hp => (t2 p hp).1; omega)).mono ?_
    rintro _ w' ⟨S', hS', hsy, rfl, hg, hst'⟩
    rw [e, if_pos rfl] at hst'
    rw [d, z] at hsy
    refine ⟨by rw [e], S', ⟨⟨?_, ?_, ?_, ?_, hh.recs⟩, ⟨A, hst', ?_⟩, hh⟩, hg, fun x h1 h2 => by rw [hS']; exact g3 x h1 h2⟩
    · rw [packH_map]; exact hsy
    · rw [hS', packH_map]; exact lf
    · rw [hS']; exact g1
    · rw [hS']; exact g2 h.lg.live
    · rw [packH_hist (up_hist H)]; exact hsh
  · exact absurd h.lg.live nl
theorem kv_open (hK : Kw w) (h : Sys w wi f S []) (hg : Good S.abs q) (hlv : Live S.abs) (hq : q ≤ 1000000000000) (hn : NameL nm) {t : List (BitVec 8)} {z : Nat} (hh : Hist H) (ht : firstR t = none) (hf : flOf (alook nm S.abs.L) = ⟨frs (H.map batB) ++ t, z⟩) (hb : t.length ≤ 10000000) :
    Calls Tryz.prog 10 #[.pointer (some ⟨f, 0, none⟩), .string nm] wi fun e w' => ∃ s l r, e = .returned (.tuple #[.pointer (some ⟨s, 0, none⟩), .int .i64 0]) ∧ (wi.heap.size ≤ s ∧ wi.heap.size ≤ l ∧ wi.heap.size ≤ r) ∧ ∃ S', Kv w w' f S' l s r nm 0 H (q + 4) ∧ GrB f [] S S' wi w' ∧ ∀ x, x ≠ nm → x ≠ bes nm → alook x S'.abs.L = alook x S.abs.L := by
  have hfr := hh.frs
  obtain ⟨g1, g2, g3, g4⟩ := mend_out hg hn.ok.1 hn.ok.2 hh.recs ht hf (by rw [List.length_append]; omega)
  rcases g4 with ⟨e, y, lf⟩ | ⟨_, nl, _⟩
  · refine (kopen_any hK nm h hg.ok (by omega) hn.lo hn.hi H hh.ask (fun b hb => by have := hh.bat hb; omega) (by have := hh.length; omega) (fun _ => by rw [y]; exact recR_is lf hh.recs)).mono ?_
    rintro _ w' (⟨_, s, l, r, A, S', rfl, hS', hsy, hst, hsh, hlt, hg'⟩ | ⟨hne, _⟩)
    · rw [y] at hsy
      refine ⟨s, l, r, rfl, hlt, S', ⟨⟨hsy, ?_, ?_, ?_, hh.recs⟩, ⟨A, hst, hsh⟩, hh⟩, hg', fun x h1 h2 => by rw [hS']; exact g3 x h1 h2⟩
      · rw [hS']; exact lf
      · rw [hS']; exact g1
      · rw [hS']; exact g2 hlv
    · exact absurd e hne
  · exact absurd hlv nl
theorem kv_shows (h : Kv w wi f S l s r nm m H q) (kv vv : Value) (U : List Pr) (N : Nat) (hU : TabAt wi N kv vv U) (hg : ∀ p ∈ U, p.g = false) (hul : U.length ≤ 1000000) :
    Calls Tryz.prog 16 #[.pointer (some ⟨s, 0, none⟩), .agg #[kv, vv]] wi fun e w' => e = .returned (.bool (decide (thist H = U))) ∧ Below wi.heap.size wi w' := by
  obtain ⟨A, hst, hsh⟩ := h.sto
  obtain ⟨z1, z2⟩ := hsh.sizes h.hist
  exact shows_any s r _ m A (thist H) U kv vv N wi hst.blk hst.map hsh z2 (by omega) hU hg hul
end
end Go.Proofs.YtlapnnkahijikaaGreatDoor
namespace Go.Proofs.YtlapnnkahijikaaGreatDoor
open Go.ChangeShapes Go.WideShapes Go.ChangeAt Go.RowKit Go.Lib

theorem nameL_s : NameL ⟨#[115]⟩ := ⟨by decide, by decide⟩
theorem OwnS.lit1 (w : World) (N : Nat) (x : ByteArray) (hN : N ≤ w.heap.size) : OwnS (w.alloc (.cells #[.string x] 9)) N (.slice (some ⟨w.heap.size, 0, none⟩) 1 1) [x] :=
  World.ownsRow_lit w #[.string x] 1 hN (by unfold maxLen; omega) (by rfl)
theorem Kv.fresh {w w2 w3 : World} {f : Nat} {S : FS} {l s r : Nat} {nm : ByteArray} {m : Int} {H : List (List Pr)} {q g : Nat} (h : Kv w w2 f S l s r nm m H q) (h1 : w2.heap.size ≤ g) (h2 : g < w3.heap.size) : Free f S [l] w3 g := by
  refine ⟨h2, fun e => by have := h.lg.sys.fs.lt e; omega, fun e => ?_⟩
  rw [List.mem_singleton] at e
  have := h.lg.sys.blk.lt
  omega
theorem Els.free {w wi : World} {f : Nat} {S : FS} {l g o n cap : Nat} {b : List Pr} (he : Els wi (some ⟨g, o, none⟩) n cap b) (hf : Free f S [l] wi g) : ∀ S' wj, GrB f [l] S S' wi wj → Below w.heap.size w wj → Els wj (some ⟨g, o, none⟩) n cap b := fun _ _ hg _ =>
  he.later fun b' o' _ e => by
    injection e with e
    injection e with e1 _ _
    rw [← e1]; exact hf.same hg
theorem kv_crash {w wi : World} {f : Nat} {S : FS} {l s r : Nat} {nm : ByteArray} {m : Int} {H : List (List Pr)} {q : Nat} (h : Kv w wi f S l s r nm m H q) (hq : q ≤ 1000000) (a : Option Addr) (n c : Nat) (Z : List Int) (hz : Ints wi a Z) (hn : Z.length = n) (hc : n ≤ c) (hcm : c ≤ maxLen) :
    Calls Tryz.prog 22 #[.pointer (some ⟨f, 0, none⟩), .slice a n c] wi fun e w' => ∃ g T, e = .returned (.pointer (some ⟨g, 0, none⟩)) ∧ Sys wi w' g T [] ∧ Good T.abs q ∧ Live T.abs ∧ flOf (alook nm T.abs.L) = ⟨frs (H.map batB) ++ [], (frs (H.map batB)).length⟩ := by
  refine (crash_lg h.lg.sys h.lg.good hq a n c Z hz hn hc hcm).mono ?_
  rintro e w' ⟨g, T, rfl, hT, hs⟩
  obtain ⟨hgT, hlT, hkT⟩ := crash_out h.lg.good Z
  obtain ⟨k, hk1, hk2, hk3⟩ := hkT nm _ h.lg.file.1
  have hk : k = (frs (H.map batB)).length := by have := hk3 (Nat.le_refl _); simp only at hk2 this; omega
  rw [hk] at hk1
  simp only [List.take_length] at hk1
  rw [← hT] at hk1 hgT hlT
  exact ⟨g, T, rfl, hs, hgT, hlT, by rw [hk1, List.append_nil]; rfl⟩
theorem look_none {A : List (ByteArray × Pr)} {T : List Pr} {k : ByteArray} (h : Shows A T) (hk : ∀ p ∈ T, p.k ≠ k) : alook k A = none := alook_none_of_not_mem fun e => by
  obtain ⟨q, hq, rfl⟩ := List.mem_map.1 e
  exact hk q.2 (h.perm.mem_iff.2 (List.mem_map.2 ⟨q, hq, rfl⟩)) (h.key q hq)
/-- A table of one pair, written out. -/
theorem tab_lit1 (w : World) (k v : ByteArray) : TabAt ((w.alloc (.cells #[.string k] 9)).alloc (.cells #[.string v] 9)) w.heap.size (.slice (some ⟨w.heap.size, 0, none⟩) 1 1) (.slice (some ⟨w.heap.size + 1, 0, none⟩) 1 1) [⟨k, v, false⟩] := by
  refine ⟨(OwnS.lit1 w _ k (Nat.le_refl _)).below ((Below.refl _ _).alloc (Nat.le_refl _) _), ?_⟩
  have := OwnS.lit1 (w.alloc (.cells #[.string k] 9)) w.heap.size v (by simp)
  rw [show (w.alloc (.cells #[.string k] 9)).heap.size = w.heap.size + 1 by simp] at this
  exact this
def awB : List Pr := [⟨⟨#[97]⟩, ⟨#[49]⟩, false⟩, ⟨⟨#[98]⟩, ⟨#[50]⟩, false⟩, ⟨⟨#[97]⟩, ⟨#[]⟩, true⟩]
theorem awB_hist : thist ([] ++ [awB]) = [⟨⟨#[98]⟩, ⟨#[50]⟩, false⟩] := by decide
set_option maxRecDepth 100000 in
set_option maxHeartbeats 8000000 in
theorem kawake_any (w : World) (hK : Kw w) :
    Calls Tryz.prog 8 #[] w fun e w' => e = .returned (.bool true) ∧ Below w.heap.size w w' := by
  have HK : Hid (Kw w) := hK
  clear hK
  go_enter Tryz.func8, Tryz.ntmps8
  go_wp2_with fail
  refine Calls.mono (new_lg w) ?_
  rintro e w1 ⟨f, S1, rfl, hs1, hg1, hl1, hL1⟩
  have HOP := kv_open (H := []) (t := []) (z := 0) HK.out hs1 hg1 hl1 (by omega) nameL_s Hist.nil firstR_nil (by rw [hL1]; rfl) (by simp)
  have HO : Hid _ := HOP
  clear hs1 hg1 hl1 hL1 HOP
  go_wp2_with fail
  refine Calls.mono HO.out ?_
  rintro e w2 ⟨s, l, r, rfl, _, S2, hk2, _, _⟩
  have HK2 : Hid (Kv w w2 f S2 l s r ⟨#[115]⟩ 0 [] 4) := hk2
  clear hk2 HO
  go_wp2_with fail
  generalize hw3 : World.alloc w2 _ = w3
  have HB3 : Hid (Below w2.heap.size w2 w3) := by rw [← hw3]; exact (Below.refl _ _).alloc (Nat.le_refl _) _
  have HE3 : Hid (Els w3 (some ⟨w2.heap.size, 0, none⟩) 3 3 awB) := by rw [← hw3]; exact Els.lit w2 awB 3 _ rfl (by omega)
  have hl3 : w2.heap.size < w3.heap.size := by rw [← hw3]; simp
  have HK3 : Hid (Kv w w3 f S2 l s r ⟨#[115]⟩ 0 [] 4) := HK2.out.below HB3.out
  have HPU : Hid _ := kv_put HK.out HK3.out (by omega) nameL_s (by omega) (by omega) _ 3 3 awB (HE3.out.free (HK2.out.fresh (Nat.le_refl _) hl3)) (by decide) (fun p hp => by simp only [awB, List.mem_cons, List.not_mem_nil, or_false] at hp; rcases hp with rfl | rfl | rfl <;> exact ⟨by decide, by decide⟩) (by decide)
  clear hw3 HE3 HK2 HB3 hl3
  refine Calls.mono HPU.out ?_
  rintro e w4 ⟨rfl, S4, hk4, _, _⟩
  have HK4 : Hid (Kv w w4 f S4 l s r ⟨#[115]⟩ 1 ([] ++ [awB]) 6) := hk4
  clear hk4 HPU HK3
  go_wp2_with fail
  refine Calls.mono (put_bad (some ⟨s, 0, none⟩) none 0 0 [] w4 (Els.nil _) (by decide)) ?_
  rw [show kask [] = 1 from rfl]
  rintro e w5 ⟨rfl, hb5⟩
  have HK5 : Hid (Kv w w5 f S4 l s r ⟨#[115]⟩ 1 ([] ++ [awB]) 6) := HK4.out.below hb5
  clear hb5 HK4
  obtain ⟨A, hst, hsh⟩ := HK5.out.sto
  have HGE : Hid _ := get_none s r _ 1 A ⟨#[97]⟩ w5 hst.blk hst.map (look_none hsh (by rw [awB_hist]; intro p hp; rw [List.mem_singleton] at hp; rw [hp]; decide))
  clear hst hsh
  go_wp2_with fail
  refine Calls.mono HGE.out ?_
  rintro e w6 ⟨rfl, hb6⟩
  have HK6 : Hid (Kv w w6 f S4 l s r ⟨#[115]⟩ 1 ([] ++ [awB]) 6) := HK5.out.below hb6
  clear hb6 HK5 HGE
  go_wp2_with fail
  refine Calls.mono (kv_crash HK6.out (by omega) none 0 0 [] (.inl rfl) rfl (Nat.le_refl _) (by unfold maxLen; omega)) ?_
  rintro e w7 ⟨g, T, rfl, hs7, hg7, hl7, hf7⟩
  have HO7 : Hid _ := kv_open (H := [] ++ [awB]) (t := []) (HK6.out.lg.sys.kw HK.out) hs7 hg7 hl7 (by omega) nameL_s HK6.out.hist firstR_nil hf7 (by simp)
  clear hs7 hg7 hl7 hf7
  go_wp2_with fail
  refine Calls.mono HO7.out ?_
  rintro e w8 ⟨s2, l2, r2, rfl, _, S8, hk8, _, _⟩
  have HK8 : Hid (Kv w6 w8 g S8 l2 s2 r2 ⟨#[115]⟩ 0 ([] ++ [awB]) 10) := hk8
  have HK68 : Hid (Kv w w8 f S4 l s r ⟨#[115]⟩ 1 ([] ++ [awB]) 6) := HK6.out.below hk8.lg.sys.base
  clear hk8 HO7 HK6
  go_wp2_with fail
  have HT9 : Hid _ := tab_lit1 w8 ⟨#[98]⟩ ⟨#[50]⟩
  have hb9 : Below w8.heap.size w8 ((w8.alloc (.cells #[.string ⟨#[98]⟩] 9)).alloc (.cells #[.string ⟨#[50]⟩] 9)) := ((Below.refl _ w8).alloc (Nat.le_refl _) _).alloc (by simp) _
  generalize World.alloc (World.alloc w8 _) _ = w9 at *
  have HK9 : Hid (Kv w w9 f S4 l s r ⟨#[115]⟩ 1 ([] ++ [awB]) 6) := HK68.out.below hb9
  have HK89 : Hid (Kv w6 w9 g S8 l2 s2 r2 ⟨#[115]⟩ 0 ([] ++ [awB]) 10) := HK8.out.below hb9
  have HSH : Hid _ := kv_shows HK89.out _ _ _ _ HT9.out (fun p hp => by rw [List.mem_singleton] at hp; rw [hp]) (by simp)
  clear hb9 HK8 HK68 HT9
  refine Calls.mono HSH.out ?_
  rw [decide_eq_true awB_hist]
  rintro e w10 ⟨rfl, hb10⟩
  have HK10 : Hid (Kv w w10 f S4 l s r ⟨#[115]⟩ 1 ([] ++ [awB]) 6) := HK9.out.below hb10
  clear hb10 HK9 HK89 HSH
  obtain ⟨A2, hst2, _⟩ := HK10.out.sto
  have HBA : Hid _ := batches_any s r _ 1 w10 hst2.blk
  clear hst2
  go_wp2_with fail
  refine Calls.mono HBA.out ?_
  rintro e w11 ⟨rfl, rfl⟩
  clear HBA
  have HB11 : Hid (Below w.heap.size w w11) := HK10.out.lg.sys.base
  clear HK10
  go_wp2_with fail
  generalize hw12 : World.alloc w11 _ = w12
  have HE12 : Hid (Els w12 (some ⟨w11.heap.size, 0, none⟩) 1 1 [(⟨⟨#[97]⟩, ⟨#[]⟩, false⟩ : Pr)]) := by rw [← hw12]; exact Els.lit1 w11 _ _ _ _
  have HB12 : Hid (Below w.heap.size w w12) := by rw [← hw12]; exact HB11.out.alloc HB11.out.size _
  clear hw12
  refine Calls.mono (put_nil _ 1 1 _ w12 HE12.out (by decide) (by decide)) ?_
  rintro e w13 ⟨rfl, hb13⟩
  have HB13 : Hid (Below w.heap.size w w13) := HB12.out.trans (hb13.mono HB12.out.size)
  clear hb13 HE12 HB12 HB11
  go_wp2_with fail
  refine Calls.mono (put_bad none none 0 0 [] w13 (Els.nil _) (by decide)) ?_
  rw [show kask [] = 1 from rfl]
  rintro e w14 ⟨rfl, hb14⟩
  have HB14 : Hid (Below w.heap.size w w14) := HB13.out.trans (hb14.mono HB13.out.size)
  clear hb14 HB13
  go_wp2_with fail
  refine Calls.mono (kdead_nil w14) ?_
  rintro e w15 ⟨rfl, rfl⟩
  go_wp2_with fail
  refine Calls.mono (compact_nil w15) ?_
  rintro e w16 ⟨rfl, hb16⟩
  have HB16 : Hid (Below w.heap.size w w16) := HB14.out.trans (hb16.mono HB14.out.size)
  clear hb16 HB14
  go_wp2_with fail
  go_ret
  exact ⟨rfl, HB16.out⟩
end Go.Proofs.YtlapnnkahijikaaGreatDoor
