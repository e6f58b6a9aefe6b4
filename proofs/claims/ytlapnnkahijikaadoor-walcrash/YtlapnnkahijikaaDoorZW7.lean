/- wal: what stands apart from files and logs (Free); turns at a log with power for all acts. -/
import Derived.Test.YtlapnnkahijikaaDoorZW6
namespace Go.Proofs.YtlapnnkahijikaaDoor
open Go.ChangeShapes Go.WideShapes Go.ChangeAt Go.RowKit Go.Lib

/-- A block that is neither one of the files' nor one of those beside them. -/
def Free (f : Nat) (S : FS) (ids : List Nat) (w : World) (k : Nat) : Prop := k < w.heap.size ∧ ¬ S.foot f k ∧ k ∉ ids
section
variable {f : Nat} {S S' : FS} {ids ids' : List Nat} {w w' : World} {k : Nat}
theorem Free.step (h : Free f S ids w k) (hg : GrB f ids S S' w w') : Free f S' ids w' k :=
  ⟨Nat.lt_of_lt_of_le h.1 hg.size, fun e => (hg.foot k e).elim h.2.1 fun e => by have := h.1; omega, h.2.2⟩
theorem Free.same (h : Free f S ids w k) (hg : GrB f ids S S' w w') : w'.heap[k]? = w.heap[k]? := hg.block k h.1 h.2.1 h.2.2
theorem RowsP.step {v : Value} {rs : List (List (BitVec 8))} (h : RowsP (Free f S ids w) w v rs) (hg : GrB f ids S S' w w') : RowsP (Free f S' ids w') w' v rs := by
  obtain ⟨xs, h1, h2, h3, h4⟩ := h
  exact ⟨xs, h1.same fun k hk => (h3 k hk).same hg, h2.same fun x hx k hk => (h4 x hx k hk).same hg, fun k hk => (h3 k hk).step hg, fun x hx k hk => (h4 x hx k hk).step hg⟩
theorem RowsP.reids {v : Value} {rs : List (List (BitVec 8))} (h : RowsP (Free f S ids w) w v rs) (hi : ∀ k, k < w.heap.size → k ∉ ids → k ∉ ids') : RowsP (Free f S ids' w) w v rs :=
  h.mono fun k hk => ⟨hk.1, hk.2.1, hi k hk.1 hk.2.2⟩
end
theorem RowsP.step2 {f : Nat} {S S' : FS} {ids ids' : List Nat} {w w' : World} {v : Value} {rs : List (List (BitVec 8))} (h : RowsP (Free f S ids w) w v rs) (hg : GrB f ids S S' w w') (hi : ∀ k, k < w.heap.size → k ∉ ids → k ∉ ids') : RowsP (Free f S' ids' w') w' v rs := by
  obtain ⟨xs, h1, h2, h3, h4⟩ := h
  have key : ∀ k, Free f S ids w k → Free f S' ids' w' k := fun k hk => ⟨(hk.step hg).1, (hk.step hg).2.1, hi k hk.1 hk.2.2⟩
  exact ⟨xs, h1.same fun k hk => (h3 k hk).same hg, h2.same fun x hx k hk => (h4 x hx k hk).same hg, fun k hk => key k (h3 k hk), fun x hx k hk => key k (h4 x hx k hk)⟩
/-- What a call of then leaves is free, too. -/
theorem RowsP.fresh {w wi wj : World} {f : Nat} {S : FS} {Bl : List (Nat × List Value)} {v : Value} {rs : List (List (BitVec 8))} (h : Sys w wi f S Bl) (hb : Below wi.heap.size wi wj) (hr : RowsP (fun k => Free f S (Bl.map Prod.fst) wi k ∨ (wi.heap.size ≤ k ∧ k < wj.heap.size)) wj v rs) : RowsP (Free f S (Bl.map Prod.fst) wj) wj v rs :=
  hr.mono fun k hk => by
    rcases hk with hk | ⟨h1, h2⟩
    · exact ⟨Nat.lt_of_lt_of_le hk.1 hb.size, hk.2⟩
    · refine ⟨h2, fun e => by have := h.fs.lt e; omega, fun e => ?_⟩
      obtain ⟨p, hp, e⟩ := List.mem_map.1 e
      have := (h.blks p hp).2.2.lt
      omega
theorem thenR_small {X : List (List (BitVec 8))} {i : Nat} (kind n z : Int) (h1 : X.length ≤ i + 4) (h2 : ∀ r ∈ X, r.length ≤ 399) : (thenR X kind n z).length ≤ i + 1 + 4 ∧ ∀ r ∈ thenR X kind n z, r.length ≤ 399 := by
  unfold thenR
  by_cases hk : kind = 1
  · rw [if_pos hk, List.length_append]
    refine ⟨by simp; omega, fun r hr => ?_⟩
    rcases List.mem_append.1 hr with hr | hr
    · exact h2 r hr
    · rw [List.mem_singleton] at hr; rw [hr]; exact saidB_length _ _
  · rw [if_neg hk]
    by_cases hk2 : kind = 2
    · rw [if_pos hk2]
      have := then2_small n z
      have e : thenR [] 2 n z = (List.range (remF n 4)).map fun (i : Nat) => saidB i (wrap64 (z + (i : Int))) := rfl
      rw [e] at this
      exact ⟨by omega, this.2.2⟩
    · rw [if_neg hk2]; exact ⟨by omega, h2⟩
theorem thenR_two (X : List (List (BitVec 8))) (n z : Int) : thenR X 2 n z = thenR [] 2 n z := rfl
section
variable {w wi : World} {f : Nat} {S : FS} {l : Nat} {nm : ByteArray} {X : List (List (BitVec 8))} {Bl : List (Nat × List Value)} {m : Nat}
theorem lg_now (hK : Kw w) (h : Lg w wi f S l nm X Bl m) (hm : m ≤ 1000000) (hn : NameL nm) (hXl : X.length ≤ 1000) (hX : ∀ r ∈ X, r.length ≤ 399) (kind n z : Int) :
    Calls Tryd.prog 9 #[.pointer (some ⟨l, 0, none⟩), turnV kind n z] wi fun e w' => e = .returned (.int .i64 0) ∧ LgStep w wi f S l nm (((l, lgC f nm (frs X).length false) :: Bl).map Prod.fst) (thenR X kind n z) Bl (m + 3) w' := by
  have hfX : (frs X).length ≤ 440 * 1000 := by
    have h1 := frs_bound hX
    have h2 : (399 + 41) * X.length ≤ 440 * 1000 := Nat.mul_le_mul_left _ hXl
    omega
  refine (now_any hK l nm (frs X).length false h.sys h.good.ok (by omega) hn.hi (by omega) kind n z).mono ?_
  rintro _ w' ⟨rfl, S', hS', hs, hg⟩
  by_cases h1 : kind = 1
  · subst h1
    have hsl := saidB_length n z
    have hfb := frB_le (saidB n z)
    have e1 : nowE S.abs false nm 1 n z = apE S.abs false nm (saidB n z) := rfl
    have e2 : nowA S.abs false nm 1 n z = apA S.abs false nm (saidB n z) := rfl
    have e3 : nowZ S.abs (frs X).length false nm 1 n z = apZ S.abs (frs X).length false nm (saidB n z) := rfl
    have e4 : nowD S.abs false nm 1 n z = apD S.abs false nm (saidB n z) := rfl
    have e5 : thenR X 1 n z = X ++ [saidB n z] := rfl
    rw [e2] at hS'
    rw [e3, e4] at hs
    rw [e1, e5]
    obtain ⟨g1, g2, g3, g4⟩ := apnd_out h.good hn.ok.1 h.file (r := saidB n z) (by omega) (by omega)
    rcases g4 with ⟨e, d, zz, lf⟩ | ⟨_, _, nl, _⟩
    · refine ⟨by rw [e], S', ⟨?_, ?_, ?_, ?_, ?_⟩, hg, fun x hx _ => by rw [hS']; exact g3 x hx⟩
      · rw [d, zz] at hs
        rw [frs_append, frs_one, List.length_append]; exact hs
      · rw [hS']; exact lf
      · rw [hS']; exact g1.mono (by omega)
      · rw [hS']; exact g2 h.live
      · intro x hx
        rcases List.mem_append.1 hx with hx | hx
        · exact h.small x hx
        · rw [List.mem_singleton] at hx; rw [hx]; omega
    · exact absurd h.live nl
  · by_cases h2 : kind = 2
    · subst h2
      have hsm := then2_small n z
      have e1 : nowE S.abs false nm 2 n z = rsE S.abs false nm (thenR [] 2 n z) := rfl
      have e2 : nowA S.abs false nm 2 n z = rsA S.abs false nm (thenR [] 2 n z) := rfl
      have e3 : nowZ S.abs (frs X).length false nm 2 n z = rsZ S.abs (frs X).length false nm (thenR [] 2 n z) := rfl
      have e4 : nowD S.abs false nm 2 n z = rsD S.abs false nm (thenR [] 2 n z) := rfl
      rw [e2] at hS'
      rw [e3, e4] at hs
      rw [e1, thenR_two]
      have hr : ∀ r ∈ thenR [] 2 n z, r.length ≤ 1048576 := fun r hr => by have := hsm.2.2 r hr; omega
      obtain ⟨g1, g2, g3, g4⟩ := rset_out h.good hn.ok.1 hn.ok.2 h.file hr (by omega)
      rcases g4 with ⟨e, d, zz, lf⟩ | ⟨_, _, nl, _⟩
      · refine ⟨by rw [e], S', ⟨?_, ?_, ?_, ?_, hr⟩, hg, fun x hx hx2 => by rw [hS']; exact g3 x hx hx2⟩
        · rw [d, zz] at hs; exact hs
        · rw [hS']; exact lf
        · rw [hS']; exact g1
        · rw [hS']; exact g2 h.live
      · exact absurd h.live nl
    · have e1 : nowE S.abs false nm kind n z = 0 := by unfold nowE; rw [if_neg h1, if_neg h2]
      have e2 : nowA S.abs false nm kind n z = S.abs := by unfold nowA; rw [if_neg h1, if_neg h2]
      have e3 : nowZ S.abs (frs X).length false nm kind n z = (frs X).length := by unfold nowZ; rw [if_neg h1, if_neg h2]
      have e4 : nowD S.abs false nm kind n z = false := by unfold nowD; rw [if_neg h1, if_neg h2]
      have e5 : thenR X kind n z = X := by unfold thenR; rw [if_neg h1, if_neg h2]
      rw [e2] at hS'
      rw [e3, e4] at hs
      rw [e1, e5]
      exact ⟨rfl, S', ⟨hs, by rw [hS']; exact h.file, by rw [hS']; exact h.good.mono (by omega), by rw [hS']; exact h.live, h.small⟩, hg, fun x _ _ => by rw [hS']⟩
end
end Go.Proofs.YtlapnnkahijikaaDoor
