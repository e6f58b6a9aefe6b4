/- wal: what stands apart from files and logs (Free); turns at a log with power for all acts. -/
import Derived.Test.YtlapnnkahijikaaGreatDoorZW6
namespace Go.Proofs.YtlapnnkahijikaaGreatDoor
open Go.ChangeShapes Go.WideShapes Go.ChangeAt Go.RowKit Go.Lib

/-- A block that is neither one of the files' nor one of those beside them. -/
def Free (f : Nat) (S : FS) (ids : List Nat) (w : World) (k : Nat) : Prop := k < w.heap.size ∧ ¬ S.foot f k ∧ k ∉ ids
section
variable {f : Nat} {S S' : FS} {ids ids' : List Nat} {w w' : World} {k : Nat}
theorem Free.step (h : Free f S ids w k) (hg : GrB f ids S S' w w') : Free f S' ids w' k :=
  ⟨Nat.lt_of_lt_of_le h.1 hg.size, fun e => (hg.foot k e).elim h.2.1 fun e => by have := h.1; omega, h.2.2⟩
theorem Free.same (h : Free f S ids w k) (hg : GrB f ids S S' w w') : w'.heap[k]? = w.heap[k]? := hg.block k h.1 h.2.1 h.2.2
theorem RowsP.step {v : Value} {rs : List (List (BitVec 8))} (h : RowsP (Free f S ids w) w v rs) (hg : GrB f ids S S' w w') : RowsP (Free f S' ids w') w' v rs := by
  obtain ⟨xs, h1, h2, h3, h4⟩ := h
  exact ⟨xs, h1.same fun k hk => (h3 k hk).same hg, h2.same fun x hx k hk => (h4 x hx k hk).same hg, fun k hk => (h3 k hk).step hg, fun x hx k hk => (h4 x hx k hk).step hg⟩
theorem RowsP.reids {v : Value} {rs : List (List (BitVec 8))} (h : RowsP (Free f S ids w) w v rs) (hi : ∀ k, k < w.heap.size → k ∉ ids → k ∉ ids') : RowsP (Free f S ids' w) w v rs :=
  h.mono fun k hk => ⟨hk.1, hk.2.1, hi k hk.1 hk.2.2⟩
end
theorem RowsP.step2 {f : Nat} {S S' : FS} {ids ids' : List Nat} {w w' : World} {v : Value} {rs : List (List (BitVec 8))} (h : RowsP (Free f S ids w) w v rs) (hg : GrB f ids S S' w w') (hi : ∀ k, k < w.heap.size → k ∉ ids → k ∉ ids') : RowsP (Free f S' ids' w') w' v rs := by
  obtain ⟨xs, h1, h2, h3, h4⟩ := h
  have key : ∀ k, Free f S ids w k → Free f S' ids' w' k := fun k hk => ⟨(hk.step hg).1, (hk.step hg).2.1, hi k hk.1 hk.2.2⟩
  exact ⟨xs, h1.same fun k hk => (h3 k hk).same hg, h2.same fun x hx k hk => (h4 x hx k hk).same hg, fun k hk => key k (h3 k hk), fun x hx k hk => key k (h4 x hx k hk)⟩
/-- What a call of then leaves is free, too. -/
theorem RowsP.fresh {w wi wj : World} {f : Nat} {S : FS} {Bl : List (Nat × List Value)} {v : Value} {rs : List (List (BitVec 8))} (h : Sys w wi f S Bl) (hb : Below wi.heap.size wi wj) (hr : RowsP (fun k => Free f S (Bl.map Prod.fst) wi k ∨ (wi.heap.size ≤ k ∧ k < wj.heap.size)) wj v rs) : RowsP (Free f S (Bl.map Prod.fst) wj) wj v rs :=
  hr.mono fun k hk => by
    rcases hk with hk | ⟨h1, h2⟩
    · exact ⟨Nat.lt_of_lt_of_le hk.1 hb.size, hk.2⟩
    · refine ⟨h2, fun e => by have := h.fs.lt e; omega, fun e => ?_⟩
      obtain ⟨p, hp, e⟩ := List.mem_map.1 e
      have := (h.blks p hp).2.2.lt
      omega
theorem thenR_small {X : List (List (BitVec 8))} {i : Nat} (kind n z : Int) (h1 : X.length ≤ i + 4) (h2 : ∀ r ∈ X, r.length ≤ 399) : (thenR X kind n z).length ≤ i + 1 + 4 ∧ ∀ r ∈ thenR X kind n z, r.length ≤ 399 := by
  unfold thenR
  by_cases hk : kind = 1
  · rw [if_pos hk, List.length_append]
    refine ⟨by simp; omega, fun r hr => ?_⟩
    rcases List.mem_append.1 hr with hr | hr
    · exact h2 r hr
    · rw [List.mem_singleton] at hr; rw [hr]; exact saidB_length _ _
  · rw [if_neg hk]
    by_cases hk2 : kind = 2
    · rw [if_pos hk2]
      have := then2_small n z
      have e : thenR [] 2 n z = (List.range (remF n 4)).map fun (i : Nat) => saidB i (wrap64 (z + (i : Int))) := rfl
      rw [e] at this
      exact ⟨by omega, this.2.2⟩
    · rw [if_neg hk2]; exact ⟨by omega, h2⟩
theorem thenR_two (X : List (List (BitVec 8))) (n z : Int) : thenR X 2 n z = thenR [] 2 n z := rfl
section
variable {w wi : World} {f : Nat} {S : FS} {l : Nat} {nm : ByteArray} {X : List (List (BitVec 8))} {Bl : List (Nat × List Value)} {m : Nat}
end
end Go.Proofs.YtlapnnkahijikaaGreatDoor
