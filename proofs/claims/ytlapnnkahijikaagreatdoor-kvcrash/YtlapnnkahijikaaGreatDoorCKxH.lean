/- kv: two stores of one place. -/
import Derived.Test.YtlapnnkahijikaaGreatDoorCKxF
namespace Go.Proofs.YtlapnnkahijikaaGreatDoor
open Go.ChangeShapes Go.WideShapes Go.ChangeAt Go.RowKit Go.Lib

/-- A store that stands still while another one acts. -/
structure Beside (w wi : World) (f : Nat) (S : FS) (ids : List Nat) (l s r : Nat) (nm : ByteArray) (m : Int) (H : List (List Pr)) : Prop where
  log : Blk wi l (lgC f nm (frs (H.map batB)).length false)
  file : LogF S.abs nm (H.map batB)
  sto : ∃ A, Blk wi s (stC (some ⟨l, 0, none⟩) r m) ∧ MapP wi r A ∧ Shows A (thist H)
  free : ∀ j ∈ [l, s, r], Free f S ids wi j ∧ w.heap.size ≤ j
  apart : s ≠ l ∧ r ≠ l
  hist : Hist H
section
variable {w wi wj : World} {f : Nat} {S S' : FS} {ids ids' : List Nat} {l s r l2 s2 r2 : Nat} {nm nm2 : ByteArray} {m m2 : Int} {H H2 : List (List Pr)} {q : Nat}
theorem Beside.step (h : Beside w wi f S ids l s r nm m H) (hg : GrB f ids S S' wi wj) (hf : LogF S'.abs nm (H.map batB)) : Beside w wj f S' ids l s r nm m H := by
  obtain ⟨A, h1, h2, h3⟩ := h.sto
  exact ⟨h.log.stepF (h.free l (by simp)).1 hg, hf, ⟨A, h1.stepF (h.free s (by simp)).1 hg, h2.same ((h.free r (by simp)).1.same hg), h3⟩, fun j hj => ⟨(h.free j hj).1.step hg, (h.free j hj).2⟩, h.apart, h.hist⟩
theorem Beside.below (h : Beside w wi f S ids l s r nm m H) (hb : Below wi.heap.size wi wj) : Beside w wj f S ids l s r nm m H := h.step (GrB.of_below hb) h.file
/-- Its files are untouched where the other one's name is apart. -/
theorem Beside.put (h : Beside w wi f S ids l s r nm m H) (ha : Apart nm2 nm) (hg : GrB f ids S S' wi wj) (hx : ∀ x, x ≠ nm2 → alook x S'.abs.L = alook x S.abs.L) : Beside w wj f S' ids l s r nm m H :=
  h.step hg ⟨by rw [hx _ ha.n1]; exact h.file.1, by rw [hx _ ha.n3]; exact h.file.2⟩
theorem Kv.parts (h : Kv w wi f S l s r nm m H q) : (s ≠ l ∧ r ≠ l) ∧ (¬ S.foot f l ∧ ¬ S.foot f s ∧ ¬ S.foot f r) ∧ (w.heap.size ≤ l ∧ w.heap.size ≤ s ∧ w.heap.size ≤ r) := by
  obtain ⟨A, hst, _⟩ := h.sto
  obtain ⟨h1, h2, _⟩ := h.lg.sys.blks _ (List.mem_cons_self ..)
  have h3 := hst.ss.1.2.2
  have h4 := hst.rr.1.2.2
  rw [List.mem_singleton] at h3 h4
  exact ⟨⟨h3, h4⟩, ⟨h2, hst.ss.1.2.1, hst.rr.1.2.1⟩, h1, hst.ss.2, hst.rr.2⟩
theorem Kv.swap (h : Kv w wi f S l s r nm m H q) (k : Beside w wi f S [l, s, r] l2 s2 r2 nm2 m2 H2) : Kv w wi f S l2 s2 r2 nm2 m2 H2 q ∧ Beside w wi f S [l2, s2, r2] l s r nm m H := by
  obtain ⟨A, hst, hsh⟩ := h.sto
  obtain ⟨A2, g1, g2, g3⟩ := k.sto
  obtain ⟨hp, hf, hw⟩ := h.parts
  have f1 := k.free l2 (by simp)
  have f2 := k.free s2 (by simp)
  have f3 := k.free r2 (by simp)
  have hid := h.idsLt
  refine ⟨⟨⟨⟨h.lg.sys.base, h.lg.sys.fs, h.lg.sys.low, fun p hp => ?_, by simp⟩, k.file, h.lg.good, h.lg.live, k.hist.recs⟩, ⟨A2, ⟨g1, g2, ⟨⟨f2.1.1, f2.1.2.1, by rw [List.mem_singleton]; exact k.apart.1⟩, f2.2⟩, ⟨⟨f3.1.1, f3.1.2.1, by rw [List.mem_singleton]; exact k.apart.2⟩, f3.2⟩⟩, g3⟩, k.hist⟩, ⟨h.lg.sys.blk, h.lg.file, ⟨A, hst.blk, hst.map, hsh⟩, fun j hj => ?_, hp, h.hist⟩⟩
  · rw [List.mem_singleton] at hp
    subst hp
    exact ⟨f1.2, f1.1.2.1, k.log⟩
  · have hn : ∀ z ∈ [l2, s2, r2], z ∉ [l, s, r] := fun z hz => (k.free z hz).1.2.2
    refine ⟨⟨hid j hj, ?_, fun e => hn j e hj⟩, ?_⟩
    · simp only [List.mem_cons, List.not_mem_nil, or_false] at hj
      rcases hj with rfl | rfl | rfl
      · exact hf.1
      · exact hf.2.1
      · exact hf.2.2
    · simp only [List.mem_cons, List.not_mem_nil, or_false] at hj
      rcases hj with rfl | rfl | rfl
      · exact hw.1
      · exact hw.2.1
      · exact hw.2.2
/-- A second store of the place. -/
theorem Kv.second (h : Kv w wi f S l s r nm m H q) (ha : Apart nm2 nm) (hlt : wi.heap.size ≤ s2 ∧ wi.heap.size ≤ l2 ∧ wi.heap.size ≤ r2) (hg : GrB f [] S S' wi wj) (hx : ∀ x, x ≠ nm2 → x ≠ bes nm2 → alook x S'.abs.L = alook x S.abs.L) : Beside w wj f S' [l2, s2, r2] l s r nm m H := by
  obtain ⟨A, hst, hsh⟩ := h.sto
  obtain ⟨hp, hf, hw⟩ := h.parts
  have hid := h.idsLt
  have hfr : ∀ j ∈ [l, s, r], Free f S [] wi j ∧ w.heap.size ≤ j := fun j hj => by
    have := hid j hj
    simp only [List.mem_cons, List.not_mem_nil, or_false] at hj
    rcases hj with rfl | rfl | rfl
    · exact ⟨⟨this, hf.1, List.not_mem_nil⟩, hw.1⟩
    · exact ⟨⟨this, hf.2.1, List.not_mem_nil⟩, hw.2.1⟩
    · exact ⟨⟨this, hf.2.2, List.not_mem_nil⟩, hw.2.2⟩
  have hb : Beside w wi f S [] l s r nm m H := ⟨h.lg.sys.blk, h.lg.file, ⟨A, hst.blk, hst.map, hsh⟩, hfr, hp, h.hist⟩
  have hb2 := hb.step hg ⟨by rw [hx _ ha.n1 ha.n2]; exact h.lg.file.1, by rw [hx _ ha.n3 ha.n4]; exact h.lg.file.2⟩
  refine ⟨hb2.log, hb2.file, hb2.sto, fun j hj => ⟨⟨(hb2.free j hj).1.1, (hb2.free j hj).1.2.1, fun e => ?_⟩, (hb2.free j hj).2⟩, hb2.apart, hb2.hist⟩
  have := hid j hj
  simp only [List.mem_cons, List.not_mem_nil, or_false] at e
  omega
/-- A change of a block that stands apart from both. -/
theorem Beside.keep {X : Nat} (h : Beside w wi f S ids l s r nm m H) (hk : Keep X wi wj) (hx : X ∉ [l, s, r]) : Beside w wj f S ids l s r nm m H := by
  obtain ⟨A, h1, h2, h3⟩ := h.sto
  have hx1 : X ≠ l ∧ X ≠ s ∧ X ≠ r := by simpa using hx
  exact ⟨h.log.keep hk hx1.1.symm, h.file, ⟨A, h1.keep hk hx1.2.1.symm, h2.same (hk.block r h2.lt hx1.2.2.symm), h3⟩, fun j hj => ⟨⟨Nat.lt_of_lt_of_le (h.free j hj).1.1 hk.size, (h.free j hj).1.2⟩, (h.free j hj).2⟩, h.apart, h.hist⟩
theorem TabF.keep {g X : Nat} {kv vv : Value} {T : List Pr} (h : TabF w wi f S ids X kv vv T) (hk : Keep g wi wj) (hx : g ≠ X) (hr : ∀ k, kv.ownBlock = some k ∨ vv.ownBlock = some k → k ≠ g) : TabF w wj f S ids X kv vv T :=
  ⟨h.box.keep hk hx.symm, ⟨h.tab.keys.same fun k e => hk.block k (h.rows k (.inl e)).1.1 (hr k (.inl e)), h.tab.vals.same fun k e => hk.block k (h.rows k (.inr e)).1.1 (hr k (.inr e))⟩, ⟨⟨Nat.lt_of_lt_of_le h.free.1.1 hk.size, h.free.1.2⟩, h.free.2⟩, fun k e => ⟨⟨Nat.lt_of_lt_of_le (h.rows k e).1.1 hk.size, (h.rows k e).1.2⟩, (h.rows k e).2⟩⟩
/-- A row of pairs that a call made, as a block. -/
theorem OwnP.blk {w : World} {N : Nat} {v : Value} {l : List Pr} (h : OwnP w N v l) (hl : l ≠ []) : ∃ g c cs, v = .slice (some ⟨g, 0, none⟩) l.length c ∧ Blk w g cs ∧ 3 * l.length ≤ cs.length ∧ N ≤ g := by
  have hp : 0 < l.length := List.length_pos_iff.2 hl
  rcases h.2 with ⟨_, h0⟩ | ⟨g, c, cur, hv, hg, hgb, h1, h2, h3, _⟩
  · omega
  · refine ⟨g, c, cur.toList, hv, ⟨_, hgb⟩, ?_, hg⟩
    have hk : El.k Pr = 3 := rfl
    rw [hk] at h3
    have : cur.toList.length = cur.size := Array.length_toList
    omega
end
end Go.Proofs.YtlapnnkahijikaaGreatDoor
