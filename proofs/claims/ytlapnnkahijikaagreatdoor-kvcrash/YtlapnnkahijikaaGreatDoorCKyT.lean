/- Law 9: two tables of a law, each in a box. -/
import Derived.Test.YtlapnnkahijikaaGreatDoorCKxH
namespace Go.Proofs.YtlapnnkahijikaaGreatDoor
open Go.ChangeShapes Go.WideShapes Go.ChangeAt Go.RowKit Go.Lib

section
variable {w wi wj : World} {f : Nat} {S S' : FS} {ids ids' : List Nat} {X Y : Nat} {kv vv ku vu : Value} {T U : List Pr}
/-- Files that a crash made: what stood ahead of it stands apart from them. -/
theorem TabF.crash {g : Nat} {S2 : FS} (h : TabF w wi f S ids X kv vv T) (hs : Sys wi wj g S2 []) : TabF w wj g S2 [] X kv vv T := by
  have hb := hs.base
  have key : ∀ k, Free f S ids wi k → Free g S2 [] wj k := fun k hk => ⟨Nat.lt_of_lt_of_le hk.1 hb.size, fun e => by have := hs.low _ e; have := hk.1; omega, List.not_mem_nil⟩
  exact ⟨h.box.below hb h.free.1.1, h.tab.below hb, ⟨key _ h.free.1, h.free.2⟩, fun k e => ⟨key _ (h.rows k e).1, (h.rows k e).2⟩⟩
/-- Behind an opening: the new store's blocks are new ones. -/
theorem TabF.opened (h : TabF w wi f S [] X kv vv T) (hg : GrB f [] S S' wi wj) (hl : ∀ j ∈ ids', wi.heap.size ≤ j) : TabF w wj f S' ids' X kv vv T := by
  have h2 := h.step hg
  exact ⟨h2.box, h2.tab, ⟨⟨h2.free.1.1, h2.free.1.2.1, fun e => by have := hl _ e; have := h.free.1.1; omega⟩, h2.free.2⟩, fun k e => ⟨⟨(h2.rows k e).1.1, (h2.rows k e).1.2.1, fun e2 => by have := hl _ e2; have := (h.rows k e).1.1; omega⟩, (h2.rows k e).2⟩⟩
structure Tab2 (w wi : World) (f : Nat) (S : FS) (ids : List Nat) (X Y : Nat) (kv vv : Value) (T : List Pr) (ku vu : Value) (U : List Pr) : Prop where
  t : TabF w wi f S ids X kv vv T
  u : TabF w wi f S ids Y ku vu U
  ne : X ≠ Y
  offX : ∀ k, ku.ownBlock = some k ∨ vu.ownBlock = some k → k ≠ X
  offY : ∀ k, kv.ownBlock = some k ∨ vv.ownBlock = some k → k ≠ Y
theorem Tab2.symm (h : Tab2 w wi f S ids X Y kv vv T ku vu U) : Tab2 w wi f S ids Y X ku vu U kv vv T := ⟨h.u, h.t, h.ne.symm, h.offY, h.offX⟩
theorem Tab2.step (h : Tab2 w wi f S ids X Y kv vv T ku vu U) (hg : GrB f ids S S' wi wj) : Tab2 w wj f S' ids X Y kv vv T ku vu U := ⟨h.t.step hg, h.u.step hg, h.ne, h.offX, h.offY⟩
theorem Tab2.below (h : Tab2 w wi f S ids X Y kv vv T ku vu U) (hb : Below wi.heap.size wi wj) : Tab2 w wj f S ids X Y kv vv T ku vu U := h.step (GrB.of_below hb)
theorem Tab2.reids (h : Tab2 w wi f S ids X Y kv vv T ku vu U) (hi : ∀ j ∈ ids', j ∈ ids ∨ wi.heap.size ≤ j) : Tab2 w wi f S ids' X Y kv vv T ku vu U := ⟨h.t.reids hi, h.u.reids hi, h.ne, h.offX, h.offY⟩
theorem Tab2.crash {g : Nat} {S2 : FS} (h : Tab2 w wi f S ids X Y kv vv T ku vu U) (hs : Sys wi wj g S2 []) : Tab2 w wj g S2 [] X Y kv vv T ku vu U := ⟨h.t.crash hs, h.u.crash hs, h.ne, h.offX, h.offY⟩
theorem Tab2.opened (h : Tab2 w wi f S [] X Y kv vv T ku vu U) (hg : GrB f [] S S' wi wj) (hl : ∀ j ∈ ids', wi.heap.size ≤ j) : Tab2 w wj f S' ids' X Y kv vv T ku vu U := ⟨h.t.opened hg hl, h.u.opened hg hl, h.ne, h.offX, h.offY⟩
theorem Tab2.keep {g : Nat} (h : Tab2 w wi f S ids X Y kv vv T ku vu U) (hk : Keep g wi wj) (hx : g ≠ X) (hy : g ≠ Y) (hr : ∀ k, (kv.ownBlock = some k ∨ vv.ownBlock = some k) ∨ (ku.ownBlock = some k ∨ vu.ownBlock = some k) → k ≠ g) : Tab2 w wj f S ids X Y kv vv T ku vu U :=
  ⟨h.t.keep hk hx fun k e => hr k (.inl e), h.u.keep hk hy fun k e => hr k (.inr e), h.ne, h.offX, h.offY⟩
/-- Another table is laid into the first box. -/
theorem Tab2.put {N : Nat} {w2 w3 : World} {kv' vv' : Value} {T' : List Pr} (h : Tab2 w wi f S ids X Y kv vv T ku vu U) (hb : Below wi.heap.size wi w2) (ht : TabAt w2 N kv' vv' T') (hr : ∀ k, kv'.ownBlock = some k ∨ vv'.ownBlock = some k → Free f S ids w2 k ∧ k ≠ X ∧ k ≠ Y)
    (e : (w2.setCell ⟨X, 0, none⟩ kv').setCell ⟨X, 1, none⟩ vv' = w3) : Tab2 w w3 f S ids X Y kv' vv' T' ku vu U ∧ Keep X w2 w3 := by
  subst e
  have h2 := h.below hb
  have hk : Keep X w2 ((w2.setCell ⟨X, 0, none⟩ kv').setCell ⟨X, 1, none⟩ vv') := ((Keep.refl X w2).setCell 0 kv').setCell 1 vv'
  refine ⟨⟨⟨(h2.t.box.set 0 _).set 1 _, ⟨?_, ?_⟩, ⟨⟨Nat.lt_of_lt_of_le h2.t.free.1.1 hk.size, h2.t.free.1.2⟩, h2.t.free.2⟩, fun k e => ⟨⟨Nat.lt_of_lt_of_le (hr k e).1.1 hk.size, (hr k e).1.2⟩, (hr k e).2.1⟩⟩, h2.u.keep hk h2.ne h2.offX, h2.ne, h2.offX, fun k e => (hr k e).2.2⟩, hk⟩
  · exact (ht.keys.less (Nat.zero_le _)).same fun k e => hk.block k (hr k (.inl e)).1.1 (hr k (.inl e)).2.1
  · exact (ht.vals.less (Nat.zero_le _)).same fun k e => hk.block k (hr k (.inr e)).1.1 (hr k (.inr e)).2.1
/-- A table that a call made. -/
theorem Tab2.made {w2 w3 : World} {kv' vv' : Value} {T' : List Pr} (h : Tab2 w wi f S ids X Y kv vv T ku vu U) (hb : Below wi.heap.size wi w2) (ht : TabAt w2 wi.heap.size kv' vv' T') (hi : ∀ j ∈ ids, j < wi.heap.size) (hf : ∀ j, S.foot f j → j < wi.heap.size)
    (e : (w2.setCell ⟨X, 0, none⟩ kv').setCell ⟨X, 1, none⟩ vv' = w3) : Tab2 w w3 f S ids X Y kv' vv' T' ku vu U ∧ Keep X w2 w3 :=
  h.put hb ht (fun k e => by
    have hlt : wi.heap.size ≤ k ∧ k < w2.heap.size := e.elim (ht.keys.lt k) (ht.vals.lt k)
    have hx := h.t.free.1.1
    have hy := h.u.free.1.1
    exact ⟨⟨hlt.2, fun e' => by have := hf k e'; omega, fun e' => by have := hi k e'; omega⟩, by omega, by omega⟩) e
/-- The second box's table is laid into the first one. -/
theorem Tab2.copy {w3 : World} (h : Tab2 w wi f S ids X Y kv vv T ku vu U) (e : (wi.setCell ⟨X, 0, none⟩ ku).setCell ⟨X, 1, none⟩ vu = w3) : Tab2 w w3 f S ids X Y ku vu U ku vu U ∧ Keep X wi w3 :=
  h.put (Below.refl _ _) h.u.tab (fun k e => ⟨(h.u.rows k e).1, h.offX k e, (h.u.rows k e).2⟩) e
/-- A block that was not there stands apart from both boxes. -/
structure Off (w wi : World) (f : Nat) (S : FS) (ids : List Nat) (X Y : Nat) (kv vv ku vu : Value) (g : Nat) : Prop where
  free : Free f S ids wi g
  low : w.heap.size ≤ g
  x : g ≠ X
  y : g ≠ Y
  rows : ∀ k, (kv.ownBlock = some k ∨ vv.ownBlock = some k) ∨ (ku.ownBlock = some k ∨ vu.ownBlock = some k) → k ≠ g
theorem Off.step {g : Nat} (h : Off w wi f S ids X Y kv vv ku vu g) (hg : GrB f ids S S' wi wj) : Off w wj f S' ids X Y kv vv ku vu g := ⟨h.free.step hg, h.low, h.x, h.y, h.rows⟩
theorem Off.keep {g h' : Nat} (h : Off w wi f S ids X Y kv vv ku vu g) (hk : Keep h' wi wj) : Off w wj f S ids X Y kv vv ku vu g := ⟨⟨Nat.lt_of_lt_of_le h.free.1 hk.size, h.free.2⟩, h.low, h.x, h.y, h.rows⟩
theorem Off.symm {g : Nat} (h : Off w wi f S ids X Y kv vv ku vu g) : Off w wi f S ids Y X ku vu kv vv g := ⟨h.free, h.low, h.y, h.x, fun k e => h.rows k e.symm⟩
theorem Off.reids {g : Nat} (h : Off w wi f S ids X Y kv vv ku vu g) (hi : ∀ j ∈ ids', j ∈ ids ∨ wi.heap.size ≤ j) : Off w wi f S ids' X Y kv vv ku vu g := ⟨h.free.reids hi, h.low, h.x, h.y, h.rows⟩
theorem Tab2.fresh {g : Nat} (h : Tab2 w wi f S ids X Y kv vv T ku vu U) (hw : w.heap.size ≤ wi.heap.size) (hi : ∀ j ∈ ids, j < wi.heap.size) (hf : ∀ j, S.foot f j → j < wi.heap.size) (h1 : wi.heap.size ≤ g) (h2 : g < wj.heap.size) : Off w wj f S ids X Y kv vv ku vu g := by
  have hx := h.t.free.1.1
  have hy := h.u.free.1.1
  refine ⟨⟨h2, fun e => by have := hf g e; omega, fun e => by have := hi g e; omega⟩, Nat.le_trans hw h1, by omega, by omega, fun k e => ?_⟩
  have : k < wi.heap.size := e.elim (fun e => (h.t.rows k e).1.1) fun e => (h.u.rows k e).1.1
  omega
end
/-- Two stores and a table for each. -/
structure Duo (w wi : World) (f : Nat) (S : FS) (l s r : Nat) (nm : ByteArray) (m : Int) (H : List (List Pr)) (l2 s2 r2 : Nat) (nm2 : ByteArray) (m2 : Int) (H2 : List (List Pr)) (q X Y : Nat) (kv vv : Value) (T : List Pr) (ku vu : Value) (U : List Pr) : Prop where
  a : Kv w wi f S l s r nm m H q
  b : Beside w wi f S [l, s, r] l2 s2 r2 nm2 m2 H2
  tt : Tab2 w wi f S [l, s, r, l2, s2, r2] X Y kv vv T ku vu U
section
variable {w wi wj : World} {f : Nat} {S S' : FS} {l s r l2 s2 r2 : Nat} {nm nm2 : ByteArray} {m m2 : Int} {H H2 : List (List Pr)} {q X Y : Nat} {kv vv ku vu : Value} {T U : List Pr}
theorem Duo.below (h : Duo w wi f S l s r nm m H l2 s2 r2 nm2 m2 H2 q X Y kv vv T ku vu U) (hb : Below wi.heap.size wi wj) : Duo w wj f S l s r nm m H l2 s2 r2 nm2 m2 H2 q X Y kv vv T ku vu U := ⟨h.a.below hb, h.b.below hb, h.tt.below hb⟩
theorem Duo.swap (h : Duo w wi f S l s r nm m H l2 s2 r2 nm2 m2 H2 q X Y kv vv T ku vu U) : Duo w wi f S l2 s2 r2 nm2 m2 H2 l s r nm m H q Y X ku vu U kv vv T := by
  obtain ⟨h1, h2⟩ := h.a.swap h.b
  exact ⟨h1, h2, (h.tt.reids fun j hj => .inl (by simp only [List.mem_cons, List.not_mem_nil, or_false] at hj ⊢; omega)).symm⟩
theorem Duo.idsLt (h : Duo w wi f S l s r nm m H l2 s2 r2 nm2 m2 H2 q X Y kv vv T ku vu U) : ∀ j ∈ [l, s, r, l2, s2, r2], j < wi.heap.size := fun j hj => by
  have h1 := h.a.idsLt j
  have h2 := fun e => (h.b.free j e).1.1
  simp only [List.mem_cons, List.not_mem_nil, or_false] at hj h1 h2
  rcases hj with e | e | e | e | e | e
  · exact h1 (.inl e)
  · exact h1 (.inr (.inl e))
  · exact h1 (.inr (.inr e))
  · exact h2 (.inl e)
  · exact h2 (.inr (.inl e))
  · exact h2 (.inr (.inr e))
abbrev Duo.Off (_ : Duo w wi f S l s r nm m H l2 s2 r2 nm2 m2 H2 q X Y kv vv T ku vu U) (wj : World) (g : Nat) : Prop := Go.Proofs.YtlapnnkahijikaaGreatDoor.Off w wj f S [l, s, r, l2, s2, r2] X Y kv vv ku vu g
theorem Duo.fresh {g : Nat} (h : Duo w wi f S l s r nm m H l2 s2 r2 nm2 m2 H2 q X Y kv vv T ku vu U) (h1 : wi.heap.size ≤ g) (h2 : g < wj.heap.size) : Go.Proofs.YtlapnnkahijikaaGreatDoor.Off w wj f S [l, s, r, l2, s2, r2] X Y kv vv ku vu g :=
  h.tt.fresh h.a.lg.sys.base.size h.idsLt h.a.foot h1 h2
theorem Duo.keep {g : Nat} (h : Duo w wi f S l s r nm m H l2 s2 r2 nm2 m2 H2 q X Y kv vv T ku vu U) (ho : Go.Proofs.YtlapnnkahijikaaGreatDoor.Off w wi f S [l, s, r, l2, s2, r2] X Y kv vv ku vu g) (hk : Keep g wi wj) : Duo w wj f S l s r nm m H l2 s2 r2 nm2 m2 H2 q X Y kv vv T ku vu U := by
  have hn := ho.free.2.2
  simp only [List.mem_cons, List.not_mem_nil, or_false, not_or] at hn
  refine ⟨h.a.keep hk (ho.free.reids fun j hj => .inl ?_) ho.low, h.b.keep hk ?_, h.tt.keep hk ho.x ho.y ho.rows⟩
  · simp only [List.mem_cons, List.not_mem_nil, or_false] at hj ⊢; omega
  · simp only [List.mem_cons, List.not_mem_nil, or_false, not_or]; omega
/-- A Put into the first one. -/
theorem Duo.step {H' : List (List Pr)} {m' : Int} {q' : Nat} (h : Duo w wi f S l s r nm m H l2 s2 r2 nm2 m2 H2 q X Y kv vv T ku vu U) (ha : Apart nm nm2) (hk : Kv w wj f S' l s r nm m' H' q') (hg : GrB f [l, s, r] S S' wi wj) (hx : ∀ x, x ≠ nm → alook x S'.abs.L = alook x S.abs.L) : Duo w wj f S' l s r nm m' H' l2 s2 r2 nm2 m2 H2 q' X Y kv vv T ku vu U ∧ GrB f [l, s, r, l2, s2, r2] S S' wi wj := by
  have hg6 : GrB f [l, s, r, l2, s2, r2] S S' wi wj := hg.wider fun j hj => by simp only [List.mem_cons, List.not_mem_nil, or_false] at hj ⊢; omega
  exact ⟨⟨hk, h.b.put ha hg hx, h.tt.step hg6⟩, hg6⟩
/-- What put made is laid into the first box. -/
theorem Duo.made {w2 w3 : World} {kv' vv' : Value} {T' : List Pr} (h : Duo w wi f S l s r nm m H l2 s2 r2 nm2 m2 H2 q X Y kv vv T ku vu U) (hb : Below wi.heap.size wi w2) (ht : TabAt w2 wi.heap.size kv' vv' T') (e : (w2.setCell ⟨X, 0, none⟩ kv').setCell ⟨X, 1, none⟩ vv' = w3) : Duo w w3 f S l s r nm m H l2 s2 r2 nm2 m2 H2 q X Y kv' vv' T' ku vu U ∧ Keep X w2 w3 := by
  obtain ⟨h1, h2⟩ := h.tt.made hb ht h.idsLt h.a.foot e
  have hx := (h.tt.below hb).t.free
  have hn := hx.1.2.2
  simp only [List.mem_cons, List.not_mem_nil, or_false, not_or] at hn
  refine ⟨⟨(h.a.below hb).keep h2 (hx.1.reids fun j hj => .inl ?_) hx.2, (h.b.below hb).keep h2 ?_, h1⟩, h2⟩
  · simp only [List.mem_cons, List.not_mem_nil, or_false] at hj ⊢; omega
  · simp only [List.mem_cons, List.not_mem_nil, or_false, not_or]; omega
theorem Off.there {g : Nat} {ids : List Nat} {wk : World} (h : Off w wi f S ids X Y kv vv ku vu g) (hl : g < wk.heap.size) : Off w wk f S ids X Y kv vv ku vu g := ⟨⟨hl, h.free.2⟩, h.low, h.x, h.y, h.rows⟩
/-- A row that a call made: it stands apart from all else, and has so many cells. -/
def RowW (w wi : World) (f : Nat) (S : FS) (ids : List Nat) (X Y : Nat) (kv vv ku vu : Value) (a : Option Addr) (n : Nat) : Prop := n = 0 ∨ ∃ g cs, a = some ⟨g, 0, none⟩ ∧ Off w wi f S ids X Y kv vv ku vu g ∧ Blk wi g cs ∧ 3 * n ≤ cs.length
theorem Blk.some {w : World} {g i : Nat} {cs : List Value} (h : Blk w g cs) (hi : i < cs.length) : ∃ v, w.cell? ⟨g, i, none⟩ = some v := ⟨_, (h.cell i).trans (List.getElem?_eq_getElem hi)⟩
/-- The two boxes that a law begins with. -/
theorem Kv.boxes (h : Kv w wi f S l s r nm m H q) (k : Beside w wi f S [l, s, r] l2 s2 r2 nm2 m2 H2) (T : TypeId) : Duo w ((wi.alloc (.cells #[.slice none 0 0, .slice none 0 0] T)).alloc (.cells #[.slice none 0 0, .slice none 0 0] T)) f S l s r nm m H l2 s2 r2 nm2 m2 H2 q wi.heap.size (wi.heap.size + 1) (.slice none 0 0) (.slice none 0 0) [] (.slice none 0 0) (.slice none 0 0) [] := by
  have hb1 : Below wi.heap.size wi (wi.alloc (.cells #[.slice none 0 0, .slice none 0 0] T)) := (Below.refl _ _).alloc (Nat.le_refl _) _
  have hb2 : Below wi.heap.size wi ((wi.alloc (.cells #[.slice none 0 0, .slice none 0 0] T)).alloc (.cells #[.slice none 0 0, .slice none 0 0] T)) := hb1.alloc (by simp) _
  have hi : ∀ j ∈ [l, s, r, l2, s2, r2], j < wi.heap.size := fun j hj => by
    have h1 := h.idsLt j
    have h2 := fun e => (k.free j e).1.1
    simp only [List.mem_cons, List.not_mem_nil, or_false] at hj h1 h2
    rcases hj with e | e | e | e | e | e
    · exact h1 (.inl e)
    · exact h1 (.inr (.inl e))
    · exact h1 (.inr (.inr e))
    · exact h2 (.inl e)
    · exact h2 (.inr (.inl e))
    · exact h2 (.inr (.inr e))
  have hw := h.lg.sys.base.size
  refine ⟨h.below hb2, k.below hb2, ⟨?_, ?_, by omega, fun k e => (by rcases e with e | e <;> cases e), fun k e => (by rcases e with e | e <;> cases e)⟩⟩
  · refine ⟨(Blk.mk wi _ _ rfl rfl).alloc _, TabAt.nil _ _, ⟨⟨by simp; omega, fun e => by have := h.foot _ e; omega, fun e => by have := hi _ e; omega⟩, hw⟩, fun k e => ?_⟩
    rcases e with e | e <;> cases e
  · refine ⟨Blk.mk _ _ _ (by simp) rfl, TabAt.nil _ _, ⟨⟨by simp, fun e => by have := h.foot _ e; omega, fun e => by have := hi _ e; omega⟩, by omega⟩, fun k e => ?_⟩
    rcases e with e | e <;> cases e
theorem Off.made {g N : Nat} {ids : List Nat} {w3 : World} {kv' vv' : Value} {T' : List Pr} (h : Off w wi f S ids X Y kv vv ku vu g) (ht : TabAt w3 N kv' vv' T') (hg : g < N) {wk : World} (hl : g < wk.heap.size) : Off w wk f S ids X Y kv' vv' ku vu g :=
  ⟨⟨hl, h.free.2⟩, h.low, h.x, h.y, fun k e => e.elim (fun e => by
    have : N ≤ k := e.elim (fun e => (ht.keys.lt k e).1) fun e => (ht.vals.lt k e).1
    omega) fun e => h.rows k (.inr e)⟩
end
end Go.Proofs.YtlapnnkahijikaaGreatDoor
