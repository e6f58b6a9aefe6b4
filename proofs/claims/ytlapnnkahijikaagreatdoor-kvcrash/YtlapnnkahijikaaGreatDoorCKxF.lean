/- Law 9: a law's table beside a store. -/
import Derived.Test.YtlapnnkahijikaaGreatDoorCKxE
import Derived.Test.YtlapnnkahijikaaGreatDoorCKvZ
namespace Go.Proofs.YtlapnnkahijikaaGreatDoor
open Go.ChangeShapes Go.WideShapes Go.ChangeAt Go.RowKit Go.Lib

/-- A table in a box, apart from the files and from the blocks of a store. -/
structure TabF (w wi : World) (f : Nat) (S : FS) (ids : List Nat) (X : Nat) (kv vv : Value) (T : List Pr) : Prop where
  box : Blk wi X [kv, vv]
  tab : TabAt wi 0 kv vv T
  free : Free f S ids wi X ∧ w.heap.size ≤ X
  rows : ∀ k, kv.ownBlock = some k ∨ vv.ownBlock = some k → Free f S ids wi k ∧ k ≠ X
section
variable {w wi wj : World} {f : Nat} {S S' : FS} {ids ids' : List Nat} {X : Nat} {kv vv : Value} {T : List Pr}
theorem Blk.stepF {cs : List Value} (h : Blk wi X cs) (hf : Free f S ids wi X) (hg : GrB f ids S S' wi wj) : Blk wj X cs := by
  obtain ⟨t, ht⟩ := h
  exact ⟨t, by rw [hf.same hg]; exact ht⟩
theorem TabF.step (h : TabF w wi f S ids X kv vv T) (hg : GrB f ids S S' wi wj) : TabF w wj f S' ids X kv vv T :=
  ⟨h.box.stepF h.free.1 hg, ⟨h.tab.keys.same fun k e => (h.rows k (.inl e)).1.same hg, h.tab.vals.same fun k e => (h.rows k (.inr e)).1.same hg⟩, ⟨h.free.1.step hg, h.free.2⟩, fun k e => ⟨(h.rows k e).1.step hg, (h.rows k e).2⟩⟩
theorem TabF.below (h : TabF w wi f S ids X kv vv T) (hb : Below wi.heap.size wi wj) : TabF w wj f S ids X kv vv T := h.step (GrB.of_below hb)
theorem Free.reids {k : Nat} (h : Free f S ids wi k) (hi : ∀ j ∈ ids', j ∈ ids ∨ wi.heap.size ≤ j) : Free f S ids' wi k := ⟨h.1, h.2.1, fun e => (hi k e).elim h.2.2 fun e => by have := h.1; omega⟩
theorem TabF.reids (h : TabF w wi f S ids X kv vv T) (hi : ∀ j ∈ ids', j ∈ ids ∨ wi.heap.size ≤ j) : TabF w wi f S ids' X kv vv T :=
  ⟨h.box, h.tab, ⟨h.free.1.reids hi, h.free.2⟩, fun k e => ⟨(h.rows k e).1.reids hi, (h.rows k e).2⟩⟩
/-- What put made is laid into the box. -/
theorem TabF.stored {w2 w3 : World} {kv' vv' : Value} {T' : List Pr} (h : TabF w wi f S ids X kv vv T) (hb : Below wi.heap.size wi w2) (ht : TabAt w2 wi.heap.size kv' vv' T') (hi : ∀ j ∈ ids, j < wi.heap.size) (hf : ∀ j, S.foot f j → j < wi.heap.size)
    (e : (w2.setCell ⟨X, 0, none⟩ kv').setCell ⟨X, 1, none⟩ vv' = w3) : TabF w w3 f S ids X kv' vv' T' ∧ Keep X w2 w3 := by
  subst e
  have hX := h.free.1.1
  have hs := hb.size
  have hk : Keep X w2 ((w2.setCell ⟨X, 0, none⟩ kv').setCell ⟨X, 1, none⟩ vv') := ((Keep.refl X w2).setCell 0 kv').setCell 1 vv'
  have hlt : ∀ k, kv'.ownBlock = some k ∨ vv'.ownBlock = some k → wi.heap.size ≤ k ∧ k < w2.heap.size := fun k e => e.elim (ht.keys.lt k) (ht.vals.lt k)
  have hsame : ∀ k, kv'.ownBlock = some k ∨ vv'.ownBlock = some k → ((w2.setCell ⟨X, 0, none⟩ kv').setCell ⟨X, 1, none⟩ vv').heap[k]? = w2.heap[k]? := fun k e => hk.block k (hlt k e).2 (by have := hlt k e; omega)
  refine ⟨⟨((h.box.below hb hX).set 0 _).set 1 _, ⟨?_, ?_⟩, ⟨⟨Nat.lt_of_lt_of_le hX (Nat.le_trans hs hk.size), h.free.1.2.1, h.free.1.2.2⟩, h.free.2⟩, fun k e => ⟨⟨Nat.lt_of_lt_of_le (hlt k e).2 hk.size, fun e' => ?_, fun e' => ?_⟩, ?_⟩⟩, hk⟩
  · exact (ht.keys.less (Nat.zero_le _)).same fun k e => hsame k (.inl e)
  · exact (ht.vals.less (Nat.zero_le _)).same fun k e => hsame k (.inr e)
  · have := hf k e'; have := hlt k e; omega
  · have := hi k e'; have := hlt k e; omega
  · have := hlt k e; omega
theorem Kv.keep {l s r : Nat} {nm : ByteArray} {m : Int} {H : List (List Pr)} {q : Nat} (h : Kv w wi f S l s r nm m H q) (hk : Keep X wi wj) (hx : Free f S [l, s, r] wi X) (hw : w.heap.size ≤ X) : Kv w wj f S l s r nm m H q := by
  obtain ⟨A, hst, hsh⟩ := h.sto
  have hx1 : X ≠ l ∧ X ≠ s ∧ X ≠ r := by have := hx.2.2; simpa using this
  have hx2 : Free f S [l] wi X := hx.reids fun j hj => .inl (by rw [List.mem_singleton] at hj; rw [hj]; simp)
  refine ⟨⟨h.lg.sys.keepFree hk hx2 hw, h.lg.file, h.lg.good, h.lg.live, h.lg.small⟩, ⟨A, ⟨hst.blk.keep hk hx1.2.1.symm, hst.map.same (hk.block r hst.map.lt hx1.2.2.symm), ⟨⟨Nat.lt_of_lt_of_le hst.ss.1.1 hk.size, hst.ss.1.2⟩, hst.ss.2⟩, ⟨⟨Nat.lt_of_lt_of_le hst.rr.1.1 hk.size, hst.rr.1.2⟩, hst.rr.2⟩⟩, hsh⟩, h.hist⟩
theorem Kv.idsLt {l s r : Nat} {nm : ByteArray} {m : Int} {H : List (List Pr)} {q : Nat} (h : Kv w wi f S l s r nm m H q) : ∀ j ∈ [l, s, r], j < wi.heap.size := by
  obtain ⟨A, hst, _⟩ := h.sto
  intro j hj
  simp only [List.mem_cons, List.not_mem_nil, or_false] at hj
  rcases hj with rfl | rfl | rfl
  · exact h.lg.sys.blk.lt
  · exact hst.blk.lt
  · exact hst.map.lt
theorem Kv.foot {l s r : Nat} {nm : ByteArray} {m : Int} {H : List (List Pr)} {q : Nat} (h : Kv w wi f S l s r nm m H q) : ∀ j, S.foot f j → j < wi.heap.size := fun _ e => h.lg.sys.fs.lt e
/-- A table's first box. -/
theorem Kv.box {l s r : Nat} {nm : ByteArray} {m : Int} {H : List (List Pr)} {q : Nat} (h : Kv w wi f S l s r nm m H q) (T : TypeId) : TabF w (wi.alloc (.cells #[.slice none 0 0, .slice none 0 0] T)) f S [l, s, r] wi.heap.size (.slice none 0 0) (.slice none 0 0) [] := by
  refine ⟨Blk.mk _ _ _ rfl rfl, TabAt.nil _ _, ⟨⟨by simp, fun e => by have := h.foot _ e; omega, fun e => by have := h.idsLt _ e; omega⟩, h.lg.sys.base.size⟩, fun k e => ?_⟩
  rcases e with e | e <;> cases e
/-- The elder store is let go. -/
theorem Kv.shut {l s r : Nat} {nm : ByteArray} {m : Int} {H : List (List Pr)} {q : Nat} (h : Kv w wi f S l s r nm m H q) : Sys w wi f S [] :=
  ⟨h.lg.sys.base, h.lg.sys.fs, h.lg.sys.low, (fun p hp => by cases hp), List.nodup_nil⟩
theorem kv_again (hK : Kw w) {l s r : Nat} {nm : ByteArray} {m : Int} {H : List (List Pr)} {q : Nat} (h : Kv w wi f S l s r nm m H q) (hq : q ≤ 1000000000000) (hn : NameL nm) :
    Calls Tryz.prog 10 #[.pointer (some ⟨f, 0, none⟩), .string nm] wi fun e w' => ∃ s l r, e = .returned (.tuple #[.pointer (some ⟨s, 0, none⟩), .int .i64 0]) ∧ (wi.heap.size ≤ s ∧ wi.heap.size ≤ l ∧ wi.heap.size ≤ r) ∧ ∃ S', Kv w w' f S' l s r nm 0 H (q + 4) ∧ GrB f [] S S' wi w' ∧ ∀ x, x ≠ nm → x ≠ bes nm → alook x S'.abs.L = alook x S.abs.L :=
  kv_open (t := []) hK h.shut h.lg.good h.lg.live hq hn h.hist firstR_nil (by rw [h.lg.file.1, List.append_nil]; rfl) (by simp)
end
theorem may_ask {l : List Pr} (hl : l.length ≤ 10) (hs : ∀ i, i < l.length → SmP (l.getD i default)) : kask l = mayE l ∧ ∀ p ∈ l, SmP p := by
  have hp : ∀ p ∈ l, SmP p := fun p hp => by
    obtain ⟨i, hi, rfl⟩ := List.getElem_of_mem hp
    have := hs i hi
    rwa [List.getD_eq_getElem?_getD, List.getElem?_eq_getElem hi] at this
  refine ⟨?_, hp⟩
  have hb : l.all pBig = true := List.all_eq_true.2 fun p h => by have := (hp p h).2; unfold pBig; rw [decide_eq_true_eq]; omega
  unfold kask mayE
  rw [if_pos (show l.length ≤ 1000 by omega), if_pos hb]
end Go.Proofs.YtlapnnkahijikaaGreatDoor
