/- wal: first. Rows of slices of bytes of the call's own; wal: whole. Files of the call's own, and blocks beside them (Sys); each act of file, with what it leaves as it was (Step). -/
import Derived.Test.YtlapnnkahijikaaZW1
import Derived.Deep.RegionHeld3
import Derived.Test.YtlapnnkahijikaaZF6
namespace Go.Proofs.Ytlapnnkahijikaa
open Go.ChangeShapes Go.WideShapes Go.ChangeAt Go.RowKit Go.Lib

/-- The first record, and how many bytes it takes: none, and 0, if it is torn. -/
def firstV (bs : List (BitVec 8)) : List (BitVec 8) := match firstR bs with | none => [] | some (r, _) => r
def firstS (bs : List (BitVec 8)) : Nat := match firstR bs with | none => 0 | some (_, s) => s
theorem firstR_no {bs : List (BitVec 8)} (h : ¬ ((getB bs).2.2 = 0 ∧ (getB bs).1 ≤ 1048576 ∧ (getB bs).2.1 + 32 + (getB bs).1 ≤ bs.length ∧ sum (bs.take (getB bs).2.1.toNat ++ (bs.drop ((getB bs).2.1.toNat + 32)).take (getB bs).1.toNat) = (bs.drop (getB bs).2.1.toNat).take 32)) : firstV bs = [] ∧ firstS bs = 0 := by
  have : firstR bs = none := by unfold firstR; rw [if_neg h]
  unfold firstV firstS
  rw [this]; exact ⟨rfl, rfl⟩
theorem firstR_yes {bs : List (BitVec 8)} {n u : Nat} (hn : (getB bs).1 = n) (hu : (getB bs).2.1 = u) (he : (getB bs).2.2 = 0) (h1 : n ≤ 1048576) (h2 : u + 32 + n ≤ bs.length) (h3 : sum (bs.take u ++ (bs.drop (u + 32)).take n) = (bs.drop u).take 32) : firstV bs = (bs.drop (u + 32)).take n ∧ firstS bs = u + 32 + n := by
  have : firstR bs = some ((bs.drop (u + 32)).take n, u + 32 + n) := by
    unfold firstR
    rw [hn, hu, Int.toNat_natCast, Int.toNat_natCast, if_pos ⟨he, by omega, by omega, h3⟩]
  unfold firstV firstS
  rw [this]; exact ⟨rfl, rfl⟩
theorem Bytes.getAt {w : World} {a : Option Addr} {cap : Nat} {bs : List (BitVec 8)} (h : Bytes w a cap bs) : BytesAt w a cap (bs.map Y) :=
  ⟨by rw [List.length_map]; exact h.room, h.most, isBytes_Y bs, fun hne => by
    obtain ⟨b, o, ha, hc⟩ := h.lie (fun e => hne (by rw [e]; rfl))
    refine ⟨b, o, ha, fun i hi => ?_⟩
    rw [List.length_map] at hi
    rw [hc i hi, List.getD_eq_getElem?_getD, List.getD_eq_getElem?_getD, List.getElem?_map, List.getElem?_eq_getElem hi]; rfl⟩
theorem hash_cells {w : World} {b : Nat} {s : List (BitVec 8)} (h : Blk w b (u8s s)) : w.rangeAt b 0 (u8s s) := fun i v hv => by
  rw [Nat.zero_add]; exact h.one hv
theorem wrap_small {x : Int} (h0 : 0 ≤ x) (h1 : x ≤ 1000000000) : IntKind.i64.wrap x = x := wraps_i64 x h0 (by omega)
theorem splice_hash (s : List (BitVec 8)) (hs : s.length = 32) : splice (u8s zeros32) 0 (u8s s) = u8s s := by
  unfold splice
  rw [List.take_zero, List.nil_append, Nat.zero_add, List.drop_of_length_le (by rw [u8s_length, u8s_length, hs]; simp [zeros32]), List.append_nil]
end Go.Proofs.Ytlapnnkahijikaa
namespace Go.Proofs.Ytlapnnkahijikaa
open Go.ChangeShapes Go.WideShapes Go.ChangeAt Go.RowKit Go.Lib

theorem Try.infoX : (Try.prog.info? 40).map (fun i => (i.zero, i.size, i.bytes)) = some (some (.slice none 0 0), 1, 24) := by kernel_rfl
/-- A row of slices of the call's own, from block B on. -/
def OwnX (w : World) (B : Nat) (v : Value) (xs : List Value) : Prop := w.ownsRow B 40 1 v xs.length xs
/-- Slices that v leads to. -/
def SrcX (w : World) (v : Value) (xs : List Value) : Prop := (v = .slice none 0 0 ∧ xs = []) ∨ ∃ b o cap, v = .slice (some ⟨b, o, none⟩) xs.length cap ∧ xs.length ≤ cap ∧ cap ≤ maxLen ∧ ∀ j x, xs[j]? = some x → w.cell? ⟨b, o + j, none⟩ = some x
/-- Each leads to its bytes. -/
def All2 (w : World) (xs : List Value) (rs : List (List (BitVec 8))) : Prop := xs.length = rs.length ∧ ∀ i x, xs[i]? = some x → Bs w x (rs.getD i [])
section
variable {w w' : World} {B : Nat} {v x : Value} {xs r : List Value} {rs : List (List (BitVec 8))}
theorem OwnX.nil (w : World) (B : Nat) : OwnX w B (.slice none 0 0) [] := World.ownsRow_nil w B _ _
theorem OwnX.lt (h : OwnX w B v xs) : ∀ k, v.ownBlock = some k → B ≤ k ∧ k < w.heap.size := World.ownsRow.lt h
theorem OwnX.same (h : OwnX w B v xs) (hb : ∀ k, v.ownBlock = some k → w'.heap[k]? = w.heap[k]?) : OwnX w' B v xs := by
  refine ⟨h.1, ?_⟩
  rcases h.2 with hn | ⟨g, cap, cur, hv, hg, hh, rest⟩
  · exact .inl hn
  · exact .inr ⟨g, cap, cur, hv, hg, by rw [hb g (by rw [hv]; rfl)]; exact hh, rest⟩
theorem OwnX.below (h : OwnX w B v xs) (hb : Below w.heap.size w w') : OwnX w' B v xs := h.same fun k hk => hb.block k (h.lt k hk).2
theorem OwnX.less {M : Nat} (h : OwnX w B v xs) (hM : M ≤ B) : OwnX w M v xs := by
  refine ⟨h.1, ?_⟩
  rcases h.2 with hn | ⟨g, cap, cur, hv, hg, rest⟩
  · exact .inl hn
  · exact .inr ⟨g, cap, cur, hv, Nat.le_trans hM hg, rest⟩
theorem OwnX.src (h : OwnX w B v xs) : SrcX w v xs := by
  have h0 := h
  rcases h.2 with ⟨hv, hn⟩ | ⟨g, cap, cur, hv, _, hg, hl, hm, _⟩
  · exact .inl ⟨hv, List.eq_nil_of_length_eq_zero hn⟩
  · refine .inr ⟨g, 0, cap, hv, hl, hm, fun j u hu => ?_⟩
    have := World.ownsRow.cells h0 (g := g) (by rw [hv]; rfl) j u hu
    rwa [Addr.add_mid] at this
theorem OwnX.shape (h : OwnX w B v xs) : ∃ a cap, v = .slice a xs.length cap := by
  rcases h.src with ⟨rfl, rfl⟩ | ⟨b, o, cap, rfl, _⟩
  · exact ⟨_, _, rfl⟩
  · exact ⟨_, _, rfl⟩
theorem SrcX.shape (h : SrcX w v xs) : ∃ a cap, v = .slice a xs.length cap := by
  rcases h with ⟨rfl, rfl⟩ | ⟨b, o, cap, rfl, _⟩
  · exact ⟨_, _, rfl⟩
  · exact ⟨_, _, rfl⟩
theorem SrcX.same (h : SrcX w v xs) (hb : ∀ k, v.ownBlock = some k → w'.heap[k]? = w.heap[k]?) : SrcX w' v xs := by
  rcases h with h | ⟨b, o, cap, rfl, hl, hm, hc⟩
  · exact .inl h
  · refine .inr ⟨b, o, cap, rfl, hl, hm, fun j u hu => ?_⟩
    have := hc j u hu
    unfold World.cell? at *
    rw [hb b rfl]; exact this
theorem SrcX.below (h : SrcX w v xs) (hb : Below w.heap.size w w') : SrcX w' v xs := by
  rcases h with h | ⟨b, o, cap, hv, hl, hm, hc⟩
  · exact .inl h
  · exact .inr ⟨b, o, cap, hv, hl, hm, fun j u hu => cell_below hb (hc j u hu)⟩
theorem All2.nil (w : World) : All2 w [] [] := ⟨rfl, fun i x h => by simp at h⟩
theorem All2.below (h : All2 w xs rs) (hb : Below w.heap.size w w') : All2 w' xs rs := ⟨h.1, fun i x hx => (h.2 i x hx).below hb⟩
theorem All2.one {bs : List (BitVec 8)} (h : Bs w x bs) : All2 w [x] [bs] := ⟨rfl, fun i y hy => by
  cases i with
  | zero => injection hy with hy; subst hy; exact h
  | succ i => simp at hy⟩
theorem All2.append {ys : List Value} {qs : List (List (BitVec 8))} (h : All2 w xs rs) (k : All2 w ys qs) : All2 w (xs ++ ys) (rs ++ qs) := by
  refine ⟨by rw [List.length_append, List.length_append, h.1, k.1], fun i x hx => ?_⟩
  by_cases hi : i < xs.length
  · rw [List.getElem?_append_left hi] at hx
    rw [List.getD_eq_getElem?_getD, List.getElem?_append_left (by rw [← h.1]; exact hi), ← List.getD_eq_getElem?_getD]
    exact h.2 i x hx
  · rw [List.getElem?_append_right (by omega)] at hx
    rw [List.getD_eq_getElem?_getD, List.getElem?_append_right (by rw [← h.1]; omega), ← List.getD_eq_getElem?_getD, ← h.1]
    exact k.2 _ x hx
theorem All2.cells (h : All2 w xs rs) : ∀ u ∈ xs, u.oneCell' = true := fun u hu => by
  obtain ⟨i, hi, rfl⟩ := List.getElem_of_mem hu
  obtain ⟨a, cap, hv, _⟩ := h.2 i _ (List.getElem?_eq_getElem hi)
  rw [hv]; rfl
end
section
variable {ops : Array Oper} {o : Oper} {ac : Act} {w : World} {Q : Exit → Act → World → Prop}
end
theorem firstR_parts {bs : List (BitVec 8)} (h : firstS bs ≠ 0) : firstR bs = some (firstV bs, firstS bs) := by
  unfold firstS firstV at *
  cases hf : firstR bs with
  | none => rw [hf] at h; exact absurd rfl h
  | some p => obtain ⟨r, s⟩ := p; rfl
theorem firstR_zero {bs : List (BitVec 8)} (h : firstS bs = 0) : firstR bs = none := by
  unfold firstS at h
  cases hf : firstR bs with
  | none => rfl
  | some p =>
    obtain ⟨r, s⟩ := p
    rw [hf] at h
    have h2 := firstR_size hf
    simp only at h
    omega
theorem wholeR_done {bs : List (BitVec 8)} {R : List (List (BitVec 8))} {k : Nat} (h : wholeR bs = (R ++ (wholeR (bs.drop k)).1, k + (wholeR (bs.drop k)).2)) (hf : firstR (bs.drop k) = none) : wholeR bs = (R, k) := by
  rw [h, wholeR_none hf, List.append_nil, Nat.add_zero]
theorem wholeR_more {bs r : List (BitVec 8)} {R : List (List (BitVec 8))} {k s : Nat} (h : wholeR bs = (R ++ (wholeR (bs.drop k)).1, k + (wholeR (bs.drop k)).2)) (hf : firstR (bs.drop k) = some (r, s)) : wholeR bs = (R ++ [r] ++ (wholeR (bs.drop (k + s))).1, k + s + (wholeR (bs.drop (k + s))).2) := by
  rw [h, wholeR_some hf, List.drop_drop]
  simp only [List.append_assoc, List.cons_append, List.nil_append, Nat.add_assoc]
end Go.Proofs.Ytlapnnkahijikaa
namespace Go.Proofs.Ytlapnnkahijikaa
open Go.ChangeShapes Go.WideShapes Go.ChangeAt Go.RowKit Go.Lib

structure Sys (w wi : World) (f : Nat) (S : FS) (Bl : List (Nat × List Value)) : Prop where
  base : Below w.heap.size w wi
  fs : FsAt wi f S
  low : ∀ k, S.foot f k → w.heap.size ≤ k
  blks : ∀ p ∈ Bl, w.heap.size ≤ p.1 ∧ ¬ S.foot f p.1 ∧ Blk wi p.1 p.2
  nodup : (Bl.map Prod.fst).Nodup
structure GrB (f : Nat) (ids : List Nat) (S S' : FS) (w w' : World) : Prop where
  size : w.heap.size ≤ w'.heap.size
  block : ∀ k, k < w.heap.size → ¬ S.foot f k → k ∉ ids → w'.heap[k]? = w.heap[k]?
  foot : ∀ k, S'.foot f k → S.foot f k ∨ w.heap.size ≤ k
section
variable {w wi wj wk : World} {f : Nat} {S S' S'' : FS} {Bl Bl' Bl'' : List (Nat × List Value)} {ids : List Nat}
theorem GrB.refl (f : Nat) (ids : List Nat) (S : FS) (w : World) : GrB f ids S S w w := ⟨Nat.le_refl _, fun _ _ _ _ => rfl, fun _ h => .inl h⟩
theorem GrB.trans (h : GrB f ids S S' w wi) (k : GrB f ids S' S'' wi wj) : GrB f ids S S'' w wj :=
  ⟨Nat.le_trans h.size k.size, fun i hi hf hn => (k.block i (Nat.lt_of_lt_of_le hi h.size) (fun e => (h.foot i e).elim hf fun e => by omega) hn).trans (h.block i hi hf hn),
    fun i e => (k.foot i e).elim (fun e => h.foot i e) fun e => .inr (Nat.le_trans h.size e)⟩
theorem GrB.of_below (h : Below w.heap.size w wi) : GrB f ids S S w wi := ⟨h.size, fun k hk _ _ => h.block k hk, fun _ h => .inl h⟩
theorem GrB.of_grown (h : Grown f S S' w wi) : GrB f ids S S' w wi := ⟨h.size, fun k hk hf _ => h.block k hk hf, h.foot⟩
theorem Sys.below (h : Sys w wi f S Bl) (hb : Below wi.heap.size wi wj) : Sys w wj f S Bl :=
  ⟨h.base.trans (hb.mono h.base.size), h.fs.below hb, h.low, fun p hp => ⟨(h.blks p hp).1, (h.blks p hp).2.1, (h.blks p hp).2.2.below hb (h.blks p hp).2.2.lt⟩, h.nodup⟩
theorem Sys.drew (h : Sys w wi f S Bl) : Sys w wi.drew f S Bl := h.below (Below.refl _ _).drew
theorem Sys.grown (h : Sys w wi f S Bl) (hb : Below wi.heap.size wi wj) (hf : FsAt wk f S') (hg : Grown f S S' wj wk) : Sys w wk f S' Bl := by
  have hbj : Below w.heap.size w wj := h.base.trans (hb.mono h.base.size)
  refine ⟨hbj.trans (hg.below hbj.size h.low), hf, fun k hk => (hg.foot k hk).elim (h.low k) fun e => Nat.le_trans hbj.size e, fun p hp => ?_, h.nodup⟩
  obtain ⟨h1, h2, h3⟩ := h.blks p hp
  have hl := h3.lt
  have hs := hb.size
  refine ⟨h1, fun e => (hg.foot _ e).elim h2 fun e => by omega, ?_⟩
  obtain ⟨t, ht⟩ := h3.below hb hl
  exact ⟨t, by rw [hg.block p.1 (by omega) h2]; exact ht⟩
/-- A store into the first of the blocks. -/
theorem Sys.keep {b : Nat} {cs cs' : List Value} (h : Sys w wi f S ((b, cs) :: Bl)) (hk : Keep b wi wj) (hb : Blk wj b cs') : Sys w wj f S ((b, cs') :: Bl) ∧ GrB f (((b, cs) :: Bl).map Prod.fst) S S wi wj := by
  obtain ⟨h1, h2, h3⟩ := h.blks _ (List.mem_cons_self ..)
  have hn := h.nodup
  rw [List.map_cons, List.nodup_cons] at hn
  refine ⟨⟨?_, ?_, h.low, fun p hp => ?_, h.nodup⟩, ⟨hk.size, fun k hl _ hn => hk.block k hl fun e => hn (by rw [e]; exact List.mem_cons_self ..), fun _ h => .inl h⟩⟩
  · exact h.base.trans (hk.below h1 h.base.size)
  · exact h.fs.same fun k hf => hk.block k (h.fs.lt hf) fun e => h2 (by rw [← e]; exact hf)
  · rcases List.mem_cons.1 hp with rfl | hp
    · exact ⟨h1, h2, hb⟩
    · obtain ⟨g1, g2, g3⟩ := h.blks p (List.mem_cons_of_mem _ hp)
      exact ⟨g1, g2, g3.keep hk fun e => hn.1 (by rw [← e]; exact List.mem_map.2 ⟨p, hp, rfl⟩)⟩
/-- A block more. -/
theorem Sys.more {b : Nat} {cs : List Value} (h : Sys w wi f S Bl) (hb : Below wi.heap.size wi wj) (hl : wi.heap.size ≤ b) (hk : Blk wj b cs) : Sys w wj f S ((b, cs) :: Bl) := by
  have h0 := h.below hb
  refine ⟨h0.base, h0.fs, h0.low, fun p hp => ?_, ?_⟩
  · rcases List.mem_cons.1 hp with rfl | hp
    · exact ⟨Nat.le_trans h.base.size hl, fun e => by have := h.fs.lt e; simp only at this; omega, hk⟩
    · exact h0.blks p hp
  · rw [List.map_cons, List.nodup_cons]
    refine ⟨fun e => ?_, h.nodup⟩
    obtain ⟨p, hp, e⟩ := List.mem_map.1 e
    have := (h.blks p hp).2.2.lt
    omega
theorem Sys.less {p : Nat × List Value} (h : Sys w wi f S (p :: Bl)) : Sys w wi f S Bl :=
  ⟨h.base, h.fs, h.low, fun q hq => h.blks q (List.mem_cons_of_mem _ hq), by have := h.nodup; rw [List.map_cons, List.nodup_cons] at this; exact this.2⟩
theorem Sys.swap {p q : Nat × List Value} (h : Sys w wi f S (p :: q :: Bl)) : Sys w wi f S (q :: p :: Bl) := by
  refine ⟨h.base, h.fs, h.low, fun r hr => h.blks r ?_, ?_⟩
  · simp only [List.mem_cons] at hr ⊢
    rcases hr with h | h | h
    · exact .inr (.inl h)
    · exact .inl h
    · exact .inr (.inr h)
  · have := h.nodup
    simp only [List.map_cons, List.nodup_cons, List.mem_cons, not_or] at this ⊢
    exact ⟨⟨fun e => this.1.1 e.symm, this.2.1⟩, this.1.2, this.2.2⟩
theorem Sys.blk {b : Nat} {cs : List Value} (h : Sys w wi f S ((b, cs) :: Bl)) : Blk wi b cs := (h.blks _ (List.mem_cons_self ..)).2.2
end
/-- What an act leaves. -/
def Step (w wi : World) (f : Nat) (S : FS) (ids : List Nat) (A' : Abs) (Bl' : List (Nat × List Value)) (w' : World) : Prop := ∃ S', S'.abs = A' ∧ Sys w w' f S' Bl' ∧ GrB f ids S S' wi w'
/-- So many acts at most, and a count that is a number. -/
structure Abs.OK (A : Abs) (m : Nat) : Prop where
  ops0 : 0 ≤ A.ops
  ops1 : A.ops ≤ m
  left0 : -9223372036854775808 ≤ A.left
  left1 : A.left ≤ 9223372036854775807
theorem Abs.OK.sane {S : FS} {m : Nat} (h : S.abs.OK m) (hm : m ≤ 4611686018427387904) : S.Sane := FS.sane_of rfl h.ops0 (by have := h.ops1; omega) h.left0 h.left1
theorem Abs.OK.pow {A : Abs} {m : Nat} (h : A.OK m) (L : List (ByteArray × Fl)) : Abs.OK { A.pow with L := L } (m + 1) := by
  obtain ⟨h0, h1, h2, h3⟩ := h
  unfold Abs.pow
  by_cases hc : A.counted = false
  · rw [if_pos hc]; exact ⟨by simp only; omega, by simp only; omega, h2, h3⟩
  · rw [if_neg hc]
    by_cases hl : 0 < A.left
    · rw [if_pos hl]; exact ⟨by simp only; omega, by simp only; omega, by simp only; omega, by simp only; omega⟩
    · rw [if_neg hl]; exact ⟨by simp only; omega, by simp only; omega, h2, h3⟩
theorem Abs.OK.pow' {A : Abs} {m : Nat} (h : A.OK m) : Abs.OK A.pow (m + 1) := h.pow A.pow.L
section
variable {A : Abs} {m : Nat} {n d : ByteArray} {bs : List (BitVec 8)} {t : Int}
theorem Abs.OK.app (h : A.OK m) : (A.app n bs).OK (m + 1) := by unfold Abs.app; split <;> first | exact h.pow _ | exact h.pow'
theorem Abs.OK.syn (h : A.OK m) : (A.syn n).OK (m + 1) := by unfold Abs.syn; split <;> first | exact h.pow _ | exact h.pow'
theorem Abs.OK.ren (h : A.OK m) : (A.ren n d).OK (m + 1) := by unfold Abs.ren; split <;> first | exact h.pow _ | exact h.pow'
theorem Abs.OK.rem (h : A.OK m) : (A.rem n).OK (m + 1) := by unfold Abs.rem; split <;> first | exact h.pow _ | exact h.pow'
theorem Abs.OK.tru (h : A.OK m) : (A.tru n t).OK (m + 1) := by unfold Abs.tru; split <;> first | exact h.pow _ | exact h.pow'
theorem Abs.OK.mono {m' : Nat} (h : A.OK m) (hm : m ≤ m') : A.OK m' := ⟨h.ops0, by have := h.ops1; omega, h.left0, h.left1⟩
end
section
variable {w wi wj : World} {f : Nat} {S : FS} {Bl : List (Nat × List Value)} {m : Nat}
theorem Step.of {w' : World} (h : Sys w wi f S Bl) (hb : Below wi.heap.size wi wj) {A' : Abs} (ha : After f S A' wj w') : Step w wi f S (Bl.map Prod.fst) A' Bl w' := by
  obtain ⟨S', h1, h2, h3⟩ := ha
  exact ⟨S', h1, h.grown hb h2 h3, (GrB.of_below hb).trans (GrB.of_grown h3)⟩
theorem sys_append (h : Sys w wi f S Bl) (hOK : S.abs.OK m) (hm : m ≤ 4611686018427387904) (hb : Below wi.heap.size wi wj) (name : ByteArray) (v : Value) (bs : List (BitVec 8)) (hv : SrcB wj v bs) (hl : bs.length ≤ 50000000) (hn : ∀ k, v.ownBlock = some k → wi.heap.size ≤ k) :
    Calls Try.prog 13 #[.pointer (some ⟨f, 0, none⟩), .string name, v] wj fun e w' => e = .returned (.int .i64 (S.abs.appE name bs)) ∧ Step w wi f S (Bl.map Prod.fst) (S.abs.app name bs) Bl w' := by
  refine (append_any f S name v bs wj (h.fs.below hb) (hOK.sane hm) hv hl fun k hk e => ?_).mono ?_
  · have := h.fs.lt e; have := hn k hk; omega
  · rintro e w' ⟨rfl, ha⟩; exact ⟨rfl, Step.of h hb ha⟩
theorem sys_sync (h : Sys w wi f S Bl) (hOK : S.abs.OK m) (hm : m ≤ 4611686018427387904) (name : ByteArray) :
    Calls Try.prog 16 #[.pointer (some ⟨f, 0, none⟩), .string name] wi fun e w' => e = .returned (.int .i64 (S.abs.opn [name] name)) ∧ Step w wi f S (Bl.map Prod.fst) (S.abs.syn name) Bl w' := by
  refine (sync_any f S name wi h.fs (hOK.sane hm)).mono ?_
  rintro e w' ⟨rfl, ha⟩; exact ⟨rfl, Step.of h (Below.refl _ _) ha⟩
theorem sys_rename (h : Sys w wi f S Bl) (hOK : S.abs.OK m) (hm : m ≤ 4611686018427387904) (name dest : ByteArray) :
    Calls Try.prog 19 #[.pointer (some ⟨f, 0, none⟩), .string name, .string dest] wi fun e w' => e = .returned (.int .i64 (S.abs.opn [dest, name] name)) ∧ Step w wi f S (Bl.map Prod.fst) (S.abs.ren name dest) Bl w' := by
  refine (rename_any f S name dest wi h.fs (hOK.sane hm)).mono ?_
  rintro e w' ⟨rfl, ha⟩; exact ⟨rfl, Step.of h (Below.refl _ _) ha⟩
theorem sys_remove (h : Sys w wi f S Bl) (hOK : S.abs.OK m) (hm : m ≤ 4611686018427387904) (name : ByteArray) :
    Calls Try.prog 21 #[.pointer (some ⟨f, 0, none⟩), .string name] wi fun e w' => e = .returned (.int .i64 (S.abs.opn [name] name)) ∧ Step w wi f S (Bl.map Prod.fst) (S.abs.rem name) Bl w' := by
  refine (remove_any f S name wi h.fs (hOK.sane hm)).mono ?_
  rintro e w' ⟨rfl, ha⟩; exact ⟨rfl, Step.of h (Below.refl _ _) ha⟩
theorem sys_truncate (h : Sys w wi f S Bl) (hOK : S.abs.OK m) (hm : m ≤ 4611686018427387904) (name : ByteArray) (t : Int) :
    Calls Try.prog 23 #[.pointer (some ⟨f, 0, none⟩), .string name, .int .i64 t] wi fun e w' => e = .returned (.int .i64 (S.abs.truE name t)) ∧ Step w wi f S (Bl.map Prod.fst) (S.abs.tru name t) Bl w' := by
  refine (truncate_any f S name t wi h.fs (hOK.sane hm)).mono ?_
  rintro e w' ⟨rfl, ha⟩; exact ⟨rfl, Step.of h (Below.refl _ _) ha⟩
theorem FsAt.flOf_le (h : FsAt wi f S) (name : ByteArray) : (flOf (alook name S.abs.L)).safe ≤ (flOf (alook name S.abs.L)).b.length ∧ (flOf (alook name S.abs.L)).b.length ≤ 16777216 := by
  obtain ⟨_, _, _, _, _, h1, h2⟩ := shapeOf h name
  exact ⟨h1, h2⟩
theorem sys_read (h : Sys w wi f S Bl) (name : ByteArray) :
    Calls Try.prog 14 #[.pointer (some ⟨f, 0, none⟩), .string name] wi fun e w' => ∃ v, e = .returned (.tuple #[v, .int .i64 (if (alook name S.abs.L).isSome then 0 else 5)]) ∧ OwnB w' wi.heap.size v (flOf (alook name S.abs.L)).b ∧ Below wi.heap.size wi w' := read_any f S name wi h.fs
end
end Go.Proofs.Ytlapnnkahijikaa
