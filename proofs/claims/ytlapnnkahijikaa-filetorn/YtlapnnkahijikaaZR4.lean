/- The program's files and the document's own beside each other: what each act makes of both. -/
import Derived.Test.YtlapnnkahijikaaZR3
import Derived.Test.YtlapnnkahijikaaZW2
namespace Go.Proofs.Ytlapnnkahijikaa
open Go.ChangeShapes Go.WideShapes Go.ChangeAt Go.RowKit Go.Lib

section
variable {A : Abs} {R : RS} {n d : ByteArray} {bs : List (BitVec 8)} {t : Int}
theorem all_one (n : ByteArray) : [n].all nameOK = decide (nameOK n = true ∧ nameOK n = true) := by
  cases h : nameOK n <;> simp [h]
theorem all_two (n d : ByteArray) : [d, n].all nameOK = decide (nameOK n = true ∧ nameOK d = true) := by
  cases h : nameOK n <;> cases h2 : nameOK d <;> simp [h, h2]
theorem Twin.has (h : Twin A R) (n : ByteArray) : shas n R.L = (alook n A.L).isSome := by rw [h.srt.has, h.look]
theorem Twin.app (h : Twin A R) : A.appE n bs = R.appE n bs ∧ Twin (A.app n bs) (R.app n bs) := by
  have e1 : A.appE n bs = R.appE n bs := by unfold Abs.appE RS.appE; rw [h.beg [n] n n (all_one n), h.fl]
  refine ⟨e1, ?_⟩
  unfold Abs.app RS.app
  rw [e1]
  split
  · have := h.pow.put n ⟨(flOf (alook n A.L)).b ++ bs, (flOf (alook n A.L)).safe⟩
    rw [Abs.pow_L, RS.pow_L] at this
    rw [h.fl]; exact this
  · exact h.pow
theorem Twin.opn (h : Twin A R) {l : List ByteArray} {a b : ByteArray} (hl : l.all nameOK = decide (nameOK a = true ∧ nameOK b = true)) : A.opn l n = R.opn a b n := by
  unfold Abs.opn RS.opn
  rw [h.beg l a b hl, h.has]
theorem Twin.syn (h : Twin A R) : A.opn [n] n = R.opn n n n ∧ Twin (A.syn n) (R.syn n) := by
  have e1 := h.opn (n := n) (all_one n)
  refine ⟨e1, ?_⟩
  unfold Abs.syn RS.syn
  rw [e1]
  split
  · have := h.pow.put n ⟨(flOf (alook n A.L)).b, (flOf (alook n A.L)).b.length⟩
    rw [Abs.pow_L, RS.pow_L] at this
    rw [h.fl]; exact this
  · exact h.pow
theorem Twin.rem (h : Twin A R) : A.opn [n] n = R.opn n n n ∧ Twin (A.rem n) (R.rem n) := by
  have e1 := h.opn (n := n) (all_one n)
  refine ⟨e1, ?_⟩
  unfold Abs.rem RS.rem
  rw [e1]
  split
  · have := h.pow.del n
    rw [Abs.pow_L, RS.pow_L] at this
    exact this
  · exact h.pow
theorem Twin.ren (h : Twin A R) : A.opn [d, n] n = R.opn n d n ∧ Twin (A.ren n d) (R.ren n d) := by
  have e1 := h.opn (n := n) (all_two n d)
  refine ⟨e1, ?_⟩
  unfold Abs.ren RS.ren
  rw [e1]
  split
  · have := (h.pow.del n).put d (flOf (alook n A.L))
    simp only [Abs.pow_L, RS.pow_L] at this
    rw [h.fl]; exact this
  · exact h.pow
theorem Twin.tru (h : Twin A R) : A.truE n t = R.truE n t ∧ Twin (A.tru n t) (R.tru n t) := by
  have e0 := h.opn (n := n) (all_one n)
  have e1 : A.truE n t = R.truE n t := by unfold Abs.truE RS.truE; rw [e0, h.fl]
  refine ⟨e1, ?_⟩
  unfold Abs.tru RS.tru
  rw [e1]
  split
  · have := h.pow.put n ⟨(flOf (alook n A.L)).b.take t.toNat, min (flOf (alook n A.L)).safe t.toNat⟩
    rw [Abs.pow_L, RS.pow_L] at this
    rw [h.fl]; exact this
  · exact h.pow
theorem Twin.cut (h : Twin A R) (k : Int) : Twin { A with counted := true, left := k } { R with fuse := max k 0 } := ⟨h.srt, h.nodup, h.look, h.ops, .inr (.inr ⟨rfl, rfl⟩), h.dark⟩
end
theorem sput_length (n : ByteArray) (x : Fl) : ∀ L : List Fil, (sput n x L).length ≤ L.length + 1
  | [] => by unfold sput; simp
  | p :: L => by
    have := sput_length n x L
    unfold sput
    split
    · simp only [List.length_cons]; omega
    · split <;> simp only [List.length_cons] <;> omega
/-- No name is long. -/
def Small (L : List Fil) : Prop := ∀ p ∈ L, p.1.size ≤ 1000
theorem Small.put {L : List Fil} (h : Small L) {n : ByteArray} (hn : nameOK n = true) (x : Fl) : Small (aput n x L) := fun p hp => by
  rcases mem_put hp with rfl | ⟨hp, _⟩
  · unfold nameOK at hn
    simp only [Bool.and_eq_true, decide_eq_true_eq] at hn
    simp only; omega
  · exact h p hp
theorem Small.del {L : List Fil} (h : Small L) (n : ByteArray) : Small (adel n L) := fun p hp => h p ((adel_sub n L).subset hp)
theorem beg_names {A : Abs} {l : List ByteArray} (h : A.beg l = 0) : l.all nameOK = true := by
  unfold Abs.beg at h
  split at h
  · cases h
  · split at h
    · assumption
    · cases h
theorem opn_beg {A : Abs} {l : List ByteArray} {n : ByteArray} (h : A.opn l n = 0) : A.beg l = 0 := by
  unfold Abs.opn at h
  split at h
  · assumption
  · rename_i h2; exact absurd h h2
theorem ok_one {n : ByteArray} (h : [n].all nameOK = true) : nameOK n = true := by simpa using h
theorem small_pow {A : Abs} (h : Small A.L) : Small A.pow.L := by rw [Abs.pow_L]; exact h
theorem small_app {A : Abs} {n : ByteArray} {bs : List (BitVec 8)} (h : Small A.L) : Small (A.app n bs).L := by
  unfold Abs.app
  split
  · rename_i e
    have : A.beg [n] = 0 := by
      unfold Abs.appE at e
      split at e
      · assumption
      · rename_i h2; exact absurd e h2
    exact h.put (ok_one (beg_names this)) _
  · exact small_pow h
theorem small_syn {A : Abs} {n : ByteArray} (h : Small A.L) : Small (A.syn n).L := by
  unfold Abs.syn
  split
  · rename_i e; exact h.put (ok_one (beg_names (opn_beg e))) _
  · exact small_pow h
theorem small_rem {A : Abs} {n : ByteArray} (h : Small A.L) : Small (A.rem n).L := by
  unfold Abs.rem
  split
  · exact h.del n
  · exact small_pow h
theorem small_ren {A : Abs} {n d : ByteArray} (h : Small A.L) : Small (A.ren n d).L := by
  unfold Abs.ren
  split
  · rename_i e
    have := beg_names (opn_beg e)
    simp only [List.all_cons, List.all_nil, Bool.and_true, Bool.and_eq_true] at this
    exact (h.del n).put this.1 _
  · exact small_pow h
theorem small_tru {A : Abs} {n : ByteArray} {t : Int} (h : Small A.L) : Small (A.tru n t).L := by
  unfold Abs.tru
  split
  · rename_i e
    have : A.opn [n] n = 0 := by
      unfold Abs.truE at e
      split at e
      · assumption
      · rename_i h2; exact absurd e h2
    exact h.put (ok_one (beg_names (opn_beg this))) _
  · exact small_pow h
/-- The program's files and the document's own, so many acts on. -/
structure Bo (w wi : World) (f : Nat) (S : FS) (m : Nat) (v : Value) (R : RS) (q : Nat) : Prop where
  sys : Sys w wi f S []
  rk : RkAt wi m v R
  fm : ¬ S.foot f m ∧ w.heap.size ≤ m
  fv : ∀ k, v.ownBlock = some k → ¬ S.foot f k ∧ w.heap.size ≤ k
  tw : Twin S.abs R
  ok : S.abs.OK q
  len : R.L.length ≤ q
  fuse : -1 ≤ R.fuse ∧ R.fuse ≤ 9223372036854775807
  small : Small S.abs.L
section
variable {w wi wj : World} {f : Nat} {S S' : FS} {m : Nat} {v v' : Value} {R R' : RS} {q : Nat}
theorem Bo.below (h : Bo w wi f S m v R q) (hb : Below wi.heap.size wi wj) : Bo w wj f S m v R q := ⟨h.sys.below hb, h.rk.below hb, h.fm, h.fv, h.tw, h.ok, h.len, h.fuse, h.small⟩
theorem Bo.rok (h : Bo w wi f S m v R q) (hq : q ≤ 99999) : R.OK := by
  have h1 := h.ok
  refine ⟨by rw [← h.tw.ops]; have := h1.ops0; omega, by rw [← h.tw.ops]; have := h1.ops1; omega, h.fuse.1, h.fuse.2, Nat.le_trans h.len hq, fun n => ?_⟩
  rw [h.tw.fl]
  have := h.sys.fs.flOf_le n
  omega
/-- The program acts: the document's own files stay. -/
theorem Bo.prog (h : Bo w wi f S m v R q) (_ : Below wi.heap.size wi wj) {wk : World} (_ : Sys w wk f S' []) (hg : GrB f [] S S' wi wk) : RkAt wk m v R ∧ (¬ S'.foot f m ∧ w.heap.size ≤ m) ∧ (∀ k, v.ownBlock = some k → ¬ S'.foot f k ∧ w.heap.size ≤ k) := by
  have hm := h.rk.blk.lt
  have hv : ∀ k, v.ownBlock = some k → k < wi.heap.size := fun k e => (h.rk.own.lt k e).2
  refine ⟨⟨?_, h.rk.own.same fun k e => hg.block k (hv k e) (h.fv k e).1 List.not_mem_nil, h.rk.ne⟩, ⟨fun e => (hg.foot m e).elim h.fm.1 fun e => by omega, h.fm.2⟩, fun k e => ⟨fun e2 => (hg.foot k e2).elim (h.fv k e).1 fun e3 => by have := hv k e; omega, (h.fv k e).2⟩⟩
  obtain ⟨t, ht⟩ := h.rk.blk
  exact ⟨t, by rw [hg.block m hm h.fm.1 List.not_mem_nil]; exact ht⟩
/-- The document acts: the program's files stay. -/
theorem sys_rk (h : Sys w wi f S []) (hm : ¬ S.foot f m ∧ w.heap.size ≤ m) (hk : Keep m wi wj) : Sys w wj f S [] :=
  ⟨h.base.trans (hk.below hm.2 h.base.size), h.fs.same fun k e => hk.block k (h.fs.lt e) fun e2 => hm.1 (by rw [← e2]; exact e), h.low, (fun p hp => by cases hp), List.nodup_nil⟩
theorem own_rk (h : Sys w wi f S []) (hv : ∀ k, v.ownBlock = some k → ¬ S.foot f k ∧ w.heap.size ≤ k) (hm : Mvd wi v v') : ∀ k, v'.ownBlock = some k → ¬ S.foot f k ∧ w.heap.size ≤ k := fun k e => (hm k e).elim (hv k) fun e => ⟨fun e2 => by have := h.fs.lt e2; omega, Nat.le_trans h.base.size e⟩
end
end Go.Proofs.Ytlapnnkahijikaa
