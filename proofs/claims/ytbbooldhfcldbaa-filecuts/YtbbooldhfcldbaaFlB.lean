/- strings.Clone, bytes.Clone; file: New, Cut, Ops, Safe, put. -/
import Derived.Test.YtbbooldhfcldbaaFlA
import Derived.Test.YtbbooldhfcldbaaLay
namespace Go.Proofs.Ytbbooldhfcldbaa
open Go.ChangeShapes Go.WideShapes Go.ChangeAt Go.RowKit Go.Lib

set_option maxHeartbeats 1000000 in
theorem sclone_any (s : ByteArray) (w : World) (hs : s.size ≤ 1000000) :
    Calls Try.prog 45 #[.string s] w fun e w' => e = .returned (.string s) ∧ Below w.heap.size w w' := by
  go_enter Try.func45, Try.ntmps45
  go_wp2_with fail
  refine (Any.stringslite_Clone Try.cloneS s w (by omega)).mono ?_
  rintro e w' ⟨rfl, hb⟩
  go_wp2_with fail
  go_ret
  exact ⟨rfl, hb⟩
theorem OwnB.lit0 (w : World) : OwnB (w.alloc (.cells #[] 5)) w.heap.size (.slice (some ⟨w.heap.size, 0, none⟩) 0 0) [] :=
  ⟨by simp, .inr ⟨w.heap.size, 0, #[], rfl, Nat.le_refl _, heap_alloc_new _ _, Nat.le_refl _, Nat.zero_le _, by simp, by simp [u8s]⟩⟩
theorem SrcB.below {w w' : World} {v : Value} {bs : List (BitVec 8)} (h : SrcB w v bs) (hb : Below w.heap.size w w') : SrcB w' v bs := by
  rcases h with h | ⟨b, o, cap, hv, hc⟩
  · exact .inl h
  · exact .inr ⟨b, o, cap, hv, fun j u hu => by
      have hl := World.block_lt_of_cell? w _ (hc j u hu)
      have := hc j u hu
      unfold World.cell? at *
      rw [hb.block b hl]; exact this⟩
set_option maxRecDepth 100000 in
set_option maxHeartbeats 1000000 in
theorem bclone_any (v : Value) (bs : List (BitVec 8)) (w : World) (h : SrcB w v bs) (hl : bs.length ≤ 50000000) :
    Calls Try.prog 35 #[v] w fun e w' => ∃ v', e = .returned v' ∧ OwnB w' w.heap.size v' bs ∧ Below w.heap.size w w' := by
  rcases h with ⟨rfl, rfl⟩ | ⟨b, o, cap, rfl, hc⟩
  · have hq : ∀ w', (binOp .eql 40 (.slice none 0 0) (.slice none 0 0)).run Try.prog w' = .ok (.bool true) w' := fun w' => Go.Lib.run_eql_slice_nil w' _ _ _ _ _ _ _ Try.underlying40
    go_enter Try.func35, Try.ntmps35
    go_wp2_with fail
    go_ret
    exact ⟨_, rfl, OwnB.nil _ _, Below.refl _ _⟩
  · have HB1 : Hid (Below w.heap.size w (w.alloc (.cells #[] 5))) := (Below.refl _ _).alloc (Nat.le_refl _) _
    have HO1 : Hid (OwnB (w.alloc (.cells #[] 5)) w.heap.size (.slice (some ⟨w.heap.size, 0, none⟩) 0 0) []) := OwnB.lit0 w
    have HS1 : Hid (SrcB (w.alloc (.cells #[] 5)) (.slice (some ⟨b, o, none⟩) bs.length cap) bs) := SrcB.below (.inr ⟨b, o, cap, rfl, hc⟩) HB1.out
    clear hc
    have hq : ∀ w', (binOp .eql 40 (.slice (some ⟨b, o, none⟩) bs.length cap) (.slice none 0 0)).run Try.prog w' = .ok (.bool false) w' := fun w' => Go.Lib.run_eql_slice_nil w' _ _ _ _ _ _ _ Try.underlying40
    generalize hn : bs.length = n at *
    go_enter Try.func35, Try.ntmps35
    go_wp2_with (at_builtin; refine wpList_append_b rfl _ _ rfl w.heap.size _ [] rfl HO1.out _ bs rfl HS1.out (by simp; omega) (by simp) ?_; intro v4 w4 HO4 HG4 HM4; rw [List.nil_append] at HO4; obtain ⟨a4, cap4, rfl⟩ := HO4.out.shape)
    go_ret
    refine ⟨.slice a4 n cap4, rfl, by rw [← hn]; exact HO4.out, ?_⟩
    · exact HB1.out.grown HG4.out (by simp) fun k hk => by
        have hk' : some w.heap.size = some k := hk
        injection hk' with hk'
        omega
/-- No files yet. -/
def FS.zero : FS := ⟨none, [], 0, false, 0, false⟩
set_option maxHeartbeats 1000000 in
theorem new_any (w : World) :
    Calls Try.prog 10 #[] w fun e w' => e = .returned (.pointer (some ⟨w.heap.size, 0, none⟩)) ∧ FsAt w' w.heap.size FS.zero ∧ Below w.heap.size w w' ∧ w'.heap.size = w.heap.size + 1 := by
  go_enter Try.func10, Try.ntmps10
  go_wp2_with fail
  go_ret
  exact ⟨rfl, FsAt.new w _, (Below.refl _ _).alloc (Nat.le_refl _) _, by simp⟩
set_option maxHeartbeats 1000000 in
theorem cut_any (f : Nat) (S : FS) (n : Int) (w : World) (h : FsAt w f S) :
    Calls Try.prog 22 #[.pointer (some ⟨f, 0, none⟩), .int .i64 n] w fun e w' => e = .returned (.tuple #[]) ∧ FsAt w' f { S with counted := true, left := n } ∧ Grown f S { S with counted := true, left := n } w w' ∧ w'.heap.size = w.heap.size := by
  have H : Hid (∀ w', Keep f w w' → Blk w' f (FS.cs { S with counted := true, left := n }) → FsAt w' f { S with counted := true, left := n } ∧ Grown f S { S with counted := true, left := n } w w') := fun w' k hb => h.head k hb rfl rfl
  have HB : Hid (Blk w f S.cs) := h.blk
  clear h
  have c2 : w.cell? ⟨f, 2, none⟩ = some (.bool S.counted) := HB.out.one rfl
  have g2 : w.frozen? ⟨f, 2, none⟩ = false := HB.out.frozen 2
  have c3 : (w.setCell ⟨f, 2, none⟩ (.bool true)).cell? ⟨f, 3, none⟩ = some (.int .i64 S.left) := (HB.out.set 2 _).one rfl
  have g3 : (w.setCell ⟨f, 2, none⟩ (.bool true)).frozen? ⟨f, 3, none⟩ = false := (HB.out.set 2 _).frozen 3
  go_enter Try.func22, Try.ntmps22
  go_wp2_with fail
  go_end0
  obtain ⟨h1, h2⟩ := H.out _ (((Keep.refl _ _).setCell 2 (.bool true)).setCell 3 (.int .i64 n)) ((HB.out.set 2 _).set 3 _)
  exact ⟨rfl, h1, h2, by simp⟩
set_option maxHeartbeats 1000000 in
theorem ops_any (f : Nat) (S : FS) (w : World) (h : FsAt w f S) :
    Calls Try.prog 23 #[.pointer (some ⟨f, 0, none⟩)] w fun e w' => e = .returned (.int .i64 S.ops) ∧ w' = w := by
  have c1 : w.cell? ⟨f, 1, none⟩ = some (.int .i64 S.ops) := h.blk.one rfl
  clear h
  go_enter Try.func23, Try.ntmps23
  go_wp2_with fail
  go_ret
  exact ⟨rfl, rfl⟩
def safeOf (o : Option Fl) : Int := match o with | none => -1 | some f => f.safe
theorem alook_L (S : FS) (name : ByteArray) : alook name S.L = (alook name S.es).map Prod.snd := alook_map _ _ _
theorem FsAt.found {w : World} {f : Nat} {S : FS} (h : FsAt w f S) (name : ByteArray) {p : Value × Fl} (hp : alook name S.es = some p) : ∃ a c, p = (.slice a p.2.b.length c, p.2) ∧ OwnB w 0 (.slice a p.2.b.length c) p.2.b := by
  have := (h.row (name, p) (mem_of_alook hp)).1
  obtain ⟨a, c, hv⟩ := this.shape
  simp only at this hv
  exact ⟨a, c, by rw [← hv], by rw [← hv]; exact this⟩
set_option maxRecDepth 100000 in
set_option maxHeartbeats 1000000 in
theorem safe_any (f : Nat) (S : FS) (name : ByteArray) (w : World) (h : FsAt w f S) :
    Calls Try.prog 21 #[.pointer (some ⟨f, 0, none⟩), .string name] w fun e w' => e = .returned (.int .i64 (safeOf (alook name S.L))) ∧ Below w.heap.size w w' := by
  rw [alook_L]
  have HF : Hid (Calls Try.prog 38 #[.pointer (some ⟨f, 0, none⟩), .string name] w fun e w' => e = .returned (found (alook name S.es)) ∧ Below w.heap.size w w') := find_any f S name w h
  cases ha : alook name S.es with
  | none =>
    rw [ha] at HF
    have HV : Hid (found none = .tuple #[.agg #[.slice none 0 0, .int .i64 0], .bool false]) := show _ = _ from rfl
    clear h ha
    go_enter Try.func21, Try.ntmps21
    go_wp2_with fail
    refine wp_scope_hops 1 ?_
    go_hide hQ
    go_wp2_with fail
    refine Calls.mono HF.out ?_
    rintro e w1 ⟨rfl, hb1⟩
    rw [HV.out]
    go_wp2_with fail
    go_step3
    simp only [Exit.then]
    subst hQ
    rw [hops_goto]
    refine ⟨_, rfl, ?_⟩
    go_hide hQ
    go_wp2_with fail
    subst hQ
    rw [hops_ret]
    go_ret
    exact ⟨rfl, hb1.alloc hb1.size _⟩
  | some p =>
    obtain ⟨a, c, hp, _⟩ := h.found name ha
    rw [ha, hp] at HF
    generalize p.2 = fl at *
    have HV : Hid (found (some (.slice a fl.b.length c, fl)) = .tuple #[.agg #[.slice a fl.b.length c, .int .i64 (fl.safe : Int)], .bool true]) := show _ = _ from rfl
    have HR : Hid (safeOf (Option.map Prod.snd (some p)) = (fl.safe : Int)) := by rw [hp]; rfl
    rw [HR.out]
    clear h ha hp HR
    generalize fl.b.length = n at *
    go_enter Try.func21, Try.ntmps21
    go_wp2_with fail
    refine wp_scope_hops 1 ?_
    go_hide hQ
    go_wp2_with fail
    refine Calls.mono HF.out ?_
    rintro e w1 ⟨rfl, hb1⟩
    rw [HV.out]
    go_wp2_with fail
    subst hQ
    rw [hops_ret]
    go_ret
    exact ⟨rfl, hb1.alloc hb1.size _⟩

/-- What put changes: the map, and, if there was none, the head. -/
structure Put (f : Nat) (S : FS) (r : Nat) (w w' : World) : Prop where
  os : w'.os = w.os
  tape : w'.tape = w.tape
  output : w'.output = w.output
  size : w.heap.size ≤ w'.heap.size
  block : ∀ k, k < w.heap.size → k ≠ f → S.m ≠ some k → w'.heap[k]? = w.heap[k]?
  place : S.m = some r ∨ w.heap.size ≤ r
theorem Put.then {f : Nat} {S : FS} {r : Nat} {w w' w'' : World} (h : Put f S r w w') (k : Below w'.heap.size w' w'') : Put f S r w w'' :=
  ⟨k.os.trans h.os, k.tape.trans h.tape, k.output.trans h.output, Nat.le_trans h.size k.size, fun i hi hf hm => (k.block i (Nat.lt_of_lt_of_le hi h.size)).trans (h.block i hi hf hm), h.place⟩
theorem Put.map {f : Nat} {S : FS} {r : Nat} {w w' w'' : World} (h : Put f S r w w') (k : Keep r w' w'') : Put f S r w w'' :=
  ⟨k.os.trans h.os, k.tape.trans h.tape, k.output.trans h.output, Nat.le_trans h.size k.size, fun i hi hf hm => (k.block i (Nat.lt_of_lt_of_le hi h.size) fun e => by
    subst e
    rcases h.place with e | e
    · exact hm e
    · omega).trans (h.block i hi hf hm), h.place⟩
theorem pairwise_put {name : ByteArray} {v : Value × Fl} : ∀ {es : List (ByteArray × (Value × Fl))} (_ : es.Pairwise fun p q => ∀ k, p.2.1.ownBlock = some k → q.2.1.ownBlock ≠ some k)
    (_ : (es.map Prod.fst).Nodup) (_ : ∀ k, v.1.ownBlock = some k → ∀ p ∈ es, p.1 ≠ name → p.2.1.ownBlock ≠ some k), (aput name v es).Pairwise fun p q => ∀ k, p.2.1.ownBlock = some k → q.2.1.ownBlock ≠ some k := by
  intro es
  induction es with
  | nil => intro _ _ _; exact List.pairwise_singleton _ _
  | cons p es ih =>
    intro h hn hv
    rw [List.pairwise_cons] at h
    rw [List.map_cons, List.nodup_cons] at hn
    unfold aput
    split
    · rename_i e
      rw [List.pairwise_cons]
      refine ⟨fun q hq k hk => hv k hk q (List.mem_cons_of_mem _ hq) fun e' => hn.1 ?_, h.2⟩
      rw [← e, ← e']
      exact List.mem_map.2 ⟨q, hq, rfl⟩
    · rename_i e
      rw [List.pairwise_cons]
      refine ⟨fun q hq k hk hk' => ?_, ih h.2 hn.2 fun k hk q hq => hv k hk q (List.mem_cons_of_mem _ hq)⟩
      rcases mem_put hq with rfl | ⟨hq, _⟩
      · exact hv k hk' p (List.mem_cons_self ..) (fun e' => e e'.symm) hk
      · exact h.1 q hq k hk hk'
theorem FsAt.putIn {w w' : World} {f r : Nat} {S : FS} {name : ByteArray} {v : Value} {fl : Fl} (h : FsAt w f S) (hp : Put f S r w w') (hb : Blk w' f (FS.cs { S with m := some r, es := aput name (v, fl) S.es })) (hm : MapS w' r ((aput name (v, fl) S.es).map (onB cellOf)))
    (hrf : r ≠ f) (hv : OwnB w 0 v fl.b) (hk : ∀ k, v.ownBlock = some k → k ≠ f ∧ S.m ≠ some k ∧ ∀ p ∈ S.es, p.1 ≠ name → p.2.1.ownBlock ≠ some k) (hfit : fl.safe ≤ fl.b.length ∧ fl.b.length ≤ 16777216) :
    FsAt w' f { S with m := some r, es := aput name (v, fl) S.es } := by
  have hne : ∀ k, k < w.heap.size → S.m ≠ some k → some r ≠ some k := fun k hk hs e => by
    injection e with e
    subst e
    rcases hp.place with e | e
    · exact hs e
    · omega
  refine ⟨hb, (fun e => by cases e), (fun r' hr' => by simp only [Option.some.injEq] at hr'; subst hr'; exact ⟨hrf, hm⟩), fun p hp' => ?_, pairwise_put h.apart h.nodup fun k hk' p hp' hne' => (hk k hk').2.2 p hp' hne', fun p hp' => ?_⟩
  · rcases mem_put hp' with rfl | ⟨hp', _⟩
    · refine ⟨hv.same fun k hk' => hp.block k (hv.lt k hk').2 (hk k hk').1 (hk k hk').2.1, fun k hk' => ⟨(hk k hk').1, hne k (hv.lt k hk').2 (hk k hk').2.1⟩⟩
    · obtain ⟨ho, hb'⟩ := h.row p hp'
      exact ⟨ho.same fun k hk' => hp.block k (ho.lt k hk').2 (hb' k hk').1 (hb' k hk').2, fun k hk' => ⟨(hb' k hk').1, hne k (ho.lt k hk').2 (hb' k hk').2⟩⟩
  · rcases mem_put hp' with rfl | ⟨hp', _⟩
    · exact hfit
    · exact h.fits p hp'
set_option maxRecDepth 100000 in
set_option maxHeartbeats 2000000 in
theorem put_any (f : Nat) (S : FS) (name : ByteArray) (a : Option Addr) (n c : Nat) (fl : Fl) (sf : Int) (w : World) (h : FsAt w f S) (hn : name.size ≤ 1000) (hv : OwnB w 0 (.slice a n c) fl.b) (hsf : sf = fl.safe)
    (hk : ∀ k, (Value.slice a n c).ownBlock = some k → k ≠ f ∧ S.m ≠ some k ∧ ∀ p ∈ S.es, p.1 ≠ name → p.2.1.ownBlock ≠ some k) (hfit : fl.safe ≤ fl.b.length ∧ fl.b.length ≤ 16777216) :
    Calls Try.prog 34 #[.pointer (some ⟨f, 0, none⟩), .string name, .agg #[.slice a n c, .int .i64 sf]] w fun e w' => e = .returned (.tuple #[]) ∧ ∃ r, FsAt w' f { S with m := some r, es := aput name (.slice a n c, fl) S.es } ∧ Put f S r w w' := by
  have HMO : Hid (Try.prog.follows .mixedOrders = true) := show _ = _ by kernel_rfl
  have HFS : Hid (FsAt w f S) := h
  have hff := h.blk.lt
  have HIN : Hid (∀ r w', Put f S r w w' → Blk w' f (FS.cs { S with m := some r, es := aput name (.slice a n c, fl) S.es }) → MapS w' r ((aput name (.slice a n c, fl) S.es).map (onB cellOf)) → r ≠ f → FsAt w' f { S with m := some r, es := aput name (.slice a n c, fl) S.es }) :=
    fun r w' hp hb hm hrf => h.putIn hp hb hm hrf hv hk hfit
  have HPM : Hid ((aput name (.slice a n c, fl) S.es).map (onB cellOf) = aput name (.agg #[.slice a n c, .int .i64 sf]) (S.es.map (onB cellOf))) := show _ = _ by rw [aput_map, hsf]; rfl
  have HC : Hid ((S.m = none ∧ S.es = []) ∨ ∃ r, S.m = some r ∧ r ≠ f ∧ MapS w r (S.es.map (onB cellOf))) := by
    cases hm : S.m with
    | none => exact .inl ⟨rfl, h.bare hm⟩
    | some r => exact .inr ⟨r, rfl, (h.map r hm).1, (h.map r hm).2⟩
  clear hv hk hfit hsf
  go_enter Try.func34, Try.ntmps34
  go_upto_region 1 with fail
  generalize hw1 : World.alloc w _ = w1
  have HN1 : Hid (Blk w1 w.heap.size [.slice a n c, .int .i64 sf]) := by rw [← hw1]; exact Blk.mk _ _ _ rfl rfl
  have HB1 : Hid (Below w.heap.size w w1) := by rw [← hw1]; exact (Below.refl _ _).alloc (Nat.le_refl _) _
  have HF1 : Hid (Blk w1 f S.cs) := h.blk.below HB1.out hff
  clear hw1 h
  generalize hN : w.heap.size = N at *
  have hN1 : N < w1.heap.size := HN1.out.lt
  have c0 : w1.cell? ⟨f, 0, none⟩ = some (.map S.m) := HF1.out.one rfl
  have g0 : w1.frozen? ⟨f, 0, none⟩ = false := HF1.out.frozen 0
  rcases HC.out with ⟨hm, he⟩ | ⟨r, hm, hrf, hM⟩
  · rw [hm] at c0
    have hmm := @run_makeMap Try.prog
    have hq : ∀ w', (binOp .eql 56 (.map none) (.map none)).run Try.prog w' = .ok (.bool true) w' := fun w' => run_eql_map_nil w' _ _ _ none Try.underlying56
    have c0' : (w1.alloc (.map #[] 0)).cell? ⟨f, 0, none⟩ = some (.map none) := by have := (HF1.out.alloc (.map #[] 0)).one (i := 0) rfl; rw [hm] at this; exact this
    have g0' : (w1.alloc (.map #[] 0)).frozen? ⟨f, 0, none⟩ = false := (HF1.out.alloc _).frozen 0
    go_upto_region 3 with fail
    generalize hw2 : World.setCell (World.alloc w1 _) _ _ = w2
    obtain ⟨r, hr⟩ : ∃ r, r = w1.heap.size := ⟨_, rfl⟩
    rw [← hr] at hw2
    have hrf : r ≠ f := by omega
    have hrN : N ≠ r := by omega
    have HF2 : Hid (Blk w2 f [.map (some r), .int .i64 S.ops, .bool S.counted, .int .i64 S.left, .bool S.off]) := by rw [← hw2]; exact (HF1.out.alloc _).set 0 _
    have HN2 : Hid (Blk w2 N [.slice a n c, .int .i64 sf]) := by rw [← hw2]; exact (HN1.out.alloc _).other (by simp only [ne_eq]; omega) _
    have HM2 : Hid (MapS w2 r (S.es.map (onB cellOf))) := by
      rw [← hw2, he]
      refine MapS.same (w := w1.alloc (.map #[] 0)) (hr ▸ MapS.new w1) ?_
      exact Below.heap_setCell _ _ _ _ (by simp only [ne_eq]; omega)
    have HP2 : Hid (Put f S r w w2) := by
      rw [← hw2]
      refine ⟨HB1.out.os, HB1.out.tape, HB1.out.output, by simp; have := HB1.out.size; omega, fun k hk hkf _ => ?_, .inr (by omega)⟩
      rw [Below.heap_setCell _ _ _ _ (by simp only [ne_eq]; exact hkf), Below.heap_alloc _ _ k (by omega), HB1.out.block k (by omega)]
    clear hw2 c0 c0' g0 g0' hq hmm HF1 HN1 HC hm he hr hN1
    refine wp_region_noPanic ?_
    refine wp_region_held_drew (S := fun w' => w'.cell? ⟨f, 0, none⟩ = some (.map (some r)) ∧ w'.cell? ⟨N, 0, none⟩ = some (.slice a n c) ∧ w'.cell? ⟨N, 1, none⟩ = some (.int .i64 sf)) HMO.out (⟨HF2.out.drew.one rfl, HN2.out.drew.one rfl, HN2.out.drew.one rfl⟩) (fun hHeld => ?_)
    refine wpAnyH_take (i := 0) (oi := { dst := some 15, op := .move (.tmp 0), type := 25, pos := "file.go:239", after := #[], guard := none }) (v := ?_) rfl (by kernel_rfl) (by kernel_rfl) (by kernel_rfl) (fun _ _ _ h => h) (Or.inl ⟨by rfl, ?_⟩) (by assumption) ?_
    rotate_left
    · intro _ _; go_simp; first | done | with_reducible rfl
    simp only [Act.put, List.setIfInBounds_toArray, List.set_cons_zero, List.set_cons_succ]
    refine wpAnyH_take (i := 1) (oi := { dst := some 16, op := .nilCheck (.tmp 15), type := 0, pos := "file.go:239", after := #[{ on := 0, ground := .data }], guard := none }) (v := ?_) rfl (by kernel_rfl) (by kernel_rfl) (by kernel_rfl) (fun _ _ _ h => h) (Or.inl ⟨by rfl, ?_⟩) (by assumption) ?_
    rotate_left
    · intro _ _; go_simp; first | done | with_reducible rfl
    simp only [Act.put, List.setIfInBounds_toArray, List.set_cons_zero, List.set_cons_succ]
    refine wpAnyH_take (i := 2) (oi := { dst := some 17, op := .fieldAddr 58 (.tmp 16) 0, type := 0, pos := "file.go:239", after := #[{ on := 1, ground := .data }], guard := none }) (v := ?_) rfl (by kernel_rfl) (by kernel_rfl) (by kernel_rfl) (fun _ _ _ h => h) (Or.inl ⟨by rfl, ?_⟩) (by assumption) ?_
    rotate_left
    · intro _ _; go_simp; first | done | with_reducible rfl
    simp only [Act.put, List.setIfInBounds_toArray, List.set_cons_zero, List.set_cons_succ]
    refine wpAnyH_take (i := 3) (oi := { dst := some 18, op := .load 56 (.tmp 17), type := 56, pos := "file.go:239", after := #[{ on := 2, ground := .data }], guard := none }) (v := .map (some r)) rfl (by kernel_rfl) (by kernel_rfl) (by kernel_rfl) (fun _ _ _ h => h) (Or.inl ⟨by rfl, ?_⟩) (by assumption) ?_
    · intro _ _; rename_i wz hz; have cz := hz.1; go_simp
    simp only [Act.put, List.setIfInBounds_toArray, List.set_cons_zero, List.set_cons_succ]
    refine wpAnyH_take (i := 4) (oi := { dst := some 19, op := .move (.tmp 1), type := 9, pos := "file.go:239", after := #[], guard := none }) (v := ?_) rfl (by kernel_rfl) (by kernel_rfl) (by kernel_rfl) (fun _ _ _ h => h) (Or.inl ⟨by rfl, ?_⟩) (by assumption) ?_
    rotate_left
    · intro _ _; go_simp; first | done | with_reducible rfl
    simp only [Act.put, List.setIfInBounds_toArray, List.set_cons_zero, List.set_cons_succ]
    refine wpAnyH_take (i := 6) (oi := { dst := some 21, op := .load 68 (.tmp 5), type := 68, pos := "file.go:239", after := #[], guard := none }) (v := .agg #[.slice a n c, .int .i64 sf]) rfl (by kernel_rfl) (by kernel_rfl) (by kernel_rfl) (fun _ _ _ h => h) (Or.inl ⟨by rfl, ?_⟩) (by assumption) ?_
    · intro _ _; rename_i wz hz; have cz := hz.2.1; have cy := hz.2.2; go_simp
    simp only [Act.put, List.setIfInBounds_toArray, List.set_cons_zero, List.set_cons_succ]
    refine wpAnyH_ready (rs := [5]) (by kernel_rfl) (by simp) ?_
    refine AllReadyH.cons (o := { dst := some 20, op := .call { callee := .value (.func 45), args := #[.tmp 19], argTypes := #[9] }, type := 9, pos := "file.go:239", after := #[{ on := 4, ground := .data }], guard := none }) rfl (fun K hK => ?_) AllReadyH.nil
    go_simp
    refine (sclone_any name _ (by omega)).mono ?_; rintro e w3 ⟨rfl, hb3⟩; have hb3' := below_undrew hb3; have HF3 : Hid (Blk w3 f [.map (some r), .int .i64 S.ops, .bool S.counted, .int .i64 S.left, .bool S.off]) := HF2.out.below hb3' HF2.out.lt; have HN3 : Hid (Blk w3 N [.slice a n c, .int .i64 sf]) := HN2.out.below hb3' HN2.out.lt; have HM3 : Hid (MapS w3 r (S.es.map (onB cellOf))) := HM2.out.same (hb3'.block r HM2.out.lt); have HP3 : Hid (Put f S r w w3) := HP2.out.then hb3'; clear hb3 hb3'
    go_simp
    refine hK.out _ _ (⟨HF3.out.one rfl, HN3.out.one rfl, HN3.out.one rfl⟩) (fun hHeld => ?_)
    clear hK K
    refine wpAnyH_ready (rs := [7]) (by kernel_rfl) (by simp) ?_
    refine AllReadyH.cons (o := { dst := none, op := .mapUpdate 56 (.tmp 18) (.tmp 20) (.tmp 21), type := 0, pos := "file.go:239", after := #[{ on := 3, ground := .data }, { on := 5, ground := .data }, { on := 6, ground := .data }, { on := 5, ground := .chain }, { on := 0, ground := .phase }, { on := 1, ground := .phase }, { on := 2, ground := .phase }, { on := 3, ground := .phase }, { on := 4, ground := .phase }, { on := 5, ground := .phase }, { on := 6, ground := .phase }], guard := none }) rfl (fun K hK => ?_) AllReadyH.nil
    refine step_updateS rfl _ _ _ rfl Try.underlying9 Try.underlying56 _ HM3.out name (.agg #[.slice a n c, .int .i64 sf]) rfl rfl rfl ?_; intro w4 HM4 HK4; have HF4 : Hid (Blk w4 f [.map (some r), .int .i64 S.ops, .bool S.counted, .int .i64 S.left, .bool S.off]) := HF3.out.keep HK4.out (Ne.symm hrf); have HN4 : Hid (Blk w4 N [.slice a n c, .int .i64 sf]) := HN3.out.keep HK4.out hrN
    simp only [Act.put]
    refine hK.out _ _ (⟨HF4.out.one rfl, HN4.out.one rfl, HN4.out.one rfl⟩) (fun hHeld => ?_)
    clear hK K
    refine wpAnyH_done (by kernel_rfl) ?_ _
    refine NoPanic.normal ?_
    clear hHeld
    go_end0
    refine ⟨rfl, r, HIN.out r _ ?_ HF4.out ?_ hrf, ?_⟩
    · exact HP3.out.map HK4.out
    · rw [HPM.out]; exact HM4.out
    · exact HP3.out.map HK4.out
  · rw [hm] at c0
    have hq : ∀ w', (binOp .eql 56 (.map (some r)) (.map none)).run Try.prog w' = .ok (.bool false) w' := fun w' => run_eql_map_nil w' _ _ _ (some r) Try.underlying56
    have hrl := hM.lt
    have hrN : N ≠ r := by omega
    have HF2 : Hid (Blk w1 f [.map (some r), .int .i64 S.ops, .bool S.counted, .int .i64 S.left, .bool S.off]) := hm ▸ HF1.out
    have HN2 : Hid (Blk w1 N [.slice a n c, .int .i64 sf]) := HN1.out
    have HM2 : Hid (MapS w1 r (S.es.map (onB cellOf))) := hM.same (HB1.out.block r (by omega))
    have HP2 : Hid (Put f S r w w1) := ⟨HB1.out.os, HB1.out.tape, HB1.out.output, HB1.out.size, fun k hk _ _ => HB1.out.block k (by omega), .inl hm⟩
    clear HF1 HN1 HC hM
    generalize hw2 : w1 = w2 at *
    go_upto_region 3 with fail
    clear c0 g0 hq hm
    refine wp_region_noPanic ?_
    refine wp_region_held_drew (S := fun w' => w'.cell? ⟨f, 0, none⟩ = some (.map (some r)) ∧ w'.cell? ⟨N, 0, none⟩ = some (.slice a n c) ∧ w'.cell? ⟨N, 1, none⟩ = some (.int .i64 sf)) HMO.out (⟨HF2.out.drew.one rfl, HN2.out.drew.one rfl, HN2.out.drew.one rfl⟩) (fun hHeld => ?_)
    refine wpAnyH_take (i := 0) (oi := { dst := some 15, op := .move (.tmp 0), type := 25, pos := "file.go:239", after := #[], guard := none }) (v := ?_) rfl (by kernel_rfl) (by kernel_rfl) (by kernel_rfl) (fun _ _ _ h => h) (Or.inl ⟨by rfl, ?_⟩) (by assumption) ?_
    rotate_left
    · intro _ _; go_simp; first | done | with_reducible rfl
    simp only [Act.put, List.setIfInBounds_toArray, List.set_cons_zero, List.set_cons_succ]
    refine wpAnyH_take (i := 1) (oi := { dst := some 16, op := .nilCheck (.tmp 15), type := 0, pos := "file.go:239", after := #[{ on := 0, ground := .data }], guard := none }) (v := ?_) rfl (by kernel_rfl) (by kernel_rfl) (by kernel_rfl) (fun _ _ _ h => h) (Or.inl ⟨by rfl, ?_⟩) (by assumption) ?_
    rotate_left
    · intro _ _; go_simp; first | done | with_reducible rfl
    simp only [Act.put, List.setIfInBounds_toArray, List.set_cons_zero, List.set_cons_succ]
    refine wpAnyH_take (i := 2) (oi := { dst := some 17, op := .fieldAddr 58 (.tmp 16) 0, type := 0, pos := "file.go:239", after := #[{ on := 1, ground := .data }], guard := none }) (v := ?_) rfl (by kernel_rfl) (by kernel_rfl) (by kernel_rfl) (fun _ _ _ h => h) (Or.inl ⟨by rfl, ?_⟩) (by assumption) ?_
    rotate_left
    · intro _ _; go_simp; first | done | with_reducible rfl
    simp only [Act.put, List.setIfInBounds_toArray, List.set_cons_zero, List.set_cons_succ]
    refine wpAnyH_take (i := 3) (oi := { dst := some 18, op := .load 56 (.tmp 17), type := 56, pos := "file.go:239", after := #[{ on := 2, ground := .data }], guard := none }) (v := .map (some r)) rfl (by kernel_rfl) (by kernel_rfl) (by kernel_rfl) (fun _ _ _ h => h) (Or.inl ⟨by rfl, ?_⟩) (by assumption) ?_
    · intro _ _; rename_i wz hz; have cz := hz.1; go_simp
    simp only [Act.put, List.setIfInBounds_toArray, List.set_cons_zero, List.set_cons_succ]
    refine wpAnyH_take (i := 4) (oi := { dst := some 19, op := .move (.tmp 1), type := 9, pos := "file.go:239", after := #[], guard := none }) (v := ?_) rfl (by kernel_rfl) (by kernel_rfl) (by kernel_rfl) (fun _ _ _ h => h) (Or.inl ⟨by rfl, ?_⟩) (by assumption) ?_
    rotate_left
    · intro _ _; go_simp; first | done | with_reducible rfl
    simp only [Act.put, List.setIfInBounds_toArray, List.set_cons_zero, List.set_cons_succ]
    refine wpAnyH_take (i := 6) (oi := { dst := some 21, op := .load 68 (.tmp 5), type := 68, pos := "file.go:239", after := #[], guard := none }) (v := .agg #[.slice a n c, .int .i64 sf]) rfl (by kernel_rfl) (by kernel_rfl) (by kernel_rfl) (fun _ _ _ h => h) (Or.inl ⟨by rfl, ?_⟩) (by assumption) ?_
    · intro _ _; rename_i wz hz; have cz := hz.2.1; have cy := hz.2.2; go_simp
    simp only [Act.put, List.setIfInBounds_toArray, List.set_cons_zero, List.set_cons_succ]
    refine wpAnyH_ready (rs := [5]) (by kernel_rfl) (by simp) ?_
    refine AllReadyH.cons (o := { dst := some 20, op := .call { callee := .value (.func 45), args := #[.tmp 19], argTypes := #[9] }, type := 9, pos := "file.go:239", after := #[{ on := 4, ground := .data }], guard := none }) rfl (fun K hK => ?_) AllReadyH.nil
    go_simp
    refine (sclone_any name _ (by omega)).mono ?_; rintro e w3 ⟨rfl, hb3⟩; have hb3' := below_undrew hb3; have HF3 : Hid (Blk w3 f [.map (some r), .int .i64 S.ops, .bool S.counted, .int .i64 S.left, .bool S.off]) := HF2.out.below hb3' HF2.out.lt; have HN3 : Hid (Blk w3 N [.slice a n c, .int .i64 sf]) := HN2.out.below hb3' HN2.out.lt; have HM3 : Hid (MapS w3 r (S.es.map (onB cellOf))) := HM2.out.same (hb3'.block r HM2.out.lt); have HP3 : Hid (Put f S r w w3) := HP2.out.then hb3'; clear hb3 hb3'
    go_simp
    refine hK.out _ _ (⟨HF3.out.one rfl, HN3.out.one rfl, HN3.out.one rfl⟩) (fun hHeld => ?_)
    clear hK K
    refine wpAnyH_ready (rs := [7]) (by kernel_rfl) (by simp) ?_
    refine AllReadyH.cons (o := { dst := none, op := .mapUpdate 56 (.tmp 18) (.tmp 20) (.tmp 21), type := 0, pos := "file.go:239", after := #[{ on := 3, ground := .data }, { on := 5, ground := .data }, { on := 6, ground := .data }, { on := 5, ground := .chain }, { on := 0, ground := .phase }, { on := 1, ground := .phase }, { on := 2, ground := .phase }, { on := 3, ground := .phase }, { on := 4, ground := .phase }, { on := 5, ground := .phase }, { on := 6, ground := .phase }], guard := none }) rfl (fun K hK => ?_) AllReadyH.nil
    refine step_updateS rfl _ _ _ rfl Try.underlying9 Try.underlying56 _ HM3.out name (.agg #[.slice a n c, .int .i64 sf]) rfl rfl rfl ?_; intro w4 HM4 HK4; have HF4 : Hid (Blk w4 f [.map (some r), .int .i64 S.ops, .bool S.counted, .int .i64 S.left, .bool S.off]) := HF3.out.keep HK4.out (Ne.symm hrf); have HN4 : Hid (Blk w4 N [.slice a n c, .int .i64 sf]) := HN3.out.keep HK4.out hrN
    simp only [Act.put]
    refine hK.out _ _ (⟨HF4.out.one rfl, HN4.out.one rfl, HN4.out.one rfl⟩) (fun hHeld => ?_)
    clear hK K
    refine wpAnyH_done (by kernel_rfl) ?_ _
    refine NoPanic.normal ?_
    clear hHeld
    go_end0
    refine ⟨rfl, r, HIN.out r _ ?_ HF4.out ?_ hrf, ?_⟩
    · exact HP3.out.map HK4.out
    · rw [HPM.out]; exact HM4.out
    · exact HP3.out.map HK4.out
end Go.Proofs.Ytbbooldhfcldbaa
