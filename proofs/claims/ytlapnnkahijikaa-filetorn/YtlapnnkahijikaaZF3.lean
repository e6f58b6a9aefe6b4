/- strings.Clone, bytes.Clone; file: New, Cut, Ops, Safe, put. file: begin. Rows of texts of the call's own; slices.Concat of none or one text and one; file: open. file: open. -/
import Derived.Test.YtlapnnkahijikaaZF1
import Derived.Test.YtlapnnkahijikaaZF2
namespace Go.Proofs.Ytlapnnkahijikaa
open Go.ChangeShapes Go.WideShapes Go.ChangeAt Go.RowKit Go.Lib

set_option maxHeartbeats 1000000 in
theorem sclone_any (s : ByteArray) (w : World) (hs : s.size ≤ 1000000) :
    Calls Try.prog 41 #[.string s] w fun e w' => e = .returned (.string s) ∧ Below w.heap.size w w' := by
  go_enter Try.func41, Try.ntmps41
  go_wp2_with fail
  refine (Any.stringslite_Clone Try.cloneS s w (by omega)).mono ?_
  rintro e w' ⟨rfl, hb⟩
  go_wp2_with fail
  go_ret
  exact ⟨rfl, hb⟩
theorem OwnB.lit0 (w : World) : OwnB (w.alloc (.cells #[] 5)) w.heap.size (.slice (some ⟨w.heap.size, 0, none⟩) 0 0) [] :=
  ⟨by simp, .inr ⟨w.heap.size, 0, #[], rfl, Nat.le_refl _, heap_alloc_new _ _, Nat.le_refl _, Nat.zero_le _, by simp, by simp [u8s]⟩⟩
theorem SrcB.below {w w' : World} {v : Value} {bs : List (BitVec 8)} (h : SrcB w v bs) (hb : Below w.heap.size w w') : SrcB w' v bs := by
  rcases h with h | ⟨b, o, cap, hv, hc⟩
  · exact .inl h
  · exact .inr ⟨b, o, cap, hv, fun j u hu => by
      have hl := World.block_lt_of_cell? w _ (hc j u hu)
      have := hc j u hu
      unfold World.cell? at *
      rw [hb.block b hl]; exact this⟩
set_option maxRecDepth 100000 in
set_option maxHeartbeats 1000000 in
theorem bclone_any (v : Value) (bs : List (BitVec 8)) (w : World) (h : SrcB w v bs) (hl : bs.length ≤ 50000000) :
    Calls Try.prog 31 #[v] w fun e w' => ∃ v', e = .returned v' ∧ OwnB w' w.heap.size v' bs ∧ Below w.heap.size w w' := by
  rcases h with ⟨rfl, rfl⟩ | ⟨b, o, cap, rfl, hc⟩
  · have hq : ∀ w', (binOp .eql 40 (.slice none 0 0) (.slice none 0 0)).run Try.prog w' = .ok (.bool true) w' := fun w' => Go.Lib.run_eql_slice_nil w' _ _ _ _ _ _ _ Try.underlying40
    go_enter Try.func31, Try.ntmps31
    go_wp2_with fail
    go_ret
    exact ⟨_, rfl, OwnB.nil _ _, Below.refl _ _⟩
  · have HB1 : Hid (Below w.heap.size w (w.alloc (.cells #[] 5))) := (Below.refl _ _).alloc (Nat.le_refl _) _
    have HO1 : Hid (OwnB (w.alloc (.cells #[] 5)) w.heap.size (.slice (some ⟨w.heap.size, 0, none⟩) 0 0) []) := OwnB.lit0 w
    have HS1 : Hid (SrcB (w.alloc (.cells #[] 5)) (.slice (some ⟨b, o, none⟩) bs.length cap) bs) := SrcB.below (.inr ⟨b, o, cap, rfl, hc⟩) HB1.out
    clear hc
    have hq : ∀ w', (binOp .eql 40 (.slice (some ⟨b, o, none⟩) bs.length cap) (.slice none 0 0)).run Try.prog w' = .ok (.bool false) w' := fun w' => Go.Lib.run_eql_slice_nil w' _ _ _ _ _ _ _ Try.underlying40
    generalize hn : bs.length = n at *
    go_enter Try.func31, Try.ntmps31
    go_wp2_with (at_builtin; refine wpList_append_b rfl _ _ rfl w.heap.size _ [] rfl HO1.out _ bs rfl HS1.out (by simp; omega) (by simp) ?_; intro v4 w4 HO4 HG4 HM4; rw [List.nil_append] at HO4; obtain ⟨a4, cap4, rfl⟩ := HO4.out.shape)
    go_ret
    refine ⟨.slice a4 n cap4, rfl, by rw [← hn]; exact HO4.out, ?_⟩
    · exact HB1.out.grown HG4.out (by simp) fun k hk => by
        have hk' : some w.heap.size = some k := hk
        injection hk' with hk'
        omega
/-- No files yet. -/
def FS.zero : FS := ⟨none, [], 0, false, 0, false⟩
set_option maxHeartbeats 1000000 in
theorem new_any (w : World) :
    Calls Try.prog 7 #[] w fun e w' => e = .returned (.pointer (some ⟨w.heap.size, 0, none⟩)) ∧ FsAt w' w.heap.size FS.zero ∧ Below w.heap.size w w' ∧ w'.heap.size = w.heap.size + 1 := by
  go_enter Try.func7, Try.ntmps7
  go_wp2_with fail
  go_ret
  exact ⟨rfl, FsAt.new w _, (Below.refl _ _).alloc (Nat.le_refl _) _, by simp⟩
set_option maxHeartbeats 1000000 in
theorem cut_any (f : Nat) (S : FS) (n : Int) (w : World) (h : FsAt w f S) :
    Calls Try.prog 25 #[.pointer (some ⟨f, 0, none⟩), .int .i64 n] w fun e w' => e = .returned (.tuple #[]) ∧ FsAt w' f { S with counted := true, left := n } ∧ Grown f S { S with counted := true, left := n } w w' ∧ w'.heap.size = w.heap.size := by
  have H : Hid (∀ w', Keep f w w' → Blk w' f (FS.cs { S with counted := true, left := n }) → FsAt w' f { S with counted := true, left := n } ∧ Grown f S { S with counted := true, left := n } w w') := fun w' k hb => h.head k hb rfl rfl
  have HB : Hid (Blk w f S.cs) := h.blk
  clear h
  have c2 : w.cell? ⟨f, 2, none⟩ = some (.bool S.counted) := HB.out.one rfl
  have g2 : w.frozen? ⟨f, 2, none⟩ = false := HB.out.frozen 2
  have c3 : (w.setCell ⟨f, 2, none⟩ (.bool true)).cell? ⟨f, 3, none⟩ = some (.int .i64 S.left) := (HB.out.set 2 _).one rfl
  have g3 : (w.setCell ⟨f, 2, none⟩ (.bool true)).frozen? ⟨f, 3, none⟩ = false := (HB.out.set 2 _).frozen 3
  go_enter Try.func25, Try.ntmps25
  go_wp2_with fail
  go_end0
  obtain ⟨h1, h2⟩ := H.out _ (((Keep.refl _ _).setCell 2 (.bool true)).setCell 3 (.int .i64 n)) ((HB.out.set 2 _).set 3 _)
  exact ⟨rfl, h1, h2, by simp⟩
set_option maxHeartbeats 1000000 in
theorem ops_any (f : Nat) (S : FS) (w : World) (h : FsAt w f S) :
    Calls Try.prog 26 #[.pointer (some ⟨f, 0, none⟩)] w fun e w' => e = .returned (.int .i64 S.ops) ∧ w' = w := by
  have c1 : w.cell? ⟨f, 1, none⟩ = some (.int .i64 S.ops) := h.blk.one rfl
  clear h
  go_enter Try.func26, Try.ntmps26
  go_wp2_with fail
  go_ret
  exact ⟨rfl, rfl⟩
def safeOf (o : Option Fl) : Int := match o with | none => -1 | some f => f.safe
theorem alook_L (S : FS) (name : ByteArray) : alook name S.L = (alook name S.es).map Prod.snd := alook_map _ _ _
theorem FsAt.found {w : World} {f : Nat} {S : FS} (h : FsAt w f S) (name : ByteArray) {p : Value × Fl} (hp : alook name S.es = some p) : ∃ a c, p = (.slice a p.2.b.length c, p.2) ∧ OwnB w 0 (.slice a p.2.b.length c) p.2.b := by
  have := (h.row (name, p) (mem_of_alook hp)).1
  obtain ⟨a, c, hv⟩ := this.shape
  simp only at this hv
  exact ⟨a, c, by rw [← hv], by rw [← hv]; exact this⟩
set_option maxRecDepth 100000 in
set_option maxHeartbeats 1000000 in
theorem safe_any (f : Nat) (S : FS) (name : ByteArray) (w : World) (h : FsAt w f S) :
    Calls Try.prog 15 #[.pointer (some ⟨f, 0, none⟩), .string name] w fun e w' => e = .returned (.int .i64 (safeOf (alook name S.L))) ∧ Below w.heap.size w w' := by
  rw [alook_L]
  have HF : Hid (Calls Try.prog 33 #[.pointer (some ⟨f, 0, none⟩), .string name] w fun e w' => e = .returned (found (alook name S.es)) ∧ Below w.heap.size w w') := find_any f S name w h
  cases ha : alook name S.es with
  | none =>
    rw [ha] at HF
    have HV : Hid (found none = .tuple #[.agg #[.slice none 0 0, .int .i64 0], .bool false]) := show _ = _ from rfl
    clear h ha
    go_enter Try.func15, Try.ntmps15
    go_wp2_with fail
    refine wp_scope_hops 1 ?_
    go_hide hQ
    go_wp2_with fail
    refine Calls.mono HF.out ?_
    rintro e w1 ⟨rfl, hb1⟩
    rw [HV.out]
    go_wp2_with fail
    go_step3
    simp only [Exit.then]
    subst hQ
    rw [hops_goto]
    refine ⟨_, rfl, ?_⟩
    go_hide hQ
    go_wp2_with fail
    subst hQ
    rw [hops_ret]
    go_ret
    exact ⟨rfl, hb1.alloc hb1.size _⟩
  | some p =>
    obtain ⟨a, c, hp, _⟩ := h.found name ha
    rw [ha, hp] at HF
    generalize p.2 = fl at *
    have HV : Hid (found (some (.slice a fl.b.length c, fl)) = .tuple #[.agg #[.slice a fl.b.length c, .int .i64 (fl.safe : Int)], .bool true]) := show _ = _ from rfl
    have HR : Hid (safeOf (Option.map Prod.snd (some p)) = (fl.safe : Int)) := by rw [hp]; rfl
    rw [HR.out]
    clear h ha hp HR
    generalize fl.b.length = n at *
    go_enter Try.func15, Try.ntmps15
    go_wp2_with fail
    refine wp_scope_hops 1 ?_
    go_hide hQ
    go_wp2_with fail
    refine Calls.mono HF.out ?_
    rintro e w1 ⟨rfl, hb1⟩
    rw [HV.out]
    go_wp2_with fail
    subst hQ
    rw [hops_ret]
    go_ret
    exact ⟨rfl, hb1.alloc hb1.size _⟩

/-- What put changes: the map, and, if there was none, the head. -/
structure Put (f : Nat) (S : FS) (r : Nat) (w w' : World) : Prop where
  os : w'.os = w.os
  tape : w'.tape = w.tape
  output : w'.output = w.output
  size : w.heap.size ≤ w'.heap.size
  block : ∀ k, k < w.heap.size → k ≠ f → S.m ≠ some k → w'.heap[k]? = w.heap[k]?
  place : S.m = some r ∨ w.heap.size ≤ r
theorem Put.then {f : Nat} {S : FS} {r : Nat} {w w' w'' : World} (h : Put f S r w w') (k : Below w'.heap.size w' w'') : Put f S r w w'' :=
  ⟨k.os.trans h.os, k.tape.trans h.tape, k.output.trans h.output, Nat.le_trans h.size k.size, fun i hi hf hm => (k.block i (Nat.lt_of_lt_of_le hi h.size)).trans (h.block i hi hf hm), h.place⟩
theorem Put.map {f : Nat} {S : FS} {r : Nat} {w w' w'' : World} (h : Put f S r w w') (k : Keep r w' w'') : Put f S r w w'' :=
  ⟨k.os.trans h.os, k.tape.trans h.tape, k.output.trans h.output, Nat.le_trans h.size k.size, fun i hi hf hm => (k.block i (Nat.lt_of_lt_of_le hi h.size) fun e => by
    subst e
    rcases h.place with e | e
    · exact hm e
    · omega).trans (h.block i hi hf hm), h.place⟩
theorem pairwise_put {name : ByteArray} {v : Value × Fl} : ∀ {es : List (ByteArray × (Value × Fl))} (_ : es.Pairwise fun p q => ∀ k, p.2.1.ownBlock = some k → q.2.1.ownBlock ≠ some k)
    (_ : (es.map Prod.fst).Nodup) (_ : ∀ k, v.1.ownBlock = some k → ∀ p ∈ es, p.1 ≠ name → p.2.1.ownBlock ≠ some k), (aput name v es).Pairwise fun p q => ∀ k, p.2.1.ownBlock = some k → q.2.1.ownBlock ≠ some k := by
  intro es
  induction es with
  | nil => intro _ _ _; exact List.pairwise_singleton _ _
  | cons p es ih =>
    intro h hn hv
    rw [List.pairwise_cons] at h
    rw [List.map_cons, List.nodup_cons] at hn
    unfold aput
    split
    · rename_i e
      rw [List.pairwise_cons]
      refine ⟨fun q hq k hk => hv k hk q (List.mem_cons_of_mem _ hq) fun e' => hn.1 ?_, h.2⟩
      rw [← e, ← e']
      exact List.mem_map.2 ⟨q, hq, rfl⟩
    · rename_i e
      rw [List.pairwise_cons]
      refine ⟨fun q hq k hk hk' => ?_, ih h.2 hn.2 fun k hk q hq => hv k hk q (List.mem_cons_of_mem _ hq)⟩
      rcases mem_put hq with rfl | ⟨hq, _⟩
      · exact hv k hk' p (List.mem_cons_self ..) (fun e' => e e'.symm) hk
      · exact h.1 q hq k hk hk'
theorem FsAt.putIn {w w' : World} {f r : Nat} {S : FS} {name : ByteArray} {v : Value} {fl : Fl} (h : FsAt w f S) (hp : Put f S r w w') (hb : Blk w' f (FS.cs { S with m := some r, es := aput name (v, fl) S.es })) (hm : MapS w' r ((aput name (v, fl) S.es).map (onB cellOf)))
    (hrf : r ≠ f) (hv : OwnB w 0 v fl.b) (hk : ∀ k, v.ownBlock = some k → k ≠ f ∧ S.m ≠ some k ∧ ∀ p ∈ S.es, p.1 ≠ name → p.2.1.ownBlock ≠ some k) (hfit : fl.safe ≤ fl.b.length ∧ fl.b.length ≤ 16777216) :
    FsAt w' f { S with m := some r, es := aput name (v, fl) S.es } := by
  have hne : ∀ k, k < w.heap.size → S.m ≠ some k → some r ≠ some k := fun k hk hs e => by
    injection e with e
    subst e
    rcases hp.place with e | e
    · exact hs e
    · omega
  refine ⟨hb, (fun e => by cases e), (fun r' hr' => by simp only [Option.some.injEq] at hr'; subst hr'; exact ⟨hrf, hm⟩), fun p hp' => ?_, pairwise_put h.apart h.nodup fun k hk' p hp' hne' => (hk k hk').2.2 p hp' hne', fun p hp' => ?_⟩
  · rcases mem_put hp' with rfl | ⟨hp', _⟩
    · refine ⟨hv.same fun k hk' => hp.block k (hv.lt k hk').2 (hk k hk').1 (hk k hk').2.1, fun k hk' => ⟨(hk k hk').1, hne k (hv.lt k hk').2 (hk k hk').2.1⟩⟩
    · obtain ⟨ho, hb'⟩ := h.row p hp'
      exact ⟨ho.same fun k hk' => hp.block k (ho.lt k hk').2 (hb' k hk').1 (hb' k hk').2, fun k hk' => ⟨(hb' k hk').1, hne k (ho.lt k hk').2 (hb' k hk').2⟩⟩
  · rcases mem_put hp' with rfl | ⟨hp', _⟩
    · exact hfit
    · exact h.fits p hp'
set_option maxRecDepth 100000 in
set_option maxHeartbeats 2000000 in
theorem fput_any (f : Nat) (S : FS) (name : ByteArray) (a : Option Addr) (n c : Nat) (fl : Fl) (sf : Int) (w : World) (h : FsAt w f S) (hn : name.size ≤ 1000) (hv : OwnB w 0 (.slice a n c) fl.b) (hsf : sf = fl.safe)
    (hk : ∀ k, (Value.slice a n c).ownBlock = some k → k ≠ f ∧ S.m ≠ some k ∧ ∀ p ∈ S.es, p.1 ≠ name → p.2.1.ownBlock ≠ some k) (hfit : fl.safe ≤ fl.b.length ∧ fl.b.length ≤ 16777216) :
    Calls Try.prog 30 #[.pointer (some ⟨f, 0, none⟩), .string name, .agg #[.slice a n c, .int .i64 sf]] w fun e w' => e = .returned (.tuple #[]) ∧ ∃ r, FsAt w' f { S with m := some r, es := aput name (.slice a n c, fl) S.es } ∧ Put f S r w w' := by
  have HMO : Hid (Try.prog.follows .mixedOrders = true) := show _ = _ by kernel_rfl
  have HFS : Hid (FsAt w f S) := h
  have hff := h.blk.lt
  have HIN : Hid (∀ r w', Put f S r w w' → Blk w' f (FS.cs { S with m := some r, es := aput name (.slice a n c, fl) S.es }) → MapS w' r ((aput name (.slice a n c, fl) S.es).map (onB cellOf)) → r ≠ f → FsAt w' f { S with m := some r, es := aput name (.slice a n c, fl) S.es }) :=
    fun r w' hp hb hm hrf => h.putIn hp hb hm hrf hv hk hfit
  have HPM : Hid ((aput name (.slice a n c, fl) S.es).map (onB cellOf) = aput name (.agg #[.slice a n c, .int .i64 sf]) (S.es.map (onB cellOf))) := show _ = _ by rw [aput_map, hsf]; rfl
  have HC : Hid ((S.m = none ∧ S.es = []) ∨ ∃ r, S.m = some r ∧ r ≠ f ∧ MapS w r (S.es.map (onB cellOf))) := by
    cases hm : S.m with
    | none => exact .inl ⟨rfl, h.bare hm⟩
    | some r => exact .inr ⟨r, rfl, (h.map r hm).1, (h.map r hm).2⟩
  clear hv hk hfit hsf
  go_enter Try.func30, Try.ntmps30
  go_upto_region 1 with fail
  generalize hw1 : World.alloc w _ = w1
  have HN1 : Hid (Blk w1 w.heap.size [.slice a n c, .int .i64 sf]) := by rw [← hw1]; exact Blk.mk _ _ _ rfl rfl
  have HB1 : Hid (Below w.heap.size w w1) := by rw [← hw1]; exact (Below.refl _ _).alloc (Nat.le_refl _) _
  have HF1 : Hid (Blk w1 f S.cs) := h.blk.below HB1.out hff
  clear hw1 h
  generalize hN : w.heap.size = N at *
  have hN1 : N < w1.heap.size := HN1.out.lt
  have c0 : w1.cell? ⟨f, 0, none⟩ = some (.map S.m) := HF1.out.one rfl
  have g0 : w1.frozen? ⟨f, 0, none⟩ = false := HF1.out.frozen 0
  rcases HC.out with ⟨hm, he⟩ | ⟨r, hm, hrf, hM⟩
  · rw [hm] at c0
    have hmm := @run_makeMap Try.prog
    have hq : ∀ w', (binOp .eql 45 (.map none) (.map none)).run Try.prog w' = .ok (.bool true) w' := fun w' => run_eql_map_nil w' _ _ _ none Try.underlying45
    have c0' : (w1.alloc (.map #[] 0)).cell? ⟨f, 0, none⟩ = some (.map none) := by have := (HF1.out.alloc (.map #[] 0)).one (i := 0) rfl; rw [hm] at this; exact this
    have g0' : (w1.alloc (.map #[] 0)).frozen? ⟨f, 0, none⟩ = false := (HF1.out.alloc _).frozen 0
    go_upto_region 3 with fail
    generalize hw2 : World.setCell (World.alloc w1 _) _ _ = w2
    obtain ⟨r, hr⟩ : ∃ r, r = w1.heap.size := ⟨_, rfl⟩
    rw [← hr] at hw2
    have hrf : r ≠ f := by omega
    have hrN : N ≠ r := by omega
    have HF2 : Hid (Blk w2 f [.map (some r), .int .i64 S.ops, .bool S.counted, .int .i64 S.left, .bool S.off]) := by rw [← hw2]; exact (HF1.out.alloc _).set 0 _
    have HN2 : Hid (Blk w2 N [.slice a n c, .int .i64 sf]) := by rw [← hw2]; exact (HN1.out.alloc _).other (by simp only [ne_eq]; omega) _
    have HM2 : Hid (MapS w2 r (S.es.map (onB cellOf))) := by
      rw [← hw2, he]
      refine MapS.same (w := w1.alloc (.map #[] 0)) (hr ▸ MapS.new w1) ?_
      exact Below.heap_setCell _ _ _ _ (by simp only [ne_eq]; omega)
    have HP2 : Hid (Put f S r w w2) := by
      rw [← hw2]
      refine ⟨HB1.out.os, HB1.out.tape, HB1.out.output, by simp; have := HB1.out.size; omega, fun k hk hkf _ => ?_, .inr (by omega)⟩
      rw [Below.heap_setCell _ _ _ _ (by simp only [ne_eq]; exact hkf), Below.heap_alloc _ _ k (by omega), HB1.out.block k (by omega)]
    clear hw2 c0 c0' g0 g0' hq hmm HF1 HN1 HC hm he hr hN1
    refine wp_region_noPanic ?_
    refine wp_region_held_drew (S := fun w' => w'.cell? ⟨f, 0, none⟩ = some (.map (some r)) ∧ w'.cell? ⟨N, 0, none⟩ = some (.slice a n c) ∧ w'.cell? ⟨N, 1, none⟩ = some (.int .i64 sf)) HMO.out (⟨HF2.out.drew.one rfl, HN2.out.drew.one rfl, HN2.out.drew.one rfl⟩) (fun hHeld => ?_)
    refine wpAnyH_take (i := 0) (oi := { dst := some 15, op := .move (.tmp 0), type := 25, pos := "file.go:239", after := #[], guard := none }) (v := ?_) rfl (by kernel_rfl) (by kernel_rfl) (by kernel_rfl) (fun _ _ _ h => h) (Or.inl ⟨by rfl, ?_⟩) (by assumption) ?_
    rotate_left
    · intro _ _; go_simp; first | done | with_reducible rfl
    simp only [Act.put, List.setIfInBounds_toArray, List.set_cons_zero, List.set_cons_succ]
    refine wpAnyH_take (i := 1) (oi := { dst := some 16, op := .nilCheck (.tmp 15), type := 0, pos := "file.go:239", after := #[{ on := 0, ground := .data }], guard := none }) (v := ?_) rfl (by kernel_rfl) (by kernel_rfl) (by kernel_rfl) (fun _ _ _ h => h) (Or.inl ⟨by rfl, ?_⟩) (by assumption) ?_
    rotate_left
    · intro _ _; go_simp; first | done | with_reducible rfl
    simp only [Act.put, List.setIfInBounds_toArray, List.set_cons_zero, List.set_cons_succ]
    refine wpAnyH_take (i := 2) (oi := { dst := some 17, op := .fieldAddr 47 (.tmp 16) 0, type := 0, pos := "file.go:239", after := #[{ on := 1, ground := .data }], guard := none }) (v := ?_) rfl (by kernel_rfl) (by kernel_rfl) (by kernel_rfl) (fun _ _ _ h => h) (Or.inl ⟨by rfl, ?_⟩) (by assumption) ?_
    rotate_left
    · intro _ _; go_simp; first | done | with_reducible rfl
    simp only [Act.put, List.setIfInBounds_toArray, List.set_cons_zero, List.set_cons_succ]
    refine wpAnyH_take (i := 3) (oi := { dst := some 18, op := .load 45 (.tmp 17), type := 45, pos := "file.go:239", after := #[{ on := 2, ground := .data }], guard := none }) (v := .map (some r)) rfl (by kernel_rfl) (by kernel_rfl) (by kernel_rfl) (fun _ _ _ h => h) (Or.inl ⟨by rfl, ?_⟩) (by assumption) ?_
    · intro _ _; rename_i wz hz; have cz := hz.1; go_simp
    simp only [Act.put, List.setIfInBounds_toArray, List.set_cons_zero, List.set_cons_succ]
    refine wpAnyH_take (i := 4) (oi := { dst := some 19, op := .move (.tmp 1), type := 9, pos := "file.go:239", after := #[], guard := none }) (v := ?_) rfl (by kernel_rfl) (by kernel_rfl) (by kernel_rfl) (fun _ _ _ h => h) (Or.inl ⟨by rfl, ?_⟩) (by assumption) ?_
    rotate_left
    · intro _ _; go_simp; first | done | with_reducible rfl
    simp only [Act.put, List.setIfInBounds_toArray, List.set_cons_zero, List.set_cons_succ]
    refine wpAnyH_take (i := 6) (oi := { dst := some 21, op := .load 64 (.tmp 5), type := 64, pos := "file.go:239", after := #[], guard := none }) (v := .agg #[.slice a n c, .int .i64 sf]) rfl (by kernel_rfl) (by kernel_rfl) (by kernel_rfl) (fun _ _ _ h => h) (Or.inl ⟨by rfl, ?_⟩) (by assumption) ?_
    · intro _ _; rename_i wz hz; have cz := hz.2.1; have cy := hz.2.2; go_simp
    simp only [Act.put, List.setIfInBounds_toArray, List.set_cons_zero, List.set_cons_succ]
    refine wpAnyH_ready (rs := [5]) (by kernel_rfl) (by simp) ?_
    refine AllReadyH.cons (o := { dst := some 20, op := .call { callee := .value (.func 41), args := #[.tmp 19], argTypes := #[9] }, type := 9, pos := "file.go:239", after := #[{ on := 4, ground := .data }], guard := none }) rfl (fun K hK => ?_) AllReadyH.nil
    go_simp
    refine (sclone_any name _ (by omega)).mono ?_; rintro e w3 ⟨rfl, hb3⟩; have hb3' := below_undrew hb3; have HF3 : Hid (Blk w3 f [.map (some r), .int .i64 S.ops, .bool S.counted, .int .i64 S.left, .bool S.off]) := HF2.out.below hb3' HF2.out.lt; have HN3 : Hid (Blk w3 N [.slice a n c, .int .i64 sf]) := HN2.out.below hb3' HN2.out.lt; have HM3 : Hid (MapS w3 r (S.es.map (onB cellOf))) := HM2.out.same (hb3'.block r HM2.out.lt); have HP3 : Hid (Put f S r w w3) := HP2.out.then hb3'; clear hb3 hb3'
    go_simp
    refine hK.out _ _ (⟨HF3.out.one rfl, HN3.out.one rfl, HN3.out.one rfl⟩) (fun hHeld => ?_)
    clear hK K
    refine wpAnyH_ready (rs := [7]) (by kernel_rfl) (by simp) ?_
    refine AllReadyH.cons (o := { dst := none, op := .mapUpdate 45 (.tmp 18) (.tmp 20) (.tmp 21), type := 0, pos := "file.go:239", after := #[{ on := 3, ground := .data }, { on := 5, ground := .data }, { on := 6, ground := .data }, { on := 5, ground := .chain }, { on := 0, ground := .phase }, { on := 1, ground := .phase }, { on := 2, ground := .phase }, { on := 3, ground := .phase }, { on := 4, ground := .phase }, { on := 5, ground := .phase }, { on := 6, ground := .phase }], guard := none }) rfl (fun K hK => ?_) AllReadyH.nil
    refine step_updateS rfl _ _ _ rfl Try.underlying9 Try.underlying45 _ HM3.out name (.agg #[.slice a n c, .int .i64 sf]) rfl rfl rfl ?_; intro w4 HM4 HK4; have HF4 : Hid (Blk w4 f [.map (some r), .int .i64 S.ops, .bool S.counted, .int .i64 S.left, .bool S.off]) := HF3.out.keep HK4.out (Ne.symm hrf); have HN4 : Hid (Blk w4 N [.slice a n c, .int .i64 sf]) := HN3.out.keep HK4.out hrN
    simp only [Act.put]
    refine hK.out _ _ (⟨HF4.out.one rfl, HN4.out.one rfl, HN4.out.one rfl⟩) (fun hHeld => ?_)
    clear hK K
    refine wpAnyH_done (by kernel_rfl) ?_ _
    refine NoPanic.normal ?_
    clear hHeld
    go_end0
    refine ⟨rfl, r, HIN.out r _ ?_ HF4.out ?_ hrf, ?_⟩
    · exact HP3.out.map HK4.out
    · rw [HPM.out]; exact HM4.out
    · exact HP3.out.map HK4.out
  · rw [hm] at c0
    have hq : ∀ w', (binOp .eql 45 (.map (some r)) (.map none)).run Try.prog w' = .ok (.bool false) w' := fun w' => run_eql_map_nil w' _ _ _ (some r) Try.underlying45
    have hrl := hM.lt
    have hrN : N ≠ r := by omega
    have HF2 : Hid (Blk w1 f [.map (some r), .int .i64 S.ops, .bool S.counted, .int .i64 S.left, .bool S.off]) := hm ▸ HF1.out
    have HN2 : Hid (Blk w1 N [.slice a n c, .int .i64 sf]) := HN1.out
    have HM2 : Hid (MapS w1 r (S.es.map (onB cellOf))) := hM.same (HB1.out.block r (by omega))
    have HP2 : Hid (Put f S r w w1) := ⟨HB1.out.os, HB1.out.tape, HB1.out.output, HB1.out.size, fun k hk _ _ => HB1.out.block k (by omega), .inl hm⟩
    clear HF1 HN1 HC hM
    generalize hw2 : w1 = w2 at *
    go_upto_region 3 with fail
    clear c0 g0 hq hm
    refine wp_region_noPanic ?_
    refine wp_region_held_drew (S := fun w' => w'.cell? ⟨f, 0, none⟩ = some (.map (some r)) ∧ w'.cell? ⟨N, 0, none⟩ = some (.slice a n c) ∧ w'.cell? ⟨N, 1, none⟩ = some (.int .i64 sf)) HMO.out (⟨HF2.out.drew.one rfl, HN2.out.drew.one rfl, HN2.out.drew.one rfl⟩) (fun hHeld => ?_)
    refine wpAnyH_take (i := 0) (oi := { dst := some 15, op := .move (.tmp 0), type := 25, pos := "file.go:239", after := #[], guard := none }) (v := ?_) rfl (by kernel_rfl) (by kernel_rfl) (by kernel_rfl) (fun _ _ _ h => h) (Or.inl ⟨by rfl, ?_⟩) (by assumption) ?_
    rotate_left
    · intro _ _; go_simp; first | done | with_reducible rfl
    simp only [Act.put, List.setIfInBounds_toArray, List.set_cons_zero, List.set_cons_succ]
    refine wpAnyH_take (i := 1) (oi := { dst := some 16, op := .nilCheck (.tmp 15), type := 0, pos := "file.go:239", after := #[{ on := 0, ground := .data }], guard := none }) (v := ?_) rfl (by kernel_rfl) (by kernel_rfl) (by kernel_rfl) (fun _ _ _ h => h) (Or.inl ⟨by rfl, ?_⟩) (by assumption) ?_
    rotate_left
    · intro _ _; go_simp; first | done | with_reducible rfl
    simp only [Act.put, List.setIfInBounds_toArray, List.set_cons_zero, List.set_cons_succ]
    refine wpAnyH_take (i := 2) (oi := { dst := some 17, op := .fieldAddr 47 (.tmp 16) 0, type := 0, pos := "file.go:239", after := #[{ on := 1, ground := .data }], guard := none }) (v := ?_) rfl (by kernel_rfl) (by kernel_rfl) (by kernel_rfl) (fun _ _ _ h => h) (Or.inl ⟨by rfl, ?_⟩) (by assumption) ?_
    rotate_left
    · intro _ _; go_simp; first | done | with_reducible rfl
    simp only [Act.put, List.setIfInBounds_toArray, List.set_cons_zero, List.set_cons_succ]
    refine wpAnyH_take (i := 3) (oi := { dst := some 18, op := .load 45 (.tmp 17), type := 45, pos := "file.go:239", after := #[{ on := 2, ground := .data }], guard := none }) (v := .map (some r)) rfl (by kernel_rfl) (by kernel_rfl) (by kernel_rfl) (fun _ _ _ h => h) (Or.inl ⟨by rfl, ?_⟩) (by assumption) ?_
    · intro _ _; rename_i wz hz; have cz := hz.1; go_simp
    simp only [Act.put, List.setIfInBounds_toArray, List.set_cons_zero, List.set_cons_succ]
    refine wpAnyH_take (i := 4) (oi := { dst := some 19, op := .move (.tmp 1), type := 9, pos := "file.go:239", after := #[], guard := none }) (v := ?_) rfl (by kernel_rfl) (by kernel_rfl) (by kernel_rfl) (fun _ _ _ h => h) (Or.inl ⟨by rfl, ?_⟩) (by assumption) ?_
    rotate_left
    · intro _ _; go_simp; first | done | with_reducible rfl
    simp only [Act.put, List.setIfInBounds_toArray, List.set_cons_zero, List.set_cons_succ]
    refine wpAnyH_take (i := 6) (oi := { dst := some 21, op := .load 64 (.tmp 5), type := 64, pos := "file.go:239", after := #[], guard := none }) (v := .agg #[.slice a n c, .int .i64 sf]) rfl (by kernel_rfl) (by kernel_rfl) (by kernel_rfl) (fun _ _ _ h => h) (Or.inl ⟨by rfl, ?_⟩) (by assumption) ?_
    · intro _ _; rename_i wz hz; have cz := hz.2.1; have cy := hz.2.2; go_simp
    simp only [Act.put, List.setIfInBounds_toArray, List.set_cons_zero, List.set_cons_succ]
    refine wpAnyH_ready (rs := [5]) (by kernel_rfl) (by simp) ?_
    refine AllReadyH.cons (o := { dst := some 20, op := .call { callee := .value (.func 41), args := #[.tmp 19], argTypes := #[9] }, type := 9, pos := "file.go:239", after := #[{ on := 4, ground := .data }], guard := none }) rfl (fun K hK => ?_) AllReadyH.nil
    go_simp
    refine (sclone_any name _ (by omega)).mono ?_; rintro e w3 ⟨rfl, hb3⟩; have hb3' := below_undrew hb3; have HF3 : Hid (Blk w3 f [.map (some r), .int .i64 S.ops, .bool S.counted, .int .i64 S.left, .bool S.off]) := HF2.out.below hb3' HF2.out.lt; have HN3 : Hid (Blk w3 N [.slice a n c, .int .i64 sf]) := HN2.out.below hb3' HN2.out.lt; have HM3 : Hid (MapS w3 r (S.es.map (onB cellOf))) := HM2.out.same (hb3'.block r HM2.out.lt); have HP3 : Hid (Put f S r w w3) := HP2.out.then hb3'; clear hb3 hb3'
    go_simp
    refine hK.out _ _ (⟨HF3.out.one rfl, HN3.out.one rfl, HN3.out.one rfl⟩) (fun hHeld => ?_)
    clear hK K
    refine wpAnyH_ready (rs := [7]) (by kernel_rfl) (by simp) ?_
    refine AllReadyH.cons (o := { dst := none, op := .mapUpdate 45 (.tmp 18) (.tmp 20) (.tmp 21), type := 0, pos := "file.go:239", after := #[{ on := 3, ground := .data }, { on := 5, ground := .data }, { on := 6, ground := .data }, { on := 5, ground := .chain }, { on := 0, ground := .phase }, { on := 1, ground := .phase }, { on := 2, ground := .phase }, { on := 3, ground := .phase }, { on := 4, ground := .phase }, { on := 5, ground := .phase }, { on := 6, ground := .phase }], guard := none }) rfl (fun K hK => ?_) AllReadyH.nil
    refine step_updateS rfl _ _ _ rfl Try.underlying9 Try.underlying45 _ HM3.out name (.agg #[.slice a n c, .int .i64 sf]) rfl rfl rfl ?_; intro w4 HM4 HK4; have HF4 : Hid (Blk w4 f [.map (some r), .int .i64 S.ops, .bool S.counted, .int .i64 S.left, .bool S.off]) := HF3.out.keep HK4.out (Ne.symm hrf); have HN4 : Hid (Blk w4 N [.slice a n c, .int .i64 sf]) := HN3.out.keep HK4.out hrN
    simp only [Act.put]
    refine hK.out _ _ (⟨HF4.out.one rfl, HN4.out.one rfl, HN4.out.one rfl⟩) (fun hHeld => ?_)
    clear hK K
    refine wpAnyH_done (by kernel_rfl) ?_ _
    refine NoPanic.normal ?_
    clear hHeld
    go_end0
    refine ⟨rfl, r, HIN.out r _ ?_ HF4.out ?_ hrf, ?_⟩
    · exact HP3.out.map HK4.out
    · rw [HPM.out]; exact HM4.out
    · exact HP3.out.map HK4.out
end Go.Proofs.Ytlapnnkahijikaa
namespace Go.Proofs.Ytlapnnkahijikaa
open Go.ChangeShapes Go.WideShapes Go.ChangeAt Go.RowKit Go.Lib

def nameOK (s : ByteArray) : Bool := decide (1 ≤ s.size) && decide (s.size ≤ 50)
/-- What begin tells. -/
def begE (S : FS) (l : List ByteArray) : Int := if S.pow.off = true then 7 else if l.all nameOK = true then 0 else 1
theorem allN_false {l : List ByteArray} {k : Nat} (hk : k < l.length) (hf : nameOK (l.getD k ByteArray.empty) = false) : l.all nameOK = false := by
  rw [List.all_eq_false]
  refine ⟨l.getD k ByteArray.empty, ?_, by rw [hf]; simp⟩
  rw [List.getD_eq_getElem?_getD, List.getElem?_eq_getElem hk]
  exact List.getElem_mem hk
theorem allN_true {l : List ByteArray} (h : ∀ j, j < l.length → nameOK (l.getD j ByteArray.empty) = true) : l.all nameOK = true := by
  rw [List.all_eq_true]
  intro x hx
  obtain ⟨j, hj, rfl⟩ := List.getElem_of_mem hx
  have := h j hj
  rwa [List.getD_eq_getElem?_getD, List.getElem?_eq_getElem hj] at this
set_option maxRecDepth 100000 in
set_option maxHeartbeats 2000000 in
theorem fbegin_any (f : Nat) (S : FS) (b n cap : Nat) (l : List ByteArray) (w : World) (h : FsAt w f S) (hs : S.Sane) (hl : l.length = n) (hn : n ≤ 1000) (hc : ∀ j x, l[j]? = some x → w.cell? ⟨b, j, none⟩ = some (.string x)) (hb : ¬ S.foot f b) :
    Calls Try.prog 32 #[.pointer (some ⟨f, 0, none⟩), .slice (some ⟨b, 0, none⟩) n cap] w fun e w' => e = .returned (.int .i64 (begE S l)) ∧ FsAt w' f S.pow ∧ Grown f S S.pow w w' := by
  have HPW : Hid (Calls Try.prog 42 #[.pointer (some ⟨f, 0, none⟩)] w fun e w' => e = .returned (.bool (!S.pow.off)) ∧ FsAt w' f S.pow ∧ Grown f S S.pow w w') := powered_any f S w h hs
  have HC : Hid (∀ w', Grown f S S.pow w w' → ∀ j x, l[j]? = some x → w'.cell? ⟨b, j, none⟩ = some (.string x)) := fun w' hg j x hx => by
    have hl := World.block_lt_of_cell? w _ (hc j x hx)
    have := hc j x hx
    unfold World.cell? at *
    rw [hg.block b hl hb]; exact this
  have HE : Hid (begE S l = if S.pow.off = true then 7 else if l.all nameOK = true then 0 else 1) := show _ = _ from rfl
  clear h hc hb hs
  generalize begE S l = E at *
  obtain ⟨T, hT⟩ : ∃ T, T = S.pow := ⟨_, rfl⟩
  rw [← hT] at HPW HC HE ⊢
  clear hT
  go_enter Try.func32, Try.ntmps32
  go_wp2_with fail
  refine wp_scope_hops 1 ?_
  go_hide hQ
  go_wp2_with fail
  refine Calls.mono HPW.out ?_
  rintro e w1 ⟨rfl, h1, hg1⟩
  have HW : Hid (FsAt w1 f T ∧ Grown f S T w w1) := ⟨h1, hg1⟩
  have HC1 : Hid (∀ j x, l[j]? = some x → w1.cell? ⟨b, j, none⟩ = some (.string x)) := HC.out w1 hg1
  clear h1 hg1 HC HPW
  cases hoff : T.off with
  | true =>
    rw [hoff] at HE
    have HE' : Hid (E = 7) := HE.out
    go_wp2_with fail
    go_step3
    simp only [Exit.then]
    subst hQ
    rw [hops_goto]
    refine ⟨_, rfl, ?_⟩
    go_hide hQ
    go_wp2_with fail
    subst hQ
    rw [hops_ret]
    go_ret
    exact ⟨ret_int HE'.out.symm, HW.out⟩
  | false =>
    rw [hoff] at HE
    go_wp2_with fail
    go_loopw [13] (fun i wr => ∃ k : Nat, k ≤ n ∧ i = .int .i64 k ∧ wr = w1 ∧ Hid (∀ j, j < k → nameOK (l.getD j ByteArray.empty) = true)) (fun i _ => n - (intOf i).toNat)
    case atStart => exact ⟨0, by omega, rfl, rfl, fun j hj => absurd hj (Nat.not_lt_zero _)⟩
    case round =>
      obtain ⟨k, hk, rfl, rfl, HALL⟩ := hrel
      by_cases hlt : k < n
      · have e0 : (0 : Int) ≤ (k : Int) := by omega
        have e1 : (k : Int) < (n : Int) := by omega
        obtain ⟨x, hx⟩ : ∃ x, x = l.getD k ByteArray.empty := ⟨_, rfl⟩
        have HX : Hid (x = l.getD k ByteArray.empty) := hx
        have ck : wr.cell? ⟨b, k, none⟩ = some (.string x) := HC1.out k x (by rw [hx, List.getD_eq_getElem?_getD, List.getElem?_eq_getElem (by omega)]; rfl)
        clear hx
        by_cases hz : x.size = 0
        · have hz' : ((x.size : Int) == 0) = true := by simp [hz]
          have HE' : Hid (E = 1) := show _ = _ by
            rw [HE.out, allN_false (k := k) (by omega) (by rw [← HX.out]; simp [nameOK, hz])]; rfl
          go_wp2_with fail
          go_step3
          subst hQ
          refine show hops _ _ _ 1 (Exit.goto 0) _ _ from ?_
          rw [hops_goto]
          refine ⟨_, rfl, ?_⟩
          go_hide hQ
          go_wp2_with fail
          subst hQ
          rw [hops_ret]
          go_ret
          exact ⟨ret_int HE'.out.symm, HW.out⟩
        · by_cases hy : x.size ≤ 50
          · have hz' : ((x.size : Int) == 0) = false := beq_eq_false_iff_ne.2 (by omega)
            have hy' : ¬ ((x.size : Int) > 50) := by omega
            have HOK : Hid (nameOK x = true) := show _ = _ by unfold nameOK; rw [decide_eq_true (by omega), decide_eq_true hy]; rfl
            go_wp2_with fail
            go_roundw
            case rel =>
              refine ⟨k + 1, by omega, by go_num, trivial, fun j hj => ?_⟩
              by_cases e : j = k
              · rw [e, ← HX.out]; exact HOK.out
              · exact HALL.out j (by omega)
            case measure => simp [intOf]; omega
          · have hz' : ((x.size : Int) == 0) = false := beq_eq_false_iff_ne.2 (by omega)
            have hy' : (x.size : Int) > 50 := by omega
            have HE' : Hid (E = 1) := show _ = _ by
              rw [HE.out, allN_false (k := k) (by omega) (by rw [← HX.out]; unfold nameOK; rw [decide_eq_false hy]; simp)]; rfl
            go_wp2_with fail
            go_step3
            subst hQ
            refine show hops _ _ _ 1 (Exit.goto 0) _ _ from ?_
            rw [hops_goto]
            refine ⟨_, rfl, ?_⟩
            go_hide hQ
            go_wp2_with fail
            subst hQ
            rw [hops_ret]
            go_ret
            exact ⟨ret_int HE'.out.symm, HW.out⟩
      · obtain rfl : k = n := by omega
        have HE' : Hid (E = 0) := show _ = _ by
          rw [HE.out, allN_true (fun j hj => HALL.out j (by omega))]; rfl
        go_wp2_with fail
        go_step3
        go_wp2_with fail
        subst hQ
        rw [hops_ret]
        go_ret
        exact ⟨ret_int HE'.out.symm, HW.out⟩
end Go.Proofs.Ytlapnnkahijikaa
namespace Go.Proofs.Ytlapnnkahijikaa
open Go.ChangeShapes Go.WideShapes Go.ChangeAt Go.RowKit Go.Lib

theorem Try.info9 : (Try.prog.info? 9).map (fun i => (i.zero, i.size, i.bytes)) = some (some (.string ByteArray.empty), 1, 16) := by kernel_rfl
theorem und9 : Try.prog.underlying 58 = some (.slice 9) := Try.underlying58
/-- A row of texts of the call's own, from block B on. -/
def OwnS (w : World) (B : Nat) (v : Value) (ss : List ByteArray) : Prop := w.ownsRow B 9 1 v ss.length (ss.map Value.string)
/-- Texts that v leads to. -/
def SrcS (w : World) (v : Value) (ss : List ByteArray) : Prop := (v = .slice none 0 0 ∧ ss = []) ∨ ∃ b cap, v = .slice (some ⟨b, 0, none⟩) ss.length cap ∧ ∀ j x, ss[j]? = some x → w.cell? ⟨b, j, none⟩ = some (.string x)
section
variable {w w' : World} {B : Nat} {v x : Value} {ss r : List ByteArray}
theorem OwnS.nil (w : World) (B : Nat) : OwnS w B (.slice none 0 0) [] := World.ownsRow_nil w B _ _
theorem OwnS.lt (h : OwnS w B v ss) : ∀ k, v.ownBlock = some k → B ≤ k ∧ k < w.heap.size := World.ownsRow.lt h
theorem OwnS.same (h : OwnS w B v ss) (hb : ∀ k, v.ownBlock = some k → w'.heap[k]? = w.heap[k]?) : OwnS w' B v ss := by
  refine ⟨h.1, ?_⟩
  rcases h.2 with hn | ⟨g, cap, cur, hv, hg, hh, rest⟩
  · exact .inl hn
  · exact .inr ⟨g, cap, cur, hv, hg, by rw [hb g (by rw [hv]; rfl)]; exact hh, rest⟩
theorem OwnS.below (h : OwnS w B v ss) (hb : Below w.heap.size w w') : OwnS w' B v ss := h.same fun k hk => hb.block k (h.lt k hk).2
theorem OwnS.less {M : Nat} (h : OwnS w B v ss) (hM : M ≤ B) : OwnS w M v ss := by
  refine ⟨h.1, ?_⟩
  rcases h.2 with hn | ⟨g, cap, cur, hv, hg, rest⟩
  · exact .inl hn
  · exact .inr ⟨g, cap, cur, hv, Nat.le_trans hM hg, rest⟩
theorem OwnS.src (h : OwnS w B v ss) : SrcS w v ss := by
  have h0 := h
  rcases h.2 with ⟨hv, hn⟩ | ⟨g, cap, cur, hv, _, hg, _⟩
  · exact .inl ⟨hv, List.eq_nil_of_length_eq_zero hn⟩
  · refine .inr ⟨g, cap, hv, fun j u hu => ?_⟩
    have := World.ownsRow.cells h0 (g := g) (by rw [hv]; rfl) j (.string u) (by rw [List.getElem?_map, hu]; rfl)
    rwa [Addr.add_mid, Nat.zero_add] at this
theorem OwnS.shape (h : OwnS w B v ss) : ∃ a cap, v = .slice a ss.length cap := by
  rcases h.src with ⟨rfl, rfl⟩ | ⟨b, cap, rfl, _⟩
  · exact ⟨_, _, rfl⟩
  · exact ⟨_, _, rfl⟩
theorem SrcS.below (h : SrcS w v ss) (hb : Below w.heap.size w w') : SrcS w' v ss := by
  rcases h with h | ⟨b, cap, hv, hc⟩
  · exact .inl h
  · exact .inr ⟨b, cap, hv, fun j u hu => by
      have hl := World.block_lt_of_cell? w _ (hc j u hu)
      have := hc j u hu
      unfold World.cell? at *
      rw [hb.block b hl]; exact this⟩
theorem run_append_s (ty : TypeId) (h : OwnS w B v ss) (hr : SrcS w x r) (hm : ss.length + r.length ≤ 100000000) (hN : B ≤ w.heap.size) :
    ∃ v' w', (Builtin.append_ #[58, 58] ty #[v, x]).run Try.prog w = .ok v' w' ∧ OwnS w' B v' (ss ++ r) ∧ w.grownBy w' v.ownBlock := by
  obtain ⟨i, hi, hi1, hi2, hi3⟩ := info_parts Try.info9
  rcases hr with ⟨rfl, rfl⟩ | ⟨b, cap, rfl, hc⟩
  · exact ⟨v, w, run_append_owned_none w B _ ty _ i 1 Try.underlying58 hi v _ _ h, by rw [List.append_nil]; exact h, ⟨rfl, rfl, rfl, Nat.le_refl _, fun _ _ _ => rfl⟩⟩
  · obtain ⟨v', w', hrun, h2, h3, _⟩ := run_append_own w B 58 ty 9 i _ 1 16 Try.underlying58 hi hi1 hi2 hi3 rfl (by omega) v ss.length (ss.map Value.string) h ⟨b, 0, none⟩ r.length cap (r.map Value.string) (by rw [List.length_map]; omega) (fun j u hu => by
        rw [List.getElem?_map] at hu
        cases hx : r[j]? with
        | none => rw [hx] at hu; cases hu
        | some y =>
          rw [hx] at hu
          simp only [Option.map_some, Option.some.injEq] at hu
          subst hu
          have e : (⟨b, 0, none⟩ : Addr).add j = ⟨b, j, none⟩ := by unfold Addr.add; split <;> simp_all
          exact (congrArg w.cell? e).trans (hc j y hx)) (fun u hu => by obtain ⟨y, _, rfl⟩ := List.mem_map.1 hu; rfl) (by unfold maxLen; omega) (by omega) hN
    refine ⟨v', w', hrun, ?_, h3⟩
    unfold OwnS
    rw [List.length_append, List.map_append]; exact h2
end
section
variable {ops : Array Oper} {o : Oper} {ac : Act} {w : World} {Q : Exit → Act → World → Prop}
theorem wpList_append_s {rest : List Oper} (hgd : o.guard = none) (s x : Operand)
    (ho : o.op = .call { callee := .builtin .append, args := #[s, x], argTypes := #[58, 58] }) (B : Nat) (v : Value) (ss : List ByteArray) (hs : ac.eval s = v) (h : OwnS w B v ss)
    (y : Value) (r : List ByteArray) (hx : ac.eval x = y) (hr : SrcS w y r) (hm : ss.length + r.length ≤ 100000000) (hN : B ≤ w.heap.size)
    (hK : ∀ v' w', Hid (OwnS w' B v' (ss ++ r)) → Hid (w.grownBy w' v.ownBlock) → wpList Try.prog ops Q rest (ac.put o.dst v') w') : wpList Try.prog ops Q (o :: rest) ac w := by
  obtain ⟨v', w', hrun, h1, h2⟩ := run_append_s o.type h hr hm hN
  refine wpList_plain hgd fun K hK' => ?_
  unfold Oper.wp execOp
  simp only [ho, resolve, invoke, builtin, Sem.run_bind, Sem.run_pure, Result.andThen_ok, List.map_toArray, List.map_cons, List.map_nil, hs, hx, hrun]
  exact hK' _ _ (hK v' w' h1 h2)
end
/-- What Grow makes of nil. -/
theorem OwnS.grown (w : World) (n c : Nat) (hc : n ≤ c) (hm : c ≤ maxLen) : OwnS (w.drew.alloc (.cells (#[] ++ Builtin.zeroCells (Value.string ByteArray.empty).cells n ++ Builtin.zeroCells (Value.string ByteArray.empty).cells (c - n)) 9)) w.heap.size (.slice (some ⟨w.heap.size, 0, none⟩) 0 c) [] :=
  ⟨rfl, .inr ⟨w.heap.size, c, _, rfl, Nat.le_refl _, heap_alloc_new w.drew _, Nat.zero_le _, hm, by
    simp only [Array.size_append, size_zeroCells, Array.size_empty]
    rw [show (Value.string ByteArray.empty).cells.size = 1 from rfl]
    omega, by simp⟩⟩
set_option maxRecDepth 100000 in
set_option maxHeartbeats 2000000 in
theorem grow_nil (n : Nat) (w : World) (h0 : 0 < n) (hn : n ≤ 1000000) :
    Calls Try.prog 48 #[.slice none 0 0, .int .i64 n] w fun e w' => ∃ v, e = .returned v ∧ OwnS w' w.heap.size v [] ∧ Below w.heap.size w w' := by
  obtain ⟨i, hi, hi1, hi2, hi3⟩ := info_parts Try.info9
  refine (Any8.slices_Grow_grow Try.growF i _ hi hi1 (by omega) none 0 0 n [] w (Nat.le_refl _) (by omega) (by rw [hi3]; omega) (by omega) (by rw [hi2]; rfl) (fun _ => rfl) (fun a ha => by cases ha)).mono ?_
  rintro e w' ⟨rfl, rfl⟩
  have hc : n ≤ grownCap w n 0 9 := grownCap_ge w n 0 _
  have hm := grownCap_le_maxLen w n 0 9 (by unfold maxLen; omega)
  simp only [Nat.zero_add, Nat.sub_zero]
  exact ⟨_, rfl, OwnS.grown w n _ hc hm, below_undrew (w := w) ((Below.refl w.drew.heap.size w.drew).alloc (Nat.le_refl _) _)⟩
theorem cell_below {w w' : World} {p : Addr} {v : Value} (hb : Below w.heap.size w w') (h : w.cell? p = some v) : w'.cell? p = some v := by
  have hl := World.block_lt_of_cell? w _ h
  unfold World.cell? at *
  rw [hb.block _ hl]; exact h
set_option maxRecDepth 100000 in
set_option maxHeartbeats 2000000 in
theorem concat_any (b b1 : Nat) (v0 : Value) (l0 : List ByteArray) (nm : ByteArray) (w : World) (h0 : SrcS w v0 l0) (hl : l0.length ≤ 1) (hc0 : w.cell? ⟨b, 0, none⟩ = some v0) (hc1 : w.cell? ⟨b, 1, none⟩ = some (.slice (some ⟨b1, 0, none⟩) 1 1)) (hn : w.cell? ⟨b1, 0, none⟩ = some (.string nm)) :
    Calls Try.prog 43 #[.slice (some ⟨b, 0, none⟩) 2 2] w fun e w' => ∃ v, e = .returned v ∧ OwnS w' w.heap.size v (l0 ++ [nm]) ∧ Below w.heap.size w w' := by
  have H0 : Hid (SrcS w v0 l0) := h0
  have H1 : Hid (SrcS w (.slice (some ⟨b1, 0, none⟩) 1 1) [nm]) := .inr ⟨b1, 1, rfl, fun j x hx => by
    cases j with
    | zero => injection hx with hx; subst hx; exact hn
    | succ j => cases hx⟩
  obtain ⟨a0, n0, k0, hv0, hn0⟩ : ∃ a0 n0 k0, v0 = .slice a0 n0 k0 ∧ n0 = l0.length := by
    rcases h0 with ⟨rfl, rfl⟩ | ⟨b, cap, rfl, _⟩
    · exact ⟨_, _, _, rfl, rfl⟩
    · exact ⟨_, _, _, rfl, rfl⟩
  subst hv0
  clear h0 hn
  rw [← hn0] at hl
  have HN : Hid (n0 = l0.length) := hn0
  clear hn0
  have hGR : Calls Try.prog 48 #[.slice none 0 0, .int .i64 ((n0 : Int) + 1)] w fun e w' => ∃ v, e = .returned v ∧ OwnS w' w.heap.size v [] ∧ Below w.heap.size w w' := grow_nil (n0 + 1) w (by omega) (by omega)
  have HGR : Hid (Calls Try.prog 48 #[.slice none 0 0, .int .i64 ((n0 : Int) + 1)] w fun e w' => ∃ v, e = .returned v ∧ OwnS w' w.heap.size v [] ∧ Below w.heap.size w w') := hGR
  clear hGR
  go_enter Try.func43, Try.ntmps43
  go_wp2_with fail
  refine wp_loop_rounds 3 ?_
  rw [rounds_succ]
  go_wp2_with fail
  rw [rounds_succ]
  go_wp2_with fail
  rw [rounds_succ]
  go_wp2_with fail
  refine Calls.mono HGR.out ?_
  rintro e w1 ⟨v1, rfl, h1, hb1⟩
  obtain ⟨a1, k1, rfl⟩ := h1.shape
  have HO1 : Hid (OwnS w1 w.heap.size (.slice a1 0 k1) []) := h1
  have HB1 : Hid (Below w.heap.size w w1) := hb1
  have hc0' : w1.cell? ⟨b, 0, none⟩ = some (.slice a0 n0 k0) := cell_below hb1 hc0
  have hc1' : w1.cell? ⟨b, 1, none⟩ = some (.slice (some ⟨b1, 0, none⟩) 1 1) := cell_below hb1 hc1
  clear h1 hb1 HGR
  simp only [List.length_nil]
  go_wp2_with fail
  refine wp_loop_rounds 3 ?_
  rw [rounds_succ]
  go_wp2_with (at_builtin; refine wpList_append_s rfl _ _ rfl w.heap.size _ [] rfl HO1.out _ l0 rfl (SrcS.below H0.out HB1.out) (by rw [← HN.out]; simp; omega) HB1.out.size ?_; intro v2 w2 HO2 HG2; rw [List.nil_append] at HO2; obtain ⟨a2, k2, rfl⟩ := HO2.out.shape)
  have HB2 : Hid (Below w.heap.size w w2) := HB1.out.grown HG2.out HB1.out.size fun k hk => (HO1.out.lt k hk).1
  have hc1'' : w2.cell? ⟨b, 1, none⟩ = some (.slice (some ⟨b1, 0, none⟩) 1 1) := cell_below HB2.out hc1
  clear hc0' hc1'
  rw [rounds_succ]
  go_wp2_with (at_builtin; refine wpList_append_s rfl _ _ rfl w.heap.size _ l0 rfl HO2.out _ [nm] rfl (SrcS.below H1.out HB2.out) (by rw [← HN.out]; simp; omega) HB2.out.size ?_; intro v3 w3 HO3 HG3; obtain ⟨a3, k3, rfl⟩ := HO3.out.shape)
  have HB3 : Hid (Below w.heap.size w w3) := HB2.out.grown HG3.out HB2.out.size fun k hk => (HO2.out.lt k hk).1
  rw [rounds_succ]
  go_wp2_with fail
  go_ret
  exact ⟨.slice a3 (l0.length + 1) k3, rfl, by have := HO3.out; rwa [List.length_append] at this, HB3.out⟩
end Go.Proofs.Ytlapnnkahijikaa
namespace Go.Proofs.Ytlapnnkahijikaa
open Go.ChangeShapes Go.WideShapes Go.ChangeAt Go.RowKit Go.Lib

def zeroCV : Value := .agg #[.slice none 0 0, .int .i64 0]
/-- What open tells. -/
def opened (S : FS) (l : List ByteArray) (name : ByteArray) : Value :=
  if begE S l = 0 then .tuple #[((alook name S.es).map cellOf).getD zeroCV, .int .i64 (if (alook name S.es).isSome then 0 else 5)] else .tuple #[zeroCV, .int .i64 (begE S l)]
theorem FS.pow_foot (S : FS) {f k : Nat} : S.pow.foot f k ↔ S.foot f k := by unfold FS.foot; rw [FS.pow_m, FS.pow_es]
theorem FsAt.keep {w w' : World} {f C : Nat} {S : FS} (h : FsAt w f S) (k : Keep C w w') (hC : ∀ k, S.foot f k → k ≠ C) : FsAt w' f S := h.same fun i hi => k.block i (h.lt hi) (hC i hi)
theorem Grown.keep {w w' w'' : World} {f C : Nat} {S S' : FS} (h : Grown f S S' w w') (k : Keep C w' w'') (hC : w.heap.size ≤ C) : Grown f S S' w w'' :=
  ⟨k.os.trans h.os, k.tape.trans h.tape, k.output.trans h.output, Nat.le_trans h.size k.size, fun i hi hf => (k.block i (Nat.lt_of_lt_of_le hi h.size) (by omega)).trans (h.block i hi hf), h.foot⟩
set_option maxRecDepth 100000 in
set_option maxHeartbeats 2000000 in
theorem open_any (f : Nat) (S : FS) (name : ByteArray) (v0 : Value) (l0 : List ByteArray) (w : World) (h : FsAt w f S) (hs : S.Sane) (h0 : SrcS w v0 l0) (hl : l0.length ≤ 1) :
    Calls Try.prog 34 #[.pointer (some ⟨f, 0, none⟩), .string name, v0] w fun e w' => e = .returned (opened S (l0 ++ [name]) name) ∧ FsAt w' f S.pow ∧ Grown f S S.pow w w' := by
  have H : Hid (FsAt w f S ∧ S.Sane) := ⟨h, hs⟩
  have H0 : Hid (SrcS w v0 l0) := h0
  have HF : Hid (∀ k, S.foot f k → k < w.heap.size) := fun k hk => h.lt hk
  obtain ⟨a0, n0, k0, hv0, hn0⟩ : ∃ a0 n0 k0, v0 = .slice a0 n0 k0 ∧ n0 = l0.length := by
    rcases h0 with ⟨rfl, rfl⟩ | ⟨b, cap, rfl, _⟩
    · exact ⟨_, _, _, rfl, rfl⟩
    · exact ⟨_, _, _, rfl, rfl⟩
  subst hv0
  clear h hs h0
  go_enter Try.func34, Try.ntmps34
  go_wp2_with fail
  refine wp_scope_hops 1 ?_
  go_hide hQ
  go_wp2_with fail
  generalize hw4 : World.alloc (World.alloc (World.alloc (World.alloc w _) _) _) _ = w4
  have HR4 : Hid (Blk w4 w.heap.size [.slice none 0 0, .int .i64 0]) := by rw [← hw4]; exact (((Blk.mk w _ _ rfl rfl).alloc _).alloc _).alloc _
  have HC4 : Hid (Blk w4 (w.heap.size + 1) [.slice none 0 0, .int .i64 0]) := by
    have h : Blk ((w.alloc (.cells #[.slice none 0 0, .int .i64 0] 64)).alloc (.cells #[.slice none 0 0, .int .i64 0] 64)) (w.heap.size + 1) [.slice none 0 0, .int .i64 0] := Blk.mk _ _ _ (by simp) rfl
    rw [← hw4]; exact (h.alloc _).alloc _
  have HB4 : Hid (Below w.heap.size w w4) := by rw [← hw4]; exact (((((Below.refl _ _).alloc (Nat.le_refl _) _).alloc (by simp) _).alloc (by simp; omega) _).alloc (by simp; omega) _)
  have c0 : w4.cell? ⟨w.heap.size + 1 + 1 + 1, 0, none⟩ = some (.slice a0 l0.length k0) := by rw [← hw4]; exact (Blk.mk (b := w.heap.size + 1 + 1 + 1) _ _ _ (by simp) rfl).one (i := 0) rfl
  have c1 : w4.cell? ⟨w.heap.size + 1 + 1 + 1, 1, none⟩ = some (.slice (some ⟨w.heap.size + 1 + 1, 0, none⟩) 1 1) := by rw [← hw4]; exact (Blk.mk (b := w.heap.size + 1 + 1 + 1) _ _ _ (by simp) rfl).one (i := 1) rfl
  have c2 : w4.cell? ⟨w.heap.size + 1 + 1, 0, none⟩ = some (.string name) := by rw [← hw4]; exact ((Blk.mk (b := w.heap.size + 1 + 1) _ _ _ (by simp) rfl).alloc _).one (i := 0) rfl
  clear hw4
  rw [hn0] at H0
  obtain ⟨R, hR⟩ : ∃ R, R = w.heap.size := ⟨_, rfl⟩
  obtain ⟨C, hC⟩ : ∃ C, C = w.heap.size + 1 := ⟨_, rfl⟩
  rw [← hR] at HR4 
  rw [← hC] at HC4
  have HRC : Hid (R = w.heap.size ∧ C = w.heap.size + 1) := ⟨hR, hC⟩
  refine Calls.mono (concat_any _ _ _ l0 name w4 (SrcS.below H0.out HB4.out) hl c0 c1 c2) ?_
  rintro e w5 ⟨v5, rfl, h5, hb5⟩
  obtain ⟨a5, k5, hv5⟩ := h5.shape
  rcases h5.src with ⟨_, h0⟩ | ⟨b5, k5', hv5', hc5⟩
  · exact absurd h0 (by simp)
  rw [List.length_append] at hv5'
  subst hv5'
  have HF5 : Hid (FsAt w5 f S ∧ S.Sane) := ⟨(H.out.1.below HB4.out).below hb5, H.out.2⟩
  have HR5 : Hid (Blk w5 R [.slice none 0 0, .int .i64 0]) := HR4.out.below hb5 HR4.out.lt
  have HC5 : Hid (Blk w5 C [.slice none 0 0, .int .i64 0]) := HC4.out.below hb5 HC4.out.lt
  have HG5 : Hid (Grown f S S w w5) := (Grown.of_below HB4.out).thenBelow hb5
  have hnf : ¬ S.foot f b5 := fun e => by
    have h1 := HF.out _ e
    have h2 := (h5.lt b5 rfl).1
    have := HB4.out.size
    omega
  clear c0 c1 c2 HR4 HC4 hv5 h5 H
  go_wp2_with fail
  refine Calls.mono (fbegin_any f S b5 (l0.length + 1) k5' (l0 ++ [name]) w5 HF5.out.1 HF5.out.2 (by simp) (by omega) hc5 hnf) ?_
  rintro e w6 ⟨rfl, hf6, hg6⟩
  have HF6 : Hid (FsAt w6 f S.pow) := hf6
  have hRf : ∀ k, w.heap.size ≤ k → ¬ S.foot f k := fun k hk e => by have := HF.out _ e; omega
  have HR6 : Hid (Blk w6 R [.slice none 0 0, .int .i64 0]) := by
    obtain ⟨t, ht⟩ := HR5.out
    exact ⟨t, by rw [hg6.block R HR5.out.lt (hRf R (by omega))]; exact ht⟩
  have HC6 : Hid (Blk w6 C [.slice none 0 0, .int .i64 0]) := by
    obtain ⟨t, ht⟩ := HC5.out
    exact ⟨t, by rw [hg6.block C HC5.out.lt (hRf C (by omega))]; exact ht⟩
  have HG6 : Hid (Grown f S S.pow w w6) := HG5.out.trans hg6
  have HFS : Hid (∀ k, S.pow.foot f k → k ≠ R ∧ k ≠ C) := fun k hk => by
    have := HF.out k (S.pow_foot.1 hk)
    omega
  clear HF5 HR5 HC5 HG5 hc5 hnf hb5 hf6 hg6 hRf
  have HD : Hid (opened S (l0 ++ [name]) name = if begE S (l0 ++ [name]) = 0 then .tuple #[((alook name S.pow.es).map cellOf).getD zeroCV, .int .i64 (if (alook name S.pow.es).isSome then 0 else 5)] else .tuple #[zeroCV, .int .i64 (begE S (l0 ++ [name]))]) := by
    show _ = _
    rw [FS.pow_es]; rfl
  obtain ⟨E, hE⟩ : ∃ E, E = begE S (l0 ++ [name]) := ⟨_, rfl⟩
  obtain ⟨V, hV⟩ : ∃ V, V = opened S (l0 ++ [name]) name := ⟨_, rfl⟩
  rw [← hE, ← hV] at HD
  rw [← hE]
  have HV : Hid (V = opened S (l0 ++ [name]) name) := hV
  clear hV hE H0 HF hl hn0
  obtain ⟨T, hT⟩ : ∃ T, T = S.pow := ⟨_, rfl⟩
  rw [← hT] at HF6 HG6 HFS HD
  have HT : Hid (T = S.pow) := hT
  clear hT
  have HEnd : Hid (∀ w', FsAt w' f T → Grown f S T w w' → Ending.returned V = .returned (opened S (l0 ++ [name]) name) ∧ FsAt w' f S.pow ∧ Grown f S S.pow w w') := fun w' h1 h2 => by
    rw [← HT.out]; exact ⟨by rw [HV.out], h1, h2⟩
  clear HV HT
  by_cases hz : E = 0
  · have HD' := HD.out
    rw [if_pos hz] at HD'
    subst hz
    have HF7 : Hid (Calls Try.prog 33 #[.pointer (some ⟨f, 0, none⟩), .string name] w6 fun e w' => e = .returned (found (alook name T.es)) ∧ Below w6.heap.size w6 w') := find_any f T name w6 HF6.out
    obtain ⟨a7, n7, c7, s7, b7, hf7, hd7⟩ : ∃ a7 n7 c7 s7 b7, found (alook name T.es) = .tuple #[.agg #[.slice a7 n7 c7, .int .i64 s7], .bool b7] ∧ V = .tuple #[.agg #[.slice a7 n7 c7, .int .i64 s7], .int .i64 (if b7 then 0 else 5)] := by
      rw [HD']
      cases ha : alook name T.es with
      | none => exact ⟨none, 0, 0, 0, false, rfl, rfl⟩
      | some p =>
        obtain ⟨a, c, hp, _⟩ := HF6.out.found name ha
        rw [hp]
        exact ⟨a, p.2.b.length, c, p.2.safe, true, rfl, rfl⟩
    have HV : Hid (V = .tuple #[.agg #[.slice a7 n7 c7, .int .i64 s7], .int .i64 (if b7 then 0 else 5)]) := hd7
    rw [hf7] at HF7
    clear HD HD' hf7 hd7
    subst hC
    subst hR
    go_wp2_with fail
    refine Calls.mono HF7.out ?_
    rintro e w7 ⟨rfl, hb7⟩
    have HF7' : Hid (FsAt w7 f T) := HF6.out.below hb7
    have HG7 : Hid (Grown f S T w w7) := HG6.out.thenBelow hb7
    have HR7 : Hid (Blk w7 w.heap.size [.slice none 0 0, .int .i64 0]) := HR6.out.below hb7 HR6.out.lt
    have HC7 : Hid (Blk w7 (w.heap.size + 1) [.slice none 0 0, .int .i64 0]) := HC6.out.below hb7 HC6.out.lt
    clear HF7 hb7 HF6 HG6 HR6 HC6
    have cC0 : w7.cell? ⟨w.heap.size + 1, 0, none⟩ = some (.slice none 0 0) := HC7.out.one rfl
    have cC1 : w7.cell? ⟨w.heap.size + 1, 1, none⟩ = some (.int .i64 0) := HC7.out.one rfl
    have gC0 : w7.frozen? ⟨w.heap.size + 1, 0, none⟩ = false := HC7.out.frozen 0
    have gC1 : w7.frozen? ⟨w.heap.size + 1, 1, none⟩ = false := HC7.out.frozen 1
    go_upto_region 6 with fail
    generalize hw8 : World.setCell (World.setCell w7 _ _) _ _ = w8
    have HK8 : Hid (Keep (w.heap.size + 1) w7 w8) := by rw [← hw8]; exact ((Keep.refl _ _).setCell _ _).setCell _ _
    have HC8 : Hid (Blk w8 (w.heap.size + 1) [.slice a7 n7 c7, .int .i64 s7]) := by rw [← hw8]; exact (HC7.out.set 0 _).set 1 _
    have HF8 : Hid (FsAt w8 f T) := HF7'.out.keep HK8.out fun k hk => (HFS.out k hk).2
    have HG8 : Hid (Grown f S T w w8) := HG7.out.keep HK8.out (by omega)
    have HR8 : Hid (Blk w8 w.heap.size [.slice none 0 0, .int .i64 0]) := HR7.out.keep HK8.out (by omega)
    clear hw8 cC0 cC1 gC0 gC1 HF7' HG7 HR7 HC7 HK8
    have cC0 : w8.cell? ⟨w.heap.size + 1, 0, none⟩ = some (.slice a7 n7 c7) := HC8.out.one rfl
    have cC1 : w8.cell? ⟨w.heap.size + 1, 1, none⟩ = some (.int .i64 s7) := HC8.out.one rfl
    have cR0 : w8.cell? ⟨w.heap.size, 0, none⟩ = some (.slice none 0 0) := HR8.out.one rfl
    have cR1 : w8.cell? ⟨w.heap.size, 1, none⟩ = some (.int .i64 0) := HR8.out.one rfl
    have gR0 : w8.frozen? ⟨w.heap.size, 0, none⟩ = false := HR8.out.frozen 0
    have gR1 : w8.frozen? ⟨w.heap.size, 1, none⟩ = false := HR8.out.frozen 1
    cases b7 with
    | true =>
      go_wp2_with fail
      go_step3
      go_wp2_with fail
      subst hQ
      rw [hops_ret]
      refine bodyPost_ret (v := V) ?_ rfl (HEnd.out _ (HF8.out.keep (((Keep.refl w.heap.size _).setCell _ _).setCell _ _) fun k hk => (HFS.out k hk).1) (HG8.out.keep (((Keep.refl w.heap.size _).setCell _ _).setCell _ _) (by omega)))
      obtain ⟨t, hb⟩ := (HR8.out.set 0 (.slice a7 n7 c7)).set 1 (.int .i64 s7)
      rw [HV.out]
      exact results_row_tmp Try.results34 _ _ w.heap.size t _ _ _ rfl hb Try.underlying64 rfl sizeC
    | false =>
      go_wp2_with fail
      go_step3
      go_wp2_with fail
      subst hQ
      rw [hops_ret]
      refine bodyPost_ret (v := V) ?_ rfl (HEnd.out _ (HF8.out.keep (((Keep.refl w.heap.size _).setCell _ _).setCell _ _) fun k hk => (HFS.out k hk).1) (HG8.out.keep (((Keep.refl w.heap.size _).setCell _ _).setCell _ _) (by omega)))
      obtain ⟨t, hb⟩ := (HR8.out.set 0 (.slice a7 n7 c7)).set 1 (.int .i64 s7)
      rw [HV.out]
      exact results_row_tmp Try.results34 _ _ w.heap.size t _ _ _ rfl hb Try.underlying64 rfl sizeC
  · have HV : Hid (V = .tuple #[zeroCV, .int .i64 E]) := by have := HD.out; rw [if_neg hz] at this; exact this
    have hz' : (E == 0) = false := beq_eq_false_iff_ne.2 hz
    clear HD
    subst hC
    subst hR
    have cC0 : w6.cell? ⟨w.heap.size + 1, 0, none⟩ = some (.slice none 0 0) := HC6.out.one rfl
    have cC1 : w6.cell? ⟨w.heap.size + 1, 1, none⟩ = some (.int .i64 0) := HC6.out.one rfl
    have cR0 : w6.cell? ⟨w.heap.size, 0, none⟩ = some (.slice none 0 0) := HR6.out.one rfl
    have cR1 : w6.cell? ⟨w.heap.size, 1, none⟩ = some (.int .i64 0) := HR6.out.one rfl
    have gR0 : w6.frozen? ⟨w.heap.size, 0, none⟩ = false := HR6.out.frozen 0
    have gR1 : w6.frozen? ⟨w.heap.size, 1, none⟩ = false := HR6.out.frozen 1
    go_wp2_with fail
    go_step3
    simp only [Exit.then]
    subst hQ
    rw [hops_goto]
    refine ⟨_, rfl, ?_⟩
    go_hide hQ
    go_wp2_with fail
    subst hQ
    rw [hops_ret]
    refine bodyPost_ret (v := V) ?_ rfl (HEnd.out _ (HF6.out.keep (((Keep.refl w.heap.size _).setCell _ _).setCell _ _) fun k hk => (HFS.out k hk).1) (HG6.out.keep (((Keep.refl w.heap.size _).setCell _ _).setCell _ _) (by omega)))
    obtain ⟨t, hb⟩ := (HR6.out.set 0 (.slice none 0 0)).set 1 (.int .i64 0)
    rw [HV.out]
    exact results_row_tmp Try.results34 _ _ w.heap.size t _ _ _ rfl hb Try.underlying64 rfl sizeC
end Go.Proofs.Ytlapnnkahijikaa
