/- file: what the acts make of files, seen from outside (Abs); laws of its map; an append leaves the elder row. file: Append. file: Sync, Remove. file: Remove, Rename, Truncate. file: Rename. -/
import Derived.Test.YtlapnnkahijikaaZF3
namespace Go.Proofs.Ytlapnnkahijikaa
open Go.ChangeShapes Go.WideShapes Go.ChangeAt Go.RowKit Go.Lib

section
variable {w w' : World} {B : Nat} {v x : Value} {bs r : List (BitVec 8)}
/-- What append leaves of the row that it was given. -/
theorem append_old (ty : TypeId) (h : OwnB w B v bs) (hr : SrcB w x r) (hm : bs.length + r.length ≤ 100000000) {v' : Value} (hrun : (Builtin.append_ #[40, 40] ty #[v, x]).run Try.prog w = .ok v' w') : OwnB w' B v bs := by
  obtain ⟨i, hi, hi1, hi2, hi3⟩ := info_parts Try.info8
  rcases hr with ⟨rfl, rfl⟩ | ⟨b, o, cap, rfl, hc⟩
  · rw [run_append_owned_none w B _ ty _ i 1 Try.underlying40 hi v _ _ h] at hrun
    injection hrun with _ e
    rw [← e]; exact h
  · have hcells : ∀ j u, (u8s r)[j]? = some u → w.cell? ((⟨b, o, none⟩ : Addr).add j) = some u := fun j u hu => by rw [Addr.add_mid]; exact hc j u hu
    have hlen : (u8s r).length = r.length * i.size := by rw [hi2, u8s_length]; omega
    have hfl : (u8s bs).length = bs.length * i.size := by rw [hi2, u8s_length]; omega
    have h0 := h
    rcases h.2 with ⟨rfl, hn0⟩ | ⟨g, c, cur, rfl, hbg, hg, hnc, hcm, hcs, htake⟩
    · have : bs = [] := List.eq_nil_of_length_eq_zero hn0
      subst this
      exact OwnB.nil _ _
    · have hcs' : cur.size = c := by omega
      by_cases hroom : bs.length + r.length ≤ c
      · have e := run_append_room w 40 ty 5 i Try.underlying40 hi g bs.length c cur hg ⟨b, o, none⟩ r.length cap (u8s r) hlen hcells (u8s_mem r) hroom (by rw [hi2, u8s_length, hcs]; omega)
        rw [e] at hrun
        injection hrun with _ e2
        rw [hi2, Nat.mul_one] at e2
        rw [Nat.mul_one] at htake
        refine ⟨h.1, .inr ⟨g, c, _, rfl, hbg, by rw [← e2]; exact setRow_heap w g cur _ _ _ hg, hnc, hcm, ?_, ?_⟩⟩
        · simp only [List.size_toArray, List.length_append, List.length_take, List.length_drop, Array.length_toList, u8s_length]
          omega
        · rw [Nat.mul_one, htake]
          show ((u8s bs ++ u8s r) ++ _).take _ = _
          rw [List.append_assoc, List.take_append_of_le_length (by rw [u8s_length]; exact Nat.le_refl _), List.take_of_length_le (by rw [u8s_length]; exact Nat.le_refl _)]
      · have e := run_append_grow w 40 ty 5 i _ Try.underlying40 hi hi1 ⟨g, 0, none⟩ bs.length c (u8s bs) hfl (h0.cells (g := g) rfl) ⟨b, o, none⟩ r.length cap (u8s r) hlen hcells (by omega) (by omega) (growslice_fits (by omega) (by rw [hi3]; omega))
        rw [e] at hrun
        injection hrun with _ e2
        rw [← e2]
        exact OwnB.same h0 fun k hk => heap_alloc_old w.drew _ (h0.lt k hk).2
end
section
variable {ops : Array Oper} {o : Oper} {ac : Act} {w : World} {Q : Exit → Act → World → Prop}
theorem wpList_append_c {rest : List Oper} (hgd : o.guard = none) (s x : Operand)
    (ho : o.op = .call { callee := .builtin .append, args := #[s, x], argTypes := #[40, 40] }) (B : Nat) (v : Value) (bs : List (BitVec 8)) (hs : ac.eval s = v) (h : OwnB w B v bs)
    (y : Value) (r : List (BitVec 8)) (hx : ac.eval x = y) (hr : SrcB w y r) (hm : bs.length + r.length ≤ 100000000) (hN : B ≤ w.heap.size)
    (hK : ∀ v' w', Hid (OwnB w' B v' (bs ++ r)) → Hid (w.grownBy w' v.ownBlock) → Hid (Moved w v v') → Hid (OwnB w' B v bs) → wpList Try.prog ops Q rest (ac.put o.dst v') w') : wpList Try.prog ops Q (o :: rest) ac w := by
  obtain ⟨v', w', hrun, h1, h2, h3⟩ := run_append_b o.type h hr hm hN
  have h4 := append_old o.type h hr hm hrun
  refine wpList_plain hgd fun K hK' => ?_
  unfold Oper.wp execOp
  simp only [ho, resolve, invoke, builtin, Sem.run_bind, Sem.run_pure, Result.andThen_ok, List.map_toArray, List.map_cons, List.map_nil, hs, hx, hrun]
  exact hK' _ _ (hK v' w' h1 h2 h3 h4)
theorem wpList_lookF {rest : List Oper} {f : Nat} {S : FS} (hg : o.guard = none) (m x : Operand) (c : Bool) (hop : o.op = Op.lookup 45 m x c) (h : FsAt w f S) (s : ByteArray)
    (hm : ac.eval m = .map S.m) (hx : ac.eval x = .string s)
    (hK : wpList Try.prog ops Q rest (ac.put o.dst (if c then .tuple #[((alook s S.es).map cellOf).getD zeroCV, .bool (alook s S.es).isSome] else ((alook s S.es).map cellOf).getD zeroCV)) w) : wpList Try.prog ops Q (o :: rest) ac w := by
  cases hr : S.m with
  | none =>
    rw [h.bare hr] at hK
    rw [hr] at hm
    exact wpList_lookNil hg m x c hop Try.underlying9 Try.underlying45 zeroCV zeroC s hm hx hK
  | some r =>
    have hM := (h.map r hr).2
    rw [hr] at hm
    refine wpList_lookS hg m x c hop Try.underlying9 Try.underlying45 zeroCV zeroC _ hM s hm hx ?_
    rw [alook_map]
    simpa using hK
end

/-- Files, seen from outside. -/
structure Abs where
  L : List (ByteArray × Fl)
  ops : Int
  counted : Bool
  left : Int
  off : Bool
def FS.abs (S : FS) : Abs := ⟨S.L, S.ops, S.counted, S.left, S.off⟩
def Abs.pow (A : Abs) : Abs :=
  if A.counted = false then { A with ops := A.ops + 1 } else if 0 < A.left then { A with ops := A.ops + 1, left := A.left - 1 } else { A with ops := A.ops + 1, off := true }
theorem FS.pow_abs (S : FS) : S.pow.abs = S.abs.pow := by
  unfold FS.pow Abs.pow FS.abs
  simp only
  repeat' split
  all_goals rfl
theorem Abs.pow_L (A : Abs) : A.pow.L = A.L := by unfold Abs.pow; repeat' split
                                                  all_goals rfl
def Abs.beg (A : Abs) (l : List ByteArray) : Int := if A.pow.off = true then 7 else if l.all nameOK = true then 0 else 1
theorem begE_abs (S : FS) (l : List ByteArray) : begE S l = S.abs.beg l := by
  unfold begE Abs.beg
  rw [← FS.pow_abs]; rfl
/-- A file, or none of its bytes. -/
def flOf (o : Option Fl) : Fl := o.getD ⟨[], 0⟩
/-- What an act on a file that must be there finds. -/
def Abs.opn (A : Abs) (l : List ByteArray) (name : ByteArray) : Int := if A.beg l = 0 then (if (alook name A.L).isSome then 0 else 5) else A.beg l
theorem opened_abs (S : FS) (l : List ByteArray) (name : ByteArray) : opened S l name = .tuple #[if S.abs.beg l = 0 then ((alook name S.es).map cellOf).getD zeroCV else zeroCV, .int .i64 (S.abs.opn l name)] := by
  unfold opened Abs.opn
  rw [begE_abs, show S.abs.L = S.L from rfl, alook_L, Option.isSome_map]
  split <;> rfl
def Abs.appE (A : Abs) (name : ByteArray) (bs : List (BitVec 8)) : Int := if A.beg [name] = 0 then (if bs.length + (flOf (alook name A.L)).b.length ≤ 16777216 then 0 else 3) else A.beg [name]
def Abs.app (A : Abs) (name : ByteArray) (bs : List (BitVec 8)) : Abs :=
  if A.appE name bs = 0 then { A.pow with L := aput name ⟨(flOf (alook name A.L)).b ++ bs, (flOf (alook name A.L)).safe⟩ A.L } else A.pow
def Abs.syn (A : Abs) (name : ByteArray) : Abs :=
  if A.opn [name] name = 0 then { A.pow with L := aput name ⟨(flOf (alook name A.L)).b, (flOf (alook name A.L)).b.length⟩ A.L } else A.pow
def Abs.ren (A : Abs) (fr dest : ByteArray) : Abs :=
  if A.opn [dest, fr] fr = 0 then { A.pow with L := aput dest (flOf (alook fr A.L)) (adel fr A.L) } else A.pow
def Abs.rem (A : Abs) (name : ByteArray) : Abs := if A.opn [name] name = 0 then { A.pow with L := adel name A.L } else A.pow
def Abs.truE (A : Abs) (name : ByteArray) (n : Int) : Int := if A.opn [name] name = 0 then (if 0 ≤ n ∧ n ≤ (flOf (alook name A.L)).b.length then 0 else 1) else A.opn [name] name
def Abs.tru (A : Abs) (name : ByteArray) (n : Int) : Abs :=
  if A.truE name n = 0 then { A.pow with L := aput name ⟨(flOf (alook name A.L)).b.take n.toNat, min (flOf (alook name A.L)).safe n.toNat⟩ A.L } else A.pow
theorem abs_put (S : FS) (r : Nat) (name : ByteArray) (v : Value) (fl : Fl) : FS.abs { S with m := some r, es := aput name (v, fl) S.es } = { S.abs with L := aput name fl S.L } := by
  unfold FS.abs FS.L
  rw [aput_map]

theorem apart_ne {es : List (ByteArray × (Value × Fl))} : ∀ (_ : es.Pairwise fun p q => ∀ k, p.2.1.ownBlock = some k → q.2.1.ownBlock ≠ some k) {p q : ByteArray × (Value × Fl)}, p ∈ es → q ∈ es → p.1 ≠ q.1 → ∀ k, p.2.1.ownBlock = some k → q.2.1.ownBlock ≠ some k := by
  induction es with
  | nil => intro _ p q hp; cases hp
  | cons a es ih =>
    intro h p q hp hq hne k hk hk'
    rw [List.pairwise_cons] at h
    rcases List.mem_cons.1 hp with e1 | hp <;> rcases List.mem_cons.1 hq with e2 | hq
    · exact hne (by rw [e1, e2])
    · rw [e1] at hk; exact h.1 q hq k hk hk'
    · rw [e2] at hk'; exact h.1 p hp k hk' hk
    · exact ih h.2 hp hq hne k hk hk'
section
variable {w w' w'' : World} {f : Nat} {S S' S'' : FS}
theorem FsAt.appended {name : ByteArray} {p : Value × Fl} (h : FsAt w f S) (hp : alook name S.es = some p) (hg : w.grownBy w' p.1.ownBlock) (hold : OwnB w' 0 p.1 p.2.b) : FsAt w' f S := by
  have hmem := mem_of_alook hp
  have hrow := h.row _ hmem
  have key : ∀ k, k < w.heap.size → p.1.ownBlock ≠ some k → w'.heap[k]? = w.heap[k]? := fun k hk e => hg.block k hk e.symm
  refine ⟨?_, h.bare, fun r hr => ⟨(h.map r hr).1, (h.map r hr).2.same (key r (h.map r hr).2.lt fun e => (hrow.2 r e).2 hr)⟩, fun q hq => ⟨?_, (h.row q hq).2⟩, h.apart, h.fits⟩
  · obtain ⟨t, ht⟩ := h.blk
    exact ⟨t, by rw [key f h.blk.lt fun e => (hrow.2 f e).1 rfl]; exact ht⟩
  · by_cases e : q.1 = name
    · have : q = (name, p) := by
        have h1 : alook q.1 S.es = some q.2 := alook_of_mem h.nodup hq
        rw [e, hp] at h1
        injection h1 with h1
        rw [← e, h1]
      rw [this]; exact hold
    · exact (h.row q hq).1.same fun k hk => key k ((h.row q hq).1.lt k hk).2 fun e' => apart_ne h.apart hq hmem e k hk e'
theorem Grown.of_grownBy {row : Option Nat} (hg : w.grownBy w' row) (hr : ∀ k, row = some k → S.foot f k) : Grown f S S w w' :=
  ⟨hg.os, hg.tape, hg.output, hg.size, fun k hk hf => hg.block k hk fun e => hf (hr k e.symm), fun _ h => .inl h⟩
theorem Put.grown {r : Nat} {name : ByteArray} {v : Value} {fl : Fl} (hp : Put f S r w w') (hk : ∀ k, v.ownBlock = some k → S.foot f k ∨ w.heap.size ≤ k) : Grown f S { S with m := some r, es := aput name (v, fl) S.es } w w' := by
  refine ⟨hp.os, hp.tape, hp.output, hp.size, fun k hk hf => hp.block k hk (fun e => hf (.inl e)) fun e => hf (.inr (.inl e)), fun k hk' => ?_⟩
  rcases hk' with rfl | hk' | ⟨p, hp', hk'⟩
  · exact .inl (.inl rfl)
  · rcases hp.place with e | e
    · exact .inl (.inr (.inl (by rw [e]; exact hk')))
    · injection hk' with hk'
      subst hk'
      exact .inr e
  · rcases mem_put hp' with rfl | ⟨hp', _⟩
    · exact hk k hk'
    · exact .inl (.inr (.inr ⟨p, hp', hk'⟩))
theorem SrcB.grown {v : Value} {bs : List (BitVec 8)} (h : SrcB w v bs) (hg : Grown f S S' w w') (hn : ∀ k, v.ownBlock = some k → ¬ S.foot f k) : SrcB w' v bs := by
  rcases h with h | ⟨b, o, cap, hv, hc⟩
  · exact .inl h
  · exact .inr ⟨b, o, cap, hv, fun j u hu => by
      have hl := World.block_lt_of_cell? w _ (hc j u hu)
      have := hc j u hu
      unfold World.cell? at *
      rw [hg.block b hl (hn b (by rw [hv]; rfl))]; exact this⟩
end
end Go.Proofs.Ytlapnnkahijikaa
namespace Go.Proofs.Ytlapnnkahijikaa
open Go.ChangeShapes Go.WideShapes Go.ChangeAt Go.RowKit Go.Lib

/-- What an act leaves: other files, seen from outside as told. -/
def After (f : Nat) (S : FS) (A : Abs) (w w' : World) : Prop := ∃ S', S'.abs = A ∧ FsAt w' f S' ∧ Grown f S S' w w'
/-- What a look-up finds. -/
theorem shapeOf {w : World} {f : Nat} {T : FS} (h : FsAt w f T) (name : ByteArray) : ∃ a c, ((alook name T.es).map cellOf).getD zeroCV = .agg #[.slice a (flOf (alook name T.L)).b.length c, .int .i64 ((flOf (alook name T.L)).safe : Int)] ∧ OwnB w 0 (.slice a (flOf (alook name T.L)).b.length c) (flOf (alook name T.L)).b ∧ ((alook name T.es = none ∧ a = none) ∨ alook name T.es = some (.slice a (flOf (alook name T.L)).b.length c, flOf (alook name T.L))) ∧ (flOf (alook name T.L)).safe ≤ (flOf (alook name T.L)).b.length ∧ (flOf (alook name T.L)).b.length ≤ 16777216 := by
  rw [alook_L]
  cases ha : alook name T.es with
  | none => exact ⟨none, 0, rfl, OwnB.nil _ _, .inl ⟨rfl, rfl⟩, Nat.le_refl _, by simp [flOf]⟩
  | some p =>
    obtain ⟨a, c, hp, ho⟩ := h.found name ha
    have hf := h.fits _ (mem_of_alook ha)
    rw [hp]
    exact ⟨a, c, rfl, ho, .inr rfl, hf⟩
theorem beg_zero {A : Abs} {l : List ByteArray} (h : A.beg l = 0) : A.pow.off = false ∧ l.all nameOK = true := by
  unfold Abs.beg at h
  split at h
  · omega
  · rename_i h1
    split at h
    · rename_i h2; exact ⟨by simpa using h1, h2⟩
    · omega
theorem nameOK_size {s : ByteArray} (h : nameOK s = true) : 1 ≤ s.size ∧ s.size ≤ 50 := by
  unfold nameOK at h
  simpa using h
/-- Where the row that append made lies. -/
theorem moved_apart {w : World} {f : Nat} {T : FS} {name : ByteArray} {v v' : Value} {fl : Fl} (h : FsAt w f T) (hc : (alook name T.es = none ∧ v.ownBlock = none) ∨ alook name T.es = some (v, fl)) (hm : Moved w v v') :
    ∀ k, v'.ownBlock = some k → (k ≠ f ∧ T.m ≠ some k ∧ ∀ p ∈ T.es, p.1 ≠ name → p.2.1.ownBlock ≠ some k) ∧ (T.foot f k ∨ w.heap.size ≤ k) := by
  intro k hk
  rcases hm with e | ⟨g, hg, e⟩
  · rw [e] at hk
    rcases hc with ⟨_, h0⟩ | h1
    · rw [h0] at hk; cases hk
    · have hmem := mem_of_alook h1
      have hr := h.row _ hmem
      exact ⟨⟨(hr.2 k hk).1, (hr.2 k hk).2, fun p hp hne => apart_ne h.apart hmem hp (fun e => hne e.symm) k hk⟩, .inl (.inr (.inr ⟨_, hmem, hk⟩))⟩
  · rw [e] at hk
    injection hk with hk
    subst hk
    have hf : ∀ i, T.foot f i → i ≠ g := fun i hi => by have := h.lt hi; omega
    exact ⟨⟨fun e => hf f (.inl rfl) e.symm, fun e => hf g (.inr (.inl e)) rfl, fun p hp _ e => hf g (.inr (.inr ⟨p, hp, e⟩)) rfl⟩, .inr hg⟩
theorem FsAt.appended2 {w w' : World} {f : Nat} {T : FS} {name : ByteArray} {v : Value} {fl : Fl} (h : FsAt w f T) (hc : (alook name T.es = none ∧ v.ownBlock = none) ∨ alook name T.es = some (v, fl)) (hg : w.grownBy w' v.ownBlock) (hold : OwnB w' 0 v fl.b) : FsAt w' f T ∧ Grown f T T w w' := by
  rcases hc with ⟨_, h0⟩ | h1
  · rw [h0] at hg
    exact ⟨h.same fun k hk => hg.block k (h.lt hk) (by simp), Grown.of_grownBy hg fun k hk => by cases hk⟩
  · exact ⟨h.appended h1 hg hold, Grown.of_grownBy hg fun k hk => .inr (.inr ⟨_, mem_of_alook h1, hk⟩)⟩
theorem Grown.put {w w1 w' : World} {f : Nat} {S T : FS} {r : Nat} {name : ByteArray} {v : Value} {fl : Fl} (h : Grown f S T w w1) (hp : Put f T r w1 w') (hk : ∀ k, v.ownBlock = some k → S.foot f k ∨ w.heap.size ≤ k) : Grown f S { T with m := some r, es := aput name (v, fl) T.es } w w' := by
  refine ⟨hp.os.trans h.os, hp.tape.trans h.tape, hp.output.trans h.output, Nat.le_trans h.size hp.size, fun k hk hf => ?_, fun k hk' => ?_⟩
  · have hT : ¬ T.foot f k := fun e => (h.foot k e).elim hf fun e => by omega
    exact (hp.block k (Nat.lt_of_lt_of_le hk h.size) (fun e => hT (.inl e)) fun e => hT (.inr (.inl e))).trans (h.block k hk hf)
  · rcases hk' with rfl | hk' | ⟨p, hp', hk'⟩
    · exact h.foot _ (.inl rfl)
    · rcases hp.place with e | e
      · exact h.foot _ (.inr (.inl (by rw [e]; exact hk')))
      · injection hk' with hk'
        have := h.size
        exact .inr (by omega)
    · rcases mem_put hp' with rfl | ⟨hp', _⟩
      · exact hk k hk'
      · exact h.foot _ (.inr (.inr ⟨p, hp', hk'⟩))
theorem Blk.grownBy {w w' : World} {b : Nat} {cs : List Value} {row : Option Nat} (h : Blk w b cs) (hg : w.grownBy w' row) (hr : row ≠ some b) : Blk w' b cs := by
  have hl := h.lt
  obtain ⟨t, ht⟩ := h
  exact ⟨t, by rw [hg.block b hl fun e => hr e.symm]; exact ht⟩
theorem SrcB.later {w w3 w4 : World} {v : Value} {bs : List (BitVec 8)} {C : Nat} (h0 : SrcB w v bs) (h3 : SrcB w3 v bs) (hk : Keep C w3 w4) (hC : w.heap.size ≤ C) : SrcB w4 v bs := by
  rcases h3 with h | ⟨b, o, cap, hv, hc⟩
  · exact .inl h
  · refine .inr ⟨b, o, cap, hv, fun j u hu => hk.cell ?_ (hc j u hu)⟩
    rcases h0 with ⟨h, _⟩ | ⟨b', o', cap', hv', hc'⟩
    · rw [h] at hv; injection hv with e _ _; cases e
    · rw [hv] at hv'
      injection hv' with e _ _
      injection e with e
      injection e with e1 e2
      have := World.block_lt_of_cell? w _ (hc' j u hu)
      simp only at this
      omega
set_option maxRecDepth 100000 in
set_option maxHeartbeats 2000000 in
theorem append_any (f : Nat) (S : FS) (name : ByteArray) (v : Value) (bs : List (BitVec 8)) (w : World) (h : FsAt w f S) (hs : S.Sane) (hv : SrcB w v bs) (hb : bs.length ≤ 50000000) (hvf : ∀ k, v.ownBlock = some k → ¬ S.foot f k) :
    Calls Try.prog 13 #[.pointer (some ⟨f, 0, none⟩), .string name, v] w fun e w' => e = .returned (.int .i64 (S.abs.appE name bs)) ∧ After f S (S.abs.app name bs) w w' := by
  have H : Hid (FsAt w f S ∧ S.Sane) := ⟨h, hs⟩
  have HSV : Hid (SrcB w v bs ∧ ∀ k, v.ownBlock = some k → ¬ S.foot f k) := ⟨hv, hvf⟩
  have HF : Hid (∀ k, S.foot f k → k < w.heap.size) := fun k hk => h.lt hk
  obtain ⟨av, cv, hvs⟩ : ∃ a c, v = .slice a bs.length c := by
    rcases hv with ⟨rfl, rfl⟩ | ⟨b, o, cap, rfl, _⟩
    · exact ⟨_, _, rfl⟩
    · exact ⟨_, _, rfl⟩
  subst hvs
  clear h hs hv hvf
  obtain ⟨m, hm⟩ : ∃ m, m = bs.length := ⟨_, rfl⟩
  rw [← hm] at HSV hb ⊢
  have HM : Hid (m = bs.length) := hm
  clear hm
  go_enter Try.func13, Try.ntmps13
  go_wp2_with fail
  refine wp_scope_hops 1 ?_
  go_hide hQ
  go_wp2_with fail
  generalize hw2 : World.alloc (World.alloc w _) _ = w2
  have HC2 : Hid (Blk w2 w.heap.size [.slice none 0 0, .int .i64 0]) := by rw [← hw2]; exact (Blk.mk w _ _ rfl rfl).alloc _
  have HB2 : Hid (Below w.heap.size w w2) := by rw [← hw2]; exact ((Below.refl _ _).alloc (Nat.le_refl _) _).alloc (by simp) _
  have c2 : w2.cell? ⟨w.heap.size + 1, 0, none⟩ = some (.string name) := by rw [← hw2]; exact (Blk.mk (b := w.heap.size + 1) _ _ _ (by simp) rfl).one (i := 0) rfl
  clear hw2
  refine Calls.mono (fbegin_any f S (w.heap.size + 1) 1 1 [name] w2 (H.out.1.below HB2.out) H.out.2 rfl (by omega) (fun j x hx => by
    cases j with
    | zero => injection hx with hx; subst hx; exact c2
    | succ j => cases hx) (fun e => by have := HF.out _ e; omega)) ?_
  rintro e w3 ⟨rfl, hf3, hg3⟩
  have HF3 : Hid (FsAt w3 f S.pow) := hf3
  have HC3 : Hid (Blk w3 w.heap.size [.slice none 0 0, .int .i64 0]) := by
    obtain ⟨t, ht⟩ := HC2.out
    exact ⟨t, by rw [hg3.block _ HC2.out.lt fun e => by have := HF.out _ e; omega]; exact ht⟩
  have HG3 : Hid (Grown f S S.pow w w3) := (Grown.of_below HB2.out).trans hg3
  have HV3 : Hid (SrcB w3 (.slice av m cv) bs) := (HSV.out.1.below HB2.out).grown hg3 HSV.out.2
  have HVF : Hid (∀ k, (Value.slice av m cv).ownBlock = some k → ¬ S.foot f k) := HSV.out.2
  have HFS : Hid (∀ k, S.pow.foot f k → k < w.heap.size) := fun k hk => HF.out k (S.pow_foot.1 hk)
  have HV0 : Hid (SrcB w (.slice av m cv) bs) := HSV.out.1
  clear hf3 hg3 HC2 HB2 c2 HSV HF H
  rw [begE_abs]
  have HE : Hid (S.abs.appE name bs = if S.abs.beg [name] = 0 then (if bs.length + (flOf (alook name S.abs.L)).b.length ≤ 16777216 then 0 else 3) else S.abs.beg [name]) := show _ = _ from rfl
  have HA : Hid (S.abs.app name bs = if S.abs.appE name bs = 0 then { S.abs.pow with L := aput name ⟨(flOf (alook name S.abs.L)).b ++ bs, (flOf (alook name S.abs.L)).safe⟩ S.abs.L } else S.abs.pow) := show _ = _ from rfl
  by_cases hz : S.abs.beg [name] = 0
  · rw [hz]
    obtain ⟨T, hT⟩ : ∃ T, T = S.pow := ⟨_, rfl⟩
    rw [← hT] at HF3 HG3 HFS
    have hTL : S.abs.L = T.L := by rw [hT]; show S.L = S.pow.L; unfold FS.L; rw [FS.pow_es]
    obtain ⟨a, c, hlk, ho, hcase, hfit⟩ := shapeOf HF3.out name
    rw [hTL] at HE HA
    generalize hfl : flOf (alook name T.L) = fl at *
    have HO : Hid (OwnB w3 0 (.slice a fl.b.length c) fl.b ∧ ((alook name T.es = none ∧ a = none) ∨ alook name T.es = some (.slice a fl.b.length c, fl)) ∧ fl.safe ≤ fl.b.length ∧ fl.b.length ≤ 16777216) := ⟨ho, hcase, hfit⟩
    have HLK : Hid (((alook name T.es).map cellOf).getD zeroCV = .agg #[.slice a fl.b.length c, .int .i64 (fl.safe : Int)]) := hlk
    have HE' : Hid (S.abs.appE name bs = if bs.length + fl.b.length ≤ 16777216 then 0 else 3) := by have := HE.out; rw [if_pos hz] at this; exact this
    have HT : Hid (T = S.pow) := hT
    have hns : name.size ≤ 1000 := by
      have := (beg_zero hz).2
      simp only [List.all_cons, List.all_nil, Bool.and_true] at this
      have := nameOK_size this
      omega
    have cm : w3.cell? ⟨f, 0, none⟩ = some (.map T.m) := HF3.out.blk.one rfl
    have hl16 : fl.b.length ≤ 16777216 := hfit.2
    obtain ⟨n, hn⟩ : ∃ n, n = fl.b.length := ⟨_, rfl⟩
    rw [← hn] at HO HE' HLK hl16
    rw [← HM.out] at HE'
    have HN : Hid (n = fl.b.length) := hn
    clear hT hTL hlk ho hcase hfit hfl HE hz hn
    have cC0 : w3.cell? ⟨w.heap.size, 0, none⟩ = some (.slice none 0 0) := HC3.out.one rfl
    have cC1 : w3.cell? ⟨w.heap.size, 1, none⟩ = some (.int .i64 0) := HC3.out.one rfl
    have gC0 : w3.frozen? ⟨w.heap.size, 0, none⟩ = false := HC3.out.frozen 0
    have gC1 : w3.frozen? ⟨w.heap.size, 1, none⟩ = false := HC3.out.frozen 1
    go_upto_region 5 with (refine wpList_lookF rfl _ _ _ rfl HF3.out name rfl rfl ?_; simp only [Bool.false_eq_true, if_false]; rw [HLK.out])
    generalize hw4 : World.setCell (World.setCell w3 _ _) _ _ = w4
    have HK4 : Hid (Keep w.heap.size w3 w4) := by rw [← hw4]; exact ((Keep.refl _ _).setCell _ _).setCell _ _
    have HC4 : Hid (Blk w4 w.heap.size [.slice a n c, .int .i64 (fl.safe : Int)]) := by rw [← hw4]; exact (HC3.out.set 0 _).set 1 _
    have HF4 : Hid (FsAt w4 f T) := HF3.out.keep HK4.out fun k hk => by have := HFS.out k hk; omega
    have HG4 : Hid (Grown f S T w w4) := HG3.out.keep HK4.out (Nat.le_refl _)
    have HV4 : Hid (SrcB w4 (.slice av m cv) bs) := SrcB.later HV0.out HV3.out HK4.out (Nat.le_refl _)
    have HO4 : Hid (OwnB w4 0 (.slice a n c) fl.b) := HO.out.1.same fun k hk => HK4.out.block k (HO.out.1.lt k hk).2 fun e => by
      rcases HO.out.2.1 with ⟨_, h0⟩ | h1
      · rw [h0] at hk; cases hk
      · have := HFS.out k (.inr (.inr ⟨_, mem_of_alook h1, hk⟩)); omega
    have HCs : Hid ((alook name T.es = none ∧ (Value.slice a n c).ownBlock = none) ∨ alook name T.es = some (.slice a n c, fl)) := HO.out.2.1.imp (fun h => ⟨h.1, by rw [h.2]; rfl⟩) id
    have HFit : Hid (fl.safe ≤ n) := HO.out.2.2.1
    clear hw4 cm cC0 cC1 gC0 gC1 HC3 HF3 HG3 HV3 HO HLK HK4
    have cC0 : w4.cell? ⟨w.heap.size, 0, none⟩ = some (.slice a n c) := HC4.out.one rfl
    have cC1 : w4.cell? ⟨w.heap.size, 1, none⟩ = some (.int .i64 (fl.safe : Int)) := HC4.out.one rfl
    by_cases hbig : m + n ≤ 16777216
    · have HE2 : Hid (S.abs.appE name bs = 0) := by have := HE'.out; rw [if_pos hbig] at this; exact this
      have HA2 : Hid (S.abs.app name bs = { S.abs.pow with L := aput name ⟨fl.b ++ bs, fl.safe⟩ T.L }) := by have := HA.out; rw [if_pos HE2.out] at this; exact this
      clear HE' HA
      have HNe : Hid ((Value.slice a n c).ownBlock ≠ some w.heap.size) := fun e => by
        rcases HCs.out with ⟨_, h0⟩ | h1
        · rw [h0] at e; cases e
        · have := HFS.out _ (.inr (.inr ⟨_, mem_of_alook h1, e⟩)); omega
      go_upto_region 8 with fail
      go_upto_region 9 with (at_builtin; refine wpList_append_c rfl _ _ rfl 0 _ fl.b rfl HO4.out _ bs rfl HV4.out (by rw [← HM.out, ← HN.out]; omega) (Nat.zero_le _) ?_; intro v5 w5 HO5 HG5 HM5 HOld5; obtain ⟨a5, c5, rfl⟩ := HO5.out.shape; have HC5 : Hid (Blk w5 w.heap.size [.slice a n c, .int .i64 (fl.safe : Int)]) := HC4.out.grownBy HG5.out HNe.out; have cD0 := HC5.out.one (i := 0) rfl; have gD0 := HC5.out.frozen 0)
      obtain ⟨hx5, hy5⟩ := FsAt.appended2 HF4.out HCs.out HG5.out HOld5.out
      have hmv := moved_apart HF4.out HCs.out HM5.out
      have hge := HG5.out.size
      generalize hw6 : World.setCell w5 _ _ = w6
      have HK6 : Hid (Keep w.heap.size w5 w6) := by rw [← hw6]; exact (Keep.refl _ _).setCell _ _
      obtain ⟨k5, hk5⟩ : ∃ k5, k5 = (fl.b ++ bs).length := ⟨_, rfl⟩
      have hk5' : k5 = n + m := by rw [hk5, List.length_append, HN.out, HM.out]
      rw [← hk5] at hmv HO5
      have HC6 : Hid (Blk w6 w.heap.size [.slice a5 k5 c5, .int .i64 (fl.safe : Int)]) := by rw [← hw6, show fl.b.length + bs.length = k5 by rw [hk5, List.length_append]]; exact HC5.out.set 0 _
      have HF6 : Hid (FsAt w6 f T) := hx5.keep HK6.out fun k hk => by have := HFS.out k hk; omega
      have HG6 : Hid (Grown f S T w w6) := (HG4.out.trans hy5).keep HK6.out (Nat.le_refl _)
      have HP : Hid (Calls Try.prog 30 #[.pointer (some ⟨f, 0, none⟩), .string name, .agg #[.slice a5 k5 c5, .int .i64 (fl.safe : Int)]] w6 fun e w' => e = .returned (.tuple #[]) ∧ ∃ r, FsAt w' f { T with m := some r, es := aput name (.slice a5 k5 c5, ⟨fl.b ++ bs, fl.safe⟩) T.es } ∧ Put f T r w6 w') := by
        refine fput_any f T name a5 _ c5 ⟨fl.b ++ bs, fl.safe⟩ fl.safe w6 HF6.out hns ?_ rfl (fun k hk => (hmv k hk).1) ?_
        · exact HO5.out.same fun k hk => HK6.out.block k (HO5.out.lt k hk).2 fun e => by
            rcases (hmv k hk).2 with h1 | h1
            · have := HFS.out k h1; omega
            · have := HC4.out.lt; omega
        · refine ⟨?_, by rw [← hk5, hk5']; omega⟩
          show fl.safe ≤ (fl.b ++ bs).length
          have := HFit.out
          rw [← hk5, hk5']; omega
      have HMv : Hid (∀ k, (Value.slice a5 k5 c5).ownBlock = some k → S.foot f k ∨ w.heap.size ≤ k) := fun k hk => by
        rcases (hmv k hk).2 with h1 | h1
        · exact HG4.out.foot k h1
        · have := HG4.out.size
          exact .inr (by omega)
      clear hw6 hx5 hy5 hmv cD0 gD0 hk5 hk5' HG5 HM5 HOld5 HC5 hge HK6 HO5
      have cD0 : w6.cell? ⟨w.heap.size, 0, none⟩ = some (.slice a5 k5 c5) := HC6.out.one rfl
      have cD1 : w6.cell? ⟨w.heap.size, 1, none⟩ = some (.int .i64 (fl.safe : Int)) := HC6.out.one rfl
      go_wp2_with fail
      refine Calls.mono HP.out ?_
      rintro e w7 ⟨rfl, r, hf7, hp7⟩
      have HF7 : Hid (FsAt w7 f { T with m := some r, es := aput name (.slice a5 k5 c5, ⟨fl.b ++ bs, fl.safe⟩) T.es }) := hf7
      have HG7 : Hid (Grown f S { T with m := some r, es := aput name (.slice a5 k5 c5, ⟨fl.b ++ bs, fl.safe⟩) T.es } w w7) := HG6.out.put hp7 HMv.out
      clear hf7 hp7 HP HMv
      go_wp2_with fail
      go_step3
      go_wp2_with fail
      subst hQ
      rw [hops_ret]
      go_ret
      refine ⟨ret_int HE2.out.symm, _, ?_, HF7.out, HG7.out⟩
      rw [HA2.out, abs_put, HT.out, FS.pow_abs]
    · have HE2 : Hid (S.abs.appE name bs = 3) := by have := HE'.out; rw [if_neg hbig] at this; exact this
      have HA2 : Hid (S.abs.app name bs = S.abs.pow) := by have := HA.out; rw [HE2.out, if_neg (by omega)] at this; exact this
      clear HE' HA
      go_wp2_with fail
      go_step3
      simp only [Exit.then]
      subst hQ
      rw [hops_goto]
      refine ⟨_, rfl, ?_⟩
      go_hide hQ
      go_wp2_with fail
      subst hQ
      rw [hops_ret]
      go_ret
      exact ⟨ret_int HE2.out.symm, T, by rw [HA2.out, HT.out, FS.pow_abs], HF4.out, HG4.out⟩
  · have HE' : Hid (S.abs.appE name bs = S.abs.beg [name]) := by have := HE.out; rw [if_neg hz] at this; exact this
    have HA' : Hid (S.abs.app name bs = S.abs.pow) := by have := HA.out; rw [HE'.out, if_neg hz] at this; exact this
    clear HE HA
    generalize S.abs.beg [name] = E at *
    have hz' : (E != 0) = true := bne_iff_ne.2 hz
    go_wp2_with fail
    go_step3
    simp only [Exit.then]
    subst hQ
    rw [hops_goto]
    refine ⟨_, rfl, ?_⟩
    go_hide hQ
    go_wp2_with fail
    subst hQ
    rw [hops_ret]
    go_ret
    exact ⟨ret_int HE'.out.symm, S.pow, by rw [HA'.out, FS.pow_abs], HF3.out, HG3.out⟩
end Go.Proofs.Ytlapnnkahijikaa
namespace Go.Proofs.Ytlapnnkahijikaa
open Go.ChangeShapes Go.WideShapes Go.ChangeAt Go.RowKit Go.Lib

theorem opened_shape {w : World} {f : Nat} {S : FS} (h : FsAt w f S.pow) (l : List ByteArray) (name : ByteArray) : ∃ a n c sf, opened S l name = .tuple #[.agg #[.slice a n c, .int .i64 sf], .int .i64 (S.abs.opn l name)] ∧
    (S.abs.opn l name = 0 → n = (flOf (alook name S.abs.L)).b.length ∧ sf = ((flOf (alook name S.abs.L)).safe : Int) ∧ alook name S.pow.es = some (.slice a n c, flOf (alook name S.abs.L)) ∧ S.abs.beg l = 0) := by
  rw [opened_abs]
  unfold Abs.opn
  rw [show S.abs.L = S.L from rfl, alook_L, FS.pow_es]
  by_cases hb : S.abs.beg l = 0
  · rw [if_pos hb, if_pos hb]
    cases ha : alook name S.es with
    | none => exact ⟨none, 0, 0, 0, rfl, fun e => by simp at e⟩
    | some p =>
      obtain ⟨a, c, hp, _⟩ := h.found name (by rw [FS.pow_es]; exact ha)
      rw [hp]
      exact ⟨a, p.2.b.length, c, p.2.safe, rfl, fun _ => ⟨rfl, rfl, rfl, hb⟩⟩
  · rw [if_neg hb, if_neg hb]
    exact ⟨none, 0, 0, 0, rfl, fun e => absurd e hb⟩
set_option maxRecDepth 100000 in
set_option maxHeartbeats 2000000 in
theorem sync_any (f : Nat) (S : FS) (name : ByteArray) (w : World) (h : FsAt w f S) (hs : S.Sane) :
    Calls Try.prog 16 #[.pointer (some ⟨f, 0, none⟩), .string name] w fun e w' => e = .returned (.int .i64 (S.abs.opn [name] name)) ∧ After f S (S.abs.syn name) w w' := by
  have HOP : Hid (Calls Try.prog 34 #[.pointer (some ⟨f, 0, none⟩), .string name, .slice none 0 0] w fun e w' => e = .returned (opened S [name] name) ∧ FsAt w' f S.pow ∧ Grown f S S.pow w w') := open_any f S name _ [] w h hs (.inl ⟨rfl, rfl⟩) (Nat.zero_le _)
  have HF : Hid (∀ k, S.pow.foot f k → k < w.heap.size) := fun k hk => h.lt (S.pow_foot.1 hk)
  clear h hs
  go_enter Try.func16, Try.ntmps16
  go_wp2_with fail
  refine wp_scope_hops 1 ?_
  go_hide hQ
  go_wp2_with fail
  refine Calls.mono HOP.out ?_
  rintro e w1 ⟨rfl, hf1, hg1⟩
  obtain ⟨a, n, c, sf, hop, hfd⟩ := opened_shape hf1 [name] name
  rw [hop]
  have HF1 : Hid (FsAt w1 f S.pow) := hf1
  have HG1 : Hid (Grown f S S.pow w w1) := hg1
  have HFD : Hid (S.abs.opn [name] name = 0 → n = (flOf (alook name S.abs.L)).b.length ∧ sf = ((flOf (alook name S.abs.L)).safe : Int) ∧ alook name S.pow.es = some (.slice a n c, flOf (alook name S.abs.L)) ∧ S.abs.beg [name] = 0) := hfd
  have HA : Hid (S.abs.syn name = if S.abs.opn [name] name = 0 then { S.abs.pow with L := aput name ⟨(flOf (alook name S.abs.L)).b, (flOf (alook name S.abs.L)).b.length⟩ S.abs.L } else S.abs.pow) := show _ = _ from rfl
  clear hop hfd hf1 hg1 HOP
  obtain ⟨E, hE⟩ : ∃ E, E = S.abs.opn [name] name := ⟨_, rfl⟩
  rw [← hE] at HFD HA ⊢
  have HE : Hid (E = S.abs.opn [name] name) := hE
  clear hE
  go_upto_region 2 with fail
  generalize hw2 : World.alloc _ _ = w2
  have HC2 : Hid (Blk w2 w1.heap.size [.slice a n c, .int .i64 sf]) := by rw [← hw2]; exact Blk.mk w1 _ _ rfl rfl
  have HB2 : Hid (Below w1.heap.size w1 w2) := by rw [← hw2]; exact (Below.refl _ _).alloc (Nat.le_refl _) _
  have HF2 : Hid (FsAt w2 f S.pow) := HF1.out.below HB2.out
  have HG2 : Hid (Grown f S S.pow w w2) := HG1.out.thenBelow HB2.out
  clear hw2
  have cC0 : w2.cell? ⟨w1.heap.size, 0, none⟩ = some (.slice a n c) := HC2.out.one rfl
  have cC1 : w2.cell? ⟨w1.heap.size, 1, none⟩ = some (.int .i64 sf) := HC2.out.one rfl
  have gC1 : w2.frozen? ⟨w1.heap.size, 1, none⟩ = false := HC2.out.frozen 1
  by_cases hz : E = 0
  · subst hz
    obtain ⟨hn, hsf, hal, hbg⟩ := HFD.out rfl
    generalize hfl : flOf (alook name S.abs.L) = fl at *
    have HA2 : Hid (S.abs.syn name = { S.abs.pow with L := aput name ⟨fl.b, fl.b.length⟩ S.abs.L }) := by have := HA.out; rw [if_pos rfl] at this; exact this
    have hns : name.size ≤ 1000 := by
      have := (beg_zero hbg).2
      simp only [List.all_cons, List.all_nil, Bool.and_true] at this
      have := nameOK_size this
      omega
    have hAl : Hid (alook name S.pow.es = some (.slice a n c, fl)) := hal
    have HN : Hid (n = fl.b.length) := hn
    have hnb : n ≤ 16777216 := by have h16 : fl.b.length ≤ 16777216 := (HF2.out.fits _ (mem_of_alook hal)).2; omega
    clear HFD hsf hal hfl HA hn hbg
    go_upto_region 4 with fail
    generalize hw3 : World.setCell w2 _ _ = w3
    have HK3 : Hid (Keep w1.heap.size w2 w3) := by rw [← hw3]; exact (Keep.refl _ _).setCell _ _
    have HC3 : Hid (Blk w3 w1.heap.size [.slice a n c, .int .i64 n]) := by rw [← hw3]; exact HC2.out.set 1 _
    have HF3 : Hid (FsAt w3 f S.pow) := HF2.out.keep HK3.out fun k hk => by have := HF.out k hk; have := HG1.out.size; omega
    have HG3 : Hid (Grown f S S.pow w w3) := HG2.out.keep HK3.out HG1.out.size
    have HMv := moved_apart HF3.out (name := name) (v := .slice a n c) (v' := .slice a n c) (.inr hAl.out) (.inl rfl)
    have HO3 := (HF3.out.row _ (mem_of_alook hAl.out)).1
    have HP : Hid (Calls Try.prog 30 #[.pointer (some ⟨f, 0, none⟩), .string name, .agg #[.slice a n c, .int .i64 (n : Int)]] w3 fun e w' => e = .returned (.tuple #[]) ∧ ∃ r, FsAt w' f { S.pow with m := some r, es := aput name (.slice a n c, ⟨fl.b, fl.b.length⟩) S.pow.es } ∧ Put f S.pow r w3 w') :=
      fput_any f S.pow name a n c ⟨fl.b, fl.b.length⟩ n w3 HF3.out hns HO3 (by rw [HN.out]) (fun k hk => (HMv k hk).1) ⟨Nat.le_refl _, by rw [← HN.out]; exact hnb⟩
    have HMv2 : Hid (∀ k, (Value.slice a n c).ownBlock = some k → S.foot f k ∨ w.heap.size ≤ k) := fun k hk => by
      rcases (HMv k hk).2 with h1 | h1
      · exact .inl (S.pow_foot.1 h1)
      · have := HG3.out.size
        exact .inr (by omega)
    clear hw3 cC0 cC1 gC1 HF2 HG2 HC2 HMv HO3
    have cC0 : w3.cell? ⟨w1.heap.size, 0, none⟩ = some (.slice a n c) := HC3.out.one rfl
    have cC1 : w3.cell? ⟨w1.heap.size, 1, none⟩ = some (.int .i64 (n : Int)) := HC3.out.one rfl
    go_wp2_with fail
    refine Calls.mono HP.out ?_
    rintro e w7 ⟨rfl, r, hf7, hp7⟩
    have HF7 : Hid (FsAt w7 f { S.pow with m := some r, es := aput name (.slice a n c, ⟨fl.b, fl.b.length⟩) S.pow.es }) := hf7
    have HG7 : Hid (Grown f S { S.pow with m := some r, es := aput name (.slice a n c, ⟨fl.b, fl.b.length⟩) S.pow.es } w w7) := HG3.out.put hp7 HMv2.out
    clear hf7 hp7 HP HMv2
    go_wp2_with fail
    go_step3
    go_wp2_with fail
    subst hQ
    rw [hops_ret]
    go_ret
    refine ⟨ret_int HE.out, _, ?_, HF7.out, HG7.out⟩
    rw [HA2.out, abs_put, FS.pow_abs, show S.pow.L = S.abs.L by unfold FS.L; rw [FS.pow_es]; rfl]
  · have hz' : (E != 0) = true := bne_iff_ne.2 hz
    have HA2 : Hid (S.abs.syn name = S.abs.pow) := by have := HA.out; rw [if_neg hz] at this; exact this
    clear HFD HA
    go_wp2_with fail
    go_step3
    simp only [Exit.then]
    subst hQ
    rw [hops_goto]
    refine ⟨_, rfl, ?_⟩
    go_hide hQ
    go_wp2_with fail
    subst hQ
    rw [hops_ret]
    go_ret
    exact ⟨ret_int HE.out, S.pow, by rw [HA2.out, FS.pow_abs], HF2.out, HG2.out⟩
end Go.Proofs.Ytlapnnkahijikaa
namespace Go.Proofs.Ytlapnnkahijikaa
open Go.ChangeShapes Go.WideShapes Go.ChangeAt Go.RowKit Go.Lib

theorem adel_ne {β : Type} {s : ByteArray} : ∀ {l : List (ByteArray × β)}, (l.map Prod.fst).Nodup → ∀ p ∈ adel s l, p.1 ≠ s := by
  intro l
  induction l with
  | nil => intro _ p hp; cases hp
  | cons q l ih =>
    intro hn p hp
    rw [List.map_cons, List.nodup_cons] at hn
    unfold adel at hp
    split at hp
    · rename_i e
      intro e'
      exact hn.1 (by rw [← e, ← e']; exact List.mem_map.2 ⟨p, hp, rfl⟩)
    · rename_i e
      rcases List.mem_cons.1 hp with rfl | hp
      · exact fun e' => e e'.symm
      · exact ih hn.2 p hp
theorem FsAt.del {w w' : World} {f r : Nat} {S : FS} {name : ByteArray} (h : FsAt w f S) (hm : S.m = some r) (hM : MapS w' r (adel name (S.es.map (onB cellOf)))) (k : Keep r w w') :
    FsAt w' f { S with es := adel name S.es } ∧ Grown f S { S with es := adel name S.es } w w' := by
  have hs := adel_sub name S.es
  refine ⟨⟨?_, (fun e => by rw [h.bare e]; rfl), fun r' hr' => ?_, fun p hp => ?_, h.apart.sublist hs, fun p hp => h.fits p (hs.subset hp)⟩, ⟨k.os, k.tape, k.output, k.size, fun i hi hf => k.block i hi fun e => hf (.inr (.inl (by rw [e]; exact hm))), fun i hi => .inl ?_⟩⟩
  · exact h.blk.keep k fun e => (h.map r hm).1 e.symm
  · have hr2 : S.m = some r' := hr'
    rw [hm] at hr2
    injection hr2 with hr2
    subst hr2
    exact ⟨(h.map r hm).1, by rw [adel_map]; exact hM⟩
  · obtain ⟨ho, hb⟩ := h.row p (hs.subset hp)
    exact ⟨ho.same fun i hi => k.block i (ho.lt i hi).2 fun e => (hb i hi).2 (by rw [e]; exact hm), hb⟩
  · rcases hi with e | e | ⟨p, hp, e⟩
    · exact .inl e
    · exact .inr (.inl e)
    · exact .inr (.inr ⟨p, hs.subset hp, e⟩)
theorem abs_del (S : FS) (name : ByteArray) : FS.abs { S with es := adel name S.es } = { S.abs with L := adel name S.L } := by
  unfold FS.abs FS.L
  rw [adel_map]
theorem FS.pow_L (S : FS) : S.pow.L = S.abs.L := by unfold FS.L; rw [FS.pow_es]; rfl
theorem FsAt.some {w : World} {f : Nat} {S : FS} (h : FsAt w f S) {name : ByteArray} {p : Value × Fl} (ha : alook name S.es = Option.some p) : ∃ r, S.m = Option.some r := by
  cases hm : S.m with
  | none => rw [h.bare hm] at ha; cases ha
  | some r => exact ⟨r, rfl⟩
set_option maxRecDepth 100000 in
set_option maxHeartbeats 2000000 in
theorem remove_any (f : Nat) (S : FS) (name : ByteArray) (w : World) (h : FsAt w f S) (hs : S.Sane) :
    Calls Try.prog 21 #[.pointer (some ⟨f, 0, none⟩), .string name] w fun e w' => e = .returned (.int .i64 (S.abs.opn [name] name)) ∧ After f S (S.abs.rem name) w w' := by
  have HOP : Hid (Calls Try.prog 34 #[.pointer (some ⟨f, 0, none⟩), .string name, .slice none 0 0] w fun e w' => e = .returned (opened S [name] name) ∧ FsAt w' f S.pow ∧ Grown f S S.pow w w') := open_any f S name _ [] w h hs (.inl ⟨rfl, rfl⟩) (Nat.zero_le _)
  have HF : Hid (∀ k, S.pow.foot f k → k < w.heap.size) := fun k hk => h.lt (S.pow_foot.1 hk)
  clear h hs
  go_enter Try.func21, Try.ntmps21
  go_wp2_with fail
  refine wp_scope_hops 1 ?_
  go_hide hQ
  go_wp2_with fail
  refine Calls.mono HOP.out ?_
  rintro e w1 ⟨rfl, hf1, hg1⟩
  obtain ⟨a, n, c, sf, hop, hfd⟩ := opened_shape hf1 [name] name
  rw [hop]
  have HF1 : Hid (FsAt w1 f S.pow) := hf1
  have HG1 : Hid (Grown f S S.pow w w1) := hg1
  have HFD : Hid (S.abs.opn [name] name = 0 → n = (flOf (alook name S.abs.L)).b.length ∧ sf = ((flOf (alook name S.abs.L)).safe : Int) ∧ alook name S.pow.es = some (.slice a n c, flOf (alook name S.abs.L)) ∧ S.abs.beg [name] = 0) := hfd
  have HA : Hid (S.abs.rem name = if S.abs.opn [name] name = 0 then { S.abs.pow with L := adel name S.abs.L } else S.abs.pow) := show _ = _ from rfl
  clear hop hfd hf1 hg1 HOP
  obtain ⟨E, hE⟩ : ∃ E, E = S.abs.opn [name] name := ⟨_, rfl⟩
  rw [← hE] at HFD HA ⊢
  have HE : Hid (E = S.abs.opn [name] name) := hE
  clear hE
  go_upto_region 2 with fail
  generalize hw2 : World.alloc _ _ = w2
  have HC2 : Hid (Blk w2 w1.heap.size [.slice a n c, .int .i64 sf]) := by rw [← hw2]; exact Blk.mk w1 _ _ rfl rfl
  have HB2 : Hid (Below w1.heap.size w1 w2) := by rw [← hw2]; exact (Below.refl _ _).alloc (Nat.le_refl _) _
  have HF2 : Hid (FsAt w2 f S.pow) := HF1.out.below HB2.out
  have HG2 : Hid (Grown f S S.pow w w2) := HG1.out.thenBelow HB2.out
  clear hw2
  have cC0 : w2.cell? ⟨w1.heap.size, 0, none⟩ = some (.slice a n c) := HC2.out.one rfl
  have cC1 : w2.cell? ⟨w1.heap.size, 1, none⟩ = some (.int .i64 sf) := HC2.out.one rfl
  have gC1 : w2.frozen? ⟨w1.heap.size, 1, none⟩ = false := HC2.out.frozen 1
  by_cases hz : E = 0
  · subst hz
    obtain ⟨hn, hsf, hal, hbg⟩ := HFD.out rfl
    generalize hfl : flOf (alook name S.abs.L) = fl at *
    have HA2 : Hid (S.abs.rem name = { S.abs.pow with L := adel name S.abs.L }) := by have := HA.out; rw [if_pos rfl] at this; exact this
    obtain ⟨r, hr⟩ := HF2.out.some hal
    have HR : Hid (S.pow.m = some r) := hr
    have HM : Hid (MapS w2 r (S.pow.es.map (onB cellOf))) := (HF2.out.map r hr).2
    have cm : w2.cell? ⟨f, 0, none⟩ = some (.map (some r)) := by rw [← hr]; exact HF2.out.blk.one rfl
    clear HFD hsf hal hfl HA hn hbg hr cC0 cC1 gC1
    go_wp2_with (show wpList _ _ _ [Oper.mk none _ _ _ _ _] _ _; refine wpList_deleteS rfl _ _ _ rfl rfl Try.underlying9 Try.underlying45 _ HM.out name rfl rfl ?_; intro w3 HM3 HK3)
    have HX := HF2.out.del HR.out HM3.out HK3.out
    go_step3
    go_wp2_with fail
    subst hQ
    rw [hops_ret]
    go_ret
    refine ⟨ret_int HE.out, _, ?_, HX.1, HG2.out.trans HX.2⟩
    rw [HA2.out, abs_del, FS.pow_abs, FS.pow_L]
  · have hz' : (E != 0) = true := bne_iff_ne.2 hz
    have HA2 : Hid (S.abs.rem name = S.abs.pow) := by have := HA.out; rw [if_neg hz] at this; exact this
    clear HFD HA
    go_wp2_with fail
    go_step3
    simp only [Exit.then]
    subst hQ
    rw [hops_goto]
    refine ⟨_, rfl, ?_⟩
    go_hide hQ
    go_wp2_with fail
    subst hQ
    rw [hops_ret]
    go_ret
    exact ⟨ret_int HE.out, S.pow, by rw [HA2.out, FS.pow_abs], HF2.out, HG2.out⟩
end Go.Proofs.Ytlapnnkahijikaa
namespace Go.Proofs.Ytlapnnkahijikaa
open Go.ChangeShapes Go.WideShapes Go.ChangeAt Go.RowKit Go.Lib

set_option maxRecDepth 100000 in
set_option maxHeartbeats 2000000 in
theorem rename_any (f : Nat) (S : FS) (name dest : ByteArray) (w : World) (h : FsAt w f S) (hs : S.Sane) :
    Calls Try.prog 19 #[.pointer (some ⟨f, 0, none⟩), .string name, .string dest] w fun e w' => e = .returned (.int .i64 (S.abs.opn [dest, name] name)) ∧ After f S (S.abs.ren name dest) w w' := by
  have H : Hid (FsAt w f S ∧ S.Sane) := ⟨h, hs⟩
  have HF : Hid (∀ k, S.pow.foot f k → k < w.heap.size) := fun k hk => h.lt (S.pow_foot.1 hk)
  clear h hs
  go_enter Try.func19, Try.ntmps19
  go_wp2_with fail
  refine wp_scope_hops 1 ?_
  go_hide hQ
  go_wp2_with fail
  generalize hw0 : World.alloc w _ = w0
  have hb0 : Below w.heap.size w w0 := by rw [← hw0]; exact (Below.refl _ _).alloc (Nat.le_refl _) _
  have c0 : w0.cell? ⟨w.heap.size, 0, none⟩ = some (.string dest) := by rw [← hw0]; exact (Blk.mk (b := w.heap.size) _ _ _ rfl rfl).one (i := 0) rfl
  refine Calls.mono (open_any f S name (.slice (some ⟨w.heap.size, 0, none⟩) 1 1) [dest] w0 (H.out.1.below hb0) H.out.2 (.inr ⟨_, 1, rfl, fun j x hx => by
    cases j with
    | zero => injection hx with hx; subst hx; exact c0
    | succ j => cases hx⟩) (Nat.le_refl _)) ?_
  rintro e w1 ⟨rfl, hf1, hg1⟩
  simp only [List.cons_append, List.nil_append]
  obtain ⟨a, n, c, sf, hop, hfd⟩ := opened_shape hf1 [dest, name] name
  rw [hop]
  have HF1 : Hid (FsAt w1 f S.pow) := hf1
  have HG1 : Hid (Grown f S S.pow w w1) := (Grown.of_below hb0).trans hg1
  clear hb0 c0 hw0 H
  have HFD : Hid (S.abs.opn [dest, name] name = 0 → n = (flOf (alook name S.abs.L)).b.length ∧ sf = ((flOf (alook name S.abs.L)).safe : Int) ∧ alook name S.pow.es = some (.slice a n c, flOf (alook name S.abs.L)) ∧ S.abs.beg [dest, name] = 0) := hfd
  have HA : Hid (S.abs.ren name dest = if S.abs.opn [dest, name] name = 0 then { S.abs.pow with L := aput dest (flOf (alook name S.abs.L)) (adel name S.abs.L) } else S.abs.pow) := show _ = _ from rfl
  clear hop hfd hf1 hg1
  obtain ⟨E, hE⟩ : ∃ E, E = S.abs.opn [dest, name] name := ⟨_, rfl⟩
  rw [← hE] at HFD HA ⊢
  have HE : Hid (E = S.abs.opn [dest, name] name) := hE
  clear hE
  go_upto_region 2 with fail
  generalize hw2 : World.alloc _ _ = w2
  have HC2 : Hid (Blk w2 w1.heap.size [.slice a n c, .int .i64 sf]) := by rw [← hw2]; exact Blk.mk w1 _ _ rfl rfl
  have HB2 : Hid (Below w1.heap.size w1 w2) := by rw [← hw2]; exact (Below.refl _ _).alloc (Nat.le_refl _) _
  have HF2 : Hid (FsAt w2 f S.pow) := HF1.out.below HB2.out
  have HG2 : Hid (Grown f S S.pow w w2) := HG1.out.thenBelow HB2.out
  clear hw2
  have cC0 : w2.cell? ⟨w1.heap.size, 0, none⟩ = some (.slice a n c) := HC2.out.one rfl
  have cC1 : w2.cell? ⟨w1.heap.size, 1, none⟩ = some (.int .i64 sf) := HC2.out.one rfl
  have gC1 : w2.frozen? ⟨w1.heap.size, 1, none⟩ = false := HC2.out.frozen 1
  by_cases hz : E = 0
  · subst hz
    obtain ⟨hn, hsf, hal, hbg⟩ := HFD.out rfl
    generalize hfl : flOf (alook name S.abs.L) = fl at *
    have HA2 : Hid (S.abs.ren name dest = { S.abs.pow with L := aput dest fl (adel name S.abs.L) }) := by have := HA.out; rw [if_pos rfl] at this; exact this
    have hns : dest.size ≤ 1000 := by
      have := (beg_zero hbg).2
      simp only [List.all_cons, List.all_nil, Bool.and_true, Bool.and_eq_true] at this
      have := nameOK_size this.1
      omega
    have hAl : Hid (alook name S.pow.es = some (.slice a n c, fl)) := hal
    have HN : Hid (n = fl.b.length) := hn
    have hnb : n ≤ 16777216 := by have h16 : fl.b.length ≤ 16777216 := (HF2.out.fits _ (mem_of_alook hal)).2; omega
    have hfit : fl.safe ≤ fl.b.length ∧ fl.b.length ≤ 16777216 := HF2.out.fits _ (mem_of_alook hal)
    obtain ⟨r, hr⟩ := HF2.out.some hal
    have HR : Hid (S.pow.m = some r) := hr
    have HM : Hid (MapS w2 r (S.pow.es.map (onB cellOf))) := (HF2.out.map r hr).2
    have cm : w2.cell? ⟨f, 0, none⟩ = some (.map (some r)) := by rw [← hr]; exact HF2.out.blk.one rfl
    have hC : r ≠ w1.heap.size := fun e => by
      have := HF.out r (.inr (.inl hr))
      have := HG1.out.size
      omega
    clear HFD hal hfl HA hn hbg hr gC1
    go_upto_region 4 with (show wpList _ _ _ [Oper.mk none _ _ _ _ _] _ _; refine wpList_deleteS rfl _ _ _ rfl rfl Try.underlying9 Try.underlying45 _ HM.out name rfl rfl ?_; intro w3 HM3 HK3)
    obtain ⟨T, hT⟩ : ∃ T : FS, T = { S.pow with es := adel name S.pow.es } := ⟨_, rfl⟩
    have HX := HF2.out.del HR.out HM3.out HK3.out
    rw [← hT] at HX
    have HF3 : Hid (FsAt w3 f T) := HX.1
    have HG3 : Hid (Grown f S T w w3) := HG2.out.trans HX.2
    have HC3 : Hid (Blk w3 w1.heap.size [.slice a n c, .int .i64 sf]) := HC2.out.keep HK3.out (Ne.symm hC)
    have HMv := moved_apart HF2.out (name := name) (v := .slice a n c) (v' := .slice a n c) (.inr hAl.out) (.inl rfl)
    have HO3 : OwnB w3 0 (.slice a n c) fl.b := by
      have hmem := mem_of_alook hAl.out
      exact (HF2.out.row _ hmem).1.same fun k hk => HK3.out.block k ((HF2.out.row _ hmem).1.lt k hk).2 fun e => ((HF2.out.row _ hmem).2 k hk).2 (by rw [e]; exact HR.out)
    have HP : Hid (Calls Try.prog 30 #[.pointer (some ⟨f, 0, none⟩), .string dest, .agg #[.slice a n c, .int .i64 sf]] w3 fun e w' => e = .returned (.tuple #[]) ∧ ∃ r, FsAt w' f { T with m := some r, es := aput dest (.slice a n c, fl) T.es } ∧ Put f T r w3 w') := by
      refine fput_any f T dest a n c fl sf w3 HF3.out hns HO3 hsf (fun k hk => ?_) hfit
      have h1 := (HMv k hk).1
      subst hT
      exact ⟨h1.1, h1.2.1, fun p hp _ => h1.2.2 p ((adel_sub _ _).subset hp) (adel_ne HF2.out.nodup p hp)⟩
    have HMv2 : Hid (∀ k, (Value.slice a n c).ownBlock = some k → S.foot f k ∨ w.heap.size ≤ k) := fun k hk => .inl (S.pow_foot.1 (.inr (.inr ⟨_, mem_of_alook hAl.out, hk⟩)))
    have HTL : Hid (T.abs = { S.pow.abs with L := adel name S.pow.L }) := by rw [hT]; exact abs_del _ _
    clear cC0 cC1 cm HF2 HG2 HC2 HMv HO3 hT HX HM3 HK3 HM HR hsf hC hfit
    have cC0 : w3.cell? ⟨w1.heap.size, 0, none⟩ = some (.slice a n c) := HC3.out.one rfl
    have cC1 : w3.cell? ⟨w1.heap.size, 1, none⟩ = some (.int .i64 sf) := HC3.out.one rfl
    go_wp2_with fail
    refine Calls.mono HP.out ?_
    rintro e w7 ⟨rfl, r7, hf7, hp7⟩
    have HF7 : Hid (FsAt w7 f { T with m := some r7, es := aput dest (.slice a n c, fl) T.es }) := hf7
    have HG7 : Hid (Grown f S { T with m := some r7, es := aput dest (.slice a n c, fl) T.es } w w7) := HG3.out.put hp7 HMv2.out
    clear hf7 hp7 HP HMv2
    go_wp2_with fail
    go_step3
    go_wp2_with fail
    subst hQ
    rw [hops_ret]
    go_ret
    refine ⟨ret_int HE.out, _, ?_, HF7.out, HG7.out⟩
    rw [HA2.out, abs_put, show T.L = T.abs.L from rfl, HTL.out, FS.pow_L, FS.pow_abs]
  · have hz' : (E != 0) = true := bne_iff_ne.2 hz
    have HA2 : Hid (S.abs.ren name dest = S.abs.pow) := by have := HA.out; rw [if_neg hz] at this; exact this
    clear HFD HA
    go_wp2_with fail
    go_step3
    simp only [Exit.then]
    subst hQ
    rw [hops_goto]
    refine ⟨_, rfl, ?_⟩
    go_hide hQ
    go_wp2_with fail
    subst hQ
    rw [hops_ret]
    go_ret
    exact ⟨ret_int HE.out, S.pow, by rw [HA2.out, FS.pow_abs], HF2.out, HG2.out⟩
end Go.Proofs.Ytlapnnkahijikaa
