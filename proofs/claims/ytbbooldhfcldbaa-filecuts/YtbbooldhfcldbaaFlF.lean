/- file: what the acts make of files, seen from outside (Abs); laws of its map; an append leaves the elder row. -/
import Derived.Test.YtbbooldhfcldbaaFlE
namespace Go.Proofs.Ytbbooldhfcldbaa
open Go.ChangeShapes Go.WideShapes Go.ChangeAt Go.RowKit Go.Lib

section
variable {w w' : World} {B : Nat} {v x : Value} {bs r : List (BitVec 8)}
/-- What append leaves of the row that it was given. -/
theorem append_old (ty : TypeId) (h : OwnB w B v bs) (hr : SrcB w x r) (hm : bs.length + r.length ≤ 100000000) {v' : Value} (hrun : (Builtin.append_ #[40, 40] ty #[v, x]).run Try.prog w = .ok v' w') : OwnB w' B v bs := by
  obtain ⟨i, hi, hi1, hi2, hi3⟩ := info_parts Try.info8
  rcases hr with ⟨rfl, rfl⟩ | ⟨b, o, cap, rfl, hc⟩
  · rw [run_append_owned_none w B _ ty _ i 1 Try.underlying40 hi v _ _ h] at hrun
    injection hrun with _ e
    rw [← e]; exact h
  · have hcells : ∀ j u, (u8s r)[j]? = some u → w.cell? ((⟨b, o, none⟩ : Addr).add j) = some u := fun j u hu => by rw [Addr.add_mid]; exact hc j u hu
    have hlen : (u8s r).length = r.length * i.size := by rw [hi2, u8s_length]; omega
    have hfl : (u8s bs).length = bs.length * i.size := by rw [hi2, u8s_length]; omega
    have h0 := h
    rcases h.2 with ⟨rfl, hn0⟩ | ⟨g, c, cur, rfl, hbg, hg, hnc, hcm, hcs, htake⟩
    · have : bs = [] := List.eq_nil_of_length_eq_zero hn0
      subst this
      exact OwnB.nil _ _
    · have hcs' : cur.size = c := by omega
      by_cases hroom : bs.length + r.length ≤ c
      · have e := run_append_room w 40 ty 5 i Try.underlying40 hi g bs.length c cur hg ⟨b, o, none⟩ r.length cap (u8s r) hlen hcells (u8s_mem r) hroom (by rw [hi2, u8s_length, hcs]; omega)
        rw [e] at hrun
        injection hrun with _ e2
        rw [hi2, Nat.mul_one] at e2
        rw [Nat.mul_one] at htake
        refine ⟨h.1, .inr ⟨g, c, _, rfl, hbg, by rw [← e2]; exact setRow_heap w g cur _ _ _ hg, hnc, hcm, ?_, ?_⟩⟩
        · simp only [List.size_toArray, List.length_append, List.length_take, List.length_drop, Array.length_toList, u8s_length]
          omega
        · rw [Nat.mul_one, htake]
          show ((u8s bs ++ u8s r) ++ _).take _ = _
          rw [List.append_assoc, List.take_append_of_le_length (by rw [u8s_length]; exact Nat.le_refl _), List.take_of_length_le (by rw [u8s_length]; exact Nat.le_refl _)]
      · have e := run_append_grow w 40 ty 5 i _ Try.underlying40 hi hi1 ⟨g, 0, none⟩ bs.length c (u8s bs) hfl (h0.cells (g := g) rfl) ⟨b, o, none⟩ r.length cap (u8s r) hlen hcells (by omega) (by omega) (growslice_fits (by omega) (by rw [hi3]; omega))
        rw [e] at hrun
        injection hrun with _ e2
        rw [← e2]
        exact OwnB.same h0 fun k hk => heap_alloc_old w.drew _ (h0.lt k hk).2
end
section
variable {ops : Array Oper} {o : Oper} {ac : Act} {w : World} {Q : Exit → Act → World → Prop}
theorem wpList_append_c {rest : List Oper} (hgd : o.guard = none) (s x : Operand)
    (ho : o.op = .call { callee := .builtin .append, args := #[s, x], argTypes := #[40, 40] }) (B : Nat) (v : Value) (bs : List (BitVec 8)) (hs : ac.eval s = v) (h : OwnB w B v bs)
    (y : Value) (r : List (BitVec 8)) (hx : ac.eval x = y) (hr : SrcB w y r) (hm : bs.length + r.length ≤ 100000000) (hN : B ≤ w.heap.size)
    (hK : ∀ v' w', Hid (OwnB w' B v' (bs ++ r)) → Hid (w.grownBy w' v.ownBlock) → Hid (Moved w v v') → Hid (OwnB w' B v bs) → wpList Try.prog ops Q rest (ac.put o.dst v') w') : wpList Try.prog ops Q (o :: rest) ac w := by
  obtain ⟨v', w', hrun, h1, h2, h3⟩ := run_append_b o.type h hr hm hN
  have h4 := append_old o.type h hr hm hrun
  refine wpList_plain hgd fun K hK' => ?_
  unfold Oper.wp execOp
  simp only [ho, resolve, invoke, builtin, Sem.run_bind, Sem.run_pure, Result.andThen_ok, List.map_toArray, List.map_cons, List.map_nil, hs, hx, hrun]
  exact hK' _ _ (hK v' w' h1 h2 h3 h4)
theorem wpList_lookF {rest : List Oper} {f : Nat} {S : FS} (hg : o.guard = none) (m x : Operand) (c : Bool) (hop : o.op = Op.lookup 56 m x c) (h : FsAt w f S) (s : ByteArray)
    (hm : ac.eval m = .map S.m) (hx : ac.eval x = .string s)
    (hK : wpList Try.prog ops Q rest (ac.put o.dst (if c then .tuple #[((alook s S.es).map cellOf).getD zeroCV, .bool (alook s S.es).isSome] else ((alook s S.es).map cellOf).getD zeroCV)) w) : wpList Try.prog ops Q (o :: rest) ac w := by
  cases hr : S.m with
  | none =>
    rw [h.bare hr] at hK
    rw [hr] at hm
    exact wpList_lookNil hg m x c hop Try.underlying9 Try.underlying56 zeroCV zeroC s hm hx hK
  | some r =>
    have hM := (h.map r hr).2
    rw [hr] at hm
    refine wpList_lookS hg m x c hop Try.underlying9 Try.underlying56 zeroCV zeroC _ hM s hm hx ?_
    rw [alook_map]
    simpa using hK
end

/-- Files, seen from outside. -/
structure Abs where
  L : List (ByteArray × Fl)
  ops : Int
  counted : Bool
  left : Int
  off : Bool
def FS.abs (S : FS) : Abs := ⟨S.L, S.ops, S.counted, S.left, S.off⟩
def Abs.pow (A : Abs) : Abs :=
  if A.counted = false then { A with ops := A.ops + 1 } else if 0 < A.left then { A with ops := A.ops + 1, left := A.left - 1 } else { A with ops := A.ops + 1, off := true }
theorem FS.pow_abs (S : FS) : S.pow.abs = S.abs.pow := by
  unfold FS.pow Abs.pow FS.abs
  simp only
  repeat' split
  all_goals rfl
theorem Abs.pow_L (A : Abs) : A.pow.L = A.L := by unfold Abs.pow; repeat' split
                                                  all_goals rfl
def Abs.beg (A : Abs) (l : List ByteArray) : Int := if A.pow.off = true then 7 else if l.all nameOK = true then 0 else 1
theorem begE_abs (S : FS) (l : List ByteArray) : begE S l = S.abs.beg l := by
  unfold begE Abs.beg
  rw [← FS.pow_abs]; rfl
/-- A file, or none of its bytes. -/
def flOf (o : Option Fl) : Fl := o.getD ⟨[], 0⟩
/-- What an act on a file that must be there finds. -/
def Abs.opn (A : Abs) (l : List ByteArray) (name : ByteArray) : Int := if A.beg l = 0 then (if (alook name A.L).isSome then 0 else 5) else A.beg l
theorem opened_abs (S : FS) (l : List ByteArray) (name : ByteArray) : opened S l name = .tuple #[if S.abs.beg l = 0 then ((alook name S.es).map cellOf).getD zeroCV else zeroCV, .int .i64 (S.abs.opn l name)] := by
  unfold opened Abs.opn
  rw [begE_abs, show S.abs.L = S.L from rfl, alook_L, Option.isSome_map]
  split <;> rfl
def Abs.appE (A : Abs) (name : ByteArray) (bs : List (BitVec 8)) : Int := if A.beg [name] = 0 then (if bs.length + (flOf (alook name A.L)).b.length ≤ 16777216 then 0 else 3) else A.beg [name]
def Abs.app (A : Abs) (name : ByteArray) (bs : List (BitVec 8)) : Abs :=
  if A.appE name bs = 0 then { A.pow with L := aput name ⟨(flOf (alook name A.L)).b ++ bs, (flOf (alook name A.L)).safe⟩ A.L } else A.pow
def Abs.syn (A : Abs) (name : ByteArray) : Abs :=
  if A.opn [name] name = 0 then { A.pow with L := aput name ⟨(flOf (alook name A.L)).b, (flOf (alook name A.L)).b.length⟩ A.L } else A.pow
def Abs.ren (A : Abs) (fr dest : ByteArray) : Abs :=
  if A.opn [dest, fr] fr = 0 then { A.pow with L := aput dest (flOf (alook fr A.L)) (adel fr A.L) } else A.pow
def Abs.rem (A : Abs) (name : ByteArray) : Abs := if A.opn [name] name = 0 then { A.pow with L := adel name A.L } else A.pow
def Abs.truE (A : Abs) (name : ByteArray) (n : Int) : Int := if A.opn [name] name = 0 then (if 0 ≤ n ∧ n ≤ (flOf (alook name A.L)).b.length then 0 else 1) else A.opn [name] name
def Abs.tru (A : Abs) (name : ByteArray) (n : Int) : Abs :=
  if A.truE name n = 0 then { A.pow with L := aput name ⟨(flOf (alook name A.L)).b.take n.toNat, min (flOf (alook name A.L)).safe n.toNat⟩ A.L } else A.pow
theorem abs_put (S : FS) (r : Nat) (name : ByteArray) (v : Value) (fl : Fl) : FS.abs { S with m := some r, es := aput name (v, fl) S.es } = { S.abs with L := aput name fl S.L } := by
  unfold FS.abs FS.L
  rw [aput_map]

theorem apart_ne {es : List (ByteArray × (Value × Fl))} : ∀ (_ : es.Pairwise fun p q => ∀ k, p.2.1.ownBlock = some k → q.2.1.ownBlock ≠ some k) {p q : ByteArray × (Value × Fl)}, p ∈ es → q ∈ es → p.1 ≠ q.1 → ∀ k, p.2.1.ownBlock = some k → q.2.1.ownBlock ≠ some k := by
  induction es with
  | nil => intro _ p q hp; cases hp
  | cons a es ih =>
    intro h p q hp hq hne k hk hk'
    rw [List.pairwise_cons] at h
    rcases List.mem_cons.1 hp with e1 | hp <;> rcases List.mem_cons.1 hq with e2 | hq
    · exact hne (by rw [e1, e2])
    · rw [e1] at hk; exact h.1 q hq k hk hk'
    · rw [e2] at hk'; exact h.1 p hp k hk' hk
    · exact ih h.2 hp hq hne k hk hk'
section
variable {w w' w'' : World} {f : Nat} {S S' S'' : FS}
theorem FsAt.appended {name : ByteArray} {p : Value × Fl} (h : FsAt w f S) (hp : alook name S.es = some p) (hg : w.grownBy w' p.1.ownBlock) (hold : OwnB w' 0 p.1 p.2.b) : FsAt w' f S := by
  have hmem := mem_of_alook hp
  have hrow := h.row _ hmem
  have key : ∀ k, k < w.heap.size → p.1.ownBlock ≠ some k → w'.heap[k]? = w.heap[k]? := fun k hk e => hg.block k hk e.symm
  refine ⟨?_, h.bare, fun r hr => ⟨(h.map r hr).1, (h.map r hr).2.same (key r (h.map r hr).2.lt fun e => (hrow.2 r e).2 hr)⟩, fun q hq => ⟨?_, (h.row q hq).2⟩, h.apart, h.fits⟩
  · obtain ⟨t, ht⟩ := h.blk
    exact ⟨t, by rw [key f h.blk.lt fun e => (hrow.2 f e).1 rfl]; exact ht⟩
  · by_cases e : q.1 = name
    · have : q = (name, p) := by
        have h1 : alook q.1 S.es = some q.2 := alook_of_mem h.nodup hq
        rw [e, hp] at h1
        injection h1 with h1
        rw [← e, h1]
      rw [this]; exact hold
    · exact (h.row q hq).1.same fun k hk => key k ((h.row q hq).1.lt k hk).2 fun e' => apart_ne h.apart hq hmem e k hk e'
theorem Grown.of_grownBy {row : Option Nat} (hg : w.grownBy w' row) (hr : ∀ k, row = some k → S.foot f k) : Grown f S S w w' :=
  ⟨hg.os, hg.tape, hg.output, hg.size, fun k hk hf => hg.block k hk fun e => hf (hr k e.symm), fun _ h => .inl h⟩
theorem Put.grown {r : Nat} {name : ByteArray} {v : Value} {fl : Fl} (hp : Put f S r w w') (hk : ∀ k, v.ownBlock = some k → S.foot f k ∨ w.heap.size ≤ k) : Grown f S { S with m := some r, es := aput name (v, fl) S.es } w w' := by
  refine ⟨hp.os, hp.tape, hp.output, hp.size, fun k hk hf => hp.block k hk (fun e => hf (.inl e)) fun e => hf (.inr (.inl e)), fun k hk' => ?_⟩
  rcases hk' with rfl | hk' | ⟨p, hp', hk'⟩
  · exact .inl (.inl rfl)
  · rcases hp.place with e | e
    · exact .inl (.inr (.inl (by rw [e]; exact hk')))
    · injection hk' with hk'
      subst hk'
      exact .inr e
  · rcases mem_put hp' with rfl | ⟨hp', _⟩
    · exact hk k hk'
    · exact .inl (.inr (.inr ⟨p, hp', hk'⟩))
theorem SrcB.grown {v : Value} {bs : List (BitVec 8)} (h : SrcB w v bs) (hg : Grown f S S' w w') (hn : ∀ k, v.ownBlock = some k → ¬ S.foot f k) : SrcB w' v bs := by
  rcases h with h | ⟨b, o, cap, hv, hc⟩
  · exact .inl h
  · exact .inr ⟨b, o, cap, hv, fun j u hu => by
      have hl := World.block_lt_of_cell? w _ (hc j u hu)
      have := hc j u hu
      unfold World.cell? at *
      rw [hg.block b hl (hn b (by rw [hv]; rfl))]; exact this⟩
end
end Go.Proofs.Ytbbooldhfcldbaa
