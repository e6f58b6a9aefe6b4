/- Rows of bytes of the call's own that grow; bytes of texts; files in memory. No function is walked here. -/
import Derived.Test.YtbbooldhfcldbaaRows
import Derived.Test.YtbbooldhfcldbaaMapS
import Derived.ProofKit
import Derived.OpenShut
import Derived.Handy
import Derived.WalkSpells
import Derived.WalkLawsBesides
import Derived.Deep.QuietTactic
import Derived.BigQuiet
import Derived.Deep.RegionHeld3
import Derived.Deep.CutBlock
import Derived.Laws.ResultCell
import Derived.Test.YtbbooldhfcldbaaHops
import Derived.Test.YtbbooldhfcldbaaTail
import Derived.Lib.AppendStr
import Derived.Lib.ConvBytes
import Derived.Laws.AppendOwnNone
namespace Go.Proofs.Ytbbooldhfcldbaa
open Go.ChangeShapes Go.WideShapes Go.ChangeAt Go.RowKit Go.Lib

theorem Blk.one {w : World} {b : Nat} {cs : List Value} (h : Blk w b cs) {i : Nat} {v : Value} (hv : cs[i]? = some v) : w.cell? ⟨b, i, none⟩ = some v := by rw [h.cell]; exact hv
theorem ret_bool {a b : Bool} (h : a = b) : Ending.returned (.bool a) = .returned (.bool b) := by rw [h]
theorem ret_int {k : IntKind} {a b : Int} (h : a = b) : Ending.returned (.int k a) = .returned (.int k b) := by rw [h]
theorem Try.info8 : (Try.prog.info? 5).map (fun i => (i.zero, i.size, i.bytes)) = some (some (.int .u8 0), 1, 1) := by kernel_rfl
theorem und8 : Try.prog.underlying 40 = some (.slice 5) := Try.underlying40

/-- A row of bytes of the call's own, from block B on. -/
def OwnB (w : World) (B : Nat) (v : Value) (bs : List (BitVec 8)) : Prop := w.ownsRow B 5 1 v bs.length (u8s bs)
/-- Bytes that v leads to. -/
def SrcB (w : World) (v : Value) (bs : List (BitVec 8)) : Prop := (v = .slice none 0 0 ∧ bs = []) ∨ ∃ b o cap, v = .slice (some ⟨b, o, none⟩) bs.length cap ∧ ∀ j u, (u8s bs)[j]? = some u → w.cell? ⟨b, o + j, none⟩ = some u
theorem u8s_append (a b : List (BitVec 8)) : u8s (a ++ b) = u8s a ++ u8s b := by unfold u8s; rw [List.map_append]
section
variable {w w' : World} {B : Nat} {v x : Value} {bs r : List (BitVec 8)}
theorem OwnB.nil (w : World) (B : Nat) : OwnB w B (.slice none 0 0) [] := World.ownsRow_nil w B _ _
theorem OwnB.lt (h : OwnB w B v bs) : ∀ k, v.ownBlock = some k → B ≤ k ∧ k < w.heap.size := World.ownsRow.lt h
theorem OwnB.same (h : OwnB w B v bs) (hb : ∀ k, v.ownBlock = some k → w'.heap[k]? = w.heap[k]?) : OwnB w' B v bs := by
  refine ⟨h.1, ?_⟩
  rcases h.2 with hn | ⟨g, cap, cur, hv, hg, hh, rest⟩
  · exact .inl hn
  · exact .inr ⟨g, cap, cur, hv, hg, by rw [hb g (by rw [hv]; rfl)]; exact hh, rest⟩
theorem OwnB.below (h : OwnB w B v bs) (hb : Below w.heap.size w w') : OwnB w' B v bs := h.same fun k hk => hb.block k (h.lt k hk).2
theorem OwnB.less {M : Nat} (h : OwnB w B v bs) (hM : M ≤ B) : OwnB w M v bs := by
  refine ⟨h.1, ?_⟩
  rcases h.2 with hn | ⟨g, cap, cur, hv, hg, rest⟩
  · exact .inl hn
  · exact .inr ⟨g, cap, cur, hv, Nat.le_trans hM hg, rest⟩
theorem OwnB.src (h : OwnB w B v bs) : SrcB w v bs := by
  have h0 := h
  rcases h.2 with ⟨hv, hn⟩ | ⟨g, cap, cur, hv, _, hg, _⟩
  · exact .inl ⟨hv, List.eq_nil_of_length_eq_zero hn⟩
  · refine .inr ⟨g, 0, cap, hv, fun j u hu => ?_⟩
    have := World.ownsRow.cells h0 (g := g) (by rw [hv]; rfl) j u hu
    rwa [Addr.add_mid] at this
/-- Its first n bytes. -/
theorem OwnB.take (h : OwnB w B v bs) {n : Nat} (hn : n ≤ bs.length) : ∃ a c, v = .slice a bs.length c ∧ bs.length ≤ c ∧ c ≤ maxLen ∧ (a = none → c = 0) ∧ OwnB w B (.slice a n c) (bs.take n) := by
  rcases h.2 with ⟨hv, h0⟩ | ⟨g, cap, cur, hv, hg, hh, h1, h2, h3, h4⟩
  · have : n = 0 := by omega
    subst this
    have hb : bs = [] := List.eq_nil_of_length_eq_zero h0
    subst hb
    exact ⟨none, 0, hv, Nat.le_refl _, Nat.zero_le _, fun _ => rfl, OwnB.nil w B⟩
  · refine ⟨some ⟨g, 0, none⟩, cap, hv, h1, h2, (fun e => by cases e), ?_, .inr ⟨g, cap, cur, ?_, hg, hh, ?_, h2, h3, ?_⟩⟩
    · simp
    · rw [List.length_take, Nat.min_eq_left hn]
    · rw [List.length_take, Nat.min_eq_left hn]; omega
    · have : u8s (bs.take n) = (u8s bs).take n := by unfold u8s; rw [List.map_take]
      rw [this, List.length_take, Nat.min_eq_left hn, ← h4, List.take_take, Nat.mul_one, Nat.mul_one, Nat.min_eq_left hn]
/-- The row lies where it lay, or in a new block. -/
def Moved (w : World) (v v' : Value) : Prop := v'.ownBlock = v.ownBlock ∨ ∃ g, w.heap.size ≤ g ∧ v'.ownBlock = some g
theorem run_append_b (ty : TypeId) (h : OwnB w B v bs) (hr : SrcB w x r) (hm : bs.length + r.length ≤ 100000000) (hN : B ≤ w.heap.size) :
    ∃ v' w', (Builtin.append_ #[40, 40] ty #[v, x]).run Try.prog w = .ok v' w' ∧ OwnB w' B v' (bs ++ r) ∧ w.grownBy w' v.ownBlock ∧ Moved w v v' := by
  obtain ⟨i, hi, hi1, hi2, hi3⟩ := info_parts Try.info8
  rcases hr with ⟨rfl, rfl⟩ | ⟨b, o, cap, rfl, hc⟩
  · exact ⟨v, w, run_append_owned_none w B _ ty _ i 1 Try.underlying40 hi v _ _ h, by rw [List.append_nil]; exact h, ⟨rfl, rfl, rfl, Nat.le_refl _, fun _ _ _ => rfl⟩, .inl rfl⟩
  · have hcells : ∀ j u, (u8s r)[j]? = some u → w.cell? ((⟨b, o, none⟩ : Addr).add j) = some u := fun j u hu => by rw [Addr.add_mid]; exact hc j u hu
    obtain ⟨v', w', hrun, h2, h3, h4⟩ := run_append_own w B 40 ty 5 i _ 1 1 Try.underlying40 hi hi1 hi2 hi3 rfl (by omega) v bs.length (u8s bs) h ⟨b, o, none⟩ r.length cap (u8s r) (by rw [u8s_length]; omega) hcells (u8s_mem r) (by unfold maxLen; omega) (by omega) hN
    refine ⟨v', w', hrun, ?_, h3, ?_⟩
    · unfold OwnB
      rw [List.length_append, u8s_append]; exact h2
    · have hlen : (u8s r).length = r.length * i.size := by rw [hi2, u8s_length]; omega
      have hfl : (u8s bs).length = bs.length * i.size := by rw [hi2, u8s_length]; omega
      rcases h.2 with ⟨rfl, h0⟩ | ⟨g, c, cur, rfl, hbg, hg, hnc, hcm, hcs, htake⟩
      · by_cases hm0 : r.length = 0
        · left
          rw [h4.2 ⟨rfl, hm0⟩]
        · have e := run_append_nil w 40 ty 5 i _ Try.underlying40 hi hi1 ⟨b, o, none⟩ r.length cap (u8s r) hlen hcells (by omega) (by omega) (by rw [hi3]; omega)
          rw [e] at hrun
          injection hrun with e1 _
          right
          exact ⟨w.heap.size, Nat.le_refl _, by rw [← e1]; rfl⟩
      · by_cases hroom : bs.length + r.length ≤ c
        · have e := run_append_room w 40 ty 5 i Try.underlying40 hi g bs.length c cur hg ⟨b, o, none⟩ r.length cap (u8s r) hlen hcells (u8s_mem r) hroom (by rw [hi2, u8s_length, hcs]; omega)
          rw [e] at hrun
          injection hrun with e1 _
          left
          rw [← e1]; rfl
        · have e := run_append_grow w 40 ty 5 i _ Try.underlying40 hi hi1 ⟨g, 0, none⟩ bs.length c (u8s bs) hfl (h.cells (g := g) rfl) ⟨b, o, none⟩ r.length cap (u8s r) hlen hcells (by omega) (by omega) (growslice_fits (by omega) (by rw [hi3]; omega))
          rw [e] at hrun
          injection hrun with e1 _
          right
          exact ⟨w.heap.size, Nat.le_refl _, by rw [← e1]; rfl⟩
end
section
variable {ops : Array Oper} {o : Oper} {ac : Act} {w : World} {Q : Exit → Act → World → Prop}
theorem wpList_append_b {rest : List Oper} (hgd : o.guard = none) (s x : Operand)
    (ho : o.op = .call { callee := .builtin .append, args := #[s, x], argTypes := #[40, 40] }) (B : Nat) (v : Value) (bs : List (BitVec 8)) (hs : ac.eval s = v) (h : OwnB w B v bs)
    (y : Value) (r : List (BitVec 8)) (hx : ac.eval x = y) (hr : SrcB w y r) (hm : bs.length + r.length ≤ 100000000) (hN : B ≤ w.heap.size)
    (hK : ∀ v' w', Hid (OwnB w' B v' (bs ++ r)) → Hid (w.grownBy w' v.ownBlock) → Hid (Moved w v v') → wpList Try.prog ops Q rest (ac.put o.dst v') w') : wpList Try.prog ops Q (o :: rest) ac w := by
  obtain ⟨v', w', hrun, h1, h2, h3⟩ := run_append_b o.type h hr hm hN
  refine wpList_plain hgd fun K hK' => ?_
  unfold Oper.wp execOp
  simp only [ho, resolve, invoke, builtin, Sem.run_bind, Sem.run_pure, Result.andThen_ok, List.map_toArray, List.map_cons, List.map_nil, hs, hx, hrun]
  exact hK' _ _ (hK v' w' h1 h2 h3)
end

/-- A string's bytes. -/
def strB (s : ByteArray) : List (BitVec 8) := s.data.toList.map (·.toBitVec)
theorem strB_length (s : ByteArray) : (strB s).length = s.size := by simp [strB]
/-- A text of bytes. -/
def ofB (bs : List (BitVec 8)) : ByteArray := strOfNums (bs.map Y)
theorem ofB_size (bs : List (BitVec 8)) : (ofB bs).size = bs.length := by unfold ofB; rw [strOfNums_size, List.length_map]
theorem strB_ofB (bs : List (BitVec 8)) : strB (ofB bs) = bs := by
  unfold strB ofB
  rw [strOfNums_data, List.map_map, List.map_map]
  conv => rhs; rw [← List.map_id bs]
  refine List.map_congr_left fun x _ => ?_
  have hx := x.isLt
  show (UInt8.ofNat (Y x).toNat).toBitVec = x
  unfold Y
  apply BitVec.eq_of_toNat_eq
  simp
theorem strB_inj {a b : ByteArray} (h : strB a = strB b) : a = b := by
  obtain ⟨⟨a⟩⟩ := a
  obtain ⟨⟨b⟩⟩ := b
  have : a = b := by
    unfold strB at h
    exact (List.map_inj_right fun x y e => UInt8.eq_of_toBitVec_eq e).1 h
  rw [this]
theorem ofB_strB (s : ByteArray) : ofB (strB s) = s := strB_inj (strB_ofB _)
theorem ofB_inj {a b : List (BitVec 8)} (h : ofB a = ofB b) : a = b := by rw [← strB_ofB a, ← strB_ofB b, h]
theorem strB_append (a b : ByteArray) : strB (a ++ b) = strB a ++ strB b := by
  unfold strB
  rw [ByteArray.data_append, Array.toList_append, List.map_append]
theorem SrcB.str {w : World} {v : Value} {bs : List (BitVec 8)} (h : SrcB w v bs) : (convert 40 9 v).run Try.prog w = .ok (.string (ofB bs)) w := by
  rcases h with ⟨rfl, rfl⟩ | ⟨b, o, cap, rfl, hc⟩
  · exact run_convert_bytes_nil w 40 5 Try.underlying40 Try.underlying5 0 0 9 Try.underlying9
  · exact run_convert_bytes_arg w 40 5 Try.underlying40 Try.underlying5 b o bs.length cap (bs.map Y) (by rw [List.length_map]) (fun i hi => by
      rw [hc i _ (u8s_get _ i hi)]
      congr 2
      rw [List.getD_eq_getElem?_getD, List.getD_eq_getElem?_getD, List.getElem?_map, List.getElem?_eq_getElem hi]; rfl) 9 Try.underlying9
theorem wpList_toBytes {ops : Array Oper} {rest : List Oper} {o : Oper} {a : Act} {w : World} {Q : Exit → Act → World → Prop} (hg : o.guard = none) (x : Operand) (ho : o.op = .convert 9 40 x) (s : ByteArray) (hx : a.eval x = .string s)
    (hK : ∀ b c w', Hid (SrcB w' (.slice (some ⟨b, 0, none⟩) s.size c) (strB s)) → Hid (Below w.heap.size w w') → wpList Try.prog ops Q rest (a.put o.dst (.slice (some ⟨b, 0, none⟩) s.size c)) w') : wpList Try.prog ops Q (o :: rest) a w := by
  refine wpList_plain hg fun K hK' => ?_
  unfold Oper.wp execOp
  simp only [ho, hx, Sem.run_bind, Sem.run_pure, Go.Lib.run_convert_string_bytes w 9 40 5 s Try.underlying9 Try.underlying40 Try.underlying5, Result.andThen_ok]
  refine hK' _ _ (hK _ _ _ ?_ ?_)
  · show SrcB _ _ _
    refine .inr ⟨w.heap.size, 0, grownCap w s.size 0 5, ?_, fun j u hu => ?_⟩
    · rw [show (strB s).length = s.size from strB_length s]
    · have hj : j < (strB s).length := by have := (List.getElem?_eq_some_iff.1 hu).1; rwa [u8s_length] at this
      have hj' : j < s.size := by rwa [strB_length] at hj
      rw [u8s_get _ j hj] at hu
      rw [Nat.zero_add, Go.Lib.bytesWorld_cell w 5 s j hj', ← hu]
      have hd : j < s.data.toList.length := by simpa using hj'
      unfold strB Y
      rw [List.getD_eq_getElem?_getD, List.getD_eq_getElem?_getD, List.getElem?_map, List.getElem?_eq_getElem hd]
      rfl
  · show Below _ _ _
    exact ⟨rfl, rfl, rfl, by rw [Go.Lib.bytesWorld_size]; omega, fun k hk => Go.Lib.bytesWorld_at_old w _ s k hk⟩

/-- A file: its bytes, and how many are safe. -/
structure Fl where
  b : List (BitVec 8)
  safe : Nat
instance : Inhabited Fl := ⟨⟨[], 0⟩⟩
/-- Files as they lie in memory: the map's block, and for each name the row of its bytes. -/
structure FS where
  m : Option Nat
  es : List (ByteArray × (Value × Fl))
  ops : Int
  counted : Bool
  left : Int
  off : Bool
def cellOf (p : Value × Fl) : Value := .agg #[p.1, .int .i64 (p.2.safe : Int)]
def FS.cs (S : FS) : List Value := [.map S.m, .int .i64 S.ops, .bool S.counted, .int .i64 S.left, .bool S.off]
/-- What can be seen of them. -/
def FS.L (S : FS) : List (ByteArray × Fl) := S.es.map (onB Prod.snd)
def FS.foot (S : FS) (f k : Nat) : Prop := k = f ∨ S.m = some k ∨ ∃ p ∈ S.es, p.2.1.ownBlock = some k
structure FsAt (w : World) (f : Nat) (S : FS) : Prop where
  blk : Blk w f S.cs
  bare : S.m = none → S.es = []
  map : ∀ r, S.m = some r → r ≠ f ∧ MapS w r (S.es.map (onB cellOf))
  row : ∀ p ∈ S.es, OwnB w 0 p.2.1 p.2.2.b ∧ ∀ k, p.2.1.ownBlock = some k → k ≠ f ∧ S.m ≠ some k
  apart : S.es.Pairwise fun p q => ∀ k, p.2.1.ownBlock = some k → q.2.1.ownBlock ≠ some k
  fits : ∀ p ∈ S.es, p.2.2.safe ≤ p.2.2.b.length ∧ p.2.2.b.length ≤ 16777216
structure Grown (f : Nat) (S S' : FS) (w w' : World) : Prop where
  os : w'.os = w.os
  tape : w'.tape = w.tape
  output : w'.output = w.output
  size : w.heap.size ≤ w'.heap.size
  block : ∀ k, k < w.heap.size → ¬ S.foot f k → w'.heap[k]? = w.heap[k]?
  foot : ∀ k, S'.foot f k → S.foot f k ∨ w.heap.size ≤ k
section
variable {w w' w'' : World} {f : Nat} {S S' S'' : FS}
theorem FsAt.lt (h : FsAt w f S) {k : Nat} (hk : S.foot f k) : k < w.heap.size := by
  rcases hk with rfl | hk | ⟨p, hp, hk⟩
  · exact h.blk.lt
  · exact (h.map k hk).2.lt
  · exact ((h.row p hp).1.lt k hk).2
theorem FsAt.same (h : FsAt w f S) (hb : ∀ k, S.foot f k → w'.heap[k]? = w.heap[k]?) : FsAt w' f S := by
  refine ⟨?_, h.bare, fun r hr => ⟨(h.map r hr).1, (h.map r hr).2.same (hb r (.inr (.inl hr)))⟩, fun p hp => ⟨(h.row p hp).1.same fun k hk => hb k (.inr (.inr ⟨p, hp, hk⟩)), (h.row p hp).2⟩, h.apart, h.fits⟩
  obtain ⟨t, ht⟩ := h.blk
  exact ⟨t, by rw [hb f (.inl rfl)]; exact ht⟩
theorem FsAt.below (h : FsAt w f S) (hb : Below w.heap.size w w') : FsAt w' f S := h.same fun k hk => hb.block k (h.lt hk)
theorem FsAt.nodup (h : FsAt w f S) : (S.es.map Prod.fst).Nodup := by
  cases hm : S.m with
  | none => rw [h.bare hm]; exact List.nodup_nil
  | some r =>
    have := (h.map r hm).2.nodup
    rw [List.map_map] at this
    exact this
theorem Grown.refl (f : Nat) (S : FS) (w : World) : Grown f S S w w := ⟨rfl, rfl, rfl, Nat.le_refl _, fun _ _ _ => rfl, fun _ h => .inl h⟩
theorem Grown.trans (h : Grown f S S' w w') (k : Grown f S' S'' w' w'') : Grown f S S'' w w'' :=
  ⟨k.os.trans h.os, k.tape.trans h.tape, k.output.trans h.output, Nat.le_trans h.size k.size,
    fun i hi hf => (k.block i (Nat.lt_of_lt_of_le hi h.size) fun e => (h.foot i e).elim hf fun e => by omega).trans (h.block i hi hf),
    fun i e => (k.foot i e).elim (fun e => h.foot i e) fun e => .inr (Nat.le_trans h.size e)⟩
theorem Grown.of_below (h : Below w.heap.size w w') : Grown f S S w w' := ⟨h.os, h.tape, h.output, h.size, fun k hk _ => h.block k hk, fun _ h => .inl h⟩
theorem Grown.thenBelow (h : Grown f S S' w w') (k : Below w'.heap.size w' w'') : Grown f S S' w w'' := h.trans (Grown.of_below k)
theorem Grown.below {B : Nat} (h : Grown f S S' w w') (hB : B ≤ w.heap.size) (hf : ∀ k, S.foot f k → B ≤ k) : Below B w w' :=
  ⟨h.os, h.tape, h.output, h.size, fun k hk => h.block k (by omega) fun e => by have := hf k e; omega⟩
/-- Only the head changes. -/
theorem FsAt.head (h : FsAt w f S) (k : Keep f w w') (hb : Blk w' f S'.cs) (hm : S'.m = S.m) (he : S'.es = S.es) : FsAt w' f S' ∧ Grown f S S' w w' := by
  have hfoot : ∀ i, S'.foot f i ↔ S.foot f i := fun i => by unfold FS.foot; rw [hm, he]
  refine ⟨⟨hb, by rw [hm, he]; exact h.bare, fun r hr => ?_, fun p hp => ?_, by rw [he]; exact h.apart, by rw [he]; exact h.fits⟩, ⟨k.os, k.tape, k.output, k.size, fun i hi hf => k.block i hi fun e => hf (.inl e), fun i hi => .inl ((hfoot i).1 hi)⟩⟩
  · rw [hm] at hr
    rw [he]
    exact ⟨(h.map r hr).1, (h.map r hr).2.same (k.block r (h.map r hr).2.lt (h.map r hr).1)⟩
  · rw [he] at hp
    refine ⟨(h.row p hp).1.same fun i hi => k.block i ((h.row p hp).1.lt i hi).2 ((h.row p hp).2 i hi).1, ?_⟩
    rw [hm]; exact (h.row p hp).2
theorem FsAt.new (w : World) (t : TypeId) : FsAt (w.alloc (.cells #[.map none, .int .i64 0, .bool false, .int .i64 0, .bool false] t)) w.heap.size ⟨none, [], 0, false, 0, false⟩ :=
  ⟨Blk.mk _ _ _ rfl rfl, fun _ => rfl, (fun r h => by cases h), (fun p hp => by cases hp), List.Pairwise.nil, (fun p hp => by cases hp)⟩
end
end Go.Proofs.Ytbbooldhfcldbaa
