/- file: powered, find, New, Cut, Ops, Safe. -/
import Derived.Test.YtbbooldhfcldbaaFlK
namespace Go.Proofs.Ytbbooldhfcldbaa
open Go.ChangeShapes Go.WideShapes Go.ChangeAt Go.RowKit Go.Lib

theorem OwnB.shape {w : World} {B : Nat} {v : Value} {bs : List (BitVec 8)} (h : OwnB w B v bs) : ∃ a cap, v = .slice a bs.length cap := by
  rcases h.src with ⟨rfl, rfl⟩ | ⟨b, o, cap, rfl, _⟩
  · exact ⟨_, _, rfl⟩
  · exact ⟨_, _, rfl⟩
/-- The power behind one act, and whether it came to it. -/
def FS.pow (S : FS) : FS :=
  if S.counted = false then { S with ops := S.ops + 1 } else if 0 < S.left then { S with ops := S.ops + 1, left := S.left - 1 } else { S with ops := S.ops + 1, off := true }
theorem FS.pow_m (S : FS) : S.pow.m = S.m := by unfold FS.pow; repeat' split
                                                all_goals rfl
theorem FS.pow_es (S : FS) : S.pow.es = S.es := by unfold FS.pow; repeat' split
                                                   all_goals rfl
theorem FS.pow_ops (S : FS) : S.pow.ops = S.ops + 1 := by unfold FS.pow; repeat' split
                                                          all_goals rfl
/-- The numbers of files that a few acts have come to. -/
structure FS.Sane (S : FS) : Prop where
  ops0 : 0 ≤ S.ops
  ops1 : S.ops ≤ 4611686018427387904
  left0 : -9223372036854775808 ≤ S.left
  left1 : S.left ≤ 9223372036854775807
set_option maxRecDepth 100000 in
set_option maxHeartbeats 1000000 in
theorem powered_any (f : Nat) (S : FS) (w : World) (h : FsAt w f S) (hs : S.Sane) :
    Calls Try.prog 46 #[.pointer (some ⟨f, 0, none⟩)] w fun e w' => e = .returned (.bool (!S.pow.off)) ∧ FsAt w' f S.pow ∧ Grown f S S.pow w w' := by
  obtain ⟨o0, o1, l0, l1⟩ := hs
  have H : Hid (∀ w', Keep f w w' → Blk w' f S.pow.cs → FsAt w' f S.pow ∧ Grown f S S.pow w w') := fun w' k hb => h.head k hb S.pow_m S.pow_es
  have HB : Hid (Blk w f S.cs) := h.blk
  have HP : Hid (S.pow = if S.counted = false then { S with ops := S.ops + 1 } else if 0 < S.left then { S with ops := S.ops + 1, left := S.left - 1 } else { S with ops := S.ops + 1, off := true }) := show _ = _ from rfl
  clear h
  obtain ⟨T, hT⟩ : ∃ T, T = S.pow := ⟨_, rfl⟩
  rw [← hT] at H HP ⊢
  clear hT
  have c1 : w.cell? ⟨f, 1, none⟩ = some (.int .i64 S.ops) := HB.out.one rfl
  have g1 : w.frozen? ⟨f, 1, none⟩ = false := HB.out.frozen 1
  go_enter Try.func46, Try.ntmps46
  go_upto_region 5 with fail
  generalize hw1 : World.setCell w _ _ = w1
  have HB1 : Hid (Blk w1 f [.map S.m, .int .i64 (S.ops + 1), .bool S.counted, .int .i64 S.left, .bool S.off]) := by rw [← hw1]; exact HB.out.set 1 _
  have HK1 : Hid (Keep f w w1) := by rw [← hw1]; exact (Keep.refl _ _).setCell _ _
  clear hw1 c1 g1 HB
  have c2 : w1.cell? ⟨f, 2, none⟩ = some (.bool S.counted) := HB1.out.one rfl
  have c3 : w1.cell? ⟨f, 3, none⟩ = some (.int .i64 S.left) := HB1.out.one rfl
  have c4 : w1.cell? ⟨f, 4, none⟩ = some (.bool S.off) := HB1.out.one rfl
  have g3 : w1.frozen? ⟨f, 3, none⟩ = false := HB1.out.frozen 3
  have g4 : w1.frozen? ⟨f, 4, none⟩ = false := HB1.out.frozen 4
  obtain ⟨m, es, ops, counted, left, off⟩ := S
  simp only at *
  cases counted with
  | false =>
    have HT : Hid (T = ⟨m, es, ops + 1, false, left, off⟩) := show _ = _ by rw [HP.out]; rfl
    go_wp2_with fail
    go_ret
    refine ⟨ret_bool (by rw [HT.out]), H.out _ HK1.out ?_⟩
    rw [HT.out]; exact HB1.out
  | true =>
    by_cases hl : 0 < left
    · have HT : Hid (T = ⟨m, es, ops + 1, true, left - 1, off⟩) := show _ = _ by rw [HP.out, if_neg (by simp), if_pos hl]
      go_upto_region 8 with fail
      generalize hw2 : World.setCell w1 _ _ = w2
      have HB2 : Hid (Blk w2 f [.map m, .int .i64 (ops + 1), .bool true, .int .i64 (left - 1), .bool off]) := by rw [← hw2]; exact HB1.out.set 3 _
      have HK2 : Hid (Keep f w w2) := by rw [← hw2]; exact HK1.out.setCell _ _
      clear hw2 c2 c3 c4 g3 g4
      have c4 : w2.cell? ⟨f, 4, none⟩ = some (.bool off) := HB2.out.one rfl
      go_wp2_with fail
      go_ret
      refine ⟨ret_bool (by rw [HT.out]), H.out _ HK2.out ?_⟩
      rw [HT.out]; exact HB2.out
    · have HT : Hid (T = ⟨m, es, ops + 1, true, left, true⟩) := show _ = _ by rw [HP.out, if_neg (by simp), if_neg hl]
      go_upto_region 8 with fail
      generalize hw2 : World.setCell w1 _ _ = w2
      have HB2 : Hid (Blk w2 f [.map m, .int .i64 (ops + 1), .bool true, .int .i64 left, .bool true]) := by rw [← hw2]; exact HB1.out.set 4 _
      have HK2 : Hid (Keep f w w2) := by rw [← hw2]; exact HK1.out.setCell _ _
      clear hw2 c2 c3 c4 g3 g4
      have c4 : w2.cell? ⟨f, 4, none⟩ = some (.bool true) := HB2.out.one rfl
      go_wp2_with fail
      go_ret
      refine ⟨ret_bool (by rw [HT.out]; rfl), H.out _ HK2.out ?_⟩
      rw [HT.out]; exact HB2.out
set_option maxHeartbeats 1000000 in
theorem powered_nil (w : World) : Calls Try.prog 46 #[.pointer none] w fun e w' => e = .returned (.bool false) ∧ w' = w := by
  go_enter Try.func46, Try.ntmps46
  go_wp2_with fail
  go_ret
  exact ⟨rfl, rfl⟩

theorem zeroC (w : World) : (zeroValue 68).run Try.prog w = .ok (.agg #[.slice none 0 0, .int .i64 0]) w := by
  have h : (Try.prog.info? 68).map (fun i => (i.zero, i.size, i.bytes)) = some (some (.agg #[.slice none 0 0, .int .i64 0]), 2, 32) := by kernel_rfl
  obtain ⟨i0, hi0, hi1, _, _⟩ := info_parts h
  unfold zeroValue
  rw [Sem.run_bind]
  simp only [typeInfo, Sem.run_bind]
  simp [hi0, hi1]
theorem sizeC : (Try.prog.info? 68).map (·.size) = some 2 := by kernel_rfl
theorem results_row_tmp {P : Program} {fn : Func} {p u : Tmp} {ty : TypeId} (h : fn.results = #[.cell p ty, .tmp u]) (tmps : Array Value) (w : World) (g : Nat) (t : TypeId) (cs : Array Value) (fr : Nat × Nat) (d : TypeDesc)
    (hp : tmps.getD p undef = .pointer (some ⟨g, 0, none⟩)) (hg : w.heap[g]? = some (.cells cs t fr))
    (hu : P.underlying ty = some d) (hd : (match d with | .struct _ | .array _ _ => true | _ => false) = true) (hi : (P.info? ty).map (·.size) = some cs.size) :
    (results fn tmps).run P w = .ok (.tuple #[.agg cs, tmps.getD u undef]) w := by
  rw [results_cell_tmp h, hp]
  simp [asAddr, run_loadVar_row w g t ty cs fr d hg hu hd hi, Result.andThen]
/-- What find tells. -/
def found (o : Option (Value × Fl)) : Value := .tuple #[(o.map cellOf).getD (.agg #[.slice none 0 0, .int .i64 0]), .bool o.isSome]
set_option maxRecDepth 100000 in
set_option maxHeartbeats 1000000 in
theorem find_any (f : Nat) (S : FS) (name : ByteArray) (w : World) (h : FsAt w f S) :
    Calls Try.prog 38 #[.pointer (some ⟨f, 0, none⟩), .string name] w fun e w' => e = .returned (found (alook name S.es)) ∧ Below w.heap.size w w' := by
  have HF : Hid (found (alook name S.es) = .tuple #[((alook name S.es).map cellOf).getD (.agg #[.slice none 0 0, .int .i64 0]), .bool (alook name S.es).isSome]) := show _ = _ from rfl
  have HSH : Hid (∀ p, alook name S.es = some p → ∃ a c, p.1 = .slice a p.2.b.length c) := fun p hp => (h.row (name, p) (mem_of_alook hp)).1.shape
  have c0 : w.cell? ⟨f, 0, none⟩ = some (.map S.m) := h.blk.one rfl
  have hff := h.blk.lt
  have HC : Hid ((S.m = none ∧ S.es = []) ∨ ∃ r, S.m = some r ∧ MapS w r (S.es.map (onB cellOf))) := by
    cases hm : S.m with
    | none => exact .inl ⟨rfl, h.bare hm⟩
    | some r => exact .inr ⟨r, rfl, (h.map r hm).2⟩
  clear h
  generalize found _ = F at *
  rcases HC.out with ⟨hm, he⟩ | ⟨r, hm, hM⟩
  · rw [hm] at c0
    rw [he] at HF
    have HF' : Hid (F = .tuple #[.agg #[.slice none 0 0, .int .i64 0], .bool false]) := HF.out
    clear HC HSH HF hm he
    go_enter Try.func38, Try.ntmps38
    go_wp2_with (refine wpList_lookNil rfl _ _ _ rfl Try.underlying9 Try.underlying56 _ zeroC name rfl rfl ?_)
    refine bodyPost_ret (v := .tuple #[.agg #[.slice none 0 0, .int .i64 0], .bool false]) ?_ rfl ⟨by rw [HF'.out], ((Below.refl _ _).alloc (Nat.le_refl _) _).alloc (by simp) _⟩
    obtain ⟨t, hb⟩ := (Blk.mk (b := w.heap.size) w #[.slice none 0 0, .int .i64 0] 68 rfl rfl).alloc (.cells #[.slice none 0 0, .int .i64 0] 68)
    exact results_row_tmp Try.results38 _ _ w.heap.size t _ _ _ rfl hb Try.underlying68 rfl sizeC
  · have HM : Hid (MapS w r (S.es.map (onB cellOf))) := hM
    rw [hm] at c0
    have hL : alook name (S.es.map (onB cellOf)) = (alook name S.es).map cellOf := alook_map _ _ _
    cases ha : alook name S.es with
    | none =>
      rw [ha] at HF hL
      have HL : Hid (alook name (S.es.map (onB cellOf)) = none) := hL
      have HF' : Hid (F = .tuple #[.agg #[.slice none 0 0, .int .i64 0], .bool false]) := HF.out
      clear HC HSH HF hm hM hL ha
      go_enter Try.func38, Try.ntmps38
      go_wp2_with (refine wpList_lookS rfl _ _ _ rfl Try.underlying9 Try.underlying56 _ zeroC _ (r := r) (MapS.same HM.out (by simp [heap_alloc_old, HM.out.lt])) name rfl rfl ?_; rw [HL.out]; simp only [Option.getD_none, Option.isSome_none, if_true])
      refine bodyPost_ret (v := .tuple #[.agg #[.slice none 0 0, .int .i64 0], .bool false]) ?_ rfl ⟨by rw [HF'.out], ((Below.refl _ _).alloc (Nat.le_refl _) _).alloc (by simp) _⟩
      obtain ⟨t, hb⟩ := (Blk.mk (b := w.heap.size) w #[.slice none 0 0, .int .i64 0] 68 rfl rfl).alloc (.cells #[.slice none 0 0, .int .i64 0] 68)
      exact results_row_tmp Try.results38 _ _ w.heap.size t _ _ _ rfl hb Try.underlying68 rfl sizeC
    | some p =>
      obtain ⟨a, c, hp⟩ := HSH.out p ha
      rw [ha] at HF hL
      obtain ⟨v, fl⟩ := p
      simp only at hp
      subst hp
      have HL : Hid (alook name (S.es.map (onB cellOf)) = some (.agg #[.slice a fl.b.length c, .int .i64 (fl.safe : Int)])) := hL
      have HF' : Hid (F = .tuple #[.agg #[.slice a fl.b.length c, .int .i64 (fl.safe : Int)], .bool true]) := HF.out
      clear HC HSH HF hm hM hL ha
      generalize fl.b.length = n at *
      generalize (fl.safe : Int) = sf at *
      go_enter Try.func38, Try.ntmps38
      go_wp2_with (refine wpList_lookS rfl _ _ _ rfl Try.underlying9 Try.underlying56 _ zeroC _ (r := r) (MapS.same HM.out (by simp [heap_alloc_old, HM.out.lt])) name rfl rfl ?_; rw [HL.out]; simp only [Option.getD_some, Option.isSome_some, if_true])
      refine bodyPost_ret (v := .tuple #[.agg #[.slice a n c, .int .i64 sf], .bool true]) ?_ rfl ⟨by rw [HF'.out], ((Below.refl _ _).alloc (Nat.le_refl _) _).alloc (by simp) _⟩
      obtain ⟨t, hb⟩ := (Blk.mk (b := w.heap.size) w #[.slice a n c, .int .i64 sf] 68 rfl rfl).alloc (.cells #[.slice a n c, .int .i64 sf] 68)
      exact results_row_tmp Try.results38 _ _ w.heap.size t _ _ _ rfl hb Try.underlying68 rfl sizeC
end Go.Proofs.Ytbbooldhfcldbaa
