/- wire.Writer: what it holds; Num, Text, Bytes. kv.write: a batch as a record. -/
import Derived.Test.YtlapnnkahijikaaGreatDoorZF5
import Derived.Test.YtlapnnkahijikaaGreatDoorZW1
import Derived.Test.YtlapnnkahijikaaGreatDoorZK2
namespace Go.Proofs.YtlapnnkahijikaaGreatDoor
open Go.ChangeShapes Go.WideShapes Go.ChangeAt Go.RowKit Go.Lib

def nums (Z : List Int) : List (BitVec 8) := Z.flatMap numB
theorem nums_length (Z : List Int) : (nums Z).length ≤ 9 * Z.length := by
  induction Z with
  | nil => simp [nums]
  | cons z Z ih =>
    have := numB_le z
    unfold nums at *
    rw [List.flatMap_cons, List.length_append, List.length_cons]; omega
theorem nums_next (Z : List Int) (k : Nat) (h : k < Z.length) : nums (Z.take (k + 1)) = nums (Z.take k) ++ numB (Z.getD k 0) := by
  unfold nums
  rw [List.take_add_one, List.flatMap_append, List.getD_eq_getElem?_getD, List.getElem?_eq_getElem h]
  simp


theorem u8s_strB (s : ByteArray) : u8s (strB s) = strCells s := by
  unfold u8s strB strCells
  rw [List.map_map]
  apply List.map_congr_left
  intro x _
  rfl

section
variable {w w' : World} {B : Nat} {v x : Value} {bs r : List (BitVec 8)}
theorem run_append_t (ty : TypeId) (s : ByteArray) (h : OwnB w B v bs) (hm : bs.length + s.size ≤ 100000000) (hN : B ≤ w.heap.size) :
    ∃ v' w', (Builtin.append_ #[67, 9] ty #[v, .string s]).run Tryz.prog w = .ok v' w' ∧ OwnB w' B v' (bs ++ strB s) ∧ w.grownBy w' v.ownBlock ∧ Moved w v v' := by
  obtain ⟨i, hi, hi1, hi2, hi3⟩ := info_parts Tryz.info8
  obtain ⟨v', w', hrun, h2, h3, h4⟩ := run_append_own_string w B 67 9 ty 5 i Tryz.underlying67 Tryz.underlying9 hi hi1 hi2 hi3 v bs.length (u8s bs) h s (by unfold maxLen; omega) (by omega) hN
  refine ⟨v', w', hrun, ?_, h3, ?_⟩
  · unfold OwnB
    rw [List.length_append, u8s_append, u8s_strB, strB_length]; exact h2
  · have hfl : (u8s bs).length = bs.length * i.size := by rw [hi2, u8s_length]; omega
    rcases h.2 with ⟨rfl, h0⟩ | ⟨g, c, cur, rfl, hbg, hg, hnc, hcm, hcs, htake⟩
    · by_cases hm0 : s.size = 0
      · left
        rw [h4.2 ⟨rfl, hm0⟩]
      · have e := run_append_nil_string w 67 9 ty 5 i _ Tryz.underlying67 Tryz.underlying9 hi hi1 s (by omega) (by omega) (by rw [hi3]; omega)
        rw [e] at hrun
        injection hrun with e1 _
        right
        exact ⟨w.heap.size, Nat.le_refl _, by rw [← e1]; rfl⟩
    · by_cases hroom : bs.length + s.size ≤ c
      · have e := run_append_room_string w 67 9 ty 5 i Tryz.underlying67 Tryz.underlying9 hi hi2 g bs.length c cur hg s hroom (by rw [hcs]; omega)
        rw [e] at hrun
        injection hrun with e1 _
        left
        rw [← e1]; rfl
      · have e := run_append_grow_string w 67 9 ty 5 i _ Tryz.underlying67 Tryz.underlying9 hi hi1 ⟨g, 0, none⟩ bs.length c (u8s bs) hfl (h.cells (g := g) rfl) s (by omega) (by omega) (growslice_fits (by omega) (by rw [hi3]; omega))
        rw [e] at hrun
        injection hrun with e1 _
        right
        exact ⟨w.heap.size, Nat.le_refl _, by rw [← e1]; rfl⟩

end
section
variable {ops : Array Oper} {o : Oper} {ac : Act} {w : World} {K : Act → World → Prop} {Q : Exit → Act → World → Prop} {E : Prop}
theorem step_append_b (hgd : o.guard = none) (s x : Operand)
    (ho : o.op = .call { callee := .builtin .append, args := #[s, x], argTypes := #[67, 67] }) (B : Nat) (v : Value) (bs : List (BitVec 8)) (hs : ac.eval s = v) (h : OwnB w B v bs)
    (y : Value) (r : List (BitVec 8)) (hx : ac.eval x = y) (hr : SrcB w y r) (hm : bs.length + r.length ≤ 100000000) (hN : B ≤ w.heap.size)
    (hK : ∀ v' w', Hid (OwnB w' B v' (bs ++ r)) → Hid (w.grownBy w' v.ownBlock) → Hid (Moved w v v') → K (ac.put o.dst v') w') : if Region.wanted o (yielded ops ac.tmps) = true then Oper.wp Tryz.prog o ac w K Q else E := by
  have hw : Region.wanted o (yielded ops ac.tmps) = true := by simp [Region.wanted, hgd]
  rw [if_pos hw]
  obtain ⟨v', w', hrun, h1, h2, h3⟩ := run_append_b o.type h hr hm hN
  unfold Oper.wp execOp
  simp only [ho, resolve, invoke, builtin, Sem.run_bind, Sem.run_pure, Result.andThen_ok, List.map_toArray, List.map_cons, List.map_nil, hs, hx, hrun]
  exact hK v' w' h1 h2 h3

theorem wpList_append_t {rest : List Oper} (hgd : o.guard = none) (s x : Operand)
    (ho : o.op = .call { callee := .builtin .append, args := #[s, x], argTypes := #[67, 9] }) (B : Nat) (v : Value) (bs : List (BitVec 8)) (hs : ac.eval s = v) (h : OwnB w B v bs)
    (y : ByteArray) (hx : ac.eval x = .string y) (hm : bs.length + y.size ≤ 100000000) (hN : B ≤ w.heap.size)
    (hK : ∀ v' w', Hid (OwnB w' B v' (bs ++ strB y)) → Hid (w.grownBy w' v.ownBlock) → Hid (Moved w v v') → wpList Tryz.prog ops Q rest (ac.put o.dst v') w') : wpList Tryz.prog ops Q (o :: rest) ac w := by
  obtain ⟨v', w', hrun, h1, h2, h3⟩ := run_append_t o.type y h hm hN
  refine wpList_plain hgd fun K hK' => ?_
  unfold Oper.wp execOp
  simp only [ho, resolve, invoke, builtin, Sem.run_bind, Sem.run_pure, Result.andThen_ok, List.map_toArray, List.map_cons, List.map_nil, hs, hx, hrun]
  exact hK' _ _ (hK v' w' h1 h2 h3)

end

/-- All but block R and the row of v is as it was; the row lies where it lay, or in a new block. -/
structure Grew (R : Nat) (v v' : Value) (w w' : World) : Prop where
  os : w'.os = w.os
  tape : w'.tape = w.tape
  output : w'.output = w.output
  size : w.heap.size ≤ w'.heap.size
  block : ∀ k, k < w.heap.size → k ≠ R → v.ownBlock ≠ some k → w'.heap[k]? = w.heap[k]?
  row : Moved w v v'
section
variable {w w' w'' : World} {R N : Nat} {v v' v'' : Value} {b : Nat} {cs : List Value} {bs : List (BitVec 8)}
theorem Grew.refl (R : Nat) (v : Value) (w : World) : Grew R v v w w := ⟨rfl, rfl, rfl, Nat.le_refl _, fun _ _ _ _ => rfl, .inl rfl⟩
theorem Moved.apart (h : Moved w v v') {k : Nat} (hk : k < w.heap.size) (hv : v.ownBlock ≠ some k) : v'.ownBlock ≠ some k := by
  rcases h with h | ⟨g, hg, h⟩
  · rw [h]; exact hv
  · rw [h]; intro e; injection e with e; omega
theorem Grew.trans (h : Grew R v v' w w') (k : Grew R v' v'' w' w'') : Grew R v v'' w w'' :=
  ⟨k.os.trans h.os, k.tape.trans h.tape, k.output.trans h.output, Nat.le_trans h.size k.size,
    fun i hi hr hv => (k.block i (Nat.lt_of_lt_of_le hi h.size) hr (h.row.apart hi hv)).trans (h.block i hi hr hv), by
    rcases k.row with e | ⟨g, hg, e⟩
    · rcases h.row with e' | ⟨g, hg, e'⟩
      · exact .inl (e.trans e')
      · exact .inr ⟨g, hg, e.trans e'⟩
    · exact .inr ⟨g, Nat.le_trans h.size hg, e⟩⟩
theorem Grew.below {B : Nat} (h : Grew R v v' w w') (hR : B ≤ R) (hw : B ≤ w.heap.size) (hv : ∀ k, v.ownBlock = some k → B ≤ k) : Below B w w' :=
  ⟨h.os, h.tape, h.output, h.size, fun k hk => h.block k (by omega) (by omega) fun e => by have := hv k e; omega⟩
theorem Grew.of_below (h : Below w.heap.size w w') : Grew R v v w w' := ⟨h.os, h.tape, h.output, h.size, fun k hk _ _ => h.block k hk, .inl rfl⟩
theorem Blk.grew (h : Blk w b cs) (g : Grew R v v' w w') (hr : b ≠ R) (hv : v.ownBlock ≠ some b) : Blk w' b cs := by
  have hl := h.lt; obtain ⟨t, h⟩ := h; exact ⟨t, by rw [g.block b hl hr hv]; exact h⟩
/-- What a writer in block R holds: a row of its own, from block N on. -/
structure Wr (w : World) (R N : Nat) (v : Value) (bs : List (BitVec 8)) : Prop where
  blk : Blk w R [v]
  own : OwnB w N v bs
  lt : R < N
  base : N ≤ w.heap.size
theorem Wr.below (h : Wr w R N v bs) (hb : Below w.heap.size w w') : Wr w' R N v bs :=
  ⟨h.blk.below hb h.blk.lt, h.own.below hb, h.lt, Nat.le_trans h.base hb.size⟩
theorem Wr.fresh (h : Wr w R N v bs) (hb : w.heap.size ≤ b) : b ≠ R ∧ v.ownBlock ≠ some b :=
  ⟨fun e => by have := h.blk.lt; omega, fun e => by have := (h.own.lt b e).2; omega⟩
theorem grownBy_grew (h : w.grownBy w' v.ownBlock) (hm : Moved w v v') : Grew R v v' w w' := ⟨h.os, h.tape, h.output, h.size, fun k hk _ hv => h.block k hk fun e => hv e.symm, hm⟩
theorem Grew.setCell (h : Grew R v v' w w') (u : Value) : Grew R v v' w (w'.setCell ⟨R, 0, none⟩ u) :=
  ⟨h.os, h.tape, h.output, by have := h.size; simpa [World.setCell] using this, fun k hk hr hv => by rw [Below.heap_setCell w' _ u k hr]; exact h.block k hk hr hv, h.row⟩
/-- An append, and the store of what it made. -/
theorem Wr.store {r : List (BitVec 8)} (h : Wr w R N v bs) (ho : OwnB w' N v' (bs ++ r)) (hg : w.grownBy w' v.ownBlock) (hm : Moved w v v') : Wr (w'.setCell ⟨R, 0, none⟩ v') R N v' (bs ++ r) ∧ Grew R v v' w (w'.setCell ⟨R, 0, none⟩ v') := by
  have hgr : Grew R v v' w w' := grownBy_grew hg hm
  have hlt := h.lt
  have hvR : v.ownBlock ≠ some R := fun e => by have := (h.own.lt R e).1; omega
  have hB : Blk w' R [v] := by
    have hl := h.blk.lt; obtain ⟨t, hb⟩ := h.blk; exact ⟨t, by rw [hg.block R hl fun e => hvR e.symm]; exact hb⟩
  refine ⟨⟨?_, ?_, h.lt, ?_⟩, hgr.setCell _⟩
  · have := hB.set 0 v'
    simpa using this
  · refine ho.same fun k hk => ?_
    rw [Below.heap_setCell w' _ v' k fun e => by have := (ho.lt k hk).1; simp at e; omega]
  · have := h.base; have := hg.size; simp [World.setCell]; omega
end
theorem OwnB.any {w : World} {B : Nat} {v : Value} {bs : List (BitVec 8)} (h : OwnB w B v bs) : ∃ a n cap, v = .slice a n cap := by
  obtain ⟨a, cap, h⟩ := h.shape
  exact ⟨a, _, cap, h⟩
theorem Ints.cell {w w' : World} {b o : Nat} {Z : List Int} {k : Nat} (h : Ints w (some ⟨b, o, none⟩) Z) (hk : k < Z.length) (hb : w'.heap[b]? = w.heap[b]?) : w'.cell? ⟨b, o + k, none⟩ = some (.int .i64 (Z.getD k 0)) := by
  rcases h with h | ⟨b', o', e, hc⟩
  · rw [h] at hk; simp at hk
  · injection e with e
    injection e with e1 e2
    subst e1; subst e2
    rw [World.cell?_of_block (a := ⟨b, o + k, none⟩) hb]; exact hc k hk
set_option maxRecDepth 100000 in
set_option maxHeartbeats 4000000 in
theorem wnum_any (R N : Nat) (v : Value) (bs : List (BitVec 8)) (b o n cap : Nat) (Z : List Int) (w : World) (hW : Wr w R N v bs) (hZ : Ints w (some ⟨b, o, none⟩) Z) (hn : Z.length = n) (hn1 : n ≤ 1000) (hl : bs.length + 9 * n ≤ 50000000) (hb : b < w.heap.size) (hbR : b ≠ R) (hbv : v.ownBlock ≠ some b) :
    Calls Tryz.prog 60 #[.pointer (some ⟨R, 0, none⟩), .slice (some ⟨b, o, none⟩) n cap] w fun e w' => e = .returned (.tuple #[]) ∧ ∃ v', Wr w' R N v' (bs ++ nums Z) ∧ Grew R v v' w w' := by
  have hmo : Tryz.prog.follows .mixedOrders = true := by kernel_rfl
  have HMO : Hid (_ = true) := hmo
  clear hmo
  have HW : Hid (Wr w R N v bs) := hW
  have HZ : Hid (Ints w (some ⟨b, o, none⟩) Z) := hZ
  have HN : Hid (Z.length = n) := hn
  have HV : Hid (v.ownBlock ≠ some b) := hbv
  clear hW hZ hn hbv
  go_enter Tryz.func60, Tryz.ntmps60
  go_wp2_with fail
  go_loopw [8] (fun i wr => ∃ (k : Nat) (vk : Value), k ≤ n ∧ i = .int .i64 k ∧ Hid (Wr wr R N vk (bs ++ nums (Z.take k))) ∧ Hid (Grew R v vk w wr)) (fun i _ => n - (intOf i).toNat)
  case atStart => exact ⟨0, v, by omega, rfl, show Wr _ _ _ _ _ by rw [List.take_zero, show nums [] = [] from rfl, List.append_nil]; exact HW.out, Grew.refl _ _ _⟩
  case round =>
    obtain ⟨k, vk, hk, rfl, HWk, HGk⟩ := hrel
    by_cases hlt : k < n
    · have e0 : (0 : Int) ≤ (k : Int) := by omega
      have e1 : (k : Int) < (n : Int) := by omega
      have hc : wr.cell? ⟨b, o + k, none⟩ = some (.int .i64 (Z.getD k 0)) := HZ.out.cell (by rw [HN.out]; exact hlt) (HGk.out.block b hb hbR HV.out)
      have HNX : Hid (nums (Z.take (k + 1)) = nums (Z.take k) ++ numB (Z.getD k 0)) := nums_next Z k (by rw [HN.out]; exact hlt)
      have hlk : (bs ++ nums (Z.take k)).length ≤ bs.length + 9 * k := by
        have := nums_length (Z.take k)
        rw [List.length_append]; rw [List.length_take] at this; omega
      have HLK : Hid _ := hlk
      have HL9 : Hid (bs.length + 9 * k + 9 ≤ 100000000) := show _ ≤ _ by omega
      generalize Z.getD k 0 = z at *
      generalize hbk : bs ++ nums (Z.take k) = bk at *
      have HBK : Hid (_ = bk) := hbk
      clear hlk hbk
      go_upto_region 3 with fail
      clear hc
      have HWd : Hid (Wr wr.drew R N vk bk) := HWk.out.below (Below.refl _ _).drew
      have HGd : Hid (Grew R v vk w wr.drew) := HGk.out.trans (Grew.of_below (Below.refl _ _).drew)
      clear HWk HGk
      have hc0 : wr.cell? ⟨R, 0, none⟩ = some vk := HWd.out.blk.one rfl
      refine wp_region_noPanic ?_
      refine wp_region_held_drew (S := fun _ => True) HMO.out (trivial) (fun hHeld => ?_)
      refine wpAnyH_take (i := 0) (oi := { dst := some 12, op := .move (.tmp 0), type := 136, pos := "wire.go:24", after := #[], guard := none }) (v := ?_) rfl (by kernel_rfl) (by kernel_rfl) (by kernel_rfl) (fun _ _ _ h => h) (Or.inl ⟨by rfl, ?_⟩) (by assumption) ?_
      rotate_left
      · intro _ _; go_simp; first | done | with_reducible rfl
      simp only [Act.put, List.setIfInBounds_toArray, List.set_cons_zero, List.set_cons_succ]
      refine wpAnyH_take (i := 1) (oi := { dst := some 13, op := .move (.tmp 0), type := 136, pos := "wire.go:24", after := #[], guard := none }) (v := ?_) rfl (by kernel_rfl) (by kernel_rfl) (by kernel_rfl) (fun _ _ _ h => h) (Or.inl ⟨by rfl, ?_⟩) (by assumption) ?_
      rotate_left
      · intro _ _; go_simp; first | done | with_reducible rfl
      simp only [Act.put, List.setIfInBounds_toArray, List.set_cons_zero, List.set_cons_succ]
      refine wpAnyH_take (i := 2) (oi := { dst := some 14, op := .nilCheck (.tmp 13), type := 0, pos := "wire.go:24", after := #[{ on := 1, ground := .data }], guard := none }) (v := ?_) rfl (by kernel_rfl) (by kernel_rfl) (by kernel_rfl) (fun _ _ _ h => h) (Or.inl ⟨by rfl, ?_⟩) (by assumption) ?_
      rotate_left
      · intro _ _; go_simp; first | done | with_reducible rfl
      simp only [Act.put, List.setIfInBounds_toArray, List.set_cons_zero, List.set_cons_succ]
      refine wpAnyH_take (i := 3) (oi := { dst := some 15, op := .fieldAddr 106 (.tmp 14) 0, type := 0, pos := "wire.go:24", after := #[{ on := 2, ground := .data }], guard := none }) (v := ?_) rfl (by kernel_rfl) (by kernel_rfl) (by kernel_rfl) (fun _ _ _ h => h) (Or.inl ⟨by rfl, ?_⟩) (by assumption) ?_
      rotate_left
      · intro _ _; go_simp; first | done | with_reducible rfl
      simp only [Act.put, List.setIfInBounds_toArray, List.set_cons_zero, List.set_cons_succ]
      refine wpAnyH_take (i := 5) (oi := { dst := some 17, op := .move (.tmp 5), type := 3, pos := "wire.go:24", after := #[], guard := none }) (v := ?_) rfl (by kernel_rfl) (by kernel_rfl) (by kernel_rfl) (fun _ _ _ h => h) (Or.inl ⟨by rfl, ?_⟩) (by assumption) ?_
      rotate_left
      · intro _ _; go_simp; first | done | with_reducible rfl
      simp only [Act.put, List.setIfInBounds_toArray, List.set_cons_zero, List.set_cons_succ]
      refine wpAnyH_ready (rs := [4, 6]) (by kernel_rfl) (by simp) ?_
      refine (AllReadyH.cons (o := { dst := some 16, op := .load 67 (.tmp 15), type := 67, pos := "wire.go:24", after := #[{ on := 3, ground := .data }], guard := none }) rfl (fun K hK => ?_) (AllReadyH.cons (o := { dst := some 18, op := .call { callee := .value (.func 85), args := #[.tmp 17], argTypes := #[3] }, type := 67, pos := "wire.go:24", after := #[{ on := 5, ground := .data }], guard := none }) rfl (fun K hK => ?_) AllReadyH.nil))
      · go_simp
        skip
        go_simp
        refine hK.out _ _ (trivial) (fun hHeld => ?_)
        clear hK K
        refine wpAnyH_ready (rs := [6]) (by kernel_rfl) (by simp) ?_
        refine AllReadyH.cons (o := { dst := some 18, op := .call { callee := .value (.func 85), args := #[.tmp 17], argTypes := #[3] }, type := 67, pos := "wire.go:24", after := #[{ on := 5, ground := .data }], guard := none }) rfl (fun K hK => ?_) AllReadyH.nil
        go_simp
        refine (put_any z _).mono ?_; rintro e w3 ⟨pv, rfl, hrow, hb3⟩; have HO3 : Hid (OwnB w3 wr.drew.heap.size pv (numB z)) := OwnB.put hrow; have HW3 : Hid (Wr w3 R N vk bk) := HWd.out.below hb3; have HB3 : Hid (Below wr.drew.heap.size wr.drew w3) := hb3; clear hrow hb3
        go_simp
        refine hK.out _ _ (trivial) (fun hHeld => ?_)
        clear hK K
        refine wpAnyH_ready (rs := [7]) (by kernel_rfl) (by simp) ?_
        refine AllReadyH.cons (o := { dst := some 19, op := .call { callee := .builtin Go.Builtin.append, args := #[.tmp 16, .tmp 18], argTypes := #[67, 67] }, type := 67, pos := "wire.go:24", after := #[{ on := 4, ground := .data }, { on := 6, ground := .data }, { on := 6, ground := .chain }], guard := none }) rfl (fun K hK => ?_) AllReadyH.nil
        refine step_append_b rfl _ _ rfl N vk bk rfl HW3.out.own pv (numB z) rfl HO3.out.src (by have := HLK.out; have := HL9.out; have := numB_le z; omega) HW3.out.base ?_; intro v4 w4 HO4 HG4 HM4; obtain ⟨a4, n4, cap4, rfl⟩ := HO4.out.any; have hc4 : w4.cell? ⟨R, 0, none⟩ = some vk := HG4.out.cell (HW3.out.blk.one rfl) (fun e => by have h1 := (HW3.out.own.lt R e.symm).1; have h2 := HW3.out.lt; omega); have hf4 : w4.frozen? ⟨R, 0, none⟩ = false := by { have hl := HW3.out.blk.lt; have hfr := HW3.out.blk.frozen 0; rw [World.frozen?_of_block (a := ⟨R, 0, none⟩) (HG4.out.block R hl (fun e => by have h1 := (HW3.out.own.lt R e.symm).1; have h2 := HW3.out.lt; omega))]; exact hfr }
        simp only [Act.put, List.setIfInBounds_toArray, List.set_cons_zero, List.set_cons_succ]
        refine hK.out _ _ (trivial) (fun hHeld => ?_)
        clear hK K
        refine wpAnyH_take (i := 8) (oi := { dst := some 20, op := .nilCheck (.tmp 12), type := 0, pos := "wire.go:24", after := #[{ on := 0, ground := .data }, { on := 0, ground := .phase }, { on := 1, ground := .phase }, { on := 2, ground := .phase }, { on := 3, ground := .phase }, { on := 4, ground := .phase }, { on := 5, ground := .phase }, { on := 6, ground := .phase }, { on := 7, ground := .phase }], guard := none }) (v := ?_) rfl (by kernel_rfl) (by kernel_rfl) (by kernel_rfl) (fun _ _ _ h => h) (Or.inl ⟨by rfl, ?_⟩) (by assumption) ?_
        rotate_left
        · intro _ _; go_simp; first | done | with_reducible rfl
        simp only [Act.put, List.setIfInBounds_toArray, List.set_cons_zero, List.set_cons_succ]
        refine wpAnyH_take (i := 9) (oi := { dst := some 21, op := .fieldAddr 106 (.tmp 20) 0, type := 0, pos := "wire.go:24", after := #[{ on := 8, ground := .data }, { on := 0, ground := .phase }, { on := 1, ground := .phase }, { on := 2, ground := .phase }, { on := 3, ground := .phase }, { on := 4, ground := .phase }, { on := 5, ground := .phase }, { on := 6, ground := .phase }, { on := 7, ground := .phase }], guard := none }) (v := ?_) rfl (by kernel_rfl) (by kernel_rfl) (by kernel_rfl) (fun _ _ _ h => h) (Or.inl ⟨by rfl, ?_⟩) (by assumption) ?_
        rotate_left
        · intro _ _; go_simp; first | done | with_reducible rfl
        simp only [Act.put, List.setIfInBounds_toArray, List.set_cons_zero, List.set_cons_succ]
        refine wpAnyH_ready (rs := [10]) (by kernel_rfl) (by simp) ?_
        refine AllReadyH.cons (o := { dst := none, op := .store 67 (.tmp 21) (.tmp 19), type := 0, pos := "wire.go:24", after := #[{ on := 9, ground := .data }, { on := 7, ground := .data }, { on := 7, ground := .chain }, { on := 0, ground := .phase }, { on := 1, ground := .phase }, { on := 2, ground := .phase }, { on := 3, ground := .phase }, { on := 4, ground := .phase }, { on := 5, ground := .phase }, { on := 6, ground := .phase }, { on := 7, ground := .phase }], guard := none }) rfl (fun K hK => ?_) AllReadyH.nil
        go_simp
        skip
        go_simp
        refine hK.out _ _ (trivial) (fun hHeld => ?_)
        clear hK K
        refine wpAnyH_done (by kernel_rfl) ?_ _
        refine NoPanic.normal ?_
        obtain ⟨HW5, HG5⟩ := Wr.store HW3.out HO4.out HG4.out HM4.out
        have HW6 : Hid (Wr _ R N _ (bk ++ numB z)) := HW5
        have HG6 : Hid (Grew R v _ w _) := (HGd.out.trans (Grew.of_below HB3.out)).trans HG5
        clear HW5 HG5 hHeld
        generalize World.setCell w4 _ _ = w5 at *
        go_wp2_with fail
        go_roundw
        case rel =>
          refine ⟨k + 1, _, by omega, by go_num, ?_, HG6.out⟩
          show Wr _ _ _ _ _
          rw [HNX.out, ← List.append_assoc, HBK.out]
          exact HW6.out
        case measure => simp [intOf]; omega
      · go_simp
        refine (put_any z _).mono ?_; rintro e w3 ⟨pv, rfl, hrow, hb3⟩; have HO3 : Hid (OwnB w3 wr.drew.heap.size pv (numB z)) := OwnB.put hrow; have HW3 : Hid (Wr w3 R N vk bk) := HWd.out.below hb3; have HB3 : Hid (Below wr.drew.heap.size wr.drew w3) := hb3; clear hrow hb3; have hc3 : w3.cell? ⟨R, 0, none⟩ = some vk := HW3.out.blk.one rfl
        go_simp
        refine hK.out _ _ (trivial) (fun hHeld => ?_)
        clear hK K
        refine wpAnyH_ready (rs := [4]) (by kernel_rfl) (by simp) ?_
        refine AllReadyH.cons (o := { dst := some 16, op := .load 67 (.tmp 15), type := 67, pos := "wire.go:24", after := #[{ on := 3, ground := .data }], guard := none }) rfl (fun K hK => ?_) AllReadyH.nil
        go_simp
        skip
        go_simp
        refine hK.out _ _ (trivial) (fun hHeld => ?_)
        clear hK K
        refine wpAnyH_ready (rs := [7]) (by kernel_rfl) (by simp) ?_
        refine AllReadyH.cons (o := { dst := some 19, op := .call { callee := .builtin Go.Builtin.append, args := #[.tmp 16, .tmp 18], argTypes := #[67, 67] }, type := 67, pos := "wire.go:24", after := #[{ on := 4, ground := .data }, { on := 6, ground := .data }, { on := 6, ground := .chain }], guard := none }) rfl (fun K hK => ?_) AllReadyH.nil
        refine step_append_b rfl _ _ rfl N vk bk rfl HW3.out.own pv (numB z) rfl HO3.out.src (by have := HLK.out; have := HL9.out; have := numB_le z; omega) HW3.out.base ?_; intro v4 w4 HO4 HG4 HM4; obtain ⟨a4, n4, cap4, rfl⟩ := HO4.out.any; have hc4 : w4.cell? ⟨R, 0, none⟩ = some vk := HG4.out.cell (HW3.out.blk.one rfl) (fun e => by have h1 := (HW3.out.own.lt R e.symm).1; have h2 := HW3.out.lt; omega); have hf4 : w4.frozen? ⟨R, 0, none⟩ = false := by { have hl := HW3.out.blk.lt; have hfr := HW3.out.blk.frozen 0; rw [World.frozen?_of_block (a := ⟨R, 0, none⟩) (HG4.out.block R hl (fun e => by have h1 := (HW3.out.own.lt R e.symm).1; have h2 := HW3.out.lt; omega))]; exact hfr }
        simp only [Act.put, List.setIfInBounds_toArray, List.set_cons_zero, List.set_cons_succ]
        refine hK.out _ _ (trivial) (fun hHeld => ?_)
        clear hK K
        refine wpAnyH_take (i := 8) (oi := { dst := some 20, op := .nilCheck (.tmp 12), type := 0, pos := "wire.go:24", after := #[{ on := 0, ground := .data }, { on := 0, ground := .phase }, { on := 1, ground := .phase }, { on := 2, ground := .phase }, { on := 3, ground := .phase }, { on := 4, ground := .phase }, { on := 5, ground := .phase }, { on := 6, ground := .phase }, { on := 7, ground := .phase }], guard := none }) (v := ?_) rfl (by kernel_rfl) (by kernel_rfl) (by kernel_rfl) (fun _ _ _ h => h) (Or.inl ⟨by rfl, ?_⟩) (by assumption) ?_
        rotate_left
        · intro _ _; go_simp; first | done | with_reducible rfl
        simp only [Act.put, List.setIfInBounds_toArray, List.set_cons_zero, List.set_cons_succ]
        refine wpAnyH_take (i := 9) (oi := { dst := some 21, op := .fieldAddr 106 (.tmp 20) 0, type := 0, pos := "wire.go:24", after := #[{ on := 8, ground := .data }, { on := 0, ground := .phase }, { on := 1, ground := .phase }, { on := 2, ground := .phase }, { on := 3, ground := .phase }, { on := 4, ground := .phase }, { on := 5, ground := .phase }, { on := 6, ground := .phase }, { on := 7, ground := .phase }], guard := none }) (v := ?_) rfl (by kernel_rfl) (by kernel_rfl) (by kernel_rfl) (fun _ _ _ h => h) (Or.inl ⟨by rfl, ?_⟩) (by assumption) ?_
        rotate_left
        · intro _ _; go_simp; first | done | with_reducible rfl
        simp only [Act.put, List.setIfInBounds_toArray, List.set_cons_zero, List.set_cons_succ]
        refine wpAnyH_ready (rs := [10]) (by kernel_rfl) (by simp) ?_
        refine AllReadyH.cons (o := { dst := none, op := .store 67 (.tmp 21) (.tmp 19), type := 0, pos := "wire.go:24", after := #[{ on := 9, ground := .data }, { on := 7, ground := .data }, { on := 7, ground := .chain }, { on := 0, ground := .phase }, { on := 1, ground := .phase }, { on := 2, ground := .phase }, { on := 3, ground := .phase }, { on := 4, ground := .phase }, { on := 5, ground := .phase }, { on := 6, ground := .phase }, { on := 7, ground := .phase }], guard := none }) rfl (fun K hK => ?_) AllReadyH.nil
        go_simp
        skip
        go_simp
        refine hK.out _ _ (trivial) (fun hHeld => ?_)
        clear hK K
        refine wpAnyH_done (by kernel_rfl) ?_ _
        refine NoPanic.normal ?_
        obtain ⟨HW5, HG5⟩ := Wr.store HW3.out HO4.out HG4.out HM4.out
        have HW6 : Hid (Wr _ R N _ (bk ++ numB z)) := HW5
        have HG6 : Hid (Grew R v _ w _) := (HGd.out.trans (Grew.of_below HB3.out)).trans HG5
        clear HW5 HG5 hHeld
        generalize World.setCell w4 _ _ = w5 at *
        go_wp2_with fail
        go_roundw
        case rel =>
          refine ⟨k + 1, _, by omega, by go_num, ?_, HG6.out⟩
          show Wr _ _ _ _ _
          rw [HNX.out, ← List.append_assoc, HBK.out]
          exact HW6.out
        case measure => simp [intOf]; omega
    · obtain rfl : k = n := by omega
      rw [List.take_of_length_le (by rw [HN.out]; exact Nat.le_refl _)] at HWk
      go_wp2_with fail
      go_end0
      exact ⟨rfl, vk, HWk.out, HGk.out⟩
/-- A number's row of one, laid by the call itself. -/
theorem Ints.lit (w : World) (Z : List Int) (T : TypeId) : Ints (w.alloc (.cells (Z.map (Value.int .i64)).toArray T)) (some ⟨w.heap.size, 0, none⟩) Z :=
  by
  rcases Nat.eq_zero_or_pos Z.length with h | h
  · exact .inl (List.eq_nil_of_length_eq_zero h)
  · refine .inr ⟨w.heap.size, 0, rfl, fun i hi => ?_⟩
    have hb : Blk (w.alloc (.cells (Z.map (Value.int .i64)).toArray T)) w.heap.size (Z.map (Value.int .i64)) := Blk.mk _ _ _ rfl rfl
    rw [Nat.zero_add]
    refine hb.one ?_
    rw [List.getElem?_map, List.getElem?_eq_getElem hi, List.getD_eq_getElem?_getD, List.getElem?_eq_getElem hi]; rfl
/-- (*wire.Writer).Num at numbers that were laid just now. -/
theorem wnum_lit (R N : Nat) (v : Value) (bs : List (BitVec 8)) (Z : List Int) (n : Nat) (w : World) (hW : Wr w R N v bs) (hn : Z.length = n) (hn1 : n ≤ 1000) (hl : bs.length + 9 * n ≤ 50000000) :
    Calls Tryz.prog 60 #[.pointer (some ⟨R, 0, none⟩), .slice (some ⟨w.heap.size, 0, none⟩) n n] (w.alloc (.cells (Z.map (Value.int .i64)).toArray 3)) fun e w' => e = .returned (.tuple #[]) ∧ ∃ v', Wr w' R N v' (bs ++ nums Z) ∧ Grew R v v' w w' := by
  have hb : Below w.heap.size w (w.alloc (.cells (Z.map (Value.int .i64)).toArray 3)) := (Below.refl _ _).alloc (Nat.le_refl _) _
  have hf := hW.fresh (Nat.le_refl _)
  refine (wnum_any R N v bs w.heap.size 0 n n Z _ (hW.below hb) (Ints.lit w Z _) hn hn1 hl (by simp) hf.1 hf.2).mono ?_
  rintro e w' ⟨rfl, v', h1, h2⟩
  exact ⟨rfl, v', h1, (Grew.of_below hb).trans h2⟩

set_option maxRecDepth 100000 in
set_option maxHeartbeats 4000000 in
theorem wtext_any (R N : Nat) (v : Value) (bs : List (BitVec 8)) (s : ByteArray) (w : World) (hW : Wr w R N v bs) (hs : s.size ≤ 1000000) (hl : bs.length ≤ 40000000) :
    Calls Tryz.prog 61 #[.pointer (some ⟨R, 0, none⟩), .string s] w fun e w' => e = .returned (.tuple #[]) ∧ ∃ v', Wr w' R N v' (bs ++ (numB s.size ++ strB s)) ∧ Grew R v v' w w' := by
  have HW : Hid (Wr w R N v bs) := hW
  clear hW
  go_enter Tryz.func61, Tryz.ntmps61
  go_wp2_with fail
  refine (wnum_lit R N v bs [(s.size : Int)] 1 w HW.out rfl (by omega) (by omega)).mono ?_
  rintro e w1 ⟨rfl, v1, hW1, hG1⟩
  have HW1 : Hid (Wr w1 R N v1 (bs ++ nums [(s.size : Int)])) := hW1
  have HG1 : Hid _ := hG1
  have HLEN : Hid ((bs ++ nums [(s.size : Int)]).length + s.size ≤ 100000000) := by
    have := nums_length [(s.size : Int)]
    show _ ≤ _
    rw [List.length_append]; simp at this; omega
  have hc0 : w1.cell? ⟨R, 0, none⟩ = some v1 := hW1.blk.one rfl
  clear hW1 hG1
  go_upto_region 2 with (at_builtin; refine wpList_append_t rfl _ _ rfl N v1 _ rfl HW1.out.own s rfl HLEN.out HW1.out.base ?_; intro v4 w4 HO4 HG4 HM4; obtain ⟨a4, n4, cap4, rfl⟩ := HO4.out.any; have hc4 : w4.cell? ⟨R, 0, none⟩ = some v1 := HG4.out.cell (HW1.out.blk.one rfl) (fun e => by have h1 := (HW1.out.own.lt R e.symm).1; have h2 := HW1.out.lt; omega); have hf4 : w4.frozen? ⟨R, 0, none⟩ = false := by { have hl := HW1.out.blk.lt; have hfr := HW1.out.blk.frozen 0; rw [World.frozen?_of_block (a := ⟨R, 0, none⟩) (HG4.out.block R hl (fun e => by have h1 := (HW1.out.own.lt R e.symm).1; have h2 := HW1.out.lt; omega))]; exact hfr })
  obtain ⟨HW5, HG5⟩ := Wr.store HW1.out HO4.out HG4.out HM4.out
  rw [List.append_assoc, show nums [(s.size : Int)] = numB s.size by simp [nums]] at HW5
  have HW6 : Hid (Wr _ R N _ (bs ++ (numB s.size ++ strB s))) := HW5
  have HG6 : Hid (Grew R v _ w _) := HG1.out.trans HG5
  clear HW5 HG5
  generalize World.setCell w4 _ _ = w5 at *
  go_wp2_with fail
  go_end0
  exact ⟨rfl, _, HW6.out, HG6.out⟩

set_option maxRecDepth 100000 in
theorem wbytes_any (R N : Nat) (v : Value) (bs : List (BitVec 8)) (w : World) (hW : Wr w R N v bs) (hl : bs.length ≤ 50000000) :
    Calls Tryz.prog 62 #[.pointer (some ⟨R, 0, none⟩)] w fun e w' => ∃ v', e = .returned v' ∧ OwnB w' w.heap.size v' bs ∧ Below w.heap.size w w' := by
  have HW : Hid (Wr w R N v bs) := hW
  have hc0 : w.cell? ⟨R, 0, none⟩ = some v := hW.blk.one rfl
  clear hW
  go_enter Tryz.func62, Tryz.ntmps62
  go_wp2_with fail
  refine (bclone_any v bs w HW.out.own.src hl).mono ?_
  rintro e w1 ⟨v', rfl, hO, hB⟩
  have HO : Hid _ := hO
  have HB : Hid _ := hB
  clear hO hB
  go_wp2_with fail
  go_ret
  exact ⟨v', rfl, HO.out, HB.out⟩

end Go.Proofs.YtlapnnkahijikaaGreatDoor
namespace Go.Proofs.YtlapnnkahijikaaGreatDoor
open Go.ChangeShapes Go.WideShapes Go.ChangeAt Go.RowKit Go.Lib

theorem Wr.new (w : World) (t : TypeId) : Wr (w.alloc (.cells #[.slice none 0 0] t)) w.heap.size (w.heap.size + 1) (.slice none 0 0) [] :=
  ⟨Blk.mk _ _ _ rfl rfl, OwnB.nil _ _, Nat.lt_succ_self _, by simp⟩
theorem Grew.out {w w' : World} {R N : Nat} {v v' : Value} {bs : List (BitVec 8)} (h : Grew R v v' w w') (hW : Wr w R N v bs) {B : Nat} (hB : B ≤ R) (hw : B ≤ w.heap.size) : Below B w w' :=
  h.below hB hw fun k hk => by have := (hW.own.lt k hk).1; have := hW.lt; omega
structure WrSt (w0 w : World) (R M : Nat) (v : Value) (X : List (BitVec 8)) (cs : List Value) : Prop where
  wr : Wr w R (R + 1) v X
  blk : Blk w M cs
  ne : M ≠ R
  nv : v.ownBlock ≠ some M
  below : Below R w0 w
theorem WrSt.step {w0 w w' : World} {R M : Nat} {v v' : Value} {X X' : List (BitVec 8)} {cs : List Value} (h : WrSt w0 w R M v X cs) (hW : Wr w' R (R + 1) v' X') (hG : Grew R v v' w w') : WrSt w0 w' R M v' X' cs :=
  ⟨hW, h.blk.grew hG h.ne h.nv, h.ne, hG.row.apart h.blk.lt h.nv, h.below.trans (hG.out h.wr (Nat.le_refl _) (by have := h.wr.base; omega))⟩
set_option maxRecDepth 100000 in
set_option maxHeartbeats 4000000 in
theorem write_any' (a : Option Addr) (n cap : Nat) (l : List Pr) (w : World) (hl : Els w a n cap l) (hz : ∀ p ∈ l, p.k.size ≤ 1000000 ∧ p.v.size ≤ 1000000) (hb : (prsB l).length ≤ 30000000) :
    Calls Tryz.prog 34 #[.slice a n cap] w fun e w' => ∃ v, e = .returned v ∧ OwnB w' w.heap.size v (batB l) ∧ Below w.heap.size w w' := by
  have HL : Hid (Els w a n cap l) := hl
  have HN : Hid (l.length = n) := hl.len
  have HZ : Hid (∀ p ∈ l, p.k.size ≤ 1000000 ∧ p.v.size ≤ 1000000) := hz
  have HBT : Hid (∀ k, (prsB (l.take k)).length ≤ 30000000) := fun k => Nat.le_trans (prsB_take_le l k) hb
  have hn63 : n ≤ 9223372036854775807 := by have h1 := hl.fits; have h2 := hl.most; unfold maxLen at h2; omega
  clear hl hz hb
  go_enter Tryz.func34, Tryz.ntmps34
  go_upto_region 2 with fail
  generalize hw1 : World.alloc w _ = w1
  have HW1 : Hid (Wr w1 w.heap.size (w.heap.size + 1) (.slice none 0 0) []) := by rw [← hw1]; exact Wr.new _ _
  have HB1 : Hid (Below w.heap.size w w1) := by rw [← hw1]; exact (Below.refl _ _).alloc (Nat.le_refl _) _
  clear hw1
  generalize hR : w.heap.size = R at *
  go_wp2_with fail
  refine Calls.mono (wnum_lit R (R + 1) _ [] [(n : Int)] 1 w1 HW1.out rfl (by omega) (by simp)) ?_
  rintro e w2 ⟨rfl, v2, hW2, hG2⟩
  have HW2 : Hid (Wr w2 R (R + 1) v2 (numB l.length ++ prsB (l.take 0))) := by
    rw [List.take_zero, prsB_nil, List.append_nil, HN.out]
    have h := hW2
    rw [List.nil_append, show nums [(n : Int)] = numB n by simp [nums]] at h
    exact h
  have HB2 : Hid (Below R w w2) := HB1.out.trans (hG2.out HW1.out (Nat.le_refl _) (by have := HB1.out.size; omega))
  clear hW2 hG2 HW1 HB1
  go_wp2_with fail
  go_loopw [13] (fun i wr => ∃ (k : Nat) (vk : Value), k ≤ n ∧ i = .int .i64 k ∧ Hid (Wr wr R (R + 1) vk (numB l.length ++ prsB (l.take k))) ∧ Hid (Below R w wr)) (fun i _ => n - (intOf i).toNat)
  case atStart => exact ⟨0, v2, by omega, rfl, HW2.out, HB2.out⟩
  case round =>
    obtain ⟨k, vk, hk, rfl, HWk, HBk⟩ := hrel
    clear HW2 HB2
    by_cases hlt : k < n
    · have e1 : (0 : Int) ≤ (k : Int) := by omega
      have e2 : (k : Int) < (n : Int) := by omega
      obtain ⟨b, o, rfl, c0, c1, c2⟩ := HL.out.pr hlt
      have hBk := HBk.out
      rw [← hR] at hBk
      replace c0 := cell_below' hBk c0
      replace c1 := cell_below' hBk c1
      replace c2 := cell_below' hBk c2
      have hzp := HZ.out (l.getD k default) (by rw [List.getD_eq_getElem?_getD, List.getElem?_eq_getElem (by rw [HN.out]; exact hlt)]; exact List.getElem_mem _)
      have HNX : Hid (prsB (l.take (k + 1)) = prsB (l.take k) ++ prB (l.getD k default)) := prsB_next l k (by rw [HN.out]; exact hlt)
      have HLK : Hid ((numB (l.length : Int) ++ prsB (l.take k)).length ≤ 30000009) := by
        have h1 := numB_le (l.length : Int)
        have h2 := HBT.out k
        show _ ≤ _
        rw [List.length_append]; omega
      have hRl : R ≤ wr.heap.size := by have := hBk.size; omega
      obtain ⟨p, hp⟩ : ∃ p, p = l.getD k default := ⟨_, rfl⟩
      rw [← hp] at c0 c1 c2 hzp HNX
      obtain ⟨pk, pv, pg⟩ := p
      have hz1 : pk.size ≤ 1000000 := hzp.1
      have hz2 : pv.size ≤ 1000000 := hzp.2
      generalize hX : numB (l.length : Int) ++ prsB (l.take k) = X at *
      have HX : Hid (_ = X) := hX
      clear hp hzp hBk hX
      go_upto_region 6 with fail
      generalize hw3 : World.alloc wr _ = w3
      have HP3 : Hid (Blk w3 wr.heap.size [.string pk, .string pv, .bool pg]) := by rw [← hw3]; exact Blk.mk _ _ _ rfl rfl
      have HB3 : Hid (Below wr.heap.size wr w3) := by rw [← hw3]; exact (Below.refl _ _).alloc (Nat.le_refl _) _
      have HW3 : Hid (Wr w3 R (R + 1) vk X) := HWk.out.below HB3.out
      have hfr := HWk.out.fresh (b := wr.heap.size) (Nat.le_refl _)
      have HFR : Hid (wr.heap.size ≠ R ∧ vk.ownBlock ≠ some wr.heap.size) := hfr
      have HBw3 : Hid (Below R w w3) := HBk.out.trans (HB3.out.mono hRl)
      clear hw3 c0 c1 c2 hfr HWk HBk HB3
      generalize wr.heap.size = M at *
      have HS3 : Hid (WrSt w w3 R M vk X [.string pk, .string pv, .bool pg]) := ⟨HW3.out, HP3.out, HFR.out.1, HFR.out.2, HBw3.out⟩
      clear HW3 HP3 HFR HBw3
      have p0 : w3.cell? ⟨M, 0, none⟩ = some (.string pk) := HS3.out.blk.one rfl
      have p1 : w3.cell? ⟨M, 1, none⟩ = some (.string pv) := HS3.out.blk.one rfl
      have p2 : w3.cell? ⟨M, 2, none⟩ = some (.bool pg) := HS3.out.blk.one rfl
      cases pg with
      | false =>
        go_wp2_with fail
        refine Calls.mono (wnum_lit R (R + 1) vk X [0] 1 w3 HS3.out.wr rfl (by omega) (by have := HLK.out; omega)) ?_
        rintro e w4 ⟨rfl, v4, hW4, hG4⟩
        have HS4 : Hid (WrSt w w4 R M v4 (X ++ numB 0) [.string pk, .string pv, .bool false]) := by
          have h := HS3.out.step hW4 hG4
          rw [show nums [(0 : Int)] = numB 0 by simp [nums]] at h
          exact h
        clear hW4 hG4 HS3 p0 p1 p2
        have p0 : w4.cell? ⟨M, 0, none⟩ = some (.string pk) := HS4.out.blk.one rfl
        go_wp2_with fail
        refine Calls.mono (wtext_any R (R + 1) v4 _ pk w4 HS4.out.wr hz1 (by have h1 := HLK.out; have h2 := numB_le (0 : Int); rw [List.length_append]; omega)) ?_
        rintro e w5 ⟨rfl, v5, hW5, hG5⟩
        have HS5 : Hid (WrSt w w5 R M v5 (X ++ numB 0 ++ (numB pk.size ++ strB pk)) [.string pk, .string pv, .bool false]) := HS4.out.step hW5 hG5
        clear hW5 hG5 HS4 p0
        have p1 : w5.cell? ⟨M, 1, none⟩ = some (.string pv) := HS5.out.blk.one rfl
        go_wp2_with fail
        refine Calls.mono (wtext_any R (R + 1) v5 _ pv w5 HS5.out.wr hz2 (by have h1 := HLK.out; have h2 := numB_le (0 : Int); have h3 := numB_le (pk.size : Int); simp only [List.length_append, strB_length]; omega)) ?_
        rintro e w6 ⟨rfl, v6, hW6, hG6⟩
        have HS6 : Hid (WrSt w w6 R M v6 (X ++ numB 0 ++ (numB pk.size ++ strB pk) ++ (numB pv.size ++ strB pv)) [.string pk, .string pv, .bool false]) := HS5.out.step hW6 hG6
        clear hW6 hG6 HS5 p1
        go_wp2_with fail
        go_roundw
        case rel =>
          refine ⟨k + 1, v6, by omega, by go_num, ?_, HS6.out.below⟩
          show Wr _ _ _ _ _
          have h := HS6.out.wr
          rw [HNX.out, ← List.append_assoc, HX.out]
          unfold prB
          rw [show goneN ⟨pk, pv, false⟩ = 0 from rfl, ← List.append_assoc, ← List.append_assoc, ← List.append_assoc, ← List.append_assoc]
          rw [← List.append_assoc, ← List.append_assoc] at h
          exact h
        case measure => simp [intOf]; omega
      | true =>
        go_wp2_with fail
        refine Calls.mono (wnum_lit R (R + 1) vk X [1] 1 w3 HS3.out.wr rfl (by omega) (by have := HLK.out; omega)) ?_
        rintro e w4 ⟨rfl, v4, hW4, hG4⟩
        have HS4 : Hid (WrSt w w4 R M v4 (X ++ numB 1) [.string pk, .string pv, .bool true]) := by
          have h := HS3.out.step hW4 hG4
          rw [show nums [(1 : Int)] = numB 1 by simp [nums]] at h
          exact h
        clear hW4 hG4 HS3 p0 p1 p2
        have p0 : w4.cell? ⟨M, 0, none⟩ = some (.string pk) := HS4.out.blk.one rfl
        go_wp2_with fail
        refine Calls.mono (wtext_any R (R + 1) v4 _ pk w4 HS4.out.wr hz1 (by have h1 := HLK.out; have h2 := numB_le (1 : Int); rw [List.length_append]; omega)) ?_
        rintro e w5 ⟨rfl, v5, hW5, hG5⟩
        have HS5 : Hid (WrSt w w5 R M v5 (X ++ numB 1 ++ (numB pk.size ++ strB pk)) [.string pk, .string pv, .bool true]) := HS4.out.step hW5 hG5
        clear hW5 hG5 HS4 p0
        have p1 : w5.cell? ⟨M, 1, none⟩ = some (.string pv) := HS5.out.blk.one rfl
        go_wp2_with fail
        refine Calls.mono (wtext_any R (R + 1) v5 _ pv w5 HS5.out.wr hz2 (by have h1 := HLK.out; have h2 := numB_le (1 : Int); have h3 := numB_le (pk.size : Int); simp only [List.length_append, strB_length]; omega)) ?_
        rintro e w6 ⟨rfl, v6, hW6, hG6⟩
        have HS6 : Hid (WrSt w w6 R M v6 (X ++ numB 1 ++ (numB pk.size ++ strB pk) ++ (numB pv.size ++ strB pv)) [.string pk, .string pv, .bool true]) := HS5.out.step hW6 hG6
        clear hW6 hG6 HS5 p1
        go_wp2_with fail
        go_roundw
        case rel =>
          refine ⟨k + 1, v6, by omega, by go_num, ?_, HS6.out.below⟩
          show Wr _ _ _ _ _
          have h := HS6.out.wr
          rw [HNX.out, ← List.append_assoc, HX.out]
          unfold prB
          rw [show goneN ⟨pk, pv, true⟩ = 1 from rfl, ← List.append_assoc, ← List.append_assoc, ← List.append_assoc, ← List.append_assoc]
          rw [← List.append_assoc, ← List.append_assoc] at h
          exact h
        case measure => simp [intOf]; omega
    · obtain rfl : k = n := by omega
      have e2 : ¬ (k : Int) < (k : Int) := by omega
      rw [List.take_of_length_le (by rw [HN.out]; exact Nat.le_refl _)] at HWk
      have HBB : Hid ((numB (l.length : Int) ++ prsB l).length ≤ 50000000) := by
        have h1 := numB_le (l.length : Int)
        have h2 := HBT.out l.length
        rw [List.take_length] at h2
        show _ ≤ _
        rw [List.length_append]; omega
      go_wp2_with fail
      refine Calls.mono (wbytes_any R (R + 1) vk _ _ HWk.out HBB.out) ?_
      rintro e w5 ⟨v5, rfl, hO5, hB5⟩
      have HO5 : Hid (OwnB w5 R v5 (batB l)) := by
        have := hO5.less (M := R) (by have := HBk.out.size; omega)
        exact this
      have HB5 : Hid (Below R w w5) := HBk.out.trans (hB5.mono (by have := HBk.out.size; omega))
      clear hO5 hB5
      go_wp2_with fail
      go_ret
      subst hR
      exact ⟨v5, rfl, HO5.out, HB5.out⟩
end Go.Proofs.YtlapnnkahijikaaGreatDoor
