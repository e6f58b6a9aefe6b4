/- Rows of texts of the call's own; slices.Concat of none or one text and one; file: open. -/
import Derived.Test.YtbbooldhfcldbaaFlC
import Derived.Test.YtbbooldhfcldbaaLayG
namespace Go.Proofs.Ytbbooldhfcldbaa
open Go.ChangeShapes Go.WideShapes Go.ChangeAt Go.RowKit Go.Lib

theorem Try.info9 : (Try.prog.info? 9).map (fun i => (i.zero, i.size, i.bytes)) = some (some (.string ByteArray.empty), 1, 16) := by kernel_rfl
theorem und9 : Try.prog.underlying 51 = some (.slice 9) := Try.underlying51
/-- A row of texts of the call's own, from block B on. -/
def OwnS (w : World) (B : Nat) (v : Value) (ss : List ByteArray) : Prop := w.ownsRow B 9 1 v ss.length (ss.map Value.string)
/-- Texts that v leads to. -/
def SrcS (w : World) (v : Value) (ss : List ByteArray) : Prop := (v = .slice none 0 0 ∧ ss = []) ∨ ∃ b cap, v = .slice (some ⟨b, 0, none⟩) ss.length cap ∧ ∀ j x, ss[j]? = some x → w.cell? ⟨b, j, none⟩ = some (.string x)
section
variable {w w' : World} {B : Nat} {v x : Value} {ss r : List ByteArray}
theorem OwnS.nil (w : World) (B : Nat) : OwnS w B (.slice none 0 0) [] := World.ownsRow_nil w B _ _
theorem OwnS.lt (h : OwnS w B v ss) : ∀ k, v.ownBlock = some k → B ≤ k ∧ k < w.heap.size := World.ownsRow.lt h
theorem OwnS.same (h : OwnS w B v ss) (hb : ∀ k, v.ownBlock = some k → w'.heap[k]? = w.heap[k]?) : OwnS w' B v ss := by
  refine ⟨h.1, ?_⟩
  rcases h.2 with hn | ⟨g, cap, cur, hv, hg, hh, rest⟩
  · exact .inl hn
  · exact .inr ⟨g, cap, cur, hv, hg, by rw [hb g (by rw [hv]; rfl)]; exact hh, rest⟩
theorem OwnS.below (h : OwnS w B v ss) (hb : Below w.heap.size w w') : OwnS w' B v ss := h.same fun k hk => hb.block k (h.lt k hk).2
theorem OwnS.less {M : Nat} (h : OwnS w B v ss) (hM : M ≤ B) : OwnS w M v ss := by
  refine ⟨h.1, ?_⟩
  rcases h.2 with hn | ⟨g, cap, cur, hv, hg, rest⟩
  · exact .inl hn
  · exact .inr ⟨g, cap, cur, hv, Nat.le_trans hM hg, rest⟩
theorem OwnS.src (h : OwnS w B v ss) : SrcS w v ss := by
  have h0 := h
  rcases h.2 with ⟨hv, hn⟩ | ⟨g, cap, cur, hv, _, hg, _⟩
  · exact .inl ⟨hv, List.eq_nil_of_length_eq_zero hn⟩
  · refine .inr ⟨g, cap, hv, fun j u hu => ?_⟩
    have := World.ownsRow.cells h0 (g := g) (by rw [hv]; rfl) j (.string u) (by rw [List.getElem?_map, hu]; rfl)
    rwa [Addr.add_mid, Nat.zero_add] at this
theorem OwnS.shape (h : OwnS w B v ss) : ∃ a cap, v = .slice a ss.length cap := by
  rcases h.src with ⟨rfl, rfl⟩ | ⟨b, cap, rfl, _⟩
  · exact ⟨_, _, rfl⟩
  · exact ⟨_, _, rfl⟩
theorem SrcS.below (h : SrcS w v ss) (hb : Below w.heap.size w w') : SrcS w' v ss := by
  rcases h with h | ⟨b, cap, hv, hc⟩
  · exact .inl h
  · exact .inr ⟨b, cap, hv, fun j u hu => by
      have hl := World.block_lt_of_cell? w _ (hc j u hu)
      have := hc j u hu
      unfold World.cell? at *
      rw [hb.block b hl]; exact this⟩
theorem run_append_s (ty : TypeId) (h : OwnS w B v ss) (hr : SrcS w x r) (hm : ss.length + r.length ≤ 100000000) (hN : B ≤ w.heap.size) :
    ∃ v' w', (Builtin.append_ #[51, 51] ty #[v, x]).run Try.prog w = .ok v' w' ∧ OwnS w' B v' (ss ++ r) ∧ w.grownBy w' v.ownBlock := by
  obtain ⟨i, hi, hi1, hi2, hi3⟩ := info_parts Try.info9
  rcases hr with ⟨rfl, rfl⟩ | ⟨b, cap, rfl, hc⟩
  · exact ⟨v, w, run_append_owned_none w B _ ty _ i 1 Try.underlying51 hi v _ _ h, by rw [List.append_nil]; exact h, ⟨rfl, rfl, rfl, Nat.le_refl _, fun _ _ _ => rfl⟩⟩
  · obtain ⟨v', w', hrun, h2, h3, _⟩ := run_append_own w B 51 ty 9 i _ 1 16 Try.underlying51 hi hi1 hi2 hi3 rfl (by omega) v ss.length (ss.map Value.string) h ⟨b, 0, none⟩ r.length cap (r.map Value.string) (by rw [List.length_map]; omega) (fun j u hu => by
        rw [List.getElem?_map] at hu
        cases hx : r[j]? with
        | none => rw [hx] at hu; cases hu
        | some y =>
          rw [hx] at hu
          simp only [Option.map_some, Option.some.injEq] at hu
          subst hu
          have e : (⟨b, 0, none⟩ : Addr).add j = ⟨b, j, none⟩ := by unfold Addr.add; split <;> simp_all
          exact (congrArg w.cell? e).trans (hc j y hx)) (fun u hu => by obtain ⟨y, _, rfl⟩ := List.mem_map.1 hu; rfl) (by unfold maxLen; omega) (by omega) hN
    refine ⟨v', w', hrun, ?_, h3⟩
    unfold OwnS
    rw [List.length_append, List.map_append]; exact h2
end
section
variable {ops : Array Oper} {o : Oper} {ac : Act} {w : World} {Q : Exit → Act → World → Prop}
theorem wpList_append_s {rest : List Oper} (hgd : o.guard = none) (s x : Operand)
    (ho : o.op = .call { callee := .builtin .append, args := #[s, x], argTypes := #[51, 51] }) (B : Nat) (v : Value) (ss : List ByteArray) (hs : ac.eval s = v) (h : OwnS w B v ss)
    (y : Value) (r : List ByteArray) (hx : ac.eval x = y) (hr : SrcS w y r) (hm : ss.length + r.length ≤ 100000000) (hN : B ≤ w.heap.size)
    (hK : ∀ v' w', Hid (OwnS w' B v' (ss ++ r)) → Hid (w.grownBy w' v.ownBlock) → wpList Try.prog ops Q rest (ac.put o.dst v') w') : wpList Try.prog ops Q (o :: rest) ac w := by
  obtain ⟨v', w', hrun, h1, h2⟩ := run_append_s o.type h hr hm hN
  refine wpList_plain hgd fun K hK' => ?_
  unfold Oper.wp execOp
  simp only [ho, resolve, invoke, builtin, Sem.run_bind, Sem.run_pure, Result.andThen_ok, List.map_toArray, List.map_cons, List.map_nil, hs, hx, hrun]
  exact hK' _ _ (hK v' w' h1 h2)
end
/-- What Grow makes of nil. -/
theorem OwnS.grown (w : World) (n c : Nat) (hc : n ≤ c) (hm : c ≤ maxLen) : OwnS (w.drew.alloc (.cells (#[] ++ Builtin.zeroCells (Value.string ByteArray.empty).cells n ++ Builtin.zeroCells (Value.string ByteArray.empty).cells (c - n)) 9)) w.heap.size (.slice (some ⟨w.heap.size, 0, none⟩) 0 c) [] :=
  ⟨rfl, .inr ⟨w.heap.size, c, _, rfl, Nat.le_refl _, heap_alloc_new w.drew _, Nat.zero_le _, hm, by
    simp only [Array.size_append, size_zeroCells, Array.size_empty]
    rw [show (Value.string ByteArray.empty).cells.size = 1 from rfl]
    omega, by simp⟩⟩
set_option maxRecDepth 100000 in
set_option maxHeartbeats 2000000 in
theorem grow_nil (n : Nat) (w : World) (h0 : 0 < n) (hn : n ≤ 1000000) :
    Calls Try.prog 52 #[.slice none 0 0, .int .i64 n] w fun e w' => ∃ v, e = .returned v ∧ OwnS w' w.heap.size v [] ∧ Below w.heap.size w w' := by
  obtain ⟨i, hi, hi1, hi2, hi3⟩ := info_parts Try.info9
  refine (Any8.slices_Grow_grow Try.growF i _ hi hi1 (by omega) none 0 0 n [] w (Nat.le_refl _) (by omega) (by rw [hi3]; omega) (by omega) (by rw [hi2]; rfl) (fun _ => rfl) (fun a ha => by cases ha)).mono ?_
  rintro e w' ⟨rfl, rfl⟩
  have hc : n ≤ grownCap w n 0 9 := grownCap_ge w n 0 _
  have hm := grownCap_le_maxLen w n 0 9 (by unfold maxLen; omega)
  simp only [Nat.zero_add, Nat.sub_zero]
  exact ⟨_, rfl, OwnS.grown w n _ hc hm, below_undrew (w := w) ((Below.refl w.drew.heap.size w.drew).alloc (Nat.le_refl _) _)⟩
theorem cell_below {w w' : World} {p : Addr} {v : Value} (hb : Below w.heap.size w w') (h : w.cell? p = some v) : w'.cell? p = some v := by
  have hl := World.block_lt_of_cell? w _ h
  unfold World.cell? at *
  rw [hb.block _ hl]; exact h
set_option maxRecDepth 100000 in
set_option maxHeartbeats 2000000 in
theorem concat_any (b b1 : Nat) (v0 : Value) (l0 : List ByteArray) (nm : ByteArray) (w : World) (h0 : SrcS w v0 l0) (hl : l0.length ≤ 1) (hc0 : w.cell? ⟨b, 0, none⟩ = some v0) (hc1 : w.cell? ⟨b, 1, none⟩ = some (.slice (some ⟨b1, 0, none⟩) 1 1)) (hn : w.cell? ⟨b1, 0, none⟩ = some (.string nm)) :
    Calls Try.prog 47 #[.slice (some ⟨b, 0, none⟩) 2 2] w fun e w' => ∃ v, e = .returned v ∧ OwnS w' w.heap.size v (l0 ++ [nm]) ∧ Below w.heap.size w w' := by
  have H0 : Hid (SrcS w v0 l0) := h0
  have H1 : Hid (SrcS w (.slice (some ⟨b1, 0, none⟩) 1 1) [nm]) := .inr ⟨b1, 1, rfl, fun j x hx => by
    cases j with
    | zero => injection hx with hx; subst hx; exact hn
    | succ j => cases hx⟩
  obtain ⟨a0, n0, k0, hv0, hn0⟩ : ∃ a0 n0 k0, v0 = .slice a0 n0 k0 ∧ n0 = l0.length := by
    rcases h0 with ⟨rfl, rfl⟩ | ⟨b, cap, rfl, _⟩
    · exact ⟨_, _, _, rfl, rfl⟩
    · exact ⟨_, _, _, rfl, rfl⟩
  subst hv0
  clear h0 hn
  rw [← hn0] at hl
  have HN : Hid (n0 = l0.length) := hn0
  clear hn0
  have hGR : Calls Try.prog 52 #[.slice none 0 0, .int .i64 ((n0 : Int) + 1)] w fun e w' => ∃ v, e = .returned v ∧ OwnS w' w.heap.size v [] ∧ Below w.heap.size w w' := grow_nil (n0 + 1) w (by omega) (by omega)
  have HGR : Hid (Calls Try.prog 52 #[.slice none 0 0, .int .i64 ((n0 : Int) + 1)] w fun e w' => ∃ v, e = .returned v ∧ OwnS w' w.heap.size v [] ∧ Below w.heap.size w w') := hGR
  clear hGR
  go_enter Try.func47, Try.ntmps47
  go_wp2_with fail
  refine wp_loop_rounds 3 ?_
  rw [rounds_succ]
  go_wp2_with fail
  rw [rounds_succ]
  go_wp2_with fail
  rw [rounds_succ]
  go_wp2_with fail
  refine Calls.mono HGR.out ?_
  rintro e w1 ⟨v1, rfl, h1, hb1⟩
  obtain ⟨a1, k1, rfl⟩ := h1.shape
  have HO1 : Hid (OwnS w1 w.heap.size (.slice a1 0 k1) []) := h1
  have HB1 : Hid (Below w.heap.size w w1) := hb1
  have hc0' : w1.cell? ⟨b, 0, none⟩ = some (.slice a0 n0 k0) := cell_below hb1 hc0
  have hc1' : w1.cell? ⟨b, 1, none⟩ = some (.slice (some ⟨b1, 0, none⟩) 1 1) := cell_below hb1 hc1
  clear h1 hb1 HGR
  simp only [List.length_nil]
  go_wp2_with fail
  refine wp_loop_rounds 3 ?_
  rw [rounds_succ]
  go_wp2_with (at_builtin; refine wpList_append_s rfl _ _ rfl w.heap.size _ [] rfl HO1.out _ l0 rfl (SrcS.below H0.out HB1.out) (by rw [← HN.out]; simp; omega) HB1.out.size ?_; intro v2 w2 HO2 HG2; rw [List.nil_append] at HO2; obtain ⟨a2, k2, rfl⟩ := HO2.out.shape)
  have HB2 : Hid (Below w.heap.size w w2) := HB1.out.grown HG2.out HB1.out.size fun k hk => (HO1.out.lt k hk).1
  have hc1'' : w2.cell? ⟨b, 1, none⟩ = some (.slice (some ⟨b1, 0, none⟩) 1 1) := cell_below HB2.out hc1
  clear hc0' hc1'
  rw [rounds_succ]
  go_wp2_with (at_builtin; refine wpList_append_s rfl _ _ rfl w.heap.size _ l0 rfl HO2.out _ [nm] rfl (SrcS.below H1.out HB2.out) (by rw [← HN.out]; simp; omega) HB2.out.size ?_; intro v3 w3 HO3 HG3; obtain ⟨a3, k3, rfl⟩ := HO3.out.shape)
  have HB3 : Hid (Below w.heap.size w w3) := HB2.out.grown HG3.out HB2.out.size fun k hk => (HO2.out.lt k hk).1
  rw [rounds_succ]
  go_wp2_with fail
  go_ret
  exact ⟨.slice a3 (l0.length + 1) k3, rfl, by have := HO3.out; rwa [List.length_append] at this, HB3.out⟩
end Go.Proofs.Ytbbooldhfcldbaa
