/- A row of bytes of the call's own that grows by append. -/
import Derived.Test.YtlgadelcgboeoaaDoorTText
namespace Go.Proofs.YtlgadelcgboeoaaDoor
open Go.ChangeShapes Go.WideShapes Go.ChangeAt Go.RowKit

theorem Tryd.info8 : (Tryd.prog.info? 5).map (fun i => (i.zero, i.size, i.bytes)) = some (some (.int .u8 0), 1, 1) := by kernel_rfl
/-- A row of bytes of the call's own, from block B on. -/
def OwnB (w : World) (B : Nat) (v : Value) (bs : List (BitVec 8)) : Prop := w.ownsRow B 5 1 v bs.length (u8s bs)
/-- Bytes that v leads to. -/
def SrcB (w : World) (v : Value) (bs : List (BitVec 8)) : Prop := (v = .slice none 0 0 ∧ bs = []) ∨ ∃ g cap, v = .slice (some ⟨g, 0, none⟩) bs.length cap ∧ g < w.heap.size ∧ ∀ j u, (u8s bs)[j]? = some u → w.cell? ⟨g, j, none⟩ = some u
section
variable {w w' : World} {B : Nat} {v x : Value} {bs r : List (BitVec 8)}
theorem OwnB.nil (w : World) (B : Nat) : OwnB w B (.slice none 0 0) [] := World.ownsRow_nil w B _ _
theorem OwnB.lt (h : OwnB w B v bs) : ∀ k, v.ownBlock = some k → B ≤ k ∧ k < w.heap.size := World.ownsRow.lt h
theorem OwnB.below (h : OwnB w B v bs) (hb : Below w.heap.size w w') : OwnB w' B v bs := by
  refine ⟨h.1, ?_⟩
  rcases h.2 with hn | ⟨g, cap, cur, hv, hg, hh, rest⟩
  · exact .inl hn
  · exact .inr ⟨g, cap, cur, hv, hg, by rw [hb.block g (Array.getElem?_eq_some_iff.1 hh).1]; exact hh, rest⟩
theorem OwnB.less {M : Nat} (h : OwnB w B v bs) (hM : M ≤ B) : OwnB w M v bs := by
  refine ⟨h.1, ?_⟩
  rcases h.2 with hn | ⟨g, cap, cur, hv, hg, rest⟩
  · exact .inl hn
  · exact .inr ⟨g, cap, cur, hv, Nat.le_trans hM hg, rest⟩
theorem OwnB.grown (h : OwnB w B v bs) (hg : w.grownBy w' v.ownBlock) (hN : B ≤ w.heap.size) : Below B w w' :=
  (Below.refl _ w).grown hg hN fun k hk => (h.lt k hk).1
theorem OwnB.src (h : OwnB w B v bs) : SrcB w v bs := by
  have h0 := h
  rcases h.2 with ⟨hv, hn⟩ | ⟨g, cap, cur, hv, _, hg, _⟩
  · exact .inl ⟨hv, List.eq_nil_of_length_eq_zero hn⟩
  · refine .inr ⟨g, cap, hv, (Array.getElem?_eq_some_iff.1 hg).1, fun j u hu => ?_⟩
    have := World.ownsRow.cells h0 (g := g) (by rw [hv]; rfl) j u hu
    rwa [Addr.add_mid, Nat.zero_add] at this
theorem SrcB.str (h : SrcB w v bs) : (convert 62 9 v).run Tryd.prog w = .ok (.string (str bs)) w := by
  rcases h with ⟨rfl, rfl⟩ | ⟨g, cap, rfl, _, hc⟩
  · exact run_convert_bytes_nil w 62 5 Tryd.underlying62 Tryd.underlying5 0 0 9 Tryd.underlying9
  · rw [run_convert_bytes_string w _ _ _ _ _ _ Tryd.underlying62 Tryd.underlying5 Tryd.underlying9]
    have hl := run_loadCells_list (P := Tryd.prog) w ⟨g, 0, none⟩ (u8s bs) (fun j v hv => by rw [Addr.add_mid, Nat.zero_add]; exact hc j v hv)
    rw [u8s_length, u8s_ints] at hl
    rw [run_bytesToString w _ bs.length cap (bs.map Y) hl, fold_str]
theorem SrcB.shape (h : SrcB w v bs) : ∃ a cap, v = .slice a bs.length cap := by
  rcases h with ⟨rfl, rfl⟩ | ⟨g, cap, rfl, _⟩
  · exact ⟨_, _, rfl⟩
  · exact ⟨_, _, rfl⟩
theorem u8s_append (a b : List (BitVec 8)) : u8s (a ++ b) = u8s a ++ u8s b := by unfold u8s; rw [List.map_append]
theorem run_append_b (ty : TypeId) (h : OwnB w B v bs) (hr : SrcB w x r) (hm : bs.length + r.length ≤ 1000000) (hN : B ≤ w.heap.size) :
    ∃ v' w', (Builtin.append_ #[62, 62] ty #[v, x]).run Tryd.prog w = .ok v' w' ∧ OwnB w' B v' (bs ++ r) ∧ w.grownBy w' v.ownBlock := by
  obtain ⟨i, hi, hi1, hi2, hi3⟩ := info_parts Tryd.info8
  rcases hr with ⟨rfl, rfl⟩ | ⟨g, cap, rfl, _, hc⟩
  · exact ⟨v, w, run_append_owned_none w B _ ty _ i 1 Tryd.underlying62 hi v _ _ h, by rw [List.append_nil]; exact h, ⟨rfl, rfl, rfl, Nat.le_refl _, fun _ _ _ => rfl⟩⟩
  · obtain ⟨v', w', hrun, h2, h3, _⟩ := run_append_own w B 62 ty 5 i _ 1 1 Tryd.underlying62 hi hi1 hi2 hi3 rfl (by omega) v bs.length (u8s bs) h ⟨g, 0, none⟩ r.length cap (u8s r) (by rw [u8s_length]; omega) (fun j u hu => by rw [Addr.add_mid, Nat.zero_add]; exact hc j u hu) (fun u hu => by obtain ⟨b, _, rfl⟩ := List.mem_map.1 (show u ∈ r.map _ from hu); rfl) (by unfold maxLen; omega) (by omega) hN
    refine ⟨v', w', hrun, ?_, h3⟩
    unfold OwnB
    rw [List.length_append, u8s_append]; exact h2
end
section
variable {ops : Array Oper} {o : Oper} {ac : Act} {w : World} {K : Act → World → Prop} {Q : Exit → Act → World → Prop} {E : Prop}
theorem step_append_b (hgd : o.guard = none) (s x : Operand)
    (ho : o.op = .call { callee := .builtin .append, args := #[s, x], argTypes := #[62, 62] }) (B : Nat) (v : Value) (bs : List (BitVec 8)) (hs : ac.eval s = v) (h : OwnB w B v bs)
    (y : Value) (r : List (BitVec 8)) (hx : ac.eval x = y) (hr : SrcB w y r) (hm : bs.length + r.length ≤ 1000000) (hN : B ≤ w.heap.size)
    (hK : ∀ v' w', Hid (OwnB w' B v' (bs ++ r)) → Hid (w.grownBy w' v.ownBlock) → K (ac.put o.dst v') w') : if Region.wanted o (yielded ops ac.tmps) = true then Oper.wp Tryd.prog o ac w K Q else E := by
  have hw : Region.wanted o (yielded ops ac.tmps) = true := by simp [Region.wanted, hgd]
  rw [if_pos hw]
  obtain ⟨v', w', hrun, h1, h2⟩ := run_append_b o.type h hr hm hN
  unfold Oper.wp execOp
  simp only [ho, resolve, invoke, builtin, Sem.run_bind, Sem.run_pure, Result.andThen_ok, List.map_toArray, List.map_cons, List.map_nil, hs, hx, hrun]
  exact hK v' w' h1 h2
end
theorem wpList_append_b {ops : Array Oper} {rest : List Oper} {o : Oper} {ac : Act} {w : World} {Q : Exit → Act → World → Prop} (hgd : o.guard = none) (s x : Operand)
    (ho : o.op = .call { callee := .builtin .append, args := #[s, x], argTypes := #[62, 62] }) (B : Nat) (v : Value) (bs : List (BitVec 8)) (hs : ac.eval s = v) (h : OwnB w B v bs)
    (y : Value) (r : List (BitVec 8)) (hx : ac.eval x = y) (hr : SrcB w y r) (hm : bs.length + r.length ≤ 1000000) (hN : B ≤ w.heap.size)
    (hK : ∀ v' w', Hid (OwnB w' B v' (bs ++ r)) → Hid (w.grownBy w' v.ownBlock) → wpList Tryd.prog ops Q rest (ac.put o.dst v') w') : wpList Tryd.prog ops Q (o :: rest) ac w := by
  obtain ⟨v', w', hrun, h1, h2⟩ := run_append_b o.type h hr hm hN
  refine wpList_plain hgd fun K hK' => ?_
  unfold Oper.wp execOp
  simp only [ho, resolve, invoke, builtin, Sem.run_bind, Sem.run_pure, Result.andThen_ok, List.map_toArray, List.map_cons, List.map_nil, hs, hx, hrun]
  exact hK' _ _ (hK v' w' h1 h2)
/-- A literal slice of bytes. -/
theorem OwnB.lit (w : World) (bs : List (BitVec 8)) (hm : bs.length ≤ 1000000) : OwnB (w.alloc (.cells (u8s bs).toArray 5)) w.heap.size (.slice (some ⟨w.heap.size, 0, none⟩) bs.length bs.length) bs := by
  have h := World.ownsRow_lit (base := w.heap.size) (e := 5) (size := 1) w (u8s bs).toArray bs.length (Nat.le_refl _) (by unfold maxLen; omega) (by simp)
  exact h
end Go.Proofs.YtlgadelcgboeoaaDoor
