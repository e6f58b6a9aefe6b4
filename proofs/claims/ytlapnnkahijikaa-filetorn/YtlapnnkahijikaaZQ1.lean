/- A scope through which the run goes by at most n jumps to labels of the scope: each jump goes on with the code behind its label. No conditions. Outpoints as plain data: their cells; two of them compared. No conditions. sha.Less: two hashes by their bytes, the first one first. coraclealike.Round. -/
import Derived.WalkKit
import Derived.WalkMore
import Derived.Test.YtlapnnkahijikaaZS2
import Derived.Test.YtlapnnkahijikaaChecked
import Derived.Laws.StructEq
import Derived.Stop.BytesEq
import Derived.Deep.MidRow
import Derived.Deep.QuietTactic
import Derived.BigQuiet
import Derived.Test.YtlapnnkahijikaaRows
import Derived.ProofKit
import Derived.OpenShut
import Derived.Handy
import Derived.WalkSpells
import Derived.WalkLawsBesides
namespace Go.Proofs.Ytlapnnkahijikaa

/-- As Q; by a goto: on from the label's rest, with one jump less. -/
def hops (P : Program) (c : Code) (Q : Exit → Act → World → Prop) : Nat → Exit → Act → World → Prop
  | 0, .goto _, _, _ => False
  | n + 1, .goto l, a, w => ∃ rest, findLabel c l = some rest ∧ rest.wp P (hops P c Q n) a w
  | _, e, a, w => Q e a w

section
variable {P : Program} {a : Act} {w : World} {Q : Exit → Act → World → Prop} {c : Code}

theorem hops_ret (n : Nat) : hops P c Q n .ret a w = Q .ret a w := by cases n <;> rfl
theorem hops_normal (n : Nat) : hops P c Q n .normal a w = Q .normal a w := by cases n <;> rfl
theorem hops_exit (n id : Nat) : hops P c Q n (.exit id) a w = Q (.exit id) a w := by cases n <;> rfl
theorem hops_goto (n l : Nat) : hops P c Q (n + 1) (.goto l) a w = ∃ rest, findLabel c l = some rest ∧ rest.wp P (hops P c Q n) a w := rfl

theorem wp_scope_hops (n : Nat) (h : c.wp P (hops P c Q n) a w) : (Code.scope c).wp P Q a w := by
  intro b k cs
  have key : ∀ n (d : Code) a w, d.wp P (hops P c Q n) a w → ∃ e a' w', Q e a' w' ∧ Arrives P (lone (b.at a (.code d :: .inScope c :: k)) cs w) b k cs e a' w' := by
    intro n
    induction n with
    | zero =>
      intro d a w hd
      obtain ⟨e, a₁, w₁, hq, harr⟩ := hd b (.inScope c :: k) cs
      cases e with
      | normal => exact ⟨.normal, a₁, w₁, hq, Steps.trans harr (.one step_inScope)⟩
      | exit id => exact ⟨.exit id, a₁, w₁, hq, fun k' hk => harr k' (by simp [exitTo, hk])⟩
      | goto l' => exact hq.elim
      | ret => exact ⟨_, a₁, w₁, hq, harr⟩
      | panic ch => exact ⟨_, a₁, w₁, hq, harr⟩
      | outgrown => exact ⟨_, a₁, w₁, hq, harr⟩
    | succ n ih =>
      intro d a w hd
      obtain ⟨e, a₁, w₁, hq, harr⟩ := hd b (.inScope c :: k) cs
      cases e with
      | normal => exact ⟨.normal, a₁, w₁, hq, Steps.trans harr (.one step_inScope)⟩
      | exit id => exact ⟨.exit id, a₁, w₁, hq, fun k' hk => harr k' (by simp [exitTo, hk])⟩
      | goto l' =>
        obtain ⟨rest, hf, hr⟩ := hq
        obtain ⟨e₂, a₂, w₂, hq₂, harr₂⟩ := ih rest a₁ w₁ hr
        have hg : gotoIn l' (.inScope c :: k) = some (.code rest :: .inScope c :: k) := by simp [gotoIn, hf]
        exact ⟨e₂, a₂, w₂, hq₂, .of_steps (harr _ hg) harr₂⟩
      | ret => exact ⟨_, a₁, w₁, hq, harr⟩
      | panic ch => exact ⟨_, a₁, w₁, hq, harr⟩
      | outgrown => exact ⟨_, a₁, w₁, hq, harr⟩
  obtain ⟨e, a', w', hq, harr⟩ := key n c a w h
  exact ⟨e, a', w', hq, .of_steps (.one step_scope) harr⟩
end
end Go.Proofs.Ytlapnnkahijikaa
namespace Go.Proofs.Ytlapnnkahijikaa
open Go.RowKit

/-- An outpoint. -/
structure Pt where
  tx : List (BitVec 8)
  n : Int
  len : tx.length = 32
theorem Pt.ext {p q : Pt} (h : p.tx = q.tx) (k : p.n = q.n) : p = q := by
  cases p; cases q; cases h; cases k; rfl
instance : DecidableEq Pt := fun p q =>
  if h : p.tx = q.tx ∧ p.n = q.n then isTrue (Pt.ext h.1 h.2) else isFalse fun e => h (e ▸ ⟨rfl, rfl⟩)
instance : Inhabited Pt := ⟨⟨List.replicate 32 0, 0, rfl⟩⟩
/-- Its cells. -/
def Pt.cs (p : Pt) : List Value := u8s p.tx ++ [.int .i64 p.n]
theorem Pt.cs_length (p : Pt) : p.cs.length = 33 := by simp [Pt.cs, p.len]
theorem Pt.cs_mem (p : Pt) : ∀ v ∈ p.cs, v.oneCell' = true := fun v hv => by
  rcases List.mem_append.1 hv with h | h
  · exact u8s_mem _ _ h
  · rw [List.mem_singleton.1 h]; rfl
theorem Pt.cs_all (p : Pt) : p.cs.toArray.all (·.oneCell') = true := all_oneCell_toArray p.cs_mem
theorem u8s_cell (l : List (BitVec 8)) : u8s l = (l.map UInt8.ofBitVec).map Extern.Stop.cell := by
  unfold u8s
  rw [List.map_map]
  apply List.map_congr_left
  intro x _
  rfl
theorem ofBitVec_beq (x y : List (BitVec 8)) : (x.map UInt8.ofBitVec == y.map UInt8.ofBitVec) = (x == y) := by
  rw [Bool.eq_iff_iff, beq_iff_eq, beq_iff_eq]
  constructor
  · intro h
    have := congrArg (List.map UInt8.toBitVec) h
    have e : UInt8.toBitVec ∘ UInt8.ofBitVec = id := rfl
    rw [List.map_map, List.map_map, e, List.map_id, List.map_id] at this
    exact this
  · intro h; rw [h]
theorem Pt.take (p : Pt) : p.cs.take 32 = u8s p.tx := by simp [Pt.cs, p.len]
theorem part_n (p : Pt) (w : World) : (part 3 p.cs.toArray 32).run Try.prog w = .ok (.int .i64 p.n) w := by
  have h : p.cs.toArray[32]? = some (.int .i64 p.n) := by
    simp [Pt.cs, p.len]
  have g := Try.isAgg3
  simp only [part, Sem.run_bind, g, Result.andThen_ok]
  simp [h]
end Go.Proofs.Ytlapnnkahijikaa
namespace Go.Proofs.Ytlapnnkahijikaa
open Go.ChangeShapes Go.WideShapes Go.ChangeAt Go.RowKit

/-- Below block N all is as it was, and no draw was taken back. -/
def Gr (N : Nat) (w w' : World) : Prop := Below N w w' ∧ w.drawn ≤ w'.drawn
section
variable {N M : Nat} {w w' w'' : World}
theorem Gr.refl (N : Nat) (w : World) : Gr N w w := ⟨Below.refl _ _, Nat.le_refl _⟩
theorem Gr.trans (h : Gr N w w') (k : Gr N w' w'') : Gr N w w'' := ⟨h.1.trans k.1, Nat.le_trans h.2 k.2⟩
theorem Gr.mono (h : Gr N w w') (hM : M ≤ N) : Gr M w w' := ⟨h.1.mono hM, h.2⟩
theorem Gr.alloc (h : Gr N w w') (hN : N ≤ w'.heap.size) (o : Obj) : Gr N w (w'.alloc o) := ⟨h.1.alloc hN o, h.2⟩
theorem Gr.drewN (h : Gr N w w') (n : Nat) : Gr N w (w'.drewN n) := ⟨below_drewN h.1 n, Nat.le_trans h.2 (Nat.le_add_right _ _)⟩
theorem Gr.drew (h : Gr N w w') : Gr N w w'.drew := ⟨h.1.drew, Nat.le_trans h.2 (Nat.le_succ _)⟩
/-- One call behind another. -/
theorem Gr.then (h : Gr N w w') (k : Gr w'.heap.size w' w'') (hN : N ≤ w.heap.size) : Gr N w w'' := h.trans (k.mono (Nat.le_trans hN h.1.size))
end

/-- Which comes first, by bytes. -/
def lessB : List (BitVec 8) → List (BitVec 8) → Bool
  | x :: xs, y :: ys => if x = y then lessB xs ys else decide (x.toNat < y.toNat)
  | _, _ => false
theorem ret_bool {a b : Bool} (h : a = b) : Ending.returned (.bool a) = .returned (.bool b) := by rw [h]
theorem ret_int {k : IntKind} {a b : Int} (h : a = b) : Ending.returned (.int k a) = .returned (.int k b) := by rw [h]
theorem lessB_skip (a b : List (BitVec 8)) : ∀ k, k ≤ a.length → a.length = b.length → (∀ j, j < k → a.getD j 0 = b.getD j 0) → lessB a b = lessB (a.drop k) (b.drop k) := by
  induction a generalizing b with
  | nil => intro k hk hl _; cases b with
    | nil => simp
    | cons y ys => simp at hl
  | cons x xs ih =>
    intro k hk hl he
    cases b with
    | nil => simp at hl
    | cons y ys =>
      cases k with
      | zero => rfl
      | succ k =>
        have h0 : x = y := he 0 (by omega)
        rw [lessB, if_pos h0, List.drop_succ_cons, List.drop_succ_cons]
        refine ih ys k (by simpa using hk) (by simpa using hl) fun j hj => ?_
        have := he (j + 1) (by omega)
        simpa using this
theorem lessB_at (a b : List (BitVec 8)) (k : Nat) (hk : k < a.length) (hl : a.length = b.length) (he : ∀ j, j < k → a.getD j 0 = b.getD j 0) (hne : a.getD k 0 ≠ b.getD k 0) : lessB a b = decide (Y (a.getD k 0) < Y (b.getD k 0)) := by
  rw [lessB_skip a b k (by omega) hl he, List.drop_eq_getElem_cons hk, List.drop_eq_getElem_cons (show k < b.length by omega)]
  rw [List.getD_eq_getElem?_getD, List.getD_eq_getElem?_getD, List.getElem?_eq_getElem hk, List.getElem?_eq_getElem (show k < b.length by omega)] at hne ⊢
  simp only [Option.getD_some] at hne ⊢
  rw [lessB, if_neg hne]
  unfold Y
  congr 1
  exact propext ⟨fun h => by omega, fun h => by omega⟩
theorem lessB_same (a b : List (BitVec 8)) (hl : a.length = b.length) (he : ∀ j, j < a.length → a.getD j 0 = b.getD j 0) : lessB a b = false := by
  rw [lessB_skip a b a.length (Nat.le_refl _) hl he, List.drop_length]; rfl

theorem round_eq (k n : Int) (hn : 1 ≤ n) : (k.tmod n + n) % n = k % n := by
  rw [Int.add_emod_right, Int.tmod_eq_emod]
  split
  · simp
  · rw [Int.natAbs_of_nonneg (by omega), Int.sub_emod_right, Int.emod_emod]
end Go.Proofs.Ytlapnnkahijikaa
