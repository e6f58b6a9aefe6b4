/- A scope through which the run goes by at most n jumps to labels of the scope: each jump goes on with the code behind its label. No conditions. Outpoints as plain data: their cells; two of them compared. No conditions. sha.Less: two hashes by their bytes, the first one first. coraclealike.Round. Rows of outpoints in memory: read, copied, cleared. No program's text is walked here. Rows of elements of several cells each in memory: read. No program's text is walked here. point.Less, point.compare: outpoints by Tx, then by N. Transactions as plain data: their cells. The order of outpoints, rows that are sorted, and rows without doubles: plain mathematics. Contracts of Go's library, laid at this program: the table of numbers, and a field a fact of the program. No conditions. point.inOrder: a copy of a row of outpoints, in order, each as often as it stands there. slices.Compact at outpoints: of a row of the caller's own each that is like the one ahead of it goes. Rows of elements of several cells each, in a block of their own: made, written. No program's text is walked here. point.Sort. -/
import Derived.WalkKit
import Derived.WalkMore
import Derived.Test.YtlaifphedhaemaaGreatDoorZS2
import Derived.Test.YtlaifphedhaemaaGreatDoorChecked
import Derived.Laws.StructEq
import Derived.Stop.BytesEq
import Derived.Deep.MidRow
import Derived.Deep.QuietTactic
import Derived.BigQuiet
import Derived.Test.YtlaifphedhaemaaGreatDoorRows
import Derived.ProofKit
import Derived.OpenShut
import Derived.Handy
import Derived.WalkSpells
import Derived.WalkLawsBesides
import Derived.Laws.CopyRow
import Derived.Laws.OwnMore
import Derived.Shelf.SlSortFuncK.RowK2
import Derived.Deep.Cut
import Derived.Lib.SlicesCompact
import Derived.Shelf.SlSortCmp.Insertion
import Derived.Shelf.SlSortCmp.WholeK
import Derived.OwnWalk
import Derived.Laws.CopyOwn
namespace Go.Proofs.YtlaifphedhaemaaGreatDoor

/-- As Q; by a goto: on from the label's rest, with one jump less. -/
def hops (P : Program) (c : Code) (Q : Exit → Act → World → Prop) : Nat → Exit → Act → World → Prop
  | 0, .goto _, _, _ => False
  | n + 1, .goto l, a, w => ∃ rest, findLabel c l = some rest ∧ rest.wp P (hops P c Q n) a w
  | _, e, a, w => Q e a w

section
variable {P : Program} {a : Act} {w : World} {Q : Exit → Act → World → Prop} {c : Code}

theorem hops_ret (n : Nat) : hops P c Q n .ret a w = Q .ret a w := by cases n <;> rfl
theorem hops_normal (n : Nat) : hops P c Q n .normal a w = Q .normal a w := by cases n <;> rfl
theorem hops_exit (n id : Nat) : hops P c Q n (.exit id) a w = Q (.exit id) a w := by cases n <;> rfl
theorem hops_goto (n l : Nat) : hops P c Q (n + 1) (.goto l) a w = ∃ rest, findLabel c l = some rest ∧ rest.wp P (hops P c Q n) a w := rfl

theorem wp_scope_hops (n : Nat) (h : c.wp P (hops P c Q n) a w) : (Code.scope c).wp P Q a w := by
  intro b k cs
  have key : ∀ n (d : Code) a w, d.wp P (hops P c Q n) a w → ∃ e a' w', Q e a' w' ∧ Arrives P (lone (b.at a (.code d :: .inScope c :: k)) cs w) b k cs e a' w' := by
    intro n
    induction n with
    | zero =>
      intro d a w hd
      obtain ⟨e, a₁, w₁, hq, harr⟩ := hd b (.inScope c :: k) cs
      cases e with
      | normal => exact ⟨.normal, a₁, w₁, hq, Steps.trans harr (.one step_inScope)⟩
      | exit id => exact ⟨.exit id, a₁, w₁, hq, fun k' hk => harr k' (by simp [exitTo, hk])⟩
      | goto l' => exact hq.elim
      | ret => exact ⟨_, a₁, w₁, hq, harr⟩
      | panic ch => exact ⟨_, a₁, w₁, hq, harr⟩
      | outgrown => exact ⟨_, a₁, w₁, hq, harr⟩
    | succ n ih =>
      intro d a w hd
      obtain ⟨e, a₁, w₁, hq, harr⟩ := hd b (.inScope c :: k) cs
      cases e with
      | normal => exact ⟨.normal, a₁, w₁, hq, Steps.trans harr (.one step_inScope)⟩
      | exit id => exact ⟨.exit id, a₁, w₁, hq, fun k' hk => harr k' (by simp [exitTo, hk])⟩
      | goto l' =>
        obtain ⟨rest, hf, hr⟩ := hq
        obtain ⟨e₂, a₂, w₂, hq₂, harr₂⟩ := ih rest a₁ w₁ hr
        have hg : gotoIn l' (.inScope c :: k) = some (.code rest :: .inScope c :: k) := by simp [gotoIn, hf]
        exact ⟨e₂, a₂, w₂, hq₂, .of_steps (harr _ hg) harr₂⟩
      | ret => exact ⟨_, a₁, w₁, hq, harr⟩
      | panic ch => exact ⟨_, a₁, w₁, hq, harr⟩
      | outgrown => exact ⟨_, a₁, w₁, hq, harr⟩
  obtain ⟨e, a', w', hq, harr⟩ := key n c a w h
  exact ⟨e, a', w', hq, .of_steps (.one step_scope) harr⟩
end
end Go.Proofs.YtlaifphedhaemaaGreatDoor
namespace Go.Proofs.YtlaifphedhaemaaGreatDoor
open Go.RowKit

/-- An outpoint. -/
structure Pt where
  tx : List (BitVec 8)
  n : Int
  len : tx.length = 32
theorem Pt.ext {p q : Pt} (h : p.tx = q.tx) (k : p.n = q.n) : p = q := by
  cases p; cases q; cases h; cases k; rfl
instance : DecidableEq Pt := fun p q =>
  if h : p.tx = q.tx ∧ p.n = q.n then isTrue (Pt.ext h.1 h.2) else isFalse fun e => h (e ▸ ⟨rfl, rfl⟩)
instance : Inhabited Pt := ⟨⟨List.replicate 32 0, 0, rfl⟩⟩
/-- Its cells. -/
def Pt.cs (p : Pt) : List Value := u8s p.tx ++ [.int .i64 p.n]
theorem Pt.cs_length (p : Pt) : p.cs.length = 33 := by simp [Pt.cs, p.len]
theorem Pt.cs_mem (p : Pt) : ∀ v ∈ p.cs, v.oneCell' = true := fun v hv => by
  rcases List.mem_append.1 hv with h | h
  · exact u8s_mem _ _ h
  · rw [List.mem_singleton.1 h]; rfl
theorem Pt.cs_all (p : Pt) : p.cs.toArray.all (·.oneCell') = true := all_oneCell_toArray p.cs_mem
theorem u8s_cell (l : List (BitVec 8)) : u8s l = (l.map UInt8.ofBitVec).map Extern.Stop.cell := by
  unfold u8s
  rw [List.map_map]
  apply List.map_congr_left
  intro x _
  rfl
theorem ofBitVec_beq (x y : List (BitVec 8)) : (x.map UInt8.ofBitVec == y.map UInt8.ofBitVec) = (x == y) := by
  rw [Bool.eq_iff_iff, beq_iff_eq, beq_iff_eq]
  constructor
  · intro h
    have := congrArg (List.map UInt8.toBitVec) h
    have e : UInt8.toBitVec ∘ UInt8.ofBitVec = id := rfl
    rw [List.map_map, List.map_map, e, List.map_id, List.map_id] at this
    exact this
  · intro h; rw [h]
theorem equalIn_hash (d : Nat) (x y : List (BitVec 8)) (hx : x.length = 32) (hy : y.length = 32) (w : World) :
    (Op.equalIn (d + 2) 23 (.agg (u8s x).toArray) (.agg (u8s y).toArray)).run Tryz.prog w = .ok (x == y) w := by
  rw [u8s_cell, u8s_cell, run_equalIn_bytes w d 23 5 32 Tryz.underlying23 Tryz.underlying5 Tryz.sizeOf5 _ _ (by simp [hx]) (by simp [hy]), ofBitVec_beq]
theorem eql_hash (x y : List (BitVec 8)) (hx : x.length = 32) (hy : y.length = 32) (w : World) :
    (binOp .eql 23 (.agg (u8s x).toArray) (.agg (u8s y).toArray)).run Tryz.prog w = .ok (.bool (x == y)) w := by
  rw [run_eql_struct, equalIn_hash 9998 x y hx hy]; rfl
theorem neq_hash (x y : List (BitVec 8)) (hx : x.length = 32) (hy : y.length = 32) (w : World) :
    (binOp .neq 23 (.agg (u8s x).toArray) (.agg (u8s y).toArray)).run Tryz.prog w = .ok (.bool (!(x == y))) w := by
  rw [run_neq_struct, equalIn_hash 9998 x y hx hy]; rfl

theorem Pt.take (p : Pt) : p.cs.take 32 = u8s p.tx := by simp [Pt.cs, p.len]
theorem part_tx (p : Pt) (w : World) : (part 23 p.cs.toArray 0).run Tryz.prog w = .ok (.agg (u8s p.tx).toArray) w := by
  have g := Tryz.isAgg23
  simp only [part, Sem.run_bind, g, Result.andThen_ok]
  simp [Tryz.sizeOf23, p.take]
theorem part_n (p : Pt) (w : World) : (part 3 p.cs.toArray 32).run Tryz.prog w = .ok (.int .i64 p.n) w := by
  have h : p.cs.toArray[32]? = some (.int .i64 p.n) := by
    simp [Pt.cs, p.len]
  have g := Tryz.isAgg3
  simp only [part, Sem.run_bind, g, Result.andThen_ok]
  simp [h]
theorem equalIn_pt (p q : Pt) (w : World) :
    (Op.equalIn 10000 53 (.agg p.cs.toArray) (.agg q.cs.toArray)).run Tryz.prog w = .ok (decide (p = q)) w := by
  have hS : Tryz.prog.underlying 53 = some (.struct (Tryz.prog.fieldsOf 53)) := by kernel_rfl
  have hp : Tryz.prog.stoodInHeld 53 = false := by kernel_rfl
  have hd : decide (p = q) = ((p.tx == q.tx) && (p.n == q.n)) := by
    rw [Bool.eq_iff_iff, decide_eq_true_iff, Bool.and_eq_true, beq_iff_eq, beq_iff_eq]
    exact ⟨fun h => h ▸ ⟨rfl, rfl⟩, fun h => Pt.ext h.1 h.2⟩
  have e1 : ∀ w, (Op.equalIn 9999 23 (.agg (u8s p.tx).toArray) (.agg (u8s q.tx).toArray)).run Tryz.prog w = .ok (p.tx == q.tx) w := fun w => equalIn_hash 9997 p.tx q.tx p.len q.len w
  have e2 : ∀ w, (Op.equalIn 9999 3 (.int .i64 p.n) (.int .i64 q.n)).run Tryz.prog w = .ok (p.n == q.n) w := fun w => run_equalIn_int (P := Tryz.prog) w 9998 3 .i64 .i64 p.n q.n Tryz.underlying3
  rw [show (10000 : Nat) = 9999 + 1 from rfl, run_equalIn_agg w 9999 53 _ _ hS hp, hd]
  simp only [Program.fieldsOf, Tryz.underlying53, Op.eqFields]
  simp only [Sem.run_bind, Sem.run_ite, part_tx, part_n, Result.andThen_ok, e1, e2]
  cases p.tx == q.tx <;> cases p.n == q.n <;> simp
theorem eql_pt (p q : Pt) (w : World) :
    (binOp .eql 53 (.agg p.cs.toArray) (.agg q.cs.toArray)).run Tryz.prog w = .ok (.bool (decide (p = q))) w := by
  rw [run_eql_struct, equalIn_pt]; rfl
theorem neq_pt (p q : Pt) (w : World) :
    (binOp .neq 53 (.agg p.cs.toArray) (.agg q.cs.toArray)).run Tryz.prog w = .ok (.bool (!decide (p = q))) w := by
  rw [run_neq_struct, equalIn_pt]; rfl
theorem guard_pt (op : BinOp) (x y : Operand) (p q : Pt) (w : World) : (eqGuard op 53 x y (.agg p.cs.toArray) (.agg q.cs.toArray)).run Tryz.prog w = .ok () w :=
  run_eqGuard_agg w op _ x y _ _ (by kernel_rfl)
theorem size_pt (p : Pt) : (Tryz.prog.info? 53).map (·.size) = some p.cs.length := by rw [p.cs_length]; kernel_rfl
theorem size_pta (p : Pt) : (Tryz.prog.info? 53).map (·.size) = some p.cs.toArray.size := by rw [List.size_toArray, p.cs_length]; kernel_rfl
end Go.Proofs.YtlaifphedhaemaaGreatDoor
namespace Go.Proofs.YtlaifphedhaemaaGreatDoor
open Go.ChangeShapes Go.WideShapes Go.ChangeAt Go.RowKit

/-- Below block N all is as it was, and no draw was taken back. -/
def Gr (N : Nat) (w w' : World) : Prop := Below N w w' ∧ w.drawn ≤ w'.drawn
section
variable {N M : Nat} {w w' w'' : World}
theorem Gr.refl (N : Nat) (w : World) : Gr N w w := ⟨Below.refl _ _, Nat.le_refl _⟩
theorem Gr.trans (h : Gr N w w') (k : Gr N w' w'') : Gr N w w'' := ⟨h.1.trans k.1, Nat.le_trans h.2 k.2⟩
theorem Gr.mono (h : Gr N w w') (hM : M ≤ N) : Gr M w w' := ⟨h.1.mono hM, h.2⟩
theorem Gr.alloc (h : Gr N w w') (hN : N ≤ w'.heap.size) (o : Obj) : Gr N w (w'.alloc o) := ⟨h.1.alloc hN o, h.2⟩
theorem Gr.drewN (h : Gr N w w') (n : Nat) : Gr N w (w'.drewN n) := ⟨below_drewN h.1 n, Nat.le_trans h.2 (Nat.le_add_right _ _)⟩
theorem Gr.drew (h : Gr N w w') : Gr N w w'.drew := ⟨h.1.drew, Nat.le_trans h.2 (Nat.le_succ _)⟩
/-- One call behind another. -/
theorem Gr.then (h : Gr N w w') (k : Gr w'.heap.size w' w'') (hN : N ≤ w.heap.size) : Gr N w w'' := h.trans (k.mono (Nat.le_trans hN h.1.size))
end

/-- Which comes first, by bytes. -/
def lessB : List (BitVec 8) → List (BitVec 8) → Bool
  | x :: xs, y :: ys => if x = y then lessB xs ys else decide (x.toNat < y.toNat)
  | _, _ => false
theorem ret_bool {a b : Bool} (h : a = b) : Ending.returned (.bool a) = .returned (.bool b) := by rw [h]
theorem ret_int {k : IntKind} {a b : Int} (h : a = b) : Ending.returned (.int k a) = .returned (.int k b) := by rw [h]
theorem lessB_skip (a b : List (BitVec 8)) : ∀ k, k ≤ a.length → a.length = b.length → (∀ j, j < k → a.getD j 0 = b.getD j 0) → lessB a b = lessB (a.drop k) (b.drop k) := by
  induction a generalizing b with
  | nil => intro k hk hl _; cases b with
    | nil => simp
    | cons y ys => simp at hl
  | cons x xs ih =>
    intro k hk hl he
    cases b with
    | nil => simp at hl
    | cons y ys =>
      cases k with
      | zero => rfl
      | succ k =>
        have h0 : x = y := he 0 (by omega)
        rw [lessB, if_pos h0, List.drop_succ_cons, List.drop_succ_cons]
        refine ih ys k (by simpa using hk) (by simpa using hl) fun j hj => ?_
        have := he (j + 1) (by omega)
        simpa using this
theorem lessB_at (a b : List (BitVec 8)) (k : Nat) (hk : k < a.length) (hl : a.length = b.length) (he : ∀ j, j < k → a.getD j 0 = b.getD j 0) (hne : a.getD k 0 ≠ b.getD k 0) : lessB a b = decide (Y (a.getD k 0) < Y (b.getD k 0)) := by
  rw [lessB_skip a b k (by omega) hl he, List.drop_eq_getElem_cons hk, List.drop_eq_getElem_cons (show k < b.length by omega)]
  rw [List.getD_eq_getElem?_getD, List.getD_eq_getElem?_getD, List.getElem?_eq_getElem hk, List.getElem?_eq_getElem (show k < b.length by omega)] at hne ⊢
  simp only [Option.getD_some] at hne ⊢
  rw [lessB, if_neg hne]
  unfold Y
  congr 1
  exact propext ⟨fun h => by omega, fun h => by omega⟩
theorem lessB_same (a b : List (BitVec 8)) (hl : a.length = b.length) (he : ∀ j, j < a.length → a.getD j 0 = b.getD j 0) : lessB a b = false := by
  rw [lessB_skip a b a.length (Nat.le_refl _) hl he, List.drop_length]; rfl

set_option maxRecDepth 100000 in
set_option maxHeartbeats 4000000 in
theorem less_any (a b : List (BitVec 8)) (ha : a.length = 32) (hb : b.length = 32) (w : World) :
    Calls Tryz.prog 145 #[.agg (u8s a).toArray, .agg (u8s b).toArray] w fun e w' => e = .returned (.bool (lessB a b)) ∧ Gr w.heap.size w w' := by
  have HA : Hid (a.length = 32) := ha
  have HB : Hid (b.length = 32) := hb
  clear ha hb
  go_enter Tryz.func145, Tryz.ntmps145
  go_wp2_with fail
  generalize hw1 : World.alloc (World.alloc w _) _ = w1
  have hA1 : Blk w1 w.heap.size (u8s a) := by rw [← hw1]; exact (Blk.new _ _ _).alloc _
  have hB1 : Blk w1 (w.heap.size + 1) (u8s b) := by rw [← hw1]; exact Blk.mk _ _ _ (by simp) rfl
  have hb1 : Gr w.heap.size w w1 := by rw [← hw1]; exact ((Gr.refl _ _).alloc (Nat.le_refl _) _).alloc (by simp) _
  clear hw1
  generalize hN : w.heap.size = N at *
  go_loopw [6] (fun i wr => ∃ k : Nat, k ≤ 32 ∧ i = .int .i64 k ∧ Hid (∀ j, j < k → a.getD j 0 = b.getD j 0) ∧ Blk wr N (u8s a) ∧ Blk wr (N + 1) (u8s b) ∧ Gr N w wr) (fun i _ => 32 - (intOf i).toNat)
  case atStart => exact ⟨0, by omega, rfl, fun j hj => by omega, hA1, hB1, hb1⟩
  case round =>
    obtain ⟨k, hk, rfl, HE, hA, hB, hbel⟩ := hrel
    clear hA1 hB1 hb1
    by_cases hlt : k < 32
    · have e0 : (0 : Int) ≤ (k : Int) := by omega
      have e1 : (k : Int) < 32 := by omega
      have ca := hA.cell k
      rw [u8s_get a k (by rw [HA.out]; exact hlt)] at ca
      have cb := hB.cell k
      rw [u8s_get b k (by rw [HB.out]; exact hlt)] at cb
      obtain ⟨x, hx⟩ : ∃ x, x = a.getD k 0 := ⟨_, rfl⟩
      obtain ⟨y, hy⟩ : ∃ y, y = b.getD k 0 := ⟨_, rfl⟩
      rw [← hx] at ca
      rw [← hy] at cb
      have HX : Hid (x = a.getD k 0) := hx
      have HY : Hid (y = b.getD k 0) := hy
      clear hx hy
      have x0 := Y_lo x
      have x1 := Y_hi x
      have y0 := Y_lo y
      have y1 := Y_hi y
      by_cases hxy : x = y
      · subst hxy
        have HAD : Hid (Blk wr N (u8s a) ∧ Blk wr (N + 1) (u8s b) ∧ Gr N w wr) := ⟨hA, hB, hbel⟩
        clear hA hB hbel
        go_wp2_with fail
        go_quiet (fail)
        go_wp2_with fail
        go_roundw
        case rel =>
          obtain ⟨h1, h2, h3⟩ := HAD.out
          refine ⟨k + 1, by omega, by go_num, ?_, h1.drewN _, h2.drewN _, h3.drewN _⟩
          intro j hj
          by_cases hjk : j = k
          · subst hjk; rw [← HX.out, ← HY.out]
          · exact HE.out j (by omega)
        case measure => simp [intOf]; omega
      · have hne : ¬ Y x = Y y := fun h => hxy (Y_inj h)
        have hd : (Y x == Y y) = false := by simpa using hne
        have HL : Hid (lessB a b = decide (Y x < Y y)) := by
          show lessB a b = _
          rw [HX.out, HY.out]
          exact lessB_at a b k (by rw [HA.out]; exact hlt) (by rw [HA.out, HB.out]) HE.out (by rw [← HX.out, ← HY.out]; exact hxy)
        have HAD : Hid (Gr N w wr) := hbel
        clear hA hB hbel
        go_wp2_with fail
        go_quiet (fail)
        go_wp2_with fail
        go_quiet (fail)
        go_wp2_with fail
        go_ret
        subst hN
        exact ⟨ret_bool HL.out.symm, (HAD.out.drewN _).drewN _⟩
    · obtain rfl : k = 32 := by omega
      go_wp2_with fail
      go_ret
      subst hN
      exact ⟨ret_bool (lessB_same a b (by rw [HA.out, HB.out]) (by rw [HA.out]; exact HE.out)).symm, hbel⟩

theorem round_eq (k n : Int) (hn : 1 ≤ n) : (k.tmod n + n) % n = k % n := by
  rw [Int.add_emod_right, Int.tmod_eq_emod]
  split
  · simp
  · rw [Int.natAbs_of_nonneg (by omega), Int.sub_emod_right, Int.emod_emod]
set_option maxHeartbeats 1000000 in
theorem round_any (k n : Int) (w : World) (hn : 1 ≤ n) (hn2 : n ≤ 1152921504606846976) :
    Calls Tryz.prog 23 #[.int .i64 k, .int .i64 n] w fun e w' => e = .returned (.int .i64 (k % n)) ∧ w = w' := by
  have h1 : -n < k.tmod n := by
    have := Int.lt_tmod_of_pos k (show 0 < n by omega); omega
  have h2 : k.tmod n < n := Int.tmod_lt_of_pos k (by omega)
  have HR : Hid ((k.tmod n + n) % n = k % n) := round_eq k n hn
  go_enter Tryz.func23, Tryz.ntmps23
  go_wp2
  go_ret
  exact ⟨ret_int HR.out, rfl⟩
end Go.Proofs.YtlaifphedhaemaaGreatDoor
namespace Go.Proofs.YtlaifphedhaemaaGreatDoor
open Go.RowKit

/-- The cells of outpoints one behind the other. -/
def flat (l : List Pt) : List Value := (l.map Pt.cs).flatten
theorem flat_nil : flat [] = [] := rfl
theorem flat_cons (p : Pt) (l : List Pt) : flat (p :: l) = p.cs ++ flat l := rfl
theorem flat_append (l m : List Pt) : flat (l ++ m) = flat l ++ flat m := by simp [flat]
theorem flat_one (p : Pt) : flat [p] = p.cs := by simp [flat]
theorem flat_length (l : List Pt) : (flat l).length = l.length * 33 := by
  induction l with
  | nil => rfl
  | cons p l ih => rw [flat_cons, List.length_append, ih, p.cs_length, List.length_cons]; omega
theorem flat_mem (l : List Pt) : ∀ v ∈ flat l, v.oneCell' = true := fun v hv => by
  obtain ⟨x, hx, hv⟩ := List.mem_flatten.1 hv
  obtain ⟨p, _, rfl⟩ := List.mem_map.1 hx
  exact p.cs_mem v hv
theorem flat_get (l : List Pt) : ∀ j i, j < l.length → i < 33 → (flat l)[j * 33 + i]? = (l.getD j default).cs[i]? := by
  induction l with
  | nil => intro j i hj _; simp at hj
  | cons p l ih =>
    intro j i hj hi
    have hl := p.cs_length
    cases j with
    | zero =>
      rw [flat_cons, List.getElem?_append_left (by omega)]
      simp
    | succ j =>
      rw [flat_cons, List.getElem?_append_right (by omega), show (j + 1) * 33 + i - p.cs.length = j * 33 + i by omega, ih j i (by simpa using hj) hi]
      simp
theorem flat_take (l : List Pt) (k : Nat) : flat (l.take k) = (flat l).take (k * 33) := by
  induction l generalizing k with
  | nil => simp [flat]
  | cons p l ih =>
    cases k with
    | zero => simp [flat]
    | succ k =>
      have hl := p.cs_length
      rw [List.take_succ_cons, flat_cons, flat_cons, List.take_append, ih k, List.take_of_length_le (l := p.cs) (by omega), show (k + 1) * 33 - p.cs.length = k * 33 by omega]
theorem flat_drop (l : List Pt) (k : Nat) : flat (l.drop k) = (flat l).drop (k * 33) := by
  induction l generalizing k with
  | nil => simp [flat]
  | cons p l ih =>
    cases k with
    | zero => simp
    | succ k =>
      have hl := p.cs_length
      rw [List.drop_succ_cons, flat_cons, List.drop_append, ih k, List.drop_of_length_le (l := p.cs) (by omega), List.nil_append, show (k + 1) * 33 - p.cs.length = k * 33 by omega]
theorem flatK_flat (d : Array Pt) : Go.Sort.flatK Pt.cs 33 d = (flat d.toList).toArray := by
  apply Array.toList_inj.1
  apply List.ext_getElem?
  intro t
  by_cases ht : t < d.size * 33
  · have e : (flat d.toList)[t]? = (d.toList.getD (t / 33) default).cs[t % 33]? := by
      have := flat_get d.toList (t / 33) (t % 33) (by rw [Array.length_toList]; omega) (Nat.mod_lt _ (by omega))
      rw [← this]; congr 1; omega
    have hm : t % 33 < 33 := Nat.mod_lt _ (by omega)
    have hq : t / 33 < d.size := by omega
    have hc := (d[t / 33]!).cs_length
    have hd : d.toList.getD (t / 33) default = d[t / 33]! := by simp [List.getD_eq_getElem?_getD, hq]
    rw [e, hd]
    unfold Go.Sort.flatK
    simp only [Array.toList_map, Array.toList_range, List.getElem?_map, List.getElem?_range ht, Option.map_some]
    rw [List.getElem?_eq_getElem (by omega), getElem!_pos _ _ (by omega)]
  · rw [List.getElem?_eq_none (by simp [Go.Sort.flatK]; omega), List.getElem?_eq_none (by simp [flat_length]; omega)]

/-- A slice reads as these outpoints. -/
structure Pts (w : World) (a : Option Addr) (n cap : Nat) (l : List Pt) : Prop where
  len : l.length = n
  fits : n ≤ cap
  most : cap ≤ maxLen
  bare : a = none → cap = 0
  there : 0 < n → ∃ b o, a = some ⟨b, o, none⟩ ∧ w.rangeAt b o (flat l)
section
variable {w w' : World} {a : Option Addr} {n cap : Nat} {l : List Pt}
theorem rangeAt_below {b o B : Nat} {cs : List Value} (h : w.rangeAt b o cs) (hb : Below B w w') (hB : w.heap.size ≤ B) : w'.rangeAt b o cs := fun j v hv => by
  have hc := h j v hv
  have hl := World.block_lt_of_cell? w _ hc
  rw [World.cell?_of_block (hb.block _ (Nat.lt_of_lt_of_le hl hB))]; exact hc
theorem Pts.below (h : Pts w a n cap l) (hb : Below w.heap.size w w') : Pts w' a n cap l :=
  ⟨h.len, h.fits, h.most, h.bare, fun hn => by
    obtain ⟨b, o, ha, hc⟩ := h.there hn
    exact ⟨b, o, ha, rangeAt_below hc hb (Nat.le_refl _)⟩⟩
theorem Pts.at (h : Pts w a n cap l) (j : Nat) (hj : j < n) : ∃ b o, a = some ⟨b, o, none⟩ ∧ w.rangeAt b (o + j * 33) (l.getD j default).cs := by
  obtain ⟨b, o, ha, hc⟩ := h.there (by omega)
  refine ⟨b, o, ha, fun i v hv => ?_⟩
  have hi : i < 33 := by have := (List.getElem?_eq_some_iff.1 hv).1; rw [Pt.cs_length] at this; exact this
  rw [Nat.add_assoc]
  exact hc _ _ (by rw [flat_get l j i (by rw [h.len]; exact hj) hi]; exact hv)
/-- The cells, as an append asks for them. -/
theorem Pts.cells (h : Pts w a n cap l) {x : Addr} (hx : a = some x) : ∀ j v, (flat l)[j]? = some v → w.cell? (x.add j) = some v := fun j v hv => by
  have hj := (List.getElem?_eq_some_iff.1 hv).1
  rw [flat_length, h.len] at hj
  obtain ⟨b, o, ha, hc⟩ := h.there (by omega)
  rw [hx] at ha
  injection ha with ha
  rw [ha, Addr.add_mid]
  exact hc j v hv
theorem Pts.of_blk {g : Nat} {cs : List Value} (h : Blk w g cs) (hn : l.length = n) (hc : n ≤ cap) (hm : cap ≤ maxLen) (ht : cs.take (n * 33) = flat l) : Pts w (some ⟨g, 0, none⟩) n cap l :=
  ⟨hn, hc, hm, (fun e => nomatch e), fun _ => ⟨g, 0, rfl, fun j v hv => by
    rw [Nat.zero_add, h.cell, ← hv, ← ht, List.getElem?_take]
    have hj := (List.getElem?_eq_some_iff.1 hv).1
    rw [flat_length, hn] at hj
    rw [if_pos hj]⟩⟩
theorem Pts.nil (w : World) : Pts w none 0 0 [] := ⟨rfl, Nat.le_refl _, Nat.zero_le _, fun _ => rfl, fun h => absurd h (Nat.lt_irrefl _)⟩
theorem Pts.of_own {B : Nat} {e : TypeId} {v : Value} (h : w.ownsRow B e 33 v n (flat l)) : ∃ a cap, v = .slice a n cap ∧ Pts w a n cap l := by
  have hl : l.length = n := by
    have := h.1; rw [flat_length] at this; omega
  rcases h.2 with ⟨rfl, rfl⟩ | ⟨g, cap, cur, rfl, _, hg, hn, hm, hs, ht⟩
  · exact ⟨none, 0, rfl, by
      obtain rfl : l = [] := List.eq_nil_of_length_eq_zero hl
      exact Pts.nil w⟩
  · exact ⟨_, _, rfl, Pts.of_blk (cs := cur.toList) ⟨e, by simpa using hg⟩ hl hn hm ht⟩
end

section
variable {P : Program} {w : World}
/-- copy, elements of many cells, into the head of a row of the call's own. -/
theorem run_copy_many (dT sT ty elem : TypeId) (k g dCap : Nat) (a : Option Addr) (n sCap : Nat) (cur : List Value) (t : TypeId) (cs : List Value)
    (hu : P.underlying dT = some (.slice elem)) (hs : ∀ w, (sizeOf elem).run P w = .ok k w)
    (hg : w.heap[g]? = some (.cells cur.toArray t (0, 0))) (hn : cs.length = n * k) (hcur : cur.length = n * k)
    (hsrc : 0 < n → ∃ x, a = some x ∧ ∀ j v, cs[j]? = some v → w.cell? (x.add j) = some v) (h1 : ∀ v ∈ cs, v.oneCell' = true) :
    (Builtin.copy_ #[dT, sT] ty #[.slice (some ⟨g, 0, none⟩) n dCap, .slice a n sCap]).run P w = .ok (goInt n) (w.setRow g cs.toArray) := by
  have hst := run_storeCells_at P g 0 t cs 0 cur.toArray w hg (by simp; omega) h1
  have e : (cur.toArray.toList.take (0 + 0) ++ cs ++ cur.toArray.toList.drop (0 + 0 + cs.length)) = cs := by
    simp [List.drop_of_length_le (show cur.length ≤ cs.length by omega)]
  rw [e] at hst
  by_cases h0 : n = 0
  · subst h0
    obtain rfl : cs = [] := List.eq_nil_of_length_eq_zero (by omega)
    have hl : ∀ (x : Addr), (loadCells x 0).run P w = .ok #[] w := fun x => by simpa using run_loadCells_list (P := P) w x [] (by simp)
    cases a <;> simp [Builtin.copy_, run_underlying hu, Builtin.lenOf, Builtin.firstCells, hs, hl, hst]
  · obtain ⟨x, rfl, hx⟩ := hsrc (by omega)
    have hl := run_loadCells_list (P := P) w x cs hx
    rw [hn] at hl
    simp [Builtin.copy_, run_underlying hu, Builtin.lenOf, Builtin.firstCells, hs, hl, hst]
theorem wpList_copy_many {ops : Array Oper} {rest : List Oper} {o : Oper} {ac : Act} {Q : Exit → Act → World → Prop} (hgd : o.guard = none) (d s : Operand) (dT sT : TypeId)
    (ho : o.op = .call { callee := .builtin .copy, args := #[d, s], argTypes := #[dT, sT] }) (elem : TypeId) (k : Nat) (hu : P.underlying dT = some (.slice elem)) (hs : ∀ w, (sizeOf elem).run P w = .ok k w)
    (g n dCap : Nat) (a : Option Addr) (sCap : Nat) (hd : ac.eval d = .slice (some ⟨g, 0, none⟩) n dCap) (hx : ac.eval s = .slice a n sCap)
    (cur : List Value) (t : TypeId) (hg : w.heap[g]? = some (.cells cur.toArray t (0, 0))) (cs : List Value) (hn : cs.length = n * k) (hcur : cur.length = n * k)
    (hsrc : 0 < n → ∃ x, a = some x ∧ ∀ j v, cs[j]? = some v → w.cell? (x.add j) = some v) (h1 : ∀ v ∈ cs, v.oneCell' = true)
    (h : wpList P ops Q rest (ac.put o.dst (goInt n)) (w.setRow g cs.toArray)) : wpList P ops Q (o :: rest) ac w := by
  refine wpList_plain hgd fun K hK => ?_
  have hrun := run_copy_many (P := P) (w := w) dT sT o.type elem k g dCap a n sCap cur t cs hu hs hg hn hcur hsrc h1
  unfold Oper.wp
  simp [execOp, ho, resolve, invoke, builtin, hd, hx, hrun, Result.andThen]
  exact hK _ _ h
end
end Go.Proofs.YtlaifphedhaemaaGreatDoor
namespace Go.Proofs.YtlaifphedhaemaaGreatDoor
open Go.RowKit

/-- What an element's cells are. -/
class El (α : Type) where
  cs : α → List Value
  k : Nat
  len : ∀ x, (cs x).length = k
  mem : ∀ x v, v ∈ cs x → v.oneCell' = true
  dflt : α
section
variable {α : Type} [El α]
/-- The cells of elements one behind the other. -/
def flatE (l : List α) : List Value := (l.map El.cs).flatten
theorem flatE_nil : flatE ([] : List α) = [] := rfl
theorem flatE_cons (p : α) (l : List α) : flatE (p :: l) = El.cs p ++ flatE l := rfl
theorem flatE_append (l m : List α) : flatE (l ++ m) = flatE l ++ flatE m := by simp [flatE]
theorem flatE_one (p : α) : flatE [p] = El.cs p := by simp [flatE]
theorem flatE_length (l : List α) : (flatE l).length = l.length * El.k α := by
  induction l with
  | nil => simp [flatE_nil]
  | cons p l ih => rw [flatE_cons, List.length_append, ih, El.len, List.length_cons, Nat.succ_mul]; omega
theorem flatE_mem (l : List α) : ∀ v ∈ flatE l, v.oneCell' = true := fun v hv => by
  obtain ⟨x, hx, hv⟩ := List.mem_flatten.1 hv
  obtain ⟨p, _, rfl⟩ := List.mem_map.1 hx
  exact El.mem p v hv
theorem flatE_get (l : List α) : ∀ j i, j < l.length → i < El.k α → (flatE l)[j * El.k α + i]? = (El.cs (l.getD j El.dflt))[i]? := by
  induction l with
  | nil => intro j i hj _; simp at hj
  | cons p l ih =>
    intro j i hj hi
    have hl := El.len p
    cases j with
    | zero =>
      rw [flatE_cons, Nat.zero_mul, Nat.zero_add, List.getElem?_append_left (by omega)]
      simp
    | succ j =>
      have e : (j + 1) * El.k α + i = (El.cs p).length + (j * El.k α + i) := by rw [hl, Nat.succ_mul]; omega
      rw [flatE_cons, e, List.getElem?_append_right (by omega), Nat.add_sub_cancel_left, ih j i (by simpa using hj) hi]
      simp
theorem flatE_take (l : List α) (k : Nat) : flatE (l.take k) = (flatE l).take (k * El.k α) := by
  induction l generalizing k with
  | nil => simp [flatE]
  | cons p l ih =>
    cases k with
    | zero => simp [flatE]
    | succ k =>
      have hl := El.len p
      have e : (k + 1) * El.k α - (El.cs p).length = k * El.k α := by rw [hl, Nat.succ_mul]; omega
      have e2 : El.k α ≤ (k + 1) * El.k α := by rw [Nat.succ_mul]; omega
      rw [List.take_succ_cons, flatE_cons, flatE_cons, List.take_append, ih k, List.take_of_length_le (l := El.cs p) (by omega), e]
theorem flatE_drop (l : List α) (k : Nat) : flatE (l.drop k) = (flatE l).drop (k * El.k α) := by
  induction l generalizing k with
  | nil => simp [flatE]
  | cons p l ih =>
    cases k with
    | zero => simp
    | succ k =>
      have hl := El.len p
      have e : (k + 1) * El.k α - (El.cs p).length = k * El.k α := by rw [hl, Nat.succ_mul]; omega
      have e2 : El.k α ≤ (k + 1) * El.k α := by rw [Nat.succ_mul]; omega
      rw [List.drop_succ_cons, flatE_cons, List.drop_append, ih k, List.drop_of_length_le (l := El.cs p) (by omega), List.nil_append, e]
/-- A slice reads as these elements. -/
structure Els (w : World) (a : Option Addr) (n cap : Nat) (l : List α) : Prop where
  len : l.length = n
  fits : n ≤ cap
  most : cap ≤ maxLen
  bare : a = none → cap = 0
  there : 0 < n → ∃ b o, a = some ⟨b, o, none⟩ ∧ w.rangeAt b o (flatE l)
variable {w w' : World} {a : Option Addr} {n cap : Nat} {l : List α}
theorem Els.later (h : Els w a n cap l) (hw : ∀ b o, 0 < n → a = some ⟨b, o, none⟩ → w'.heap[b]? = w.heap[b]?) : Els w' a n cap l :=
  ⟨h.len, h.fits, h.most, h.bare, fun hn => by
    obtain ⟨b, o, ha, hc⟩ := h.there hn
    refine ⟨b, o, ha, fun j v hv => ?_⟩
    rw [World.cell?_of_block (hw b o hn ha)]; exact hc j v hv⟩
theorem Els.below (h : Els w a n cap l) (hb : Below w.heap.size w w') : Els w' a n cap l :=
  ⟨h.len, h.fits, h.most, h.bare, fun hn => by
    obtain ⟨b, o, ha, hc⟩ := h.there hn
    exact ⟨b, o, ha, rangeAt_below hc hb (Nat.le_refl _)⟩⟩
theorem Els.at (h : Els w a n cap l) (j : Nat) (hj : j < n) : ∃ b o, a = some ⟨b, o, none⟩ ∧ w.rangeAt b (o + j * El.k α) (El.cs (l.getD j El.dflt)) := by
  obtain ⟨b, o, ha, hc⟩ := h.there (by omega)
  refine ⟨b, o, ha, fun i v hv => ?_⟩
  have hi : i < El.k α := by have := (List.getElem?_eq_some_iff.1 hv).1; rw [El.len] at this; exact this
  rw [Nat.add_assoc]
  exact hc _ _ (by rw [flatE_get l j i (by rw [h.len]; exact hj) hi]; exact hv)
theorem Els.cells (h : Els w a n cap l) {x : Addr} (hx : a = some x) : ∀ j v, (flatE l)[j]? = some v → w.cell? (x.add j) = some v := fun j v hv => by
  have hj := (List.getElem?_eq_some_iff.1 hv).1
  rw [flatE_length, h.len] at hj
  have hn : 0 < n := by cases n with | zero => simp at hj | succ n => omega
  obtain ⟨b, o, ha, hc⟩ := h.there hn
  rw [hx] at ha
  injection ha with ha
  rw [ha, Addr.add_mid]
  exact hc j v hv
theorem Els.of_blk {g : Nat} {cs : List Value} (h : Blk w g cs) (hn : l.length = n) (hc : n ≤ cap) (hm : cap ≤ maxLen) (ht : cs.take (n * El.k α) = flatE l) : Els w (some ⟨g, 0, none⟩) n cap l :=
  ⟨hn, hc, hm, (fun e => nomatch e), fun _ => ⟨g, 0, rfl, fun j v hv => by
    rw [Nat.zero_add, h.cell, ← hv, ← ht, List.getElem?_take]
    have hj := (List.getElem?_eq_some_iff.1 hv).1
    rw [flatE_length, hn] at hj
    rw [if_pos hj]⟩⟩
theorem Els.nil (w : World) : Els w none 0 0 ([] : List α) := ⟨rfl, Nat.le_refl _, Nat.zero_le _, fun _ => rfl, fun h => absurd h (Nat.lt_irrefl _)⟩
end
end Go.Proofs.YtlaifphedhaemaaGreatDoor
namespace Go.Proofs.YtlaifphedhaemaaGreatDoor
open Go.ChangeShapes Go.WideShapes Go.ChangeAt Go.RowKit

/-- Which comes first. -/
def ltPt (p q : Pt) : Bool := if p.tx = q.tx then decide (p.n < q.n) else lessB p.tx q.tx
theorem size_hash (p : Pt) : (Tryz.prog.info? 23).map (·.size) = some (u8s p.tx).length := by rw [u8s_length, p.len]; kernel_rfl
theorem Pt.cell_n (p : Pt) : p.cs[32]? = some (.int .i64 p.n) := by simp [Pt.cs, p.len]
theorem Blk.tx {w : World} {b : Nat} {p : Pt} (h : Blk w b p.cs) : w.rangeAt b 0 (u8s p.tx) := fun j v hv => by
  rw [Nat.zero_add, h.cell, Pt.cs, List.getElem?_append_left (List.getElem?_eq_some_iff.1 hv).1]; exact hv
theorem Blk.whole {w : World} {b : Nat} {cs : List Value} (h : Blk w b cs) : w.rangeAt b 0 cs := fun j v hv => by
  rw [Nat.zero_add, h.cell]; exact hv

set_option maxRecDepth 100000 in
set_option maxHeartbeats 4000000 in
theorem pless_any (p q : Pt) (w : World) :
    Calls Tryz.prog 134 #[.agg p.cs.toArray, .agg q.cs.toArray] w fun e w' => e = .returned (.bool (ltPt p q)) ∧ Gr w.heap.size w w' := by
  have U24 := Tryz.underlying23
  have HU : Hid (_ = _) := U24
  clear U24
  have hn : ∀ w, (binOp .neq 23 (.agg (u8s p.tx).toArray) (.agg (u8s q.tx).toArray)).run Tryz.prog w = .ok (.bool (!(p.tx == q.tx))) w := neq_hash _ _ p.len q.len
  have hg : ∀ (op : BinOp) (x y : Operand) (w : World), (eqGuard op 23 x y (.agg (u8s p.tx).toArray) (.agg (u8s q.tx).toArray)).run Tryz.prog w = .ok () w := fun op x y w => run_eqGuard_agg w op _ x y _ _ (by kernel_rfl)
  go_enter Tryz.func134, Tryz.ntmps134
  go_upto_region 1 with fail
  generalize hw1 : World.alloc (World.alloc w _) _ = w1
  have hA1 : Blk w1 w.heap.size p.cs := by rw [← hw1]; exact (Blk.new _ _ _).alloc _
  have hB1 : Blk w1 (w.heap.size + 1) q.cs := by rw [← hw1]; exact Blk.mk _ _ _ (by simp) rfl
  have hb1 : Gr w.heap.size w w1 := by rw [← hw1]; exact ((Gr.refl _ _).alloc (Nat.le_refl _) _).alloc (by simp) _
  clear hw1
  generalize hN : w.heap.size = N at *
  have HA : Hid (w1.rangeAt N 0 (u8s p.tx)) := hA1.tx
  have HB : Hid (w1.rangeAt (N + 1) 0 (u8s q.tx)) := hB1.tx
  have ca := hA1.cell 32
  have cb := hB1.cell 32
  rw [Pt.cell_n] at ca cb
  clear hA1 hB1
  have HG : Hid (Gr N w w1) := hb1
  clear hb1
  by_cases htx : p.tx = q.tx
  · have HR : Hid (ltPt p q = decide (p.n < q.n)) := by show _ = _; rw [ltPt, if_pos htx]
    have hd : (p.tx == q.tx) = true := by simpa using htx
    rw [hd] at hn
    clear hd htx
    go_wp2_with (first
      | (refine wpList_load_mid rfl 23 _ rfl N 0 rfl _ _ HA.out HU.out rfl (size_hash p) ?_)
      | (refine wpList_load_mid rfl 23 _ rfl (N + 1) 0 rfl _ _ HB.out HU.out rfl (size_hash q) ?_))
    go_ret
    subst hN
    exact ⟨ret_bool HR.out.symm, HG.out⟩
  · have HR : Hid (ltPt p q = lessB p.tx q.tx) := by show _ = _; rw [ltPt, if_neg htx]
    have hd : (p.tx == q.tx) = false := by simpa using htx
    rw [hd] at hn
    clear hd htx
    go_wp2_with (first
      | (refine wpList_load_mid rfl 23 _ rfl N 0 rfl _ _ HA.out HU.out rfl (size_hash p) ?_)
      | (refine wpList_load_mid rfl 23 _ rfl (N + 1) 0 rfl _ _ HB.out HU.out rfl (size_hash q) ?_)
      | (go_at_call 145; refine (less_any p.tx q.tx p.len q.len _).mono ?_; rintro e w2 ⟨rfl, hb2⟩))
    go_ret
    subst hN
    exact ⟨ret_bool HR.out.symm, HG.out.then hb2 (Nat.le_refl _)⟩

/-- As sorting asks for it. -/
def cmpPt (p q : Pt) : Int := if ltPt p q then -1 else if ltPt q p then 1 else 0

set_option maxRecDepth 100000 in
set_option maxHeartbeats 4000000 in
theorem cmp_any (p q : Pt) (w : World) :
    Calls Tryz.prog 131 #[.agg p.cs.toArray, .agg q.cs.toArray] w fun e w' => e = .returned (.int .i64 (cmpPt p q)) ∧ Gr w.heap.size w w' := by
  have HU : Hid (_ = _) := Tryz.underlying53
  go_enter Tryz.func131, Tryz.ntmps131
  go_upto_region 1 with fail
  generalize hw1 : World.alloc (World.alloc w _) _ = w1
  have hA1 : Blk w1 w.heap.size p.cs := by rw [← hw1]; exact (Blk.new _ _ _).alloc _
  have hB1 : Blk w1 (w.heap.size + 1) q.cs := by rw [← hw1]; exact Blk.mk _ _ _ (by simp) rfl
  have hb1 : Gr w.heap.size w w1 := by rw [← hw1]; exact ((Gr.refl _ _).alloc (Nat.le_refl _) _).alloc (by simp) _
  clear hw1
  generalize hN : w.heap.size = N at *
  have HA : Hid (Blk w1 N p.cs) := hA1
  have HB : Hid (Blk w1 (N + 1) q.cs) := hB1
  clear hA1 hB1
  have HG : Hid (Gr N w w1) := hb1
  clear hb1
  go_wp2_with (first
    | (refine wpList_load_mid rfl 53 _ rfl N 0 rfl _ _ HA.out.whole HU.out rfl (size_pt p) ?_)
    | (refine wpList_load_mid rfl 53 _ rfl (N + 1) 0 rfl _ _ HB.out.whole HU.out rfl (size_pt q) ?_)
    | fail)
  refine (pless_any p q w1).mono ?_
  rintro e w2 ⟨rfl, hb2⟩
  have HA2 : Hid (Blk w2 N p.cs) := HA.out.below hb2.1 HA.out.lt
  have HB2 : Hid (Blk w2 (N + 1) q.cs) := HB.out.below hb2.1 HB.out.lt
  have HG2 : Hid (Gr N w w2) := HG.out.then hb2 (by omega)
  clear hb2 HA HB HG
  cases h1 : ltPt p q with
  | true =>
    have HR : Hid (cmpPt p q = -1) := by show _ = _; rw [cmpPt, h1]; rfl
    clear h1
    go_wp2_with fail
    go_ret
    subst hN
    exact ⟨ret_int HR.out.symm, HG2.out⟩
  | false =>
    go_wp2_with (first
      | (refine wpList_load_mid rfl 53 _ rfl N 0 rfl _ _ HA2.out.whole HU.out rfl (size_pt p) ?_)
      | (refine wpList_load_mid rfl 53 _ rfl (N + 1) 0 rfl _ _ HB2.out.whole HU.out rfl (size_pt q) ?_)
      | fail)
    refine (pless_any q p w2).mono ?_
    rintro e w3 ⟨rfl, hb3⟩
    have HG3 : Hid (Gr N w w3) := HG2.out.then hb3 (by omega)
    clear hb3 HA2 HB2 HG2
    cases h2 : ltPt q p with
    | true =>
      have HR : Hid (cmpPt p q = 1) := by show _ = _; rw [cmpPt, h1, h2]; rfl
      clear h1 h2
      go_wp2_with fail
      go_ret
      subst hN
      exact ⟨ret_int HR.out.symm, HG3.out⟩
    | false =>
      have HR : Hid (cmpPt p q = 0) := by show _ = _; rw [cmpPt, h1, h2]; rfl
      clear h1 h2
      go_wp2_with fail
      go_ret
      subst hN
      exact ⟨ret_int HR.out.symm, HG3.out⟩
end Go.Proofs.YtlaifphedhaemaaGreatDoor
namespace Go.Proofs.YtlaifphedhaemaaGreatDoor
open Go.ChangeShapes Go.WideShapes Go.ChangeAt Go.RowKit

/-- An input. -/
structure In where
  prev : Pt
  seq : Int
  kind : Int
  key : Int
  pre : ByteArray
def In.cs (x : In) : List Value := x.prev.cs ++ [.int .i64 x.seq, .int .i64 x.kind, .int .i64 x.key, .string x.pre]
theorem In.cs_length (x : In) : x.cs.length = 37 := by simp [In.cs, Pt.cs_length]
theorem In.cs_mem (x : In) : ∀ v ∈ x.cs, v.oneCell' = true := fun v hv => by
  rcases List.mem_append.1 hv with h | h
  · exact x.prev.cs_mem v h
  · simp only [List.mem_cons, List.not_mem_nil, or_false] at h
    rcases h with rfl | rfl | rfl | rfl <;> rfl
instance : Inhabited In := ⟨⟨default, 0, 0, 0, ByteArray.empty⟩⟩
instance : El In := ⟨In.cs, 37, In.cs_length, In.cs_mem, default⟩
theorem In.cs_all (x : In) : x.cs.toArray.all (·.oneCell') = true := all_oneCell_toArray x.cs_mem
/-- A script. -/
structure Scr where
  kind : Int
  key : Int
  other : Int
  rev : Int
  delay : Int
  expiry : Int
  hash : List (BitVec 8)
  len : hash.length = 32
def Scr.cs (s : Scr) : List Value := [.int .i64 s.kind, .int .i64 s.key, .int .i64 s.other, .int .i64 s.rev, .int .i64 s.delay, .int .i64 s.expiry] ++ u8s s.hash
theorem Scr.cs_length (s : Scr) : s.cs.length = 38 := by simp [Scr.cs, s.len]
theorem Scr.cs_mem (s : Scr) : ∀ v ∈ s.cs, v.oneCell' = true := fun v hv => by
  rcases List.mem_append.1 hv with h | h
  · simp only [List.mem_cons, List.not_mem_nil, or_false] at h
    rcases h with rfl | rfl | rfl | rfl | rfl | rfl <;> rfl
  · exact u8s_mem _ v h
theorem Scr.cs_all (s : Scr) : s.cs.toArray.all (·.oneCell') = true := all_oneCell_toArray s.cs_mem
instance : Inhabited Scr := ⟨⟨0, 0, 0, 0, 0, 0, List.replicate 32 0, rfl⟩⟩
/-- An output. -/
structure Out where
  value : Int
  scr : Scr
def Out.cs (o : Out) : List Value := .int .i64 o.value :: o.scr.cs
theorem Out.cs_length (o : Out) : o.cs.length = 39 := by simp [Out.cs, Scr.cs_length]
theorem Out.cs_mem (o : Out) : ∀ v ∈ o.cs, v.oneCell' = true := fun v hv => by
  rcases List.mem_cons.1 hv with h | h
  · rw [h]; rfl
  · exact o.scr.cs_mem v h
instance : Inhabited Out := ⟨⟨0, default⟩⟩
instance : El Out := ⟨Out.cs, 39, Out.cs_length, Out.cs_mem, default⟩
theorem Out.cs_all (o : Out) : o.cs.toArray.all (·.oneCell') = true := all_oneCell_toArray o.cs_mem
/-- A transaction. -/
structure TxD where
  ins : List In
  outs : List Out
  lock : Int
/-- Where a transaction's lists lie. -/
structure TxV where
  a : Option Addr
  n : Nat
  c : Nat
  b : Option Addr
  m : Nat
  d : Nat
def TxV.val (v : TxV) (lock : Int) : Value := .agg #[.slice v.a v.n v.c, .slice v.b v.m v.d, .int .i64 lock]
structure TxAt (w : World) (v : TxV) (t : TxD) : Prop where
  ins : Els w v.a v.n v.c t.ins
  outs : Els w v.b v.m v.d t.outs
theorem TxAt.below {w w' : World} {v : TxV} {t : TxD} (h : TxAt w v t) (hb : Below w.heap.size w w') : TxAt w' v t := ⟨h.ins.below hb, h.outs.below hb⟩

theorem In.seq_at (x : In) : x.cs[33]? = some (.int .i64 x.seq) := by
  unfold In.cs; rw [List.getElem?_append_right (by rw [Pt.cs_length]; omega), Pt.cs_length]; rfl
theorem In.kind_at (x : In) : x.cs[34]? = some (.int .i64 x.kind) := by
  unfold In.cs; rw [List.getElem?_append_right (by rw [Pt.cs_length]; omega), Pt.cs_length]; rfl
theorem In.key_at (x : In) : x.cs[35]? = some (.int .i64 x.key) := by
  unfold In.cs; rw [List.getElem?_append_right (by rw [Pt.cs_length]; omega), Pt.cs_length]; rfl
theorem In.pre_at (x : In) : x.cs[36]? = some (.string x.pre) := by
  unfold In.cs; rw [List.getElem?_append_right (by rw [Pt.cs_length]; omega), Pt.cs_length]; rfl
theorem In.n_at (x : In) : x.cs[32]? = some (.int .i64 x.prev.n) := by
  unfold In.cs; rw [List.getElem?_append_left (by rw [Pt.cs_length]; omega)]; exact x.prev.cell_n
theorem In.prev_at {w : World} {b o : Nat} {x : In} (h : w.rangeAt b o x.cs) : w.rangeAt b o x.prev.cs := fun j v hv => by
  have hj := (List.getElem?_eq_some_iff.1 hv).1
  refine h j v ?_
  unfold In.cs; rw [List.getElem?_append_left hj]; exact hv
theorem Out.scr_at {w : World} {b o : Nat} {x : Out} (h : w.rangeAt b o x.cs) : w.rangeAt b (o + 1) x.scr.cs := fun j v hv => by
  have := h (j + 1) v (by unfold Out.cs; rw [List.getElem?_cons_succ]; exact hv)
  rw [show o + 1 + j = o + (j + 1) by omega]; exact this
theorem Scr.hash_at {w : World} {b o : Nat} {s : Scr} (h : w.rangeAt b o s.cs) : w.rangeAt b (o + 6) (u8s s.hash) := fun j v hv => by
  have := h (j + 6) v (by unfold Scr.cs; rw [List.getElem?_append_right (by simp)]; simpa using hv)
  rw [show o + 6 + j = o + (j + 6) by omega]; exact this

/-- One cell of a block. -/
theorem Blk.one {w : World} {b : Nat} {cs : List Value} (h : Blk w b cs) {i : Nat} {v : Value} (hv : cs[i]? = some v) : w.cell? ⟨b, i, none⟩ = some v := by rw [h.cell]; exact hv

theorem size_in (x : In) : (Tryz.prog.info? 57).map (·.size) = some x.cs.length := by rw [x.cs_length]; kernel_rfl
theorem size_ina (x : In) : (Tryz.prog.info? 57).map (·.size) = some x.cs.toArray.size := by rw [List.size_toArray, x.cs_length]; kernel_rfl
theorem size_out (x : Out) : (Tryz.prog.info? 67).map (·.size) = some x.cs.length := by rw [x.cs_length]; kernel_rfl
theorem size_outa (x : Out) : (Tryz.prog.info? 67).map (·.size) = some x.cs.toArray.size := by rw [List.size_toArray, x.cs_length]; kernel_rfl
theorem size_scr (x : Scr) : (Tryz.prog.info? 65).map (·.size) = some x.cs.length := by rw [x.cs_length]; kernel_rfl
theorem size_hashL (h : List (BitVec 8)) (hl : h.length = 32) : (Tryz.prog.info? 23).map (·.size) = some (u8s h).length := by rw [u8s_length, hl]; kernel_rfl
end Go.Proofs.YtlaifphedhaemaaGreatDoor
namespace Go.Proofs.YtlaifphedhaemaaGreatDoor
open Go.Sort Go.Lib

theorem lessB_irrefl : ∀ a : List (BitVec 8), lessB a a = false
  | [] => rfl
  | x :: a => by rw [lessB, if_pos rfl, lessB_irrefl a]
theorem lessB_trans : ∀ a b c : List (BitVec 8), lessB a b = true → lessB b c = true → lessB a c = true
  | [], _, _, h, _ => by simp [lessB] at h
  | _ :: _, [], _, h, _ => by simp [lessB] at h
  | _ :: _, _ :: _, [], _, h => by simp [lessB] at h
  | x :: a, y :: b, z :: c, h, k => by
    rw [lessB] at h k ⊢
    by_cases e : x = y
    · subst e
      rw [if_pos rfl] at h
      by_cases f : x = z
      · subst f; rw [if_pos rfl] at k ⊢; exact lessB_trans a b c h k
      · rw [if_neg f] at k ⊢; exact k
    · rw [if_neg e] at h
      have h' := of_decide_eq_true h
      by_cases f : y = z
      · subst f; rw [if_neg e]; exact h
      · rw [if_neg f] at k
        have k' := of_decide_eq_true k
        have g : x ≠ z := fun g => by rw [g] at h'; omega
        rw [if_neg g]; exact decide_eq_true (by omega)
theorem lessB_conn : ∀ a b : List (BitVec 8), a.length = b.length → lessB a b = false → lessB b a = false → a = b
  | [], [], _, _, _ => rfl
  | [], _ :: _, h, _, _ => by simp at h
  | _ :: _, [], h, _, _ => by simp at h
  | x :: a, y :: b, hl, h, k => by
    rw [lessB] at h k
    by_cases e : x = y
    · subst e
      rw [if_pos rfl] at h k
      rw [lessB_conn a b (by simpa using hl) h k]
    · rw [if_neg e] at h
      rw [if_neg fun f => e f.symm] at k
      have h' := of_decide_eq_false h
      have k' := of_decide_eq_false k
      exact absurd (BitVec.eq_of_toNat_eq (by omega)) e

theorem ltPt_irrefl (p : Pt) : ltPt p p = false := by rw [ltPt, if_pos rfl]; simp
theorem ltPt_trans {p q r : Pt} (h : ltPt p q = true) (k : ltPt q r = true) : ltPt p r = true := by
  unfold ltPt at *
  by_cases e : p.tx = q.tx
  · rw [if_pos e] at h
    by_cases f : q.tx = r.tx
    · rw [if_pos f] at k; rw [if_pos (e.trans f)]; simp at *; omega
    · rw [if_neg f] at k; rw [if_neg (e ▸ f), e]; exact k
  · rw [if_neg e] at h
    by_cases f : q.tx = r.tx
    · rw [if_neg (f ▸ e), ← f]; exact h
    · rw [if_neg f] at k
      have t := lessB_trans _ _ _ h k
      by_cases g : p.tx = r.tx
      · rw [g, lessB_irrefl] at t; cases t
      · rw [if_neg g]; exact t
theorem ltPt_conn {p q : Pt} (h : ltPt p q = false) (k : ltPt q p = false) : p = q := by
  unfold ltPt at *
  by_cases e : p.tx = q.tx
  · rw [if_pos e] at h; rw [if_pos e.symm] at k
    simp at h k
    exact Pt.ext e (by omega)
  · rw [if_neg e] at h; rw [if_neg fun f => e f.symm] at k
    exact absurd (lessB_conn _ _ (p.len.trans q.len.symm) h k) e
theorem ltPt_asymm {p q : Pt} (h : ltPt p q = true) : ltPt q p = false := by
  cases k : ltPt q p with
  | false => rfl
  | true => have := ltPt_trans h k; rw [ltPt_irrefl] at this; cases this
/-- 'not behind' is transitive. -/
theorem ltPt_le {p q r : Pt} (h : ltPt q p = false) (k : ltPt r q = false) : ltPt r p = false := by
  cases t : ltPt r p with
  | false => rfl
  | true =>
    cases u : ltPt p q with
    | true => rw [ltPt_trans t u] at k; cases k
    | false => rw [ltPt_conn u h] at t; rw [t] at k; cases k
theorem ltPt_lt_le {p q r : Pt} (h : ltPt q p = false) (k : ltPt q r = true) : ltPt p r = true := by
  cases u : ltPt p q with
  | true => exact ltPt_trans u k
  | false => rw [ltPt_conn u h]; exact k

theorem ltOf_cmp (p q : Pt) : ltOf cmpPt p q = ltPt p q := by
  unfold ltOf cmpPt
  cases ltPt p q <;> cases ltPt q p <;> simp
theorem swo_cmp : SWO (ltOf cmpPt) where
  irrefl p := by rw [ltOf_cmp]; exact ltPt_irrefl p
  trans p q r h k := by rw [ltOf_cmp] at *; exact ltPt_trans h k
  ntrans p q r h k := by rw [ltOf_cmp] at *; exact ltPt_le k h

/-- None comes ahead of one that stands before it. -/
def Up (l : List Pt) : Prop := l.Pairwise fun p q => ltPt q p = false
/-- Each comes ahead of all that stand behind it. -/
def Inc (l : List Pt) : Prop := l.Pairwise fun p q => ltPt p q = true

theorem up_perm : ∀ {l m : List Pt}, Up l → Up m → l.Perm m → l = m
  | [], m, _, _, h => (List.nil_perm.1 h).symm
  | p :: l, [], _, _, h => by have := h.length_eq; simp at this
  | p :: l, q :: m, hl, hm, h => by
    have hl' := List.pairwise_cons.1 hl
    have hm' := List.pairwise_cons.1 hm
    have e : p = q := by
      rcases List.mem_cons.1 (h.mem_iff.1 (List.mem_cons_self)) with e | e
      · exact e
      · rcases List.mem_cons.1 (h.mem_iff.2 (List.mem_cons_self)) with f | f
        · exact f.symm
        · exact ltPt_conn (hm'.1 p e) (hl'.1 q f)
    subst e
    rw [up_perm hl'.2 hm'.2 h.cons_inv]
theorem inc_ext : ∀ {l m : List Pt}, Inc l → Inc m → (∀ p, p ∈ l ↔ p ∈ m) → l = m
  | [], [], _, _, _ => rfl
  | [], q :: m, _, _, h => by have := (h q).2 List.mem_cons_self; cases this
  | p :: l, [], _, _, h => by have := (h p).1 List.mem_cons_self; cases this
  | p :: l, q :: m, hl, hm, h => by
    have hl' := List.pairwise_cons.1 hl
    have hm' := List.pairwise_cons.1 hm
    have e : p = q := by
      rcases List.mem_cons.1 ((h p).1 List.mem_cons_self) with e | e
      · exact e
      · rcases List.mem_cons.1 ((h q).2 List.mem_cons_self) with f | f
        · exact f.symm
        · have := ltPt_asymm (hm'.1 p e); rw [hl'.1 q f] at this; cases this
    subst e
    rw [inc_ext hl'.2 hm'.2 fun x => ?_]
    constructor
    · intro hx
      rcases List.mem_cons.1 ((h x).1 (List.mem_cons_of_mem _ hx)) with e | e
      · have := hl'.1 x hx; rw [e, ltPt_irrefl] at this; cases this
      · exact e
    · intro hx
      rcases List.mem_cons.1 ((h x).2 (List.mem_cons_of_mem _ hx)) with e | e
      · have := hm'.1 x hx; rw [e, ltPt_irrefl] at this; cases this
      · exact e

theorem up_of_sorted {d : Array Pt} (h : SortedIn (ltOf cmpPt) 0 d.size d) : Up d.toList := by
  rw [Up, List.pairwise_iff_getElem]
  intro i j hi hj hij
  have := h i j (Nat.zero_le _) hij (by simpa using hj)
  rw [ltOf_cmp] at this
  simp at hi hj
  rw [getElem!_pos d i hi, getElem!_pos d j hj] at this
  simpa using this
theorem perm_of_permIn {d d' : Array Pt} (h : PermIn 0 d.size d d') : d'.toList.Perm d.toList := by
  have h3 := h.2.2
  have e1 : d'.extract 0 d.size = d' := by rw [← h.1]; simp
  have e2 : d.extract 0 d.size = d := by simp
  rw [e1, e2] at h3
  exact h3

/-- What is kept of a sorted row where doubles go. -/
theorem compact_up (d : Array Pt) (h : Up d.toList) : ∀ m, m ≤ d.size →
    Inc (compactUpTo d m) ∧ (∀ x, x ∈ compactUpTo d m ↔ ∃ j, j < m ∧ d[j]! = x) ∧ ∀ x ∈ compactUpTo d m, ltPt d[m - 1]! x = false := by
  have hup : ∀ i j, i ≤ j → j < d.size → ltPt d[j]! d[i]! = false := by
    intro i j hij hj
    by_cases e : i = j
    · subst e; exact ltPt_irrefl _
    · have := List.pairwise_iff_getElem.1 h i j (by simp; omega) (by simpa using hj) (by omega)
      rw [getElem!_pos d i (by omega), getElem!_pos d j hj]; simpa using this
  intro m
  induction m with
  | zero => intro _; exact ⟨List.Pairwise.nil, fun x => ⟨fun hx => by simp [compactUpTo] at hx, fun ⟨j, hj, _⟩ => absurd hj (Nat.not_lt_zero _)⟩, fun x hx => by simp [compactUpTo] at hx⟩
  | succ m ih =>
    intro hm
    obtain ⟨h1, h2, h3⟩ := ih (by omega)
    rw [compactUpTo_succ]
    by_cases hk : keeps d m = true
    · rw [if_pos hk]
      have hlt : ∀ x ∈ compactUpTo d m, ltPt x d[m]! = true := by
        intro x hx
        obtain ⟨j, hj, rfl⟩ := (h2 x).1 hx
        have hne : d[m]! ≠ d[m - 1]! := by
          intro e
          have : keeps d m = false := keeps_neg (by omega) e
          rw [this] at hk; cases hk
        have hl : ltPt d[m - 1]! d[m]! = true := by
          cases u : ltPt d[m - 1]! d[m]! with
          | true => rfl
          | false => exact absurd (ltPt_conn (hup (m - 1) m (by omega) (by omega)) u) hne
        exact ltPt_lt_le (h3 _ hx) hl
      refine ⟨List.pairwise_append.2 ⟨h1, List.pairwise_singleton _ _, fun x hx y hy => by rw [List.mem_singleton.1 hy]; exact hlt x hx⟩, fun x => ?_, fun x hx => ?_⟩
      · rw [List.mem_append, h2, List.mem_singleton]
        constructor
        · rintro (⟨j, hj, e⟩ | e)
          · exact ⟨j, by omega, e⟩
          · exact ⟨m, by omega, e.symm⟩
        · rintro ⟨j, hj, e⟩
          by_cases hjm : j = m
          · right; rw [← e, hjm]
          · left; exact ⟨j, by omega, e⟩
      · rcases List.mem_append.1 hx with hx | hx
        · exact ltPt_asymm (hlt x hx)
        · rw [List.mem_singleton.1 hx]; exact ltPt_irrefl _
    · have hk' : keeps d m = false := by simpa using hk
      rw [if_neg hk, List.append_nil]
      have hm0 : m ≠ 0 := fun e => by rw [keeps_lt_one d m (by omega)] at hk'; cases hk'
      have he : d[m]! = d[m - 1]! := by
        apply Classical.byContradiction
        intro hne
        rw [keeps_pos hne] at hk'; cases hk'
      refine ⟨h1, fun x => ?_, fun x hx => ?_⟩
      · rw [h2]
        constructor
        · rintro ⟨j, hj, e⟩; exact ⟨j, by omega, e⟩
        · rintro ⟨j, hj, e⟩
          by_cases hjm : j = m
          · exact ⟨m - 1, by omega, by rw [← he, ← hjm]; exact e⟩
          · exact ⟨j, by omega, e⟩
      · show ltPt d[m]! x = false
        rw [he]; exact h3 x hx
theorem compact_mem {d : Array Pt} (h : Up d.toList) (x : Pt) : x ∈ compactUpTo d d.size ↔ x ∈ d.toList := by
  rw [(compact_up d h d.size (Nat.le_refl _)).2.1 x]
  constructor
  · rintro ⟨j, hj, e⟩
    rw [getElem!_pos d j hj] at e
    rw [← e]; simp
  · intro hx
    obtain ⟨j, hj, e⟩ := List.getElem_of_mem hx
    simp at hj
    exact ⟨j, hj, by rw [getElem!_pos d j hj]; simpa using e⟩

/-- As long, and each of the first one's as often: the same, in some order. -/
theorem perm_of_counts {a b : List Pt} (hl : a.length = b.length) (h : ∀ x ∈ a, a.count x = b.count x) : a.Perm b := by
  have hp : (b.filter fun y => decide (y ∈ a)).Perm a := by
    rw [List.perm_iff_count]
    intro x
    by_cases hx : x ∈ a
    · rw [List.count_filter (by simpa using hx)]; exact (h x hx).symm
    · rw [List.count_eq_zero_of_not_mem hx, List.count_eq_zero_of_not_mem]
      intro hm
      exact hx (by simpa using (List.mem_filter.1 hm).2)
  have hf : (b.filter fun y => decide (y ∈ a)) = b := by
    rw [List.filter_eq_self]
    exact List.length_filter_eq_length_iff.1 (by rw [hp.length_eq, hl])
  rw [hf] at hp
  exact hp.symm
end Go.Proofs.YtlaifphedhaemaaGreatDoor
namespace Go.Proofs.YtlaifphedhaemaaGreatDoor
open Go.Shelf
def Tryz.sortPt_ren : Go.Shelf.Ren := ⟨fun | 6 => 130 | 15 => 133 | 14 => 132 | 28 => 143 | 29 => 144 | 20 => 135 | 21 => 136 | 22 => 137 | 23 => 138 | 24 => 139 | 25 => 140 | 26 => 141 | 27 => 142 | 46 => 146 | 47 => 147 | 48 => 148 | 49 => 149 | 50 => 150 | 57 => 151 | n => n, fun | 22 => 164 | 24 => 53 | 25 => 182 | 3 => 3 | 39 => 137 | 0 => 0 | 53 => 155 | 55 => 158 | 4 => 4 | 46 => 188 | 45 => 187 | 50 => 170 | 5 => 5 | 9 => 9 | 66 => 196 | 70 => 200 | 76 => 202 | 77 => 120 | n => n, fun | n => n⟩
theorem Tryz.sortPt : Go.Proofs.SlLaysF0.n6 Tryz.prog Tryz.sortPt_ren := {
  mixed := by kernel_rfl
  f6 := ⟨Tryz.f130.name, by decide, Tryz.func130.trans (congrArg some (by kernel_rfl))⟩
  f14 := ⟨Tryz.f132.name, by decide, Tryz.func132.trans (congrArg some (by kernel_rfl))⟩
  f15 := Tryz.func133.trans (congrArg some (by kernel_rfl))
  f20 := ⟨Tryz.f135.name, by decide, Tryz.func135.trans (congrArg some (by kernel_rfl))⟩
  f21 := ⟨Tryz.f136.name, by decide, Tryz.func136.trans (congrArg some (by kernel_rfl))⟩
  f22 := ⟨Tryz.f137.name, by decide, Tryz.func137.trans (congrArg some (by kernel_rfl))⟩
  f23 := ⟨Tryz.f138.name, by decide, Tryz.func138.trans (congrArg some (by kernel_rfl))⟩
  f24 := ⟨Tryz.f139.name, by decide, Tryz.func139.trans (congrArg some (by kernel_rfl))⟩
  f25 := ⟨Tryz.f140.name, by decide, Tryz.func140.trans (congrArg some (by kernel_rfl))⟩
  f26 := ⟨Tryz.f141.name, by decide, Tryz.func141.trans (congrArg some (by kernel_rfl))⟩
  f27 := ⟨Tryz.f142.name, by decide, Tryz.func142.trans (congrArg some (by kernel_rfl))⟩
  f28 := Tryz.func143.trans (congrArg some (by kernel_rfl))
  f29 := Tryz.func144.trans (congrArg some (by kernel_rfl))
  f46 := ⟨Tryz.f146.name, by decide, Tryz.func146.trans (congrArg some (by kernel_rfl))⟩
  f47 := Tryz.func147.trans (congrArg some (by kernel_rfl))
  f48 := Tryz.func148.trans (congrArg some (by kernel_rfl))
  f49 := ⟨Tryz.f149.name, by decide, Tryz.func149.trans (congrArg some (by kernel_rfl))⟩
  f50 := ⟨Tryz.f150.name, by decide, Tryz.func150.trans (congrArg some (by kernel_rfl))⟩
  f57 := ⟨Tryz.f151.name, by decide, Tryz.func151.trans (congrArg some (by kernel_rfl))⟩
  t0 := Tryz.underlying0
  a0 := Tryz.isAgg0
  z0 := Tryz.sizeOf0
  v0 := Tryz.zeroValue0
  t3 := Tryz.underlying3
  a3 := Tryz.isAgg3
  z3 := Tryz.sizeOf3
  v3 := Tryz.zeroValue3
  t4 := Tryz.underlying4
  a4 := Tryz.isAgg4
  z4 := Tryz.sizeOf4
  v4 := Tryz.zeroValue4
  t5 := Tryz.underlying5
  a5 := Tryz.isAgg5
  z5 := Tryz.sizeOf5
  v5 := Tryz.zeroValue5
  t9 := Tryz.underlying9
  a9 := Tryz.isAgg9
  z9 := Tryz.sizeOf9
  v9 := Tryz.zeroValue9
  t22 := Tryz.underlying164
  a22 := Tryz.isAgg164
  z22 := Tryz.sizeOf164
  v22 := Tryz.zeroValue164
  t25 := Tryz.underlying182
  a25 := Tryz.isAgg182
  z25 := Tryz.sizeOf182
  v25 := Tryz.zeroValue182
  t39 := Tryz.underlying137
  a39 := Tryz.isAgg137
  z39 := Tryz.sizeOf137
  v39 := Tryz.zeroValue137
  t45 := Tryz.underlying187
  a45 := Tryz.isAgg187
  z45 := Tryz.sizeOf187
  v45 := Tryz.zeroValue187
  t46 := Tryz.underlying188
  a46 := Tryz.isAgg188
  z46 := Tryz.sizeOf188
  v46 := Tryz.zeroValue188
  t50 := Tryz.underlying170
  a50 := Tryz.isAgg170
  z50 := Tryz.sizeOf170
  v50 := Tryz.zeroValue170
  t53 := Tryz.underlying155
  a53 := Tryz.isAgg155
  z53 := Tryz.sizeOf155
  v53 := Tryz.zeroValue155
  t55 := Tryz.underlying158
  a55 := Tryz.isAgg158
  z55 := Tryz.sizeOf158
  v55 := Tryz.zeroValue158
  t66 := Tryz.underlying196
  a66 := Tryz.isAgg196
  z66 := Tryz.sizeOf196
  v66 := Tryz.zeroValue196
  t70 := Tryz.underlying200
  a70 := Tryz.isAgg200
  z70 := Tryz.sizeOf200
  v70 := Tryz.zeroValue200
  t76 := Tryz.underlying202
  a76 := Tryz.isAgg202
  z76 := Tryz.sizeOf202
  v76 := Tryz.zeroValue202
  t77 := Tryz.underlying120
  a77 := Tryz.isAgg120
  z77 := Tryz.sizeOf120
  v77 := Tryz.zeroValue120 }
end Go.Proofs.YtlaifphedhaemaaGreatDoor
namespace Go.Proofs.YtlaifphedhaemaaGreatDoor
open Go.ChangeShapes Go.WideShapes Go.ChangeAt Go.RowKit
open Go.Sort (flatK putRowK HoldsK mapBlock putRow putCells onCells heap_grow_old size_grow)

theorem Gr.grow {w w' : World} (h : Gr w.heap.size w w') : ∃ q os, w' = Go.Sort.grow (w.drewN q) os := by
  refine ⟨w'.drawn - w.drawn, w'.heap.extract w.heap.size w'.heap.size, ?_⟩
  have hh : w'.heap = w.heap ++ w'.heap.extract w.heap.size w'.heap.size := by
    apply Array.ext_getElem?
    intro k
    have hs := h.1.size
    rw [Array.getElem?_append]
    by_cases hk : k < w.heap.size
    · rw [if_pos hk]; exact h.1.block k hk
    · rw [if_neg hk, Array.getElem?_extract]
      by_cases hk' : k < w'.heap.size
      · rw [if_pos (by omega), show w.heap.size + (k - w.heap.size) = k by omega]
      · rw [if_neg (by omega), Array.getElem?_eq_none (by omega)]
  have hd : w.drawn + (w'.drawn - w.drawn) = w'.drawn := by have := h.2; omega
  cases w' with
  | mk heap tape drawn os output =>
    have e1 := h.1.os; have e2 := h.1.tape; have e3 := h.1.output
    simp only at e1 e2 e3 hh hd
    subst e1; subst e2; subst e3
    simp only [Go.Sort.grow, World.drewN, hd]
    rw [← hh]
theorem cmpLays (blk off size : Nat) (w : World) : CmpLays Tryz.prog 131 #[] Pt.cs 33 cmpPt blk off size w :=
  fun _ _ _ _ x y => (cmp_any x y _).mono fun _ _ ⟨he, hg⟩ => ⟨he, hg.grow⟩

theorem putCells_all (F c : Array Value) (h : c.size = F.size) : putCells id 0 F c = F := by
  apply Array.ext
  · simp [putCells, h]
  · intro i h1 h2
    have hi : i < F.size := h2
    simp [putCells, hi]
theorem heap_mapBlock_same {w : World} {g : Nat} {c : Array Value} {t : TypeId} {fr : Nat × Nat} (h : w.heap[g]? = some (.cells c t fr)) (f : Array Value → Array Value) : (mapBlock w g f).heap[g]? = some (.cells (f c) t fr) := by
  simp [mapBlock, Array.getElem?_modify, h, onCells]
theorem heap_mapBlock_other {w : World} {g k : Nat} (h : k ≠ g) (f : Array Value → Array Value) : (mapBlock w g f).heap[k]? = w.heap[k]? := by
  have h' : ¬ g = k := fun e => h e.symm
  simp [mapBlock, Array.getElem?_modify, h']
theorem Blk.sorted {w : World} {g m : Nat} {d dk : Array Pt} {os : Array Obj} (h : Blk w g (flat d.toList)) (hs : dk.size = d.size) : Blk (sortWorldK Pt.cs 33 w g 0 m dk os) g (flat dk.toList) := by
  have hl := h.lt
  obtain ⟨t, h⟩ := h
  refine ⟨t, ?_⟩
  unfold sortWorldK putRowK putRow
  rw [heap_grow_old _ _ (by simp [mapBlock, Go.Sort.ahead]; exact hl), heap_mapBlock_same (w := Go.Sort.ahead w m) (c := (flat d.toList).toArray) h, flatK_flat, putCells_all _ _ (by simp [flat_length, hs])]
theorem below_sorted {w : World} {N g m : Nat} {dk : Array Pt} {os : Array Obj} (hg : N ≤ g) (hN : N ≤ w.heap.size) : Below N w (sortWorldK Pt.cs 33 w g 0 m dk os) := by
  have hz : (mapBlock (Go.Sort.ahead w m) g (putCells id 0 (flatK Pt.cs 33 dk))).heap.size = w.heap.size := by simp [mapBlock, Go.Sort.ahead]
  refine ⟨rfl, rfl, rfl, ?_, fun k hk => ?_⟩
  · unfold sortWorldK putRowK putRow
    rw [size_grow, hz]; omega
  · unfold sortWorldK putRowK putRow
    rw [heap_grow_old _ _ (by rw [hz]; omega), heap_mapBlock_other (by omega)]; rfl
theorem Blk.holds {w : World} {g : Nat} {d : Array Pt} (h : Blk w g (flat d.toList)) : HoldsK Pt.cs 33 w g 0 d := by
  intro j hj
  rw [flatK_flat] at hj ⊢
  refine ⟨?_, h.frozen _⟩
  rw [Nat.zero_add, h.cell, getElem!_pos _ j hj]
  simp at hj ⊢
theorem Blk.made {w : World} {B g n : Nat} {e : TypeId} {k : Nat} {cs : List Value} (h : w.ownsRow B e k (.slice (some ⟨g, 0, none⟩) n n) n cs) : w.heap[g]? = some (.cells cs.toArray e (0, 0)) := by
  rcases h.2 with ⟨h, _⟩ | ⟨g', cap, cur, hv, _, hg, _, _, hs, ht⟩
  · injection h with h1 h2 h3; cases h1
  · injection hv with h1 h2 h3
    injection h1 with h1
    injection h1 with h1
    subst h1; subst h3
    rw [← ht, ← hs, show cur.size = cur.toList.length by simp, List.take_length]
    exact hg

theorem Tryz.infoPt : (Tryz.prog.info? 53).map (fun i => (i.zero, i.size, i.bytes)) = some (some (.agg (default : Pt).cs.toArray), 33, 40) := by kernel_rfl

set_option maxRecDepth 100000 in
set_option maxHeartbeats 4000000 in
theorem inOrder_any (a : Option Addr) (n cap : Nat) (l : List Pt) (w : World) (hp : Pts w a n cap l) (hn : n ≤ 100000) :
    Calls Tryz.prog 127 #[.slice a n cap] w fun e w' => ∃ g l', e = .returned (.slice (some ⟨g, 0, none⟩) n n) ∧ l'.Perm l ∧ Up l' ∧ Blk w' g (flat l') ∧ w.heap.size ≤ g ∧ Below w.heap.size w w' := by
  obtain ⟨i0, hi0, hi1, hi2, hi3⟩ := info_parts Tryz.infoPt
  have HP : Hid (Pts w a n cap l) := hp
  clear hp
  go_enter Tryz.func127, Tryz.ntmps127
  go_wp2_with (at_make; refine wpList_make_full _ rfl _ _ 164 rfl w.heap.size 53 i0 (.agg (default : Pt).cs.toArray) 33 Tryz.underlying164 hi0 hi1 hi2 .i64 .i64 _ _ n rfl rfl rfl rfl (by rw [hi3]; omega) (by unfold maxLen; omega) (Nat.le_refl _) ?_)
  intro w1 hown hgrow
  have hb1 : Below w.heap.size w w1 := (Below.refl _ w).grown hgrow (Nat.le_refl _) (by simp)
  have hg1 := Blk.made hown
  clear hown hgrow hi0 hi1 hi2 hi3
  generalize hN : w.heap.size = N at *
  have HG1 : Hid (w1.heap[N]? = _) := hg1
  have HCOPY : Hid (0 < n → ∃ x, a = some x ∧ ∀ j v, (flat l)[j]? = some v → w1.cell? (x.add j) = some v) := fun h0 => by
    have h1 := HP.out.below (hN ▸ hb1)
    obtain ⟨b, o, ha, _⟩ := h1.there h0
    exact ⟨_, ha, h1.cells ha⟩
  clear hg1
  go_wp2_with (show wpList _ _ _ [Oper.mk (some 9) _ _ _ _ _] _ _; refine wpList_copy_many rfl _ _ 164 164 rfl 53 33 Tryz.underlying164 Tryz.sizeOf53 N n n a cap rfl rfl _ 53 HG1.out (flat l) (by rw [flat_length, HP.out.len]) (by simp [madeCells]) HCOPY.out (flat_mem l) ?_)
  have hG2 : Blk (w1.setRow N (flat l).toArray) N (flat l) := Blk.row (ds := flat l) ⟨_, HG1.out⟩
  have hb2 : Below N w (w1.setRow N (flat l).toArray) := below_setRow hb1 (Nat.le_refl _) _
  generalize w1.setRow N (flat l).toArray = w2 at hG2 hb2 ⊢
  clear hb1 HG1 HCOPY
  have hln := HP.out.len
  have hsz : l.toArray.size = n := by simp [hln]
  have hcon := AnyQ.slices_SortFunc Tryz.sortPt 33 Tryz.isAgg53 Tryz.sizeOf53 Pt.cs Pt.cs_length Pt.cs_mem cmpPt swo_cmp 131 #[] N 0 n l.toArray w2 (enters_of Tryz.func131 (by kernel_rfl) rfl) (cmpLays N 0 _ w2) (Blk.holds (by simpa using hG2)) hG2.lt (by rw [hsz]; omega)
  change Calls Tryz.prog 130 _ _ _ at hcon
  rw [hsz] at hcon
  refine hcon.mono ?_
  rintro e w3 ⟨rfl, d', m, os, hperm, hsort, rfl⟩
  have hd' : d'.size = n := by rw [hperm.1, hsz]
  have hG3 := Blk.sorted (m := m) (os := os) (dk := d') (d := l.toArray) (by simpa using hG2) (by rw [hd', hsz])
  have hb3 := hb2.trans (below_sorted (w := w2) (N := N) (g := N) (m := m) (dk := d') (os := os) (Nat.le_refl _) (Nat.le_of_lt hG2.lt))
  generalize sortWorldK Pt.cs 33 w2 N 0 m d' os = w3 at hG3 hb3 ⊢
  have hup : Up d'.toList := up_of_sorted (by rw [hd']; exact hsort)
  have hpm : d'.toList.Perm l := by
    have := perm_of_permIn (d := l.toArray) (d' := d') (by rw [hsz]; exact hperm)
    simpa using this
  clear hcon hperm hsort hG2 hb2 hsz hd'
  go_wp2_with fail
  go_ret
  subst hN
  exact ⟨w.heap.size, d'.toList, rfl, hpm, hup, hG3, Nat.le_refl _, hb3⟩
end Go.Proofs.YtlaifphedhaemaaGreatDoor
namespace Go.Proofs.YtlaifphedhaemaaGreatDoor
open Go.ChangeShapes Go.WideShapes Go.ChangeAt Go.RowKit
open Go.Lib (compactUpTo compactUpTo_all keeps keeps_lt_one keeps_pos keeps_neg CompInv)

theorem splice_flat (l : List Pt) (j : Nat) (p : Pt) (hj : j < l.length) : splice (flat l) (j * 33) p.cs = flat (l.set j p) := by
  unfold splice
  rw [List.set_eq_take_append_cons_drop, if_pos hj, flat_append, flat_cons, flat_take, flat_drop, p.cs_length]
  congr 3; omega
theorem Blk.setPt {w : World} {g : Nat} {l : List Pt} (h : Blk w g (flat l)) (j : Nat) (p : Pt) (hj : j < l.length) : Blk (w.setCells g (j * 33) p.cs) g (flat (l.set j p)) := by
  have := h.cellsAt p.cs (j * 33) (by rw [p.cs_length, flat_length]; omega)
  rwa [splice_flat l j p hj] at this
theorem below_setCells {w0 : World} {B g : Nat} (hg : B ≤ g) (vs : List Value) : ∀ {w : World} (_ : Below B w0 w) (o : Nat), Below B w0 (w.setCells g o vs) := by
  induction vs with
  | nil => intro w h o; exact h
  | cons v r ih => intro w h o; exact ih (h.setCell hg v) (o + 1)
theorem Blk.there {w : World} {g : Nat} {cs : List Value} (h : Blk w g cs) (o n : Nat) (hn : o + n ≤ cs.length) : w.there g o n := fun j hj => by
  refine ⟨?_, h.frozen _⟩
  rw [h.cell, List.getElem?_eq_getElem (by omega)]; rfl
theorem Blk.pt {w : World} {g : Nat} {l : List Pt} (h : Blk w g (flat l)) (j : Nat) (hj : j < l.length) : w.rangeAt g (j * 33) (l.getD j default).cs := fun i v hv => by
  have hi : i < 33 := by have := (List.getElem?_eq_some_iff.1 hv).1; rw [Pt.cs_length] at this; exact this
  rw [h.cell, flat_get l j i hj hi]; exact hv

/-- A region that draws its order, and only reads. -/
theorem wp_region_reads {P : Program} {id : Nat} {Q : Exit → Act → World → Prop} {a : Act} {w : World} {l : List Oper} (hm : P.follows .mixedOrders = true) (hB : Region.lexB .any l.toArray = true)
    (h : wpStill P l.toArray w.drew (fun a' => Q .normal a' w.drew) l a) : (Code.region id l.toArray true).wp P Q a w :=
  wp_region_still_lit hm hB h
section
variable {P : Program} {w : World}
/-- clear, elements of many cells. -/
theorem run_clear_many (t e ty : TypeId) (k : Nat) (z : Value) (ht : P.underlying t = some (.slice e)) (hv : ∀ w, (zeroValue e).run P w = .ok z w) (hz : z.cells.size = k) (h1 : ∀ v ∈ z.cells.toList, v.oneCell' = true) (b o n c : Nat) (hn : 0 < n)
    (hth : w.there b o (n * k)) :
    ∃ zs : List Value, zs.length = n * k ∧ (Builtin.clear_ #[t] ty #[.slice (some ⟨b, o, none⟩) n c]).run P w = .ok (.tuple #[]) (w.setCells b o zs) := by
  refine ⟨(Builtin.zeroCells z.cells n).toList, by rw [Array.length_toList, size_zeroCells, hz], ?_⟩
  have hm : ∀ v ∈ (Builtin.zeroCells z.cells n).toList, v.oneCell' = true := by
    intro v hv'
    obtain ⟨i, hi, rfl⟩ := List.getElem_of_mem hv'
    rw [Array.length_toList, size_zeroCells, hz] at hi
    have hk : 0 < k := by
      rcases Nat.eq_zero_or_pos k with h | h
      · rw [h] at hi; simp at hi
      · exact h
    have hq : i % k < z.cells.size := by rw [hz]; exact Nat.mod_lt _ hk
    have : (Builtin.zeroCells z.cells n).toList[i]? = some z.cells[i % k] := by
      simp [Builtin.zeroCells, hz, hi, getElem!_pos z.cells (i % k) hq]
    have h2 := (List.getElem?_eq_some_iff.1 this).2
    rw [h2]
    exact h1 _ (by simp)
  have hst := run_storeCells_cells (P := P) b o (Builtin.zeroCells z.cells n).toList 0 w
    (fun j hj => by rw [Array.length_toList, size_zeroCells, hz] at hj; simpa using (hth j hj).1)
    (fun j hj => by rw [Array.length_toList, size_zeroCells, hz] at hj; simpa using (hth j hj).2) hm
  simp only [Nat.add_zero] at hst
  obtain ⟨m, rfl⟩ : ∃ m, n = m + 1 := ⟨n - 1, by omega⟩
  simp [Builtin.clear_, run_underlying ht, hv, hst]
theorem wpList_clear_many {ops : Array Oper} {rest : List Oper} {op : Oper} {ac : Act} {Q : Exit → Act → World → Prop} (hgd : op.guard = none) (s : Operand) (t : TypeId)
    (ho : op.op = .call { callee := .builtin .clear, args := #[s], argTypes := #[t] }) (e : TypeId) (k : Nat) (z : Value) (ht : P.underlying t = some (.slice e)) (hv : ∀ w, (zeroValue e).run P w = .ok z w) (hz : z.cells.size = k) (h1 : ∀ v ∈ z.cells.toList, v.oneCell' = true)
    (b o n c : Nat) (hs : ac.eval s = .slice (some ⟨b, o, none⟩) n c) (hn : 0 < n) (hth : w.there b o (n * k))
    (h : ∀ zs : List Value, zs.length = n * k → wpList P ops Q rest (ac.put op.dst (.tuple #[])) (w.setCells b o zs)) : wpList P ops Q (op :: rest) ac w := by
  refine wpList_plain hgd fun K hK => ?_
  obtain ⟨zs, hzs, hrun⟩ := run_clear_many (P := P) (w := w) t e op.type k z ht hv hz h1 b o n c hn hth
  unfold Oper.wp
  simp [execOp, ho, resolve, invoke, builtin, hs, hrun, Result.andThen]
  exact hK _ _ (h zs hzs)
end

set_option maxRecDepth 100000 in
set_option maxHeartbeats 4000000 in
theorem compact_any (g n : Nat) (l : List Pt) (w : World) (hl : l.length = n) (hB : Blk w g (flat l)) (hn : n ≤ 100000) :
    Calls Tryz.prog 126 #[.slice (some ⟨g, 0, none⟩) n n] w fun e w' =>
      ∃ cs, e = .returned (.slice (some ⟨g, 0, none⟩) (compactUpTo l.toArray n).length n) ∧ Blk w' g cs ∧ cs.take ((compactUpTo l.toArray n).length * 33) = flat (compactUpTo l.toArray n) ∧ Below g w w' := by
  have hmo : Tryz.prog.follows .mixedOrders = true := by kernel_rfl
  have HMO : Hid (_ = true) := hmo
  clear hmo
  have HU : Hid (_ = _) := Tryz.underlying53
  have HL : Hid (l.length = n) := hl
  have hsz : l.toArray.size = n := by simp [hl]
  have HSZ : Hid (l.toArray.size = n) := hsz
  have HSAME : Hid ((∀ j, j < n → keeps l.toArray j = true) → compactUpTo l.toArray n = l) := fun h => by
    rw [compactUpTo_all l.toArray n h, ← hsz, Go.Lib.range_map_get]
  have HB : Hid (Blk w g (flat l)) := hB
  clear hl hsz hB
  go_enter Tryz.func126, Tryz.ntmps126
  by_cases h2 : n < 2
  · go_wp2_with fail
    go_ret
    have e := HSAME.out fun j hj => keeps_lt_one _ j (by omega)
    rw [e, HL.out]
    exact ⟨flat l, rfl, HB.out, List.take_of_length_le (by rw [flat_length, HL.out]; exact Nat.le_refl _), Below.refl _ _⟩
  · go_wp2_with fail
    go_loopw [3] (fun i wr => ∃ k : Nat, 1 ≤ k ∧ k ≤ n ∧ i = .int .i64 k ∧ Hid (∀ j, j < k → keeps l.toArray j = true) ∧ Blk wr g (flat l) ∧ Below g w wr) (fun i _ => n - (intOf i).toNat)
    case atStart => exact ⟨1, by omega, by omega, rfl, keeps_lt_one _, HB.out, Below.refl _ _⟩
    case round =>
      obtain ⟨k, hk1, hk, rfl, HALL, hBk, hbk⟩ := hrel
      by_cases hlt : k < n
      · have e0 : (0 : Int) ≤ (k : Int) := by omega
        have e1 : (k : Int) < (n : Int) := by omega
        have e2 : (0 : Int) ≤ (k : Int) - 1 := by omega
        have e3 : (k : Int) - 1 < (n : Int) := by omega
        have e4 : ((k : Int) - 1).toNat = k - 1 := by omega
        have e6 : (1 : Int) ≤ (k : Int) := by omega
        have e5 : IntKind.i64.wrap ((k : Int) - 1) = (k : Int) - 1 := i64_fit (by omega) (by omega)
        have c1 := hBk.drew.pt k (by rw [HL.out]; exact hlt)
        have c0 := hBk.drew.pt (k - 1) (by rw [HL.out]; omega)
        obtain ⟨x, hx⟩ : ∃ x, x = l.getD k default := ⟨_, rfl⟩
        obtain ⟨y, hy⟩ : ∃ y, y = l.getD (k - 1) default := ⟨_, rfl⟩
        rw [← hx] at c1
        rw [← hy] at c0
        have HX : Hid (x = l.toArray[k]!) := by
          show _ = _
          rw [hx, getElem!_pos _ _ (by rw [HSZ.out]; exact hlt)]
          simp [List.getD_eq_getElem?_getD, HL.out, hlt]
        have HY : Hid (y = l.toArray[k - 1]!) := by
          show _ = _
          rw [hy, getElem!_pos _ _ (by rw [HSZ.out]; omega)]
          simp [List.getD_eq_getElem?_getD, HL.out, show k - 1 < n by omega]
        have C1 : Hid (wr.drew.rangeAt g (k * 33) x.cs) := c1
        have C0 : Hid (wr.drew.rangeAt g ((k - 1) * 33) y.cs) := c0
        have HBK : Hid (Blk wr g (flat l) ∧ Below g w wr) := ⟨hBk, hbk⟩
        clear c1 c0 hx hy hBk hbk HB
        have q1 : ∀ w', (binOp .eql 53 (.agg x.cs.toArray) (.agg y.cs.toArray)).run Tryz.prog w' = .ok (.bool (decide (x = y))) w' := eql_pt x y
        have q2 : ∀ (op : BinOp) (u v : Operand) w', (eqGuard op 53 u v (.agg x.cs.toArray) (.agg y.cs.toArray)).run Tryz.prog w' = .ok () w' := fun op u v => guard_pt op u v x y
        have q3 : ∀ w', (Op.equalIn 10000 53 (.agg x.cs.toArray) (.agg y.cs.toArray)).run Tryz.prog w' = .ok (decide (x = y)) w' := equalIn_pt x y
        go_wp2_with fail
        refine wp_region_reads HMO.out (by kernel_rfl) ?_
        iterate 3 still_step
        refine still_load_mid rfl 53 _ rfl g (k * 33) rfl x.cs _ C1.out HU.out rfl (size_pt x) ?_
        simp only [Act.put, List.setIfInBounds_toArray, List.set_cons_zero, List.set_cons_succ]
        iterate 4 still_step
        refine still_load_mid rfl 53 _ rfl g ((k - 1) * 33) rfl y.cs _ C0.out HU.out rfl (size_pt y) ?_
        simp only [Act.put, List.setIfInBounds_toArray, List.set_cons_zero, List.set_cons_succ]
        still_step
        refine wpStill_nil ?_
        by_cases hxy : x = y
        · have hd : decide (x = y) = true := decide_eq_true hxy
          rw [hd]
          clear q1 q2 q3 C1 C0 hd
          have f1 : ¬ n = k := by omega
          have f2 : (k : Int) ≤ (n : Int) := by omega
          have HI0 : Hid (CompInv l.toArray (k + 1) k l.toArray) := CompInv.start HALL.out (keeps_neg (by omega) (by rw [← HX.out, ← HY.out]; exact hxy))
          clear HX HY hxy
          have HBD : Hid (Blk wr.drew g (flat l) ∧ Below g w wr.drew) := ⟨HBK.out.1.drew, HBK.out.2.drew⟩
          clear HBK
          generalize wr.drew = wq at HBD ⊢
          go_wp2_with fail
          go_loopw [3, 5] (fun i3 i5 wr => ∃ (kk k2 : Nat) (dk : Array Pt), i3 = .int .i64 kk ∧ i5 = .int .i64 k2 ∧ 1 ≤ k2 ∧ k + k2 ≤ n ∧ Hid (CompInv l.toArray (k + k2) kk dk) ∧ Blk wr g (flat dk.toList) ∧ Below g w wr) (fun _ i5 _ => n - k - (intOf i5).toNat)
          case atStart => exact ⟨k, 1, l.toArray, rfl, rfl, Nat.le_refl _, by omega, HI0.out, HBD.out.1, HBD.out.2⟩
          case round =>
            obtain ⟨kk, k2, dk, rfl, rfl, h1, hle, HI, hBk, hbk⟩ := hrel
            clear HBD HI0
            have hkk := HI.out.lt
            have hds : dk.toList.length = n := by rw [Array.length_toList, HI.out.size, HSZ.out]
            have d0 : (0 : Int) ≤ (kk : Int) := by omega
            have d1 : (kk : Int) < (n : Int) := by omega
            have d2 : (kk : Int) ≤ (n : Int) := by omega
            have d3 : ¬ n = kk := by omega
            by_cases hlt2 : k + k2 < n
            · have g0 : (0 : Int) ≤ (k2 : Int) := by omega
              have g3 : (1 : Int) ≤ (k2 : Int) := by omega
              have g4 : ((k2 : Int) - 1).toNat = k2 - 1 := by omega
              have g5 : IntKind.i64.wrap ((k2 : Int) - 1) = (k2 : Int) - 1 := i64_fit (by omega) (by omega)
              have g6 : (k2 : Int) - 1 < ((n - k : Nat) : Int) := by omega
              have g7 : (k2 : Int) < ((n - k : Nat) : Int) := by omega
              have g8 : k2 < n - k := by omega
              have c1 := hBk.drew.pt (k + k2) (by rw [hds]; exact hlt2)
              have c0 := hBk.drew.pt (k + (k2 - 1)) (by rw [hds]; omega)
              rw [Nat.add_mul] at c1 c0
              obtain ⟨u, hu⟩ : ∃ u, u = dk.toList.getD (k + k2) default := ⟨_, rfl⟩
              obtain ⟨v, hv⟩ : ∃ v, v = dk.toList.getD (k + (k2 - 1)) default := ⟨_, rfl⟩
              rw [← hu] at c1
              rw [← hv] at c0
              have HUU : Hid (u = l.toArray[k + k2]!) := by
                show _ = _
                rw [hu, ← HI.out.high (k + k2) (by omega), getElem!_pos dk _ (by rw [← Array.length_toList, hds]; exact hlt2)]
                simp [List.getD_eq_getElem?_getD, show k + k2 < dk.size by rw [← Array.length_toList, hds]; exact hlt2]
              have HVV : Hid (v = l.toArray[k + k2 - 1]!) := by
                show _ = _
                rw [hv, ← HI.out.high (k + k2 - 1) (by omega), show k + k2 - 1 = k + (k2 - 1) by omega, getElem!_pos dk _ (by rw [← Array.length_toList, hds]; omega)]
                simp [List.getD_eq_getElem?_getD, show k + (k2 - 1) < dk.size by rw [← Array.length_toList, hds]; omega]
              have C1 : Hid (wr.drew.rangeAt g (k * 33 + k2 * 33) u.cs) := c1
              have C0 : Hid (wr.drew.rangeAt g (k * 33 + (k2 - 1) * 33) v.cs) := c0
              have HBK : Hid (Blk wr.drew g (flat dk.toList) ∧ Below g w wr.drew) := ⟨hBk.drew, hbk.drew⟩
              clear c1 c0 hu hv hBk hbk
              have q1 : ∀ w', (binOp .neq 53 (.agg u.cs.toArray) (.agg v.cs.toArray)).run Tryz.prog w' = .ok (.bool (!decide (u = v))) w' := neq_pt u v
              have q2 : ∀ (op : BinOp) (x y : Operand) w', (eqGuard op 53 x y (.agg u.cs.toArray) (.agg v.cs.toArray)).run Tryz.prog w' = .ok () w' := fun op x y => guard_pt op x y u v
              have q3 : ∀ w', (Op.equalIn 10000 53 (.agg u.cs.toArray) (.agg v.cs.toArray)).run Tryz.prog w' = .ok (decide (u = v)) w' := equalIn_pt u v
              go_wp2_with fail
              refine wp_region_reads HMO.out (by kernel_rfl) ?_
              iterate 3 still_step
              refine still_load_mid rfl 53 _ rfl g (k * 33 + k2 * 33) rfl u.cs _ C1.out HU.out rfl (size_pt u) ?_
              simp only [Act.put, List.setIfInBounds_toArray, List.set_cons_zero, List.set_cons_succ]
              iterate 4 still_step
              refine still_load_mid rfl 53 _ rfl g (k * 33 + (k2 - 1) * 33) rfl v.cs _ C0.out HU.out rfl (size_pt v) ?_
              simp only [Act.put, List.setIfInBounds_toArray, List.set_cons_zero, List.set_cons_succ]
              still_step
              refine wpStill_nil ?_
              by_cases huv : u = v
              · have hd : decide (u = v) = true := decide_eq_true huv
                rw [hd]
                clear q1 q2 q3 C1 C0 hd
                go_wp2_with fail
                go_roundw
                case rel =>
                  obtain ⟨hh1, hh2⟩ := HBK.out
                  exact ⟨kk, k2 + 1, dk, rfl, by go_num, by omega, by omega, HI.out.skip (keeps_neg (by omega) (by rw [← HUU.out, ← HVV.out]; exact huv)), hh1, hh2⟩
                case measure => simp [intOf]; omega
              · have hd : decide (u = v) = false := decide_eq_false huv
                rw [hd]
                clear q1 q2 q3 C0 hd
                have HTH : Hid (wr.drew.there g (kk * 33) u.cs.toArray.size) := HBK.out.1.there _ _ (by rw [List.size_toArray, u.cs_length, flat_length, hds]; omega)
                go_wp2_with (first
                  | (refine wpList_load_mid rfl 53 _ rfl g (k * 33 + k2 * 33) rfl u.cs _ C1.out HU.out rfl (size_pt u) ?_)
                  | (refine wpList_store_mid rfl 53 _ _ rfl g (kk * 33) u.cs.toArray rfl rfl HTH.out (size_pta u) u.cs_all ?_))
                go_roundw
                case rel =>
                  obtain ⟨hh1, hh2⟩ := HBK.out
                  have hi := HI.out.keep (by rw [HSZ.out]; exact hlt2) (keeps_pos (by rw [← HUU.out, ← HVV.out]; exact huv))
                  rw [← HUU.out] at hi
                  refine ⟨kk + 1, k2 + 1, _, by go_num, by go_num, by omega, by omega, hi, ?_, below_setCells (Nat.le_refl _) _ hh2 _⟩
                  have := hh1.setPt kk u (by rw [hds]; omega)
                  simpa using this
                case measure => simp [intOf]; omega
            · have hend : k + k2 = n := by omega
              have HTH : Hid (wr.there g (kk * 33) ((n - kk) * 33)) := hBk.there _ _ (by rw [flat_length, hds]; omega)
              have HBK : Hid (Blk wr g (flat dk.toList) ∧ Below g w wr) := ⟨hBk, hbk⟩
              have d4 : ¬ k2 < n - k := by omega
              clear hBk hbk
              go_wp2_with (show wpList _ _ _ [Oper.mk none _ _ _ _ _] _ _; refine wpList_clear_many rfl _ 164 rfl 53 33 _ Tryz.underlying164 Tryz.zeroValue53 rfl (by decide) g (kk * 33) (n - kk) (n - kk) rfl (by omega) HTH.out ?_)
              intro zs hzs
              obtain ⟨hh1, hh2⟩ := HBK.out
              have hB2 := hh1.cellsAt zs (kk * 33) (by rw [hzs, flat_length, hds]; omega)
              have hb2 := below_setCells (Nat.le_refl _) zs hh2 (kk * 33)
              generalize wr.setCells g (kk * 33) zs = w2 at hB2 hb2 ⊢
              have HB2 : Hid (Blk w2 g _ ∧ Below g w w2) := ⟨hB2, hb2⟩
              clear hh1 hh2 hB2 hb2 HTH HBK
              go_wp2_with fail
              go_ret
              have hi := HI.out
              rw [hend] at hi
              have he : compactUpTo l.toArray n = dk.toList.take kk := by
                apply List.ext_getElem?
                intro j
                rw [List.getElem?_take]
                by_cases hj : j < kk
                · rw [if_pos hj, hi.low j hj, getElem!_pos dk j (by rw [← Array.length_toList, hds]; omega)]
                  simp [show j < dk.size by rw [← Array.length_toList, hds]; omega]
                · rw [if_neg hj, List.getElem?_eq_none (by rw [hi.len]; omega)]
              refine ⟨_, by rw [hi.len]; rfl, HB2.out.1, ?_, HB2.out.2⟩
              rw [hi.len, he, flat_take]
              unfold splice
              rw [List.take_append_of_le_length (by rw [List.length_take, flat_length, hds]; omega), List.take_take, Nat.min_self]
        · have hd : decide (x = y) = false := decide_eq_false hxy
          rw [hd]
          clear q1 q2 q3 C1 C0 hd
          go_wp2_with fail
          go_roundw
          case rel =>
            obtain ⟨h1, h2⟩ := HBK.out
            refine ⟨k + 1, by omega, by omega, by go_num, fun j hj => ?_, h1.drew, h2.drew⟩
            by_cases e : j = k
            · subst e; exact keeps_pos (by rw [← HX.out, ← HY.out]; exact hxy)
            · exact HALL.out j (by omega)
          case measure => simp [intOf]; omega
      · obtain rfl : k = n := by omega
        go_wp2_with fail
        go_ret
        have e := HSAME.out HALL.out
        rw [e, HL.out]
        exact ⟨flat l, rfl, hBk, List.take_of_length_le (by rw [flat_length, HL.out]; exact Nat.le_refl _), hbk⟩
end Go.Proofs.YtlaifphedhaemaaGreatDoor
namespace Go.Proofs.YtlaifphedhaemaaGreatDoor
open Go.RowKit

instance : El Pt := ⟨Pt.cs, 33, Pt.cs_length, Pt.cs_mem, default⟩
theorem flatE_pt (l : List Pt) : flatE l = flat l := rfl
section
variable {α : Type} [El α]
theorem splice_flatE (l : List α) (j : Nat) (p : α) (hj : j < l.length) : splice (flatE l) (j * El.k α) (El.cs p) = flatE (l.set j p) := by
  unfold splice
  rw [List.set_eq_take_append_cons_drop, if_pos hj, flatE_append, flatE_cons, flatE_take, flatE_drop, El.len, Nat.succ_mul]
theorem Blk.setE {w : World} {g : Nat} {l : List α} (h : Blk w g (flatE l)) (j : Nat) (p : α) (hj : j < l.length) : Blk (w.setCells g (j * El.k α) (El.cs p)) g (flatE (l.set j p)) := by
  have e : (j + 1) * El.k α ≤ l.length * El.k α := Nat.mul_le_mul_right _ hj
  have := h.cellsAt (El.cs p) (j * El.k α) (by rw [El.len, flatE_length]; rw [Nat.succ_mul] at e; exact e)
  rwa [splice_flatE l j p hj] at this
theorem Blk.el {w : World} {g : Nat} {l : List α} (h : Blk w g (flatE l)) (j : Nat) (hj : j < l.length) : w.rangeAt g (j * El.k α) (El.cs (l.getD j El.dflt)) := fun i v hv => by
  have hi : i < El.k α := by have := (List.getElem?_eq_some_iff.1 hv).1; rw [El.len] at this; exact this
  rw [h.cell, flatE_get l j i hj hi]; exact hv
theorem Blk.thereE {w : World} {g : Nat} {l : List α} (h : Blk w g (flatE l)) (j : Nat) (hj : j < l.length) : w.there g (j * El.k α) (El.k α) :=
  h.there _ _ (by
    have e : (j + 1) * El.k α ≤ l.length * El.k α := Nat.mul_le_mul_right _ hj
    rw [flatE_length]; rw [Nat.succ_mul] at e; exact e)
theorem madeE (d : α) (n : Nat) (hk : 0 < El.k α) : (madeCells (El.cs d).toArray (n * El.k α)).toList = flatE (List.replicate n d) := by
  apply List.ext_getElem?
  intro t
  by_cases ht : t < n * El.k α
  · have hq : t / El.k α < n := (Nat.div_lt_iff_lt_mul hk).2 ht
    have hm : t % El.k α < El.k α := Nat.mod_lt _ hk
    have e := flatE_get (List.replicate n d) (t / El.k α) (t % El.k α) (by rw [List.length_replicate]; exact hq) hm
    rw [Nat.div_add_mod'] at e
    have hd : (List.replicate n d).getD (t / El.k α) El.dflt = d := by
      rw [List.getD_eq_getElem?_getD, List.getElem?_replicate, if_pos hq]; rfl
    rw [hd] at e
    rw [e]
    unfold madeCells
    simp only [Array.toList_map, Array.toList_range, List.getElem?_map, List.getElem?_range ht, Option.map_some, List.size_toArray, El.len]
    have hl := El.len d
    rw [List.getElem?_eq_getElem (by omega), getElem!_pos _ _ (by simp; omega)]
    simp
  · rw [List.getElem?_eq_none (by simp [madeCells]; omega), List.getElem?_eq_none (by rw [flatE_length, List.length_replicate]; omega)]
end
theorem take_set_next {α : Type} (M L : List α) (k : Nat) (d : α) (hk : k < M.length) (hL : k < L.length) (h : M.take k = L.take k) : (M.set k (L.getD k d)).take (k + 1) = L.take (k + 1) := by
  rw [List.take_add_one, List.take_set_of_le (Nat.le_refl k), List.getElem?_set_self hk, List.take_add_one, h, List.getD_eq_getElem?_getD, List.getElem?_eq_getElem hL]
  rfl
theorem take_all {α : Type} {M L : List α} {n : Nat} (hM : M.length = n) (hL : L.length = n) (h : M.take n = L.take n) : M = L := by
  rwa [List.take_of_length_le (by omega), List.take_of_length_le (by omega)] at h

/-- Something of many cells goes into a new variable of its own. -/
theorem wpList_store_fresh {P : Program} {ops : Array Oper} {rest : List Oper} {o : Oper} {a : Act} {w : World} {Q : Exit → Act → World → Prop} (hgd : o.guard = none) (T : TypeId) (x y : Operand) (ho : o.op = .store T x y)
    (cs : List Value) (Z : Array Value) (T' : TypeId) (hx : a.eval x = .pointer (some ⟨w.heap.size, 0, none⟩)) (hy : a.eval y = .agg cs.toArray) (hi : (P.info? T).map (·.size) = some cs.toArray.size) (hz : Z.size = cs.toArray.size) (h1 : cs.toArray.all (·.oneCell') = true)
    (h : ∀ w', Hid (Blk w' w.heap.size cs) → Hid (Below w.heap.size w w') → wpList P ops Q rest (a.put o.dst undef) w') : wpList P ops Q (o :: rest) a (w.alloc (.cells Z T')) :=
  wpList_store_row hgd T x y ho w.heap.size cs.toArray hx hy T' Z (heap_alloc_new _ _) hi hz h1
    (h _ (Blk.row (cs := Z.toList) ⟨_, heap_alloc_new _ _⟩) (below_setRow ((Below.refl _ _).alloc (Nat.le_refl _) _) (Nat.le_refl _) _))
end Go.Proofs.YtlaifphedhaemaaGreatDoor
namespace Go.Proofs.YtlaifphedhaemaaGreatDoor
open Go.ChangeShapes Go.WideShapes Go.ChangeAt Go.RowKit
open Go.Lib (compactUpTo)

theorem follows_mixed : Hid (Tryz.prog.follows .mixedOrders = true) := by show _ = _; kernel_rfl
theorem und_pt : Hid (Tryz.prog.underlying 53 = some (.struct #[{ name := "Tx", type := 23, offset := 0, embedded := false, tag := "", pkgPath := "", byteOffset := 0 }, { name := "N", type := 3, offset := 32, embedded := false, tag := "", pkgPath := "", byteOffset := 32 }])) := Tryz.underlying53

set_option maxRecDepth 100000 in
set_option maxHeartbeats 4000000 in
theorem sort_any (a : Option Addr) (n cap : Nat) (l : List Pt) (w : World) (hp : Pts w a n cap l) (hn : n ≤ 100000) :
    Calls Tryz.prog 116 #[.slice a n cap] w fun e w' => ∃ a' m cap' r, e = .returned (.slice a' m cap') ∧ Inc r ∧ (∀ x, x ∈ r ↔ x ∈ l) ∧ Pts w' a' m cap' r ∧ m ≤ n ∧ Below w.heap.size w w' := by
  have HP : Hid (Pts w a n cap l) := hp
  clear hp
  go_enter Tryz.func116, Tryz.ntmps116
  go_wp2_with fail
  refine (inOrder_any a n cap l w HP.out hn).mono ?_
  rintro e w1 ⟨g, l', rfl, hperm, hup, hB, hg, hb1⟩
  have hl' : l'.length = n := by rw [hperm.length_eq, HP.out.len]
  have HI : Hid (Inc (compactUpTo l'.toArray n) ∧ (∀ x, x ∈ compactUpTo l'.toArray n ↔ x ∈ l)) := by
    have hs : l'.toArray.size = n := by simp [hl']
    have hu : Up l'.toArray.toList := by simpa using hup
    refine ⟨(compact_up l'.toArray hu n (by omega)).1, fun x => ?_⟩
    have := compact_mem hu x
    rw [hs] at this
    rw [this]
    simpa using hperm.mem_iff
  have HLE : Hid ((compactUpTo l'.toArray n).length ≤ n) := by
    show _ ≤ _
    unfold compactUpTo
    rw [List.length_map]
    exact Nat.le_trans (List.length_filter_le _ _) (by simp)
  clear hperm hup
  go_wp2_with fail
  refine (compact_any g n l' w1 hl' hB hn).mono ?_
  rintro e w2 ⟨cs, rfl, hB2, hcs, hb2⟩
  have hb : Below w.heap.size w w2 := hb1.trans (hb2.mono hg)
  have HPT : Hid (Pts w2 (some ⟨g, 0, none⟩) (compactUpTo l'.toArray n).length n (compactUpTo l'.toArray n)) := Pts.of_blk hB2 rfl HLE.out (by unfold maxLen; omega) hcs
  clear hB hB2 hcs hb1 hb2 hl' hg
  generalize compactUpTo l'.toArray n = r at *
  go_wp2_with fail
  go_ret
  exact ⟨_, _, _, r, rfl, HI.out.1, HI.out.2, HPT.out, HLE.out, hb⟩

/-- An outpoint goes into a new variable of its own. -/
theorem wpList_store_new {ops : Array Oper} {rest : List Oper} {o : Oper} {a : Act} {w : World} {Q : Exit → Act → World → Prop} (hgd : o.guard = none) (x y : Operand) (ho : o.op = .store 53 x y)
    (p : Pt) (Z : Array Value) (hx : a.eval x = .pointer (some ⟨w.heap.size, 0, none⟩)) (hy : a.eval y = .agg p.cs.toArray) (hz : Z.size = 33)
    (h : ∀ w', Hid (Blk w' w.heap.size p.cs) → Hid (Below w.heap.size w w') → wpList Tryz.prog ops Q rest (a.put o.dst undef) w') : wpList Tryz.prog ops Q (o :: rest) a (w.alloc (.cells Z 53)) :=
  wpList_store_row hgd 53 x y ho w.heap.size p.cs.toArray hx hy 53 Z (heap_alloc_new _ _) (size_pta p) (by rw [hz, List.size_toArray, p.cs_length]) p.cs_all
    (h _ (Blk.row (cs := Z.toList) ⟨_, heap_alloc_new _ _⟩) (below_setRow ((Below.refl _ _).alloc (Nat.le_refl _) _) (Nat.le_refl _) _))
theorem getD_mem {l : List Pt} {k : Nat} (h : k < l.length) : l.getD k default ∈ l := by
  rw [List.getD_eq_getElem?_getD, List.getElem?_eq_getElem h]; exact List.getElem_mem h
theorem mem_getD {l : List Pt} {p : Pt} (h : p ∈ l) : ∃ k, k < l.length ∧ l.getD k default = p := by
  obtain ⟨k, hk, e⟩ := List.getElem_of_mem h
  exact ⟨k, hk, by rw [List.getD_eq_getElem?_getD, List.getElem?_eq_getElem hk]; exact e⟩

end Go.Proofs.YtlaifphedhaemaaGreatDoor
