/- The document's own Sorted. -/
import Derived.Test.YtlgadelcgboeoaaDoorPtE
namespace Go.Proofs.YtlgadelcgboeoaaDoor
open Go.ChangeShapes Go.WideShapes Go.ChangeAt Go.RowKit

theorem still_load_wanted {P : Program} {ops : Array Oper} {o : Oper} {rest : List Oper} {Q : Act → Prop} {a : Act} {w : World} (hw : Region.wanted o (yielded ops a.tmps) = true) (ty : TypeId) (x : Operand) (ho : o.op = .load ty x)
    (b off : Nat) (hx : a.eval x = .pointer (some ⟨b, off, none⟩)) (cs : List Value) (d : TypeDesc) (hc : w.rangeAt b off cs)
    (hu : P.underlying ty = some d) (hd : d.isRow = true) (hi : (P.info? ty).map (·.size) = some cs.length)
    (h : wpStill P ops w Q rest (a.put o.dst (.agg cs.toArray))) : wpStill P ops w Q (o :: rest) a := by
  unfold wpStill
  rw [if_pos hw]
  unfold Oper.still execOp
  simp only [ho, hx, Instr.loadAt, Instr.sureAddr, Sem.run_bind, Sem.run_pure, Result.andThen_ok, run_loadVar_mid w b off ty cs d hc hu hd hi]
  exact ⟨rfl, h⟩

theorem mem_more {l : List Pt} {i : Nat} {y : Pt} (h : i < l.length) : y ∈ l.take (i + 1) ↔ y ∈ l.take i ∨ y = l.getD i default := by
  rw [List.take_add_one, List.getElem?_eq_getElem h, List.mem_append, List.getD_eq_getElem?_getD, List.getElem?_eq_getElem h]
  simp
set_option maxRecDepth 100000 in
set_option maxHeartbeats 8000000 in
theorem refsorted_any (a : Option Addr) (n cap : Nat) (l : List Pt) (w : World) (hp : Pts w a n cap l) (hn : n ≤ 100000) :
    Calls Tryd.prog 11 #[.slice a n cap] w fun e w' => ∃ v s, e = .returned v ∧ Own w' w.heap.size v s ∧ Inc s ∧ (∀ x, x ∈ s ↔ x ∈ l) ∧ s.length ≤ n ∧ Below w.heap.size w w' := by
  have HU := und_pt
  have HMO := follows_mixed
  have HL : Hid (l.length = n) := hp.len
  have HP : Hid (Pts w a n cap l) := hp
  clear hp
  go_enter Tryd.func11, Tryd.ntmps11
  generalize hM : w.heap.size = M
  go_wp2_with fail
  go_loopw [3, 4] (fun v i wr => ∃ (k : Nat) (s : List Pt), k ≤ n ∧ i = .int .i64 k ∧ s.length ≤ k ∧ Hid (Inc s) ∧ Hid (∀ x, x ∈ s ↔ x ∈ l.take k) ∧ Hid (Own wr M v s) ∧ Below M w wr) (fun _ i _ => n - (intOf i).toNat)
  case atStart => exact ⟨0, [], by omega, rfl, Nat.le_refl _, List.Pairwise.nil, (fun x => by simp), Own.nil _ _, Below.refl _ _⟩
  case round =>
    obtain ⟨i, s, hi, rfl, hsi, HI, HM, HO, hbk⟩ := hrel
    have hMw : M ≤ wr.heap.size := by have := hbk.size; omega
    by_cases hlt : i < n
    · have e0 : (0 : Int) ≤ (i : Int) := by omega
      have e1 : (i : Int) < (n : Int) := by omega
      obtain ⟨sa, sc, rfl, hps⟩ := HO.out.pts
      have HPk : Hid (Pts wr a n cap l) := HP.out.below (hM ▸ hbk)
      have HS : Hid (Pts wr sa s.length sc s) := hps
      have hsf := hps.fits
      have hsm := hps.most
      obtain ⟨m, hm⟩ : ∃ m, m = s.length := ⟨_, rfl⟩
      have HSM : Hid (m = s.length) := hm
      rw [← hm] at HS hsf hsi ⊢
      have HB : Hid (Below M w wr) := hbk
      clear hps hbk hm
      go_wp2_with fail
      obtain ⟨x, hx⟩ : ∃ x, x = l.getD i default := ⟨_, rfl⟩
      have HX : Hid (x = l.getD i default) := hx
      obtain ⟨b, o, hab, hc⟩ := HPk.out.at i hlt
      rw [← hx] at hc
      subst hab
      have HCX : Hid (wr.rangeAt b (o + i * 33) x.cs) := hc
      clear hx hc
      generalize wr = w0 at *
      go_loopw [5] (fun t wr => ∃ k : Nat, k ≤ m ∧ t = .int .i64 k ∧ Hid (∀ j, k ≤ j → j < m → ltPt x (s.getD j default) = true) ∧ Below w0.heap.size w0 wr) (fun t _ => (intOf t).toNat)
      case atStart => exact ⟨m, Nat.le_refl _, rfl, (fun j h1 h2 => by omega), Below.refl _ _⟩
      case round =>
        obtain ⟨k, hk, rfl, HGT, hbk⟩ := hrel
        have HBK : Hid (Below w0.heap.size w0 wr) := hbk
        have hws : w0.heap.size ≤ wr.heap.size := hbk.size
        clear hbk
        by_cases hk0 : k = 0
        · have g0 : ¬ 0 < k := by omega
          have HK0 : Hid (k = 0) := hk0
          clear hk0
          go_wp2_with fail
          refine wp_region_noPanic ?_
          refine wp_region_held_drew (S := fun _ => True) HMO.out (trivial) (fun hHeld => ?_)
          refine wpAnyH_take (i := 0) (oi := { dst := some 14, op := .move (.tmp 5), type := 3, pos := "forms.go:297", after := #[], guard := none }) (v := ?_) rfl (by kernel_rfl) (by kernel_rfl) (by kernel_rfl) (fun _ _ _ h => h) (Or.inl ⟨by rfl, ?_⟩) (by assumption) ?_
          rotate_left
          · intro _ _; go_simp; first | done | with_reducible rfl
          simp only [Act.put, List.setIfInBounds_toArray, List.set_cons_zero, List.set_cons_succ]
          refine wpAnyH_take (i := 1) (oi := { dst := some 15, op := .binOp Go.BinOp.gtr 3 (.tmp 14) (.const (.int .i64 0)) 3, type := 4, pos := "forms.go:297", after := #[{ on := 0, ground := .data }], guard := none }) (v := .bool false) rfl (by kernel_rfl) (by kernel_rfl) (by kernel_rfl) (fun _ _ _ h => h) (Or.inl ⟨by rfl, ?_⟩) (by assumption) ?_
          · intro _ _; go_simp
          simp only [Act.put, List.setIfInBounds_toArray, List.set_cons_zero, List.set_cons_succ]
          refine wpAnyH_take (i := 2) (oi := { dst := some 16, op := .move (.tmp 15), type := 4, pos := "forms.go:297", after := #[{ on := 1, ground := .data }], guard := none }) (v := ?_) rfl (by kernel_rfl) (by kernel_rfl) (by kernel_rfl) (fun _ _ _ h => h) (Or.inl ⟨by rfl, ?_⟩) (by assumption) ?_
          rotate_left
          · intro _ _; go_simp; first | done | with_reducible rfl
          simp only [Act.put, List.setIfInBounds_toArray, List.set_cons_zero, List.set_cons_succ]
          refine wpAnyH_take (i := 3) (oi := { dst := some 17, op := .move (.tmp 0), type := 22, pos := "forms.go:297", after := #[{ on := 2, ground := .guard }], guard := some (2, true) }) (v := undef) rfl (by kernel_rfl) (by kernel_rfl) (by kernel_rfl) (fun _ _ _ h => h) (Or.inr ⟨by rfl, rfl⟩) (by assumption) ?_
          simp only [Act.put, List.setIfInBounds_toArray, List.set_cons_zero, List.set_cons_succ]
          refine wpAnyH_take (i := 4) (oi := { dst := some 18, op := .move (.tmp 4), type := 3, pos := "forms.go:297", after := #[{ on := 2, ground := .guard }], guard := some (2, true) }) (v := undef) rfl (by kernel_rfl) (by kernel_rfl) (by kernel_rfl) (fun _ _ _ h => h) (Or.inr ⟨by rfl, rfl⟩) (by assumption) ?_
          simp only [Act.put, List.setIfInBounds_toArray, List.set_cons_zero, List.set_cons_succ]
          refine wpAnyH_take (i := 5) (oi := { dst := some 19, op := .indexAddr 22 (.tmp 17) (.tmp 18), type := 0, pos := "forms.go:297", after := #[{ on := 3, ground := .data }, { on := 4, ground := .data }, { on := 2, ground := .guard }], guard := some (2, true) }) (v := undef) rfl (by kernel_rfl) (by kernel_rfl) (by kernel_rfl) (fun _ _ _ h => h) (Or.inr ⟨by rfl, rfl⟩) (by assumption) ?_
          simp only [Act.put, List.setIfInBounds_toArray, List.set_cons_zero, List.set_cons_succ]
          refine wpAnyH_take (i := 6) (oi := { dst := some 20, op := .load 26 (.tmp 19), type := 26, pos := "forms.go:297", after := #[{ on := 5, ground := .data }, { on := 2, ground := .guard }], guard := some (2, true) }) (v := undef) rfl (by kernel_rfl) (by kernel_rfl) (by kernel_rfl) (fun _ _ _ h => h) (Or.inr ⟨by rfl, rfl⟩) (by assumption) ?_
          simp only [Act.put, List.setIfInBounds_toArray, List.set_cons_zero, List.set_cons_succ]
          refine wpAnyH_take (i := 7) (oi := { dst := some 21, op := .move (.tmp 3), type := 22, pos := "forms.go:297", after := #[{ on := 2, ground := .guard }], guard := some (2, true) }) (v := undef) rfl (by kernel_rfl) (by kernel_rfl) (by kernel_rfl) (fun _ _ _ h => h) (Or.inr ⟨by rfl, rfl⟩) (by assumption) ?_
          simp only [Act.put, List.setIfInBounds_toArray, List.set_cons_zero, List.set_cons_succ]
          refine wpAnyH_take (i := 8) (oi := { dst := some 22, op := .move (.tmp 5), type := 3, pos := "forms.go:297", after := #[{ on := 2, ground := .guard }], guard := some (2, true) }) (v := undef) rfl (by kernel_rfl) (by kernel_rfl) (by kernel_rfl) (fun _ _ _ h => h) (Or.inr ⟨by rfl, rfl⟩) (by assumption) ?_
          simp only [Act.put, List.setIfInBounds_toArray, List.set_cons_zero, List.set_cons_succ]
          refine wpAnyH_take (i := 9) (oi := { dst := some 23, op := .binOp Go.BinOp.sub 3 (.tmp 22) (.const (.int .i64 1)) 3, type := 3, pos := "forms.go:297", after := #[{ on := 8, ground := .data }, { on := 2, ground := .guard }], guard := some (2, true) }) (v := undef) rfl (by kernel_rfl) (by kernel_rfl) (by kernel_rfl) (fun _ _ _ h => h) (Or.inr ⟨by rfl, rfl⟩) (by assumption) ?_
          simp only [Act.put, List.setIfInBounds_toArray, List.set_cons_zero, List.set_cons_succ]
          refine wpAnyH_take (i := 10) (oi := { dst := some 24, op := .indexAddr 22 (.tmp 21) (.tmp 23), type := 0, pos := "forms.go:297", after := #[{ on := 7, ground := .data }, { on := 9, ground := .data }, { on := 2, ground := .guard }], guard := some (2, true) }) (v := undef) rfl (by kernel_rfl) (by kernel_rfl) (by kernel_rfl) (fun _ _ _ h => h) (Or.inr ⟨by rfl, rfl⟩) (by assumption) ?_
          simp only [Act.put, List.setIfInBounds_toArray, List.set_cons_zero, List.set_cons_succ]
          refine wpAnyH_take (i := 11) (oi := { dst := some 25, op := .load 26 (.tmp 24), type := 26, pos := "forms.go:297", after := #[{ on := 10, ground := .data }, { on := 2, ground := .guard }], guard := some (2, true) }) (v := undef) rfl (by kernel_rfl) (by kernel_rfl) (by kernel_rfl) (fun _ _ _ h => h) (Or.inr ⟨by rfl, rfl⟩) (by assumption) ?_
          simp only [Act.put, List.setIfInBounds_toArray, List.set_cons_zero, List.set_cons_succ]
          refine wpAnyH_take (i := 12) (oi := { dst := some 26, op := .call { callee := .value (.func 26), args := #[.tmp 20, .tmp 25], argTypes := #[26, 26] }, type := 4, pos := "forms.go:297", after := #[{ on := 6, ground := .data }, { on := 11, ground := .data }, { on := 2, ground := .chain }, { on := 2, ground := .guard }], guard := some (2, true) }) (v := undef) rfl (by kernel_rfl) (by kernel_rfl) (by kernel_rfl) (fun _ _ _ h => h) (Or.inr ⟨by rfl, rfl⟩) (by assumption) ?_
          simp only [Act.put, List.setIfInBounds_toArray, List.set_cons_zero, List.set_cons_succ]
          refine wpAnyH_take (i := 13) (oi := { dst := some 27, op := .pick (.tmp 16) (.tmp 26) (.const (.bool false)), type := 4, pos := "forms.go:297", after := #[{ on := 2, ground := .data }, { on := 12, ground := .data }], guard := none }) (v := ?_) rfl (by kernel_rfl) (by kernel_rfl) (by kernel_rfl) (fun _ _ _ h => h) (Or.inl ⟨by rfl, ?_⟩) (by assumption) ?_
          rotate_left
          · intro _ _; go_simp; first | done | with_reducible rfl
          simp only [Act.put, List.setIfInBounds_toArray, List.set_cons_zero, List.set_cons_succ]
          refine wpAnyH_done (by kernel_rfl) ?_ _
          refine NoPanic.normal ?_
          clear hHeld g0
          have HB8 : Hid (Below w0.heap.size w0 wr.drew.drew) := HBK.out.drew.drew
          have HINC : Hid (Inc (s.take k ++ [x] ++ s.drop k)) := inc_put HI.out (by rw [← HSM.out]; exact hk) (by rw [← HSM.out]; exact HGT.out) (.inl HK0.out) (.inl HK0.out)
          have HMEM : Hid (∀ y, y ∈ s.take k ++ [x] ++ s.drop k ↔ y ∈ l.take (i + 1)) := fun y => by rw [mem_put, HM.out, mem_more (by rw [HL.out]; exact hlt), ← HX.out]
          clear HBK HGT
          go_wp2_with fail
          refine wp_region_noPanic ?_
          refine wp_region_held_drew (S := fun _ => True) HMO.out (trivial) (fun hHeld => ?_)
          refine wpAnyH_take (i := 0) (oi := { dst := some 30, op := .move (.tmp 5), type := 3, pos := "forms.go:300", after := #[], guard := none }) (v := ?_) rfl (by kernel_rfl) (by kernel_rfl) (by kernel_rfl) (fun _ _ _ h => h) (Or.inl ⟨by rfl, ?_⟩) (by assumption) ?_
          rotate_left
          · intro _ _; go_simp; first | done | with_reducible rfl
          simp only [Act.put, List.setIfInBounds_toArray, List.set_cons_zero, List.set_cons_succ]
          refine wpAnyH_take (i := 1) (oi := { dst := some 31, op := .binOp Go.BinOp.eql 3 (.tmp 30) (.const (.int .i64 0)) 3, type := 4, pos := "forms.go:300", after := #[{ on := 0, ground := .data }], guard := none }) (v := .bool true) rfl (by kernel_rfl) (by kernel_rfl) (by kernel_rfl) (fun _ _ _ h => h) (Or.inl ⟨by rfl, ?_⟩) (by assumption) ?_
          · intro _ _; (have g := HK0.out; go_simp)
          simp only [Act.put, List.setIfInBounds_toArray, List.set_cons_zero, List.set_cons_succ]
          refine wpAnyH_take (i := 2) (oi := { dst := some 32, op := .move (.tmp 31), type := 4, pos := "forms.go:300", after := #[{ on := 1, ground := .data }], guard := none }) (v := ?_) rfl (by kernel_rfl) (by kernel_rfl) (by kernel_rfl) (fun _ _ _ h => h) (Or.inl ⟨by rfl, ?_⟩) (by assumption) ?_
          rotate_left
          · intro _ _; go_simp; first | done | with_reducible rfl
          simp only [Act.put, List.setIfInBounds_toArray, List.set_cons_zero, List.set_cons_succ]
          refine wpAnyH_take (i := 3) (oi := { dst := some 33, op := .move (.tmp 3), type := 22, pos := "forms.go:300", after := #[{ on := 2, ground := .guard }], guard := some (2, false) }) (v := undef) rfl (by kernel_rfl) (by kernel_rfl) (by kernel_rfl) (fun _ _ _ h => h) (Or.inr ⟨by rfl, rfl⟩) (by assumption) ?_
          simp only [Act.put, List.setIfInBounds_toArray, List.set_cons_zero, List.set_cons_succ]
          refine wpAnyH_take (i := 4) (oi := { dst := some 34, op := .move (.tmp 5), type := 3, pos := "forms.go:300", after := #[{ on := 2, ground := .guard }], guard := some (2, false) }) (v := undef) rfl (by kernel_rfl) (by kernel_rfl) (by kernel_rfl) (fun _ _ _ h => h) (Or.inr ⟨by rfl, rfl⟩) (by assumption) ?_
          simp only [Act.put, List.setIfInBounds_toArray, List.set_cons_zero, List.set_cons_succ]
          refine wpAnyH_take (i := 5) (oi := { dst := some 35, op := .binOp Go.BinOp.sub 3 (.tmp 34) (.const (.int .i64 1)) 3, type := 3, pos := "forms.go:300", after := #[{ on := 4, ground := .data }, { on := 2, ground := .guard }], guard := some (2, false) }) (v := undef) rfl (by kernel_rfl) (by kernel_rfl) (by kernel_rfl) (fun _ _ _ h => h) (Or.inr ⟨by rfl, rfl⟩) (by assumption) ?_
          simp only [Act.put, List.setIfInBounds_toArray, List.set_cons_zero, List.set_cons_succ]
          refine wpAnyH_take (i := 6) (oi := { dst := some 36, op := .indexAddr 22 (.tmp 33) (.tmp 35), type := 0, pos := "forms.go:300", after := #[{ on := 3, ground := .data }, { on := 5, ground := .data }, { on := 2, ground := .guard }], guard := some (2, false) }) (v := undef) rfl (by kernel_rfl) (by kernel_rfl) (by kernel_rfl) (fun _ _ _ h => h) (Or.inr ⟨by rfl, rfl⟩) (by assumption) ?_
          simp only [Act.put, List.setIfInBounds_toArray, List.set_cons_zero, List.set_cons_succ]
          refine wpAnyH_take (i := 7) (oi := { dst := some 37, op := .load 26 (.tmp 36), type := 26, pos := "forms.go:300", after := #[{ on := 6, ground := .data }, { on := 2, ground := .guard }], guard := some (2, false) }) (v := undef) rfl (by kernel_rfl) (by kernel_rfl) (by kernel_rfl) (fun _ _ _ h => h) (Or.inr ⟨by rfl, rfl⟩) (by assumption) ?_
          simp only [Act.put, List.setIfInBounds_toArray, List.set_cons_zero, List.set_cons_succ]
          refine wpAnyH_take (i := 8) (oi := { dst := some 38, op := .move (.tmp 0), type := 22, pos := "forms.go:300", after := #[{ on := 2, ground := .guard }], guard := some (2, false) }) (v := undef) rfl (by kernel_rfl) (by kernel_rfl) (by kernel_rfl) (fun _ _ _ h => h) (Or.inr ⟨by rfl, rfl⟩) (by assumption) ?_
          simp only [Act.put, List.setIfInBounds_toArray, List.set_cons_zero, List.set_cons_succ]
          refine wpAnyH_take (i := 9) (oi := { dst := some 39, op := .move (.tmp 4), type := 3, pos := "forms.go:300", after := #[{ on := 2, ground := .guard }], guard := some (2, false) }) (v := undef) rfl (by kernel_rfl) (by kernel_rfl) (by kernel_rfl) (fun _ _ _ h => h) (Or.inr ⟨by rfl, rfl⟩) (by assumption) ?_
          simp only [Act.put, List.setIfInBounds_toArray, List.set_cons_zero, List.set_cons_succ]
          refine wpAnyH_take (i := 10) (oi := { dst := some 40, op := .indexAddr 22 (.tmp 38) (.tmp 39), type := 0, pos := "forms.go:300", after := #[{ on := 8, ground := .data }, { on := 9, ground := .data }, { on := 2, ground := .guard }], guard := some (2, false) }) (v := undef) rfl (by kernel_rfl) (by kernel_rfl) (by kernel_rfl) (fun _ _ _ h => h) (Or.inr ⟨by rfl, rfl⟩) (by assumption) ?_
          simp only [Act.put, List.setIfInBounds_toArray, List.set_cons_zero, List.set_cons_succ]
          refine wpAnyH_take (i := 11) (oi := { dst := some 41, op := .load 26 (.tmp 40), type := 26, pos := "forms.go:300", after := #[{ on := 10, ground := .data }, { on := 2, ground := .guard }], guard := some (2, false) }) (v := undef) rfl (by kernel_rfl) (by kernel_rfl) (by kernel_rfl) (fun _ _ _ h => h) (Or.inr ⟨by rfl, rfl⟩) (by assumption) ?_
          simp only [Act.put, List.setIfInBounds_toArray, List.set_cons_zero, List.set_cons_succ]
          refine wpAnyH_take (i := 12) (oi := { dst := some 42, op := .binOp Go.BinOp.neq 26 (.tmp 37) (.tmp 41) 26, type := 4, pos := "forms.go:300", after := #[{ on := 7, ground := .data }, { on := 11, ground := .data }, { on := 2, ground := .guard }], guard := some (2, false) }) (v := undef) rfl (by kernel_rfl) (by kernel_rfl) (by kernel_rfl) (fun _ _ _ h => h) (Or.inr ⟨by rfl, rfl⟩) (by assumption) ?_
          simp only [Act.put, List.setIfInBounds_toArray, List.set_cons_zero, List.set_cons_succ]
          refine wpAnyH_take (i := 13) (oi := { dst := some 43, op := .pick (.tmp 32) (.const (.bool true)) (.tmp 42), type := 4, pos := "forms.go:300", after := #[{ on := 2, ground := .data }, { on := 12, ground := .data }], guard := none }) (v := ?_) rfl (by kernel_rfl) (by kernel_rfl) (by kernel_rfl) (fun _ _ _ h => h) (Or.inl ⟨by rfl, ?_⟩) (by assumption) ?_
          rotate_left
          · intro _ _; go_simp; first | done | with_reducible rfl
          simp only [Act.put, List.setIfInBounds_toArray, List.set_cons_zero, List.set_cons_succ]
          refine wpAnyH_done (by kernel_rfl) ?_ _
          refine NoPanic.normal ?_
          clear hHeld
          go_wp2_with fail
          obtain ⟨wq, hwq⟩ : ∃ wq, wq = wr.drew.drew := ⟨_, rfl⟩
          rw [← hwq]
          have HBQ : Hid (Below w0.heap.size w0 wq) := by rw [hwq]; exact HB8.out
          clear hwq HB8
          have hq0 : w0.heap.size ≤ wq.heap.size := HBQ.out.size
          have HLX : Hid (∀ w', Below wq.heap.size wq w' → w'.rangeAt b (o + i * 33) x.cs) := fun w' hw' => rangeAt_below HCX.out (HBQ.out.trans (hw'.mono hq0)) (Nat.le_refl _)
          have HTK : Hid (∀ w', Below wq.heap.size wq w' → Pts w' sa k sc (s.take k)) := fun w' hw' => (HS.out.below (HBQ.out.trans (hw'.mono hq0))).take k hk
          obtain ⟨adr, hadr⟩ : ∃ r, (if sc = k then sa else Option.map (fun x => x.add (k * 33)) sa) = r := ⟨_, rfl⟩
          have HDR : Hid (∀ w', Below wq.heap.size wq w' → Pts w' adr (m - k) (sc - k) (s.drop k)) := fun w' hw' => (HS.out.below (HBQ.out.trans (hw'.mono hq0))).drop k hk adr (adr_none HS.out.bare hadr) (fun b o e h => by rw [← hadr, if_neg (by omega), e]; simp [Addr.add_mid])
          have htl : (s.take k).length ≤ k := by rw [List.length_take]; omega
          have hdl : (s.drop k).length ≤ m := by rw [List.length_drop, ← HSM.out]; omega
          have e2 : (0 : Int) ≤ (k : Int) := by omega
          have e3 : (k : Int) ≤ (m : Int) := by omega
          have e4 : (k : Int) ≤ (sc : Int) := by omega
          have e5 : (m : Int) ≤ (sc : Int) := by omega
          have u26 := HU.out
          have ix := size_pt x
          have HE := HBQ
          refine wp_region_noPanic ?_
          refine wp_region_held_drew (S := fun w' => Below wq.heap.size wq w') HMO.out ((Below.refl _ _).drew) (fun hHeld => ?_)
          refine wpAnyH_take (i := 1) (oi := { dst := some 45, op := .move (.tmp 3), type := 22, pos := "forms.go:301", after := #[], guard := none }) (v := ?_) rfl (by kernel_rfl) (by kernel_rfl) (by kernel_rfl) (fun _ _ _ h => h) (Or.inl ⟨by rfl, ?_⟩) (by assumption) ?_
          rotate_left
          · intro _ _; go_simp; first | done | with_reducible rfl
          simp only [Act.put, List.setIfInBounds_toArray, List.set_cons_zero, List.set_cons_succ]
          refine wpAnyH_take (i := 2) (oi := { dst := some 46, op := .move (.tmp 5), type := 3, pos := "forms.go:301", after := #[], guard := none }) (v := ?_) rfl (by kernel_rfl) (by kernel_rfl) (by kernel_rfl) (fun _ _ _ h => h) (Or.inl ⟨by rfl, ?_⟩) (by assumption) ?_
          rotate_left
          · intro _ _; go_simp; first | done | with_reducible rfl
          simp only [Act.put, List.setIfInBounds_toArray, List.set_cons_zero, List.set_cons_succ]
          refine wpAnyH_take (i := 3) (oi := { dst := some 47, op := .slice 22 (.tmp 45) none (some (.tmp 46)) none, type := 22, pos := "forms.go:301", after := #[{ on := 1, ground := .data }, { on := 2, ground := .data }], guard := none }) (v := ?_) rfl (by kernel_rfl) (by kernel_rfl) (by kernel_rfl) (fun _ _ _ h => h) (Or.inl ⟨by rfl, ?_⟩) (by assumption) ?_
          rotate_left
          · intro _ _; go_simp; first | done | with_reducible rfl
          simp only [Act.put, List.setIfInBounds_toArray, List.set_cons_zero, List.set_cons_succ]
          refine wpAnyH_take (i := 5) (oi := { dst := some 49, op := .move (.tmp 0), type := 22, pos := "forms.go:301", after := #[], guard := none }) (v := ?_) rfl (by kernel_rfl) (by kernel_rfl) (by kernel_rfl) (fun _ _ _ h => h) (Or.inl ⟨by rfl, ?_⟩) (by assumption) ?_
          rotate_left
          · intro _ _; go_simp; first | done | with_reducible rfl
          simp only [Act.put, List.setIfInBounds_toArray, List.set_cons_zero, List.set_cons_succ]
          refine wpAnyH_take (i := 6) (oi := { dst := some 50, op := .move (.tmp 4), type := 3, pos := "forms.go:301", after := #[], guard := none }) (v := ?_) rfl (by kernel_rfl) (by kernel_rfl) (by kernel_rfl) (fun _ _ _ h => h) (Or.inl ⟨by rfl, ?_⟩) (by assumption) ?_
          rotate_left
          · intro _ _; go_simp; first | done | with_reducible rfl
          simp only [Act.put, List.setIfInBounds_toArray, List.set_cons_zero, List.set_cons_succ]
          refine wpAnyH_take (i := 7) (oi := { dst := some 51, op := .indexAddr 22 (.tmp 49) (.tmp 50), type := 0, pos := "forms.go:301", after := #[{ on := 5, ground := .data }, { on := 6, ground := .data }], guard := none }) (v := ?_) rfl (by kernel_rfl) (by kernel_rfl) (by kernel_rfl) (fun _ _ _ h => h) (Or.inl ⟨by rfl, ?_⟩) (by assumption) ?_
          rotate_left
          · intro _ _; go_simp; first | done | with_reducible rfl
          simp only [Act.put, List.setIfInBounds_toArray, List.set_cons_zero, List.set_cons_succ]
          refine wpAnyH_take (i := 8) (oi := { dst := some 52, op := .load 26 (.tmp 51), type := 26, pos := "forms.go:301", after := #[{ on := 7, ground := .data }], guard := none }) (v := _) rfl (by kernel_rfl) (by kernel_rfl) (by kernel_rfl) (fun _ _ _ h => h) (yieldsIf_load_mid (by rfl) _ _ rfl (b) (o + i * 33) rfl (x.cs) _ (fun _ h => HLX.out _ h) (u26) rfl (ix)) (by assumption) ?_
          simp only [Act.put, List.setIfInBounds_toArray, List.set_cons_zero, List.set_cons_succ]
          refine wpAnyH_take (i := 11) (oi := { dst := some 55, op := .move (.tmp 3), type := 22, pos := "forms.go:301", after := #[], guard := none }) (v := ?_) rfl (by kernel_rfl) (by kernel_rfl) (by kernel_rfl) (fun _ _ _ h => h) (Or.inl ⟨by rfl, ?_⟩) (by assumption) ?_
          rotate_left
          · intro _ _; go_simp; first | done | with_reducible rfl
          simp only [Act.put, List.setIfInBounds_toArray, List.set_cons_zero, List.set_cons_succ]
          refine wpAnyH_take (i := 12) (oi := { dst := some 56, op := .move (.tmp 5), type := 3, pos := "forms.go:301", after := #[], guard := none }) (v := ?_) rfl (by kernel_rfl) (by kernel_rfl) (by kernel_rfl) (fun _ _ _ h => h) (Or.inl ⟨by rfl, ?_⟩) (by assumption) ?_
          rotate_left
          · intro _ _; go_simp; first | done | with_reducible rfl
          simp only [Act.put, List.setIfInBounds_toArray, List.set_cons_zero, List.set_cons_succ]
          refine wpAnyH_take (i := 13) (oi := { dst := some 57, op := .slice 22 (.tmp 55) (some (.tmp 56)) none none, type := 22, pos := "forms.go:301", after := #[{ on := 11, ground := .data }, { on := 12, ground := .data }], guard := none }) (v := ?_) rfl (by kernel_rfl) (by kernel_rfl) (by kernel_rfl) (fun _ _ _ h => h) (Or.inl ⟨by rfl, ?_⟩) (by assumption) ?_
          rotate_left
          · intro _ _; go_simp; first | done | with_reducible rfl
          simp only [Act.put, List.setIfInBounds_toArray, List.set_cons_zero, List.set_cons_succ]
          refine wpAnyH_ready (rs := [0, 9]) (by kernel_rfl) (by simp) ?_
          refine (AllReadyH.cons (o := { dst := some 44, op := .buildSlice 22 0 #[], type := 22, pos := "forms.go:301", after := #[], guard := none }) rfl (fun K hK => ?_) (AllReadyH.cons (o := { dst := some 53, op := .buildSlice 22 1 #[(0, .tmp 52)], type := 22, pos := "forms.go:301", after := #[{ on := 8, ground := .data }], guard := none }) rfl (fun K hK => ?_) AllReadyH.nil))
          · refine step_build_none rfl rfl ?_; intro wz HOZ HEZ; have HOC : Hid (Own wz wq.heap.size _ []) := HOZ.out.less hHeld.size
            simp only [Act.put, List.setIfInBounds_toArray, List.set_cons_zero, List.set_cons_succ]
            refine hK.out _ _ ((show Below _ _ wz by rw [HEZ.out]; exact hHeld.alloc hHeld.size _)) (fun hHeld => ?_)
            clear hK K
            refine wpAnyH_ready (rs := [4, 9]) (by kernel_rfl) (by simp) ?_
            refine (AllReadyH.cons (o := { dst := some 48, op := .call { callee := .builtin Go.Builtin.append, args := #[.tmp 44, .tmp 47], argTypes := #[22, 22] }, type := 22, pos := "forms.go:301", after := #[{ on := 0, ground := .data }, { on := 3, ground := .data }], guard := none }) rfl (fun K hK => ?_) (AllReadyH.cons (o := { dst := some 53, op := .buildSlice 22 1 #[(0, .tmp 52)], type := 22, pos := "forms.go:301", after := #[{ on := 8, ground := .data }], guard := none }) rfl (fun K hK => ?_) AllReadyH.nil))
            · refine step_append_pts rfl _ _ rfl wq.heap.size _ [] rfl HOC.out _ k sc (s.take k) rfl (HTK.out _ hHeld) (by simp; omega) hHeld.size ?_; intro v1 wp HO1 HG1
              simp only [Act.put, List.setIfInBounds_toArray, List.set_cons_zero, List.set_cons_succ]
              refine hK.out _ _ (hHeld.trans (HOC.out.grown HG1.out hHeld.size)) (fun hHeld => ?_)
              clear hK K
              refine wpAnyH_ready (rs := [9]) (by kernel_rfl) (by simp) ?_
              refine AllReadyH.cons (o := { dst := some 53, op := .buildSlice 22 1 #[(0, .tmp 52)], type := 22, pos := "forms.go:301", after := #[{ on := 8, ground := .data }], guard := none }) rfl (fun K hK => ?_) AllReadyH.nil
              refine step_build_one rfl _ rfl x rfl ?_; intro wb HLIT HEB; have HOCX : Hid (Own wb wq.heap.size v1 ([] ++ s.take k)) := HO1.out.below (by rw [HEB.out]; exact (Below.refl _ _).alloc (Nat.le_refl _) _)
              simp only [Act.put, List.setIfInBounds_toArray, List.set_cons_zero, List.set_cons_succ]
              refine hK.out _ _ ((show Below _ _ wb by rw [HEB.out]; exact hHeld.alloc hHeld.size _)) (fun hHeld => ?_)
              clear hK K
              refine wpAnyH_ready (rs := [10]) (by kernel_rfl) (by simp) ?_
              refine AllReadyH.cons (o := { dst := some 54, op := .call { callee := .builtin Go.Builtin.append, args := #[.tmp 48, .tmp 53], argTypes := #[22, 22] }, type := 22, pos := "forms.go:301", after := #[{ on := 4, ground := .data }, { on := 9, ground := .data }, { on := 4, ground := .chain }], guard := none }) rfl (fun K hK => ?_) AllReadyH.nil
              refine step_append_pts rfl _ _ rfl wq.heap.size _ ([] ++ s.take k) rfl HOCX.out _ 1 1 [x] rfl HLIT.out (by simp; omega) hHeld.size ?_; intro v2 w5 HO2 HG2
              simp only [Act.put, List.setIfInBounds_toArray, List.set_cons_zero, List.set_cons_succ]
              refine hK.out _ _ (hHeld.trans (HOCX.out.grown HG2.out hHeld.size)) (fun hHeld => ?_)
              clear hK K
              refine wpAnyH_ready (rs := [14]) (by kernel_rfl) (by simp) ?_
              refine AllReadyH.cons (o := { dst := some 58, op := .call { callee := .builtin Go.Builtin.append, args := #[.tmp 54, .tmp 57], argTypes := #[22, 22] }, type := 22, pos := "forms.go:301", after := #[{ on := 10, ground := .data }, { on := 13, ground := .data }, { on := 10, ground := .chain }], guard := none }) rfl (fun K hK => ?_) AllReadyH.nil
              refine step_append_pts rfl _ _ rfl wq.heap.size _ ([] ++ s.take k ++ [x]) rfl HO2.out _ (m - k) (sc - k) (s.drop k) rfl (HDR.out _ hHeld) (by simp; omega) hHeld.size ?_; intro v3 w6 HO3 HG3
              simp only [Act.put, List.setIfInBounds_toArray, List.set_cons_zero, List.set_cons_succ]
              refine hK.out _ _ (hHeld.trans (HO2.out.grown HG3.out hHeld.size)) (fun hHeld => ?_)
              clear hK K
              refine wpAnyH_take (i := 15) (oi := { dst := some 3, op := .assign (.tmp 58), type := 22, pos := "forms.go:301", after := #[{ on := 14, ground := .data }, { on := 14, ground := .chain }, { on := 0, ground := .phase }, { on := 1, ground := .phase }, { on := 2, ground := .phase }, { on := 3, ground := .phase }, { on := 4, ground := .phase }, { on := 5, ground := .phase }, { on := 6, ground := .phase }, { on := 7, ground := .phase }, { on := 8, ground := .phase }, { on := 9, ground := .phase }, { on := 10, ground := .phase }, { on := 11, ground := .phase }, { on := 12, ground := .phase }, { on := 13, ground := .phase }, { on := 14, ground := .phase }], guard := none }) (v := ?_) rfl (by kernel_rfl) (by kernel_rfl) (by kernel_rfl) (fun _ _ _ h => h) (Or.inl ⟨by rfl, ?_⟩) (by assumption) ?_
              rotate_left
              · intro _ _; go_simp; first | done | with_reducible rfl
              simp only [Act.put, List.setIfInBounds_toArray, List.set_cons_zero, List.set_cons_succ]
              refine wpAnyH_done (by kernel_rfl) ?_ _
              refine NoPanic.normal ?_
              have HEND : Hid (Own w6 M v3 (s.take k ++ [x] ++ s.drop k) ∧ Below M w w6) := ⟨HO3.out.less (by omega), HB.out.trans ((HBQ.out.trans (hHeld.mono hq0)).mono hMw)⟩
              clear hHeld HO3 HG3
              go_wp2_with fail
              go_roundw
              case rel => exact ⟨i + 1, _, by omega, by go_num, by have := HSM.out; simp; omega, HINC.out, HMEM.out, HEND.out.1, HEND.out.2⟩
              case measure => simp [intOf]; omega
            · refine step_build_one rfl _ rfl x rfl ?_; intro wb HLITB HEB; have HOC2 : Hid (Own wb wq.heap.size _ []) := HOC.out.below (by rw [HEB.out]; exact (Below.refl _ _).alloc (Nat.le_refl _) _)
              simp only [Act.put, List.setIfInBounds_toArray, List.set_cons_zero, List.set_cons_succ]
              refine hK.out _ _ ((show Below _ _ wb by rw [HEB.out]; exact hHeld.alloc hHeld.size _)) (fun hHeld => ?_)
              clear hK K
              refine wpAnyH_ready (rs := [4]) (by kernel_rfl) (by simp) ?_
              refine AllReadyH.cons (o := { dst := some 48, op := .call { callee := .builtin Go.Builtin.append, args := #[.tmp 44, .tmp 47], argTypes := #[22, 22] }, type := 22, pos := "forms.go:301", after := #[{ on := 0, ground := .data }, { on := 3, ground := .data }], guard := none }) rfl (fun K hK => ?_) AllReadyH.nil
              refine step_append_pts rfl _ _ rfl wq.heap.size (.slice (some ⟨wq.heap.size, 0, none⟩) 0 0) [] rfl HOC2.out _ k sc (s.take k) rfl (HTK.out _ hHeld) (by simp; omega) hHeld.size ?_; intro v1 wp HOCX HG1; have HLIT : Hid (Pts wp _ 1 1 [x]) := HLITB.out.kept HG1.out (by rw [HEZ.out]; simp [Value.ownBlock])
              simp only [Act.put, List.setIfInBounds_toArray, List.set_cons_zero, List.set_cons_succ]
              refine hK.out _ _ (hHeld.trans (HOC2.out.grown HG1.out hHeld.size)) (fun hHeld => ?_)
              clear hK K
              refine wpAnyH_ready (rs := [10]) (by kernel_rfl) (by simp) ?_
              refine AllReadyH.cons (o := { dst := some 54, op := .call { callee := .builtin Go.Builtin.append, args := #[.tmp 48, .tmp 53], argTypes := #[22, 22] }, type := 22, pos := "forms.go:301", after := #[{ on := 4, ground := .data }, { on := 9, ground := .data }, { on := 4, ground := .chain }], guard := none }) rfl (fun K hK => ?_) AllReadyH.nil
              refine step_append_pts rfl _ _ rfl wq.heap.size _ ([] ++ s.take k) rfl HOCX.out _ 1 1 [x] rfl HLIT.out (by simp; omega) hHeld.size ?_; intro v2 w5 HO2 HG2
              simp only [Act.put, List.setIfInBounds_toArray, List.set_cons_zero, List.set_cons_succ]
              refine hK.out _ _ (hHeld.trans (HOCX.out.grown HG2.out hHeld.size)) (fun hHeld => ?_)
              clear hK K
              refine wpAnyH_ready (rs := [14]) (by kernel_rfl) (by simp) ?_
              refine AllReadyH.cons (o := { dst := some 58, op := .call { callee := .builtin Go.Builtin.append, args := #[.tmp 54, .tmp 57], argTypes := #[22, 22] }, type := 22, pos := "forms.go:301", after := #[{ on := 10, ground := .data }, { on := 13, ground := .data }, { on := 10, ground := .chain }], guard := none }) rfl (fun K hK => ?_) AllReadyH.nil
              refine step_append_pts rfl _ _ rfl wq.heap.size _ ([] ++ s.take k ++ [x]) rfl HO2.out _ (m - k) (sc - k) (s.drop k) rfl (HDR.out _ hHeld) (by simp; omega) hHeld.size ?_; intro v3 w6 HO3 HG3
              simp only [Act.put, List.setIfInBounds_toArray, List.set_cons_zero, List.set_cons_succ]
              refine hK.out _ _ (hHeld.trans (HO2.out.grown HG3.out hHeld.size)) (fun hHeld => ?_)
              clear hK K
              refine wpAnyH_take (i := 15) (oi := { dst := some 3, op := .assign (.tmp 58), type := 22, pos := "forms.go:301", after := #[{ on := 14, ground := .data }, { on := 14, ground := .chain }, { on := 0, ground := .phase }, { on := 1, ground := .phase }, { on := 2, ground := .phase }, { on := 3, ground := .phase }, { on := 4, ground := .phase }, { on := 5, ground := .phase }, { on := 6, ground := .phase }, { on := 7, ground := .phase }, { on := 8, ground := .phase }, { on := 9, ground := .phase }, { on := 10, ground := .phase }, { on := 11, ground := .phase }, { on := 12, ground := .phase }, { on := 13, ground := .phase }, { on := 14, ground := .phase }], guard := none }) (v := ?_) rfl (by kernel_rfl) (by kernel_rfl) (by kernel_rfl) (fun _ _ _ h => h) (Or.inl ⟨by rfl, ?_⟩) (by assumption) ?_
              rotate_left
              · intro _ _; go_simp; first | done | with_reducible rfl
              simp only [Act.put, List.setIfInBounds_toArray, List.set_cons_zero, List.set_cons_succ]
              refine wpAnyH_done (by kernel_rfl) ?_ _
              refine NoPanic.normal ?_
              have HEND : Hid (Own w6 M v3 (s.take k ++ [x] ++ s.drop k) ∧ Below M w w6) := ⟨HO3.out.less (by omega), HB.out.trans ((HBQ.out.trans (hHeld.mono hq0)).mono hMw)⟩
              clear hHeld HO3 HG3
              go_wp2_with fail
              go_roundw
              case rel => exact ⟨i + 1, _, by omega, by go_num, by have := HSM.out; simp; omega, HINC.out, HMEM.out, HEND.out.1, HEND.out.2⟩
              case measure => simp [intOf]; omega
          · refine step_build_one rfl _ rfl x rfl ?_; intro wb HLITB HEB
            simp only [Act.put, List.setIfInBounds_toArray, List.set_cons_zero, List.set_cons_succ]
            refine hK.out _ _ ((show Below _ _ wb by rw [HEB.out]; exact hHeld.alloc hHeld.size _)) (fun hHeld => ?_)
            clear hK K
            refine wpAnyH_ready (rs := [0]) (by kernel_rfl) (by simp) ?_
            refine AllReadyH.cons (o := { dst := some 44, op := .buildSlice 22 0 #[], type := 22, pos := "forms.go:301", after := #[], guard := none }) rfl (fun K hK => ?_) AllReadyH.nil
            refine step_build_none rfl rfl ?_; intro wz HOZ HEZ; have HOC2 : Hid (Own wz wq.heap.size _ []) := HOZ.out.less hHeld.size; have HLITZ : Hid (Pts wz _ 1 1 [x]) := HLITB.out.below (by rw [HEZ.out]; exact (Below.refl _ _).alloc (Nat.le_refl _) _)
            simp only [Act.put, List.setIfInBounds_toArray, List.set_cons_zero, List.set_cons_succ]
            refine hK.out _ _ ((show Below _ _ wz by rw [HEZ.out]; exact hHeld.alloc hHeld.size _)) (fun hHeld => ?_)
            clear hK K
            refine wpAnyH_ready (rs := [4]) (by kernel_rfl) (by simp) ?_
            refine AllReadyH.cons (o := { dst := some 48, op := .call { callee := .builtin Go.Builtin.append, args := #[.tmp 44, .tmp 47], argTypes := #[22, 22] }, type := 22, pos := "forms.go:301", after := #[{ on := 0, ground := .data }, { on := 3, ground := .data }], guard := none }) rfl (fun K hK => ?_) AllReadyH.nil
            refine step_append_pts rfl _ _ rfl wq.heap.size (.slice (some ⟨wb.heap.size, 0, none⟩) 0 0) [] rfl HOC2.out _ k sc (s.take k) rfl (HTK.out _ hHeld) (by simp; omega) hHeld.size ?_; intro v1 wp HOCX HG1; have HLIT : Hid (Pts wp _ 1 1 [x]) := HLITZ.out.kept HG1.out (by rw [HEB.out]; simp [Value.ownBlock])
            simp only [Act.put, List.setIfInBounds_toArray, List.set_cons_zero, List.set_cons_succ]
            refine hK.out _ _ (hHeld.trans (HOC2.out.grown HG1.out hHeld.size)) (fun hHeld => ?_)
            clear hK K
            refine wpAnyH_ready (rs := [10]) (by kernel_rfl) (by simp) ?_
            refine AllReadyH.cons (o := { dst := some 54, op := .call { callee := .builtin Go.Builtin.append, args := #[.tmp 48, .tmp 53], argTypes := #[22, 22] }, type := 22, pos := "forms.go:301", after := #[{ on := 4, ground := .data }, { on := 9, ground := .data }, { on := 4, ground := .chain }], guard := none }) rfl (fun K hK => ?_) AllReadyH.nil
            refine step_append_pts rfl _ _ rfl wq.heap.size _ ([] ++ s.take k) rfl HOCX.out _ 1 1 [x] rfl HLIT.out (by simp; omega) hHeld.size ?_; intro v2 w5 HO2 HG2
            simp only [Act.put, List.setIfInBounds_toArray, List.set_cons_zero, List.set_cons_succ]
            refine hK.out _ _ (hHeld.trans (HOCX.out.grown HG2.out hHeld.size)) (fun hHeld => ?_)
            clear hK K
            refine wpAnyH_ready (rs := [14]) (by kernel_rfl) (by simp) ?_
            refine AllReadyH.cons (o := { dst := some 58, op := .call { callee := .builtin Go.Builtin.append, args := #[.tmp 54, .tmp 57], argTypes := #[22, 22] }, type := 22, pos := "forms.go:301", after := #[{ on := 10, ground := .data }, { on := 13, ground := .data }, { on := 10, ground := .chain }], guard := none }) rfl (fun K hK => ?_) AllReadyH.nil
            refine step_append_pts rfl _ _ rfl wq.heap.size _ ([] ++ s.take k ++ [x]) rfl HO2.out _ (m - k) (sc - k) (s.drop k) rfl (HDR.out _ hHeld) (by simp; omega) hHeld.size ?_; intro v3 w6 HO3 HG3
            simp only [Act.put, List.setIfInBounds_toArray, List.set_cons_zero, List.set_cons_succ]
            refine hK.out _ _ (hHeld.trans (HO2.out.grown HG3.out hHeld.size)) (fun hHeld => ?_)
            clear hK K
            refine wpAnyH_take (i := 15) (oi := { dst := some 3, op := .assign (.tmp 58), type := 22, pos := "forms.go:301", after := #[{ on := 14, ground := .data }, { on := 14, ground := .chain }, { on := 0, ground := .phase }, { on := 1, ground := .phase }, { on := 2, ground := .phase }, { on := 3, ground := .phase }, { on := 4, ground := .phase }, { on := 5, ground := .phase }, { on := 6, ground := .phase }, { on := 7, ground := .phase }, { on := 8, ground := .phase }, { on := 9, ground := .phase }, { on := 10, ground := .phase }, { on := 11, ground := .phase }, { on := 12, ground := .phase }, { on := 13, ground := .phase }, { on := 14, ground := .phase }], guard := none }) (v := ?_) rfl (by kernel_rfl) (by kernel_rfl) (by kernel_rfl) (fun _ _ _ h => h) (Or.inl ⟨by rfl, ?_⟩) (by assumption) ?_
            rotate_left
            · intro _ _; go_simp; first | done | with_reducible rfl
            simp only [Act.put, List.setIfInBounds_toArray, List.set_cons_zero, List.set_cons_succ]
            refine wpAnyH_done (by kernel_rfl) ?_ _
            refine NoPanic.normal ?_
            have HEND : Hid (Own w6 M v3 (s.take k ++ [x] ++ s.drop k) ∧ Below M w w6) := ⟨HO3.out.less (by omega), HB.out.trans ((HBQ.out.trans (hHeld.mono hq0)).mono hMw)⟩
            clear hHeld HO3 HG3
            go_wp2_with fail
            go_roundw
            case rel => exact ⟨i + 1, _, by omega, by go_num, by have := HSM.out; simp; omega, HINC.out, HMEM.out, HEND.out.1, HEND.out.2⟩
            case measure => simp [intOf]; omega
        · have g0 : (0 : Int) < (k : Int) := by omega
          have g1 : (0 : Int) ≤ (k : Int) - 1 := by omega
          have g6 : (1 : Int) ≤ (k : Int) := by omega
          have g7 : 0 < k := by omega
          have g3 : (k : Int) - 1 < (m : Int) := by omega
          have g4 : ((k : Int) - 1).toNat = k - 1 := by omega
          have g5 : IntKind.i64.wrap ((k : Int) - 1) = (k : Int) - 1 := i64_fit (by omega) (by omega)
          obtain ⟨sb, so, hsab, hsc⟩ := HS.out.at (k - 1) (by omega)
          subst hsab
          obtain ⟨y, hy⟩ : ∃ y, y = s.getD (k - 1) default := ⟨_, rfl⟩
          rw [← hy] at hsc
          have HY : Hid (y = s.getD (k - 1) default) := hy
          have HCY : Hid (w0.rangeAt sb (so + (k - 1) * 33) y.cs) := hsc
          clear hy hsc
          have HSK : Hid (∀ w', Below wr.heap.size wr w' → w'.rangeAt b (o + i * 33) x.cs ∧ w'.rangeAt sb (so + (k - 1) * 33) y.cs) := fun w' hw' => ⟨rangeAt_below HCX.out (HBK.out.trans (hw'.mono hws)) (Nat.le_refl _), rangeAt_below HCY.out (HBK.out.trans (hw'.mono hws)) (Nat.le_refl _)⟩
          have u26 := HU.out
          have ix := size_pt x
          have iy := size_pt y
          go_wp2_with fail
          refine wp_region_noPanic ?_
          refine wp_region_held_drew (S := fun w' => w'.rangeAt b (o + i * 33) x.cs ∧ w'.rangeAt sb (so + (k - 1) * 33) y.cs) HMO.out (HSK.out _ (Below.refl _ _).drew) (fun hHeld => ?_)
          refine wpAnyH_take (i := 0) (oi := { dst := some 14, op := .move (.tmp 5), type := 3, pos := "forms.go:297", after := #[], guard := none }) (v := ?_) rfl (by kernel_rfl) (by kernel_rfl) (by kernel_rfl) (fun _ _ _ h => h) (Or.inl ⟨by rfl, ?_⟩) (by assumption) ?_
          rotate_left
          · intro _ _; go_simp; first | done | with_reducible rfl
          simp only [Act.put, List.setIfInBounds_toArray, List.set_cons_zero, List.set_cons_succ]
          refine wpAnyH_take (i := 1) (oi := { dst := some 15, op := .binOp Go.BinOp.gtr 3 (.tmp 14) (.const (.int .i64 0)) 3, type := 4, pos := "forms.go:297", after := #[{ on := 0, ground := .data }], guard := none }) (v := .bool true) rfl (by kernel_rfl) (by kernel_rfl) (by kernel_rfl) (fun _ _ _ h => h) (Or.inl ⟨by rfl, ?_⟩) (by assumption) ?_
          · intro _ _; go_simp
          simp only [Act.put, List.setIfInBounds_toArray, List.set_cons_zero, List.set_cons_succ]
          refine wpAnyH_take (i := 2) (oi := { dst := some 16, op := .move (.tmp 15), type := 4, pos := "forms.go:297", after := #[{ on := 1, ground := .data }], guard := none }) (v := ?_) rfl (by kernel_rfl) (by kernel_rfl) (by kernel_rfl) (fun _ _ _ h => h) (Or.inl ⟨by rfl, ?_⟩) (by assumption) ?_
          rotate_left
          · intro _ _; go_simp; first | done | with_reducible rfl
          simp only [Act.put, List.setIfInBounds_toArray, List.set_cons_zero, List.set_cons_succ]
          refine wpAnyH_take (i := 3) (oi := { dst := some 17, op := .move (.tmp 0), type := 22, pos := "forms.go:297", after := #[{ on := 2, ground := .guard }], guard := some (2, true) }) (v := ?_) rfl (by kernel_rfl) (by kernel_rfl) (by kernel_rfl) (fun _ _ _ h => h) (Or.inl ⟨by rfl, ?_⟩) (by assumption) ?_
          rotate_left
          · intro _ _; go_simp; first | done | with_reducible rfl
          simp only [Act.put, List.setIfInBounds_toArray, List.set_cons_zero, List.set_cons_succ]
          refine wpAnyH_take (i := 4) (oi := { dst := some 18, op := .move (.tmp 4), type := 3, pos := "forms.go:297", after := #[{ on := 2, ground := .guard }], guard := some (2, true) }) (v := ?_) rfl (by kernel_rfl) (by kernel_rfl) (by kernel_rfl) (fun _ _ _ h => h) (Or.inl ⟨by rfl, ?_⟩) (by assumption) ?_
          rotate_left
          · intro _ _; go_simp; first | done | with_reducible rfl
          simp only [Act.put, List.setIfInBounds_toArray, List.set_cons_zero, List.set_cons_succ]
          refine wpAnyH_take (i := 5) (oi := { dst := some 19, op := .indexAddr 22 (.tmp 17) (.tmp 18), type := 0, pos := "forms.go:297", after := #[{ on := 3, ground := .data }, { on := 4, ground := .data }, { on := 2, ground := .guard }], guard := some (2, true) }) (v := ?_) rfl (by kernel_rfl) (by kernel_rfl) (by kernel_rfl) (fun _ _ _ h => h) (Or.inl ⟨by rfl, ?_⟩) (by assumption) ?_
          rotate_left
          · intro _ _; go_simp; first | done | with_reducible rfl
          simp only [Act.put, List.setIfInBounds_toArray, List.set_cons_zero, List.set_cons_succ]
          refine wpAnyH_take (i := 6) (oi := { dst := some 20, op := .load 26 (.tmp 19), type := 26, pos := "forms.go:297", after := #[{ on := 5, ground := .data }, { on := 2, ground := .guard }], guard := some (2, true) }) (v := _) rfl (by kernel_rfl) (by kernel_rfl) (by kernel_rfl) (fun _ _ _ h => h) (yieldsIf_load_mid (by rfl) _ _ rfl (b) (o + i * 33) rfl (x.cs) _ (fun _ h => h.1) (u26) rfl (ix)) (by assumption) ?_
          simp only [Act.put, List.setIfInBounds_toArray, List.set_cons_zero, List.set_cons_succ]
          refine wpAnyH_take (i := 7) (oi := { dst := some 21, op := .move (.tmp 3), type := 22, pos := "forms.go:297", after := #[{ on := 2, ground := .guard }], guard := some (2, true) }) (v := ?_) rfl (by kernel_rfl) (by kernel_rfl) (by kernel_rfl) (fun _ _ _ h => h) (Or.inl ⟨by rfl, ?_⟩) (by assumption) ?_
          rotate_left
          · intro _ _; go_simp; first | done | with_reducible rfl
          simp only [Act.put, List.setIfInBounds_toArray, List.set_cons_zero, List.set_cons_succ]
          refine wpAnyH_take (i := 8) (oi := { dst := some 22, op := .move (.tmp 5), type := 3, pos := "forms.go:297", after := #[{ on := 2, ground := .guard }], guard := some (2, true) }) (v := ?_) rfl (by kernel_rfl) (by kernel_rfl) (by kernel_rfl) (fun _ _ _ h => h) (Or.inl ⟨by rfl, ?_⟩) (by assumption) ?_
          rotate_left
          · intro _ _; go_simp; first | done | with_reducible rfl
          simp only [Act.put, List.setIfInBounds_toArray, List.set_cons_zero, List.set_cons_succ]
          refine wpAnyH_take (i := 9) (oi := { dst := some 23, op := .binOp Go.BinOp.sub 3 (.tmp 22) (.const (.int .i64 1)) 3, type := 3, pos := "forms.go:297", after := #[{ on := 8, ground := .data }, { on := 2, ground := .guard }], guard := some (2, true) }) (v := ?_) rfl (by kernel_rfl) (by kernel_rfl) (by kernel_rfl) (fun _ _ _ h => h) (Or.inl ⟨by rfl, ?_⟩) (by assumption) ?_
          rotate_left
          · intro _ _; go_simp; first | done | with_reducible rfl
          simp only [Act.put, List.setIfInBounds_toArray, List.set_cons_zero, List.set_cons_succ]
          refine wpAnyH_take (i := 10) (oi := { dst := some 24, op := .indexAddr 22 (.tmp 21) (.tmp 23), type := 0, pos := "forms.go:297", after := #[{ on := 7, ground := .data }, { on := 9, ground := .data }, { on := 2, ground := .guard }], guard := some (2, true) }) (v := ?_) rfl (by kernel_rfl) (by kernel_rfl) (by kernel_rfl) (fun _ _ _ h => h) (Or.inl ⟨by rfl, ?_⟩) (by assumption) ?_
          rotate_left
          · intro _ _; go_simp; first | done | with_reducible rfl
          simp only [Act.put, List.setIfInBounds_toArray, List.set_cons_zero, List.set_cons_succ]
          refine wpAnyH_take (i := 11) (oi := { dst := some 25, op := .load 26 (.tmp 24), type := 26, pos := "forms.go:297", after := #[{ on := 10, ground := .data }, { on := 2, ground := .guard }], guard := some (2, true) }) (v := _) rfl (by kernel_rfl) (by kernel_rfl) (by kernel_rfl) (fun _ _ _ h => h) (yieldsIf_load_mid (by rfl) _ _ rfl (sb) (so + (k - 1) * 33) rfl (y.cs) _ (fun _ h => h.2) (u26) rfl (iy)) (by assumption) ?_
          simp only [Act.put, List.setIfInBounds_toArray, List.set_cons_zero, List.set_cons_succ]
          refine wpAnyH_ready (rs := [12]) (by kernel_rfl) (by simp) ?_
          refine AllReadyH.cons (o := { dst := some 26, op := .call { callee := .value (.func 26), args := #[.tmp 20, .tmp 25], argTypes := #[26, 26] }, type := 4, pos := "forms.go:297", after := #[{ on := 6, ground := .data }, { on := 11, ground := .data }, { on := 2, ground := .chain }, { on := 2, ground := .guard }], guard := some (2, true) }) rfl (fun K hK => ?_) AllReadyH.nil
          go_simp
          refine (refpless_any x y _).mono ?_; rintro e w3 ⟨rfl, hb3⟩; have h3 : Below wr.heap.size wr w3 := ⟨hb3.os, hb3.tape, hb3.output, hb3.size, hb3.block⟩
          go_simp
          refine hK.out _ _ (HSK.out _ h3) (fun hHeld => ?_)
          clear hK K
          refine wpAnyH_take (i := 13) (oi := { dst := some 27, op := .pick (.tmp 16) (.tmp 26) (.const (.bool false)), type := 4, pos := "forms.go:297", after := #[{ on := 2, ground := .data }, { on := 12, ground := .data }], guard := none }) (v := ?_) rfl (by kernel_rfl) (by kernel_rfl) (by kernel_rfl) (fun _ _ _ h => h) (Or.inl ⟨by rfl, ?_⟩) (by assumption) ?_
          rotate_left
          · intro _ _; go_simp; first | done | with_reducible rfl
          simp only [Act.put, List.setIfInBounds_toArray, List.set_cons_zero, List.set_cons_succ]
          refine wpAnyH_done (by kernel_rfl) ?_ _
          refine NoPanic.normal ?_
          clear u26 ix iy hHeld
          have HB3 : Hid (Below w0.heap.size w0 w3) := HBK.out.trans (h3.mono hws)
          have hw3 : w0.heap.size ≤ w3.heap.size := by have := h3.size; omega
          clear hb3 h3 HSK HBK
          cases hxy : ltPt x y with
          | true =>
            have HXY : Hid (ltPt x y = true) := hxy
            clear hxy
            go_wp2_with fail
            go_roundw
            case rel =>
              refine ⟨k - 1, by omega, by rw [show ((k - 1 : Nat) : Int) = (k : Int) - 1 by omega], fun j h1 h2 => ?_, HB3.out⟩
              by_cases e : j = k - 1
              · subst e; rw [← HY.out]; exact HXY.out
              · exact HGT.out j (by omega) h2
            case measure => simp [intOf]; omega
          | false =>
            have HXY : Hid (ltPt x y = false) := hxy
            clear hxy
            go_wp2_with fail
            have HSK : Hid (∀ w', Below w3.heap.size w3 w' → w'.rangeAt b (o + i * 33) x.cs ∧ w'.rangeAt sb (so + (k - 1) * 33) y.cs) := fun w' hw' => ⟨rangeAt_below HCX.out (HB3.out.trans (hw'.mono hw3)) (Nat.le_refl _), rangeAt_below HCY.out (HB3.out.trans (hw'.mono hw3)) (Nat.le_refl _)⟩
            have g8 : ((k : Int) == 0) = false := by simpa using hk0
            have g9 : (k == 0) = false := by simpa using hk0
            have q1 : ∀ w', (binOp .neq 26 (.agg y.cs.toArray) (.agg x.cs.toArray)).run Tryd.prog w' = .ok (.bool (!decide (y = x))) w' := neq_pt y x
            have q2 : ∀ (op : BinOp) (u v : Operand) w', (eqGuard op 26 u v (.agg y.cs.toArray) (.agg x.cs.toArray)).run Tryd.prog w' = .ok () w' := fun op u v => guard_pt op u v y x
            have q3 : ∀ w', (Op.equalIn 10000 26 (.agg y.cs.toArray) (.agg x.cs.toArray)).run Tryd.prog w' = .ok (decide (y = x)) w' := equalIn_pt y x
            have u26 := HU.out
            have ix := size_pt x
            have iy := size_pt y
            by_cases hyx : y = x
            · have hd : decide (y = x) = true := decide_eq_true hyx
              rw [hd] at q1 q3
              have HMEM : Hid (∀ z, z ∈ s ↔ z ∈ l.take (i + 1)) := fun z => by
                rw [mem_more (by rw [HL.out]; exact hlt), ← HX.out, ← HM.out]
                refine ⟨.inl, fun h => h.elim id fun e => ?_⟩
                rw [e, ← hyx, HY.out]
                exact getD_mem (by rw [← HSM.out]; omega)
              clear hd hyx
              refine wp_region_noPanic ?_
              refine wp_region_held_drew (S := fun w' => w'.rangeAt b (o + i * 33) x.cs ∧ w'.rangeAt sb (so + (k - 1) * 33) y.cs) HMO.out (HSK.out _ (Below.refl _ _).drew) (fun hHeld => ?_)
              refine wpAnyH_take (i := 0) (oi := { dst := some 30, op := .move (.tmp 5), type := 3, pos := "forms.go:300", after := #[], guard := none }) (v := ?_) rfl (by kernel_rfl) (by kernel_rfl) (by kernel_rfl) (fun _ _ _ h => h) (Or.inl ⟨by rfl, ?_⟩) (by assumption) ?_
              rotate_left
              · intro _ _; go_simp; first | done | with_reducible rfl
              simp only [Act.put, List.setIfInBounds_toArray, List.set_cons_zero, List.set_cons_succ]
              refine wpAnyH_take (i := 1) (oi := { dst := some 31, op := .binOp Go.BinOp.eql 3 (.tmp 30) (.const (.int .i64 0)) 3, type := 4, pos := "forms.go:300", after := #[{ on := 0, ground := .data }], guard := none }) (v := .bool false) rfl (by kernel_rfl) (by kernel_rfl) (by kernel_rfl) (fun _ _ _ h => h) (Or.inl ⟨by rfl, ?_⟩) (by assumption) ?_
              · intro _ _; go_simp
              simp only [Act.put, List.setIfInBounds_toArray, List.set_cons_zero, List.set_cons_succ]
              refine wpAnyH_take (i := 2) (oi := { dst := some 32, op := .move (.tmp 31), type := 4, pos := "forms.go:300", after := #[{ on := 1, ground := .data }], guard := none }) (v := ?_) rfl (by kernel_rfl) (by kernel_rfl) (by kernel_rfl) (fun _ _ _ h => h) (Or.inl ⟨by rfl, ?_⟩) (by assumption) ?_
              rotate_left
              · intro _ _; go_simp; first | done | with_reducible rfl
              simp only [Act.put, List.setIfInBounds_toArray, List.set_cons_zero, List.set_cons_succ]
              refine wpAnyH_take (i := 3) (oi := { dst := some 33, op := .move (.tmp 3), type := 22, pos := "forms.go:300", after := #[{ on := 2, ground := .guard }], guard := some (2, false) }) (v := ?_) rfl (by kernel_rfl) (by kernel_rfl) (by kernel_rfl) (fun _ _ _ h => h) (Or.inl ⟨by rfl, ?_⟩) (by assumption) ?_
              rotate_left
              · intro _ _; go_simp; first | done | with_reducible rfl
              simp only [Act.put, List.setIfInBounds_toArray, List.set_cons_zero, List.set_cons_succ]
              refine wpAnyH_take (i := 4) (oi := { dst := some 34, op := .move (.tmp 5), type := 3, pos := "forms.go:300", after := #[{ on := 2, ground := .guard }], guard := some (2, false) }) (v := ?_) rfl (by kernel_rfl) (by kernel_rfl) (by kernel_rfl) (fun _ _ _ h => h) (Or.inl ⟨by rfl, ?_⟩) (by assumption) ?_
              rotate_left
              · intro _ _; go_simp; first | done | with_reducible rfl
              simp only [Act.put, List.setIfInBounds_toArray, List.set_cons_zero, List.set_cons_succ]
              refine wpAnyH_take (i := 5) (oi := { dst := some 35, op := .binOp Go.BinOp.sub 3 (.tmp 34) (.const (.int .i64 1)) 3, type := 3, pos := "forms.go:300", after := #[{ on := 4, ground := .data }, { on := 2, ground := .guard }], guard := some (2, false) }) (v := ?_) rfl (by kernel_rfl) (by kernel_rfl) (by kernel_rfl) (fun _ _ _ h => h) (Or.inl ⟨by rfl, ?_⟩) (by assumption) ?_
              rotate_left
              · intro _ _; go_simp; first | done | with_reducible rfl
              simp only [Act.put, List.setIfInBounds_toArray, List.set_cons_zero, List.set_cons_succ]
              refine wpAnyH_take (i := 6) (oi := { dst := some 36, op := .indexAddr 22 (.tmp 33) (.tmp 35), type := 0, pos := "forms.go:300", after := #[{ on := 3, ground := .data }, { on := 5, ground := .data }, { on := 2, ground := .guard }], guard := some (2, false) }) (v := ?_) rfl (by kernel_rfl) (by kernel_rfl) (by kernel_rfl) (fun _ _ _ h => h) (Or.inl ⟨by rfl, ?_⟩) (by assumption) ?_
              rotate_left
              · intro _ _; go_simp; first | done | with_reducible rfl
              simp only [Act.put, List.setIfInBounds_toArray, List.set_cons_zero, List.set_cons_succ]
              refine wpAnyH_take (i := 7) (oi := { dst := some 37, op := .load 26 (.tmp 36), type := 26, pos := "forms.go:300", after := #[{ on := 6, ground := .data }, { on := 2, ground := .guard }], guard := some (2, false) }) (v := _) rfl (by kernel_rfl) (by kernel_rfl) (by kernel_rfl) (fun _ _ _ h => h) (yieldsIf_load_mid (by rfl) _ _ rfl (sb) (so + (k - 1) * 33) rfl (y.cs) _ (fun _ h => h.2) (u26) rfl (iy)) (by assumption) ?_
              simp only [Act.put, List.setIfInBounds_toArray, List.set_cons_zero, List.set_cons_succ]
              refine wpAnyH_take (i := 8) (oi := { dst := some 38, op := .move (.tmp 0), type := 22, pos := "forms.go:300", after := #[{ on := 2, ground := .guard }], guard := some (2, false) }) (v := ?_) rfl (by kernel_rfl) (by kernel_rfl) (by kernel_rfl) (fun _ _ _ h => h) (Or.inl ⟨by rfl, ?_⟩) (by assumption) ?_
              rotate_left
              · intro _ _; go_simp; first | done | with_reducible rfl
              simp only [Act.put, List.setIfInBounds_toArray, List.set_cons_zero, List.set_cons_succ]
              refine wpAnyH_take (i := 9) (oi := { dst := some 39, op := .move (.tmp 4), type := 3, pos := "forms.go:300", after := #[{ on := 2, ground := .guard }], guard := some (2, false) }) (v := ?_) rfl (by kernel_rfl) (by kernel_rfl) (by kernel_rfl) (fun _ _ _ h => h) (Or.inl ⟨by rfl, ?_⟩) (by assumption) ?_
              rotate_left
              · intro _ _; go_simp; first | done | with_reducible rfl
              simp only [Act.put, List.setIfInBounds_toArray, List.set_cons_zero, List.set_cons_succ]
              refine wpAnyH_take (i := 10) (oi := { dst := some 40, op := .indexAddr 22 (.tmp 38) (.tmp 39), type := 0, pos := "forms.go:300", after := #[{ on := 8, ground := .data }, { on := 9, ground := .data }, { on := 2, ground := .guard }], guard := some (2, false) }) (v := ?_) rfl (by kernel_rfl) (by kernel_rfl) (by kernel_rfl) (fun _ _ _ h => h) (Or.inl ⟨by rfl, ?_⟩) (by assumption) ?_
              rotate_left
              · intro _ _; go_simp; first | done | with_reducible rfl
              simp only [Act.put, List.setIfInBounds_toArray, List.set_cons_zero, List.set_cons_succ]
              refine wpAnyH_take (i := 11) (oi := { dst := some 41, op := .load 26 (.tmp 40), type := 26, pos := "forms.go:300", after := #[{ on := 10, ground := .data }, { on := 2, ground := .guard }], guard := some (2, false) }) (v := _) rfl (by kernel_rfl) (by kernel_rfl) (by kernel_rfl) (fun _ _ _ h => h) (yieldsIf_load_mid (by rfl) _ _ rfl (b) (o + i * 33) rfl (x.cs) _ (fun _ h => h.1) (u26) rfl (ix)) (by assumption) ?_
              simp only [Act.put, List.setIfInBounds_toArray, List.set_cons_zero, List.set_cons_succ]
              refine wpAnyH_take (i := 12) (oi := { dst := some 42, op := .binOp Go.BinOp.neq 26 (.tmp 37) (.tmp 41) 26, type := 4, pos := "forms.go:300", after := #[{ on := 7, ground := .data }, { on := 11, ground := .data }, { on := 2, ground := .guard }], guard := some (2, false) }) (v := .bool false) rfl (by kernel_rfl) (by kernel_rfl) (by kernel_rfl) (fun _ _ _ h => h) (Or.inl ⟨by rfl, ?_⟩) (by assumption) ?_
              · intro _ _; go_simp
              simp only [Act.put, List.setIfInBounds_toArray, List.set_cons_zero, List.set_cons_succ]
              refine wpAnyH_take (i := 13) (oi := { dst := some 43, op := .pick (.tmp 32) (.const (.bool true)) (.tmp 42), type := 4, pos := "forms.go:300", after := #[{ on := 2, ground := .data }, { on := 12, ground := .data }], guard := none }) (v := ?_) rfl (by kernel_rfl) (by kernel_rfl) (by kernel_rfl) (fun _ _ _ h => h) (Or.inl ⟨by rfl, ?_⟩) (by assumption) ?_
              rotate_left
              · intro _ _; go_simp; first | done | with_reducible rfl
              simp only [Act.put, List.setIfInBounds_toArray, List.set_cons_zero, List.set_cons_succ]
              refine wpAnyH_done (by kernel_rfl) ?_ _
              refine NoPanic.normal ?_
              clear hHeld q1 q2 q3 u26 ix iy HSK g8 g9
              have HOE : Hid (Own w3.drew M (.slice (some ⟨sb, so, none⟩) m sc) s ∧ Below M w w3.drew) := ⟨by have h := HO.out.below HB3.out.drew; rwa [← HSM.out] at h, (HB.out.trans (HB3.out.mono hMw)).drew⟩
              go_wp2_with fail
              go_roundw
              case rel => exact ⟨i + 1, s, by omega, by go_num, by rw [← HSM.out]; omega, HI.out, HMEM.out, HOE.out.1, HOE.out.2⟩
              case measure => simp [intOf]; omega
            · have hd : decide (y = x) = false := decide_eq_false hyx
              rw [hd] at q1 q3
              have HINC : Hid (Inc (s.take k ++ [x] ++ s.drop k)) := inc_put HI.out (by rw [← HSM.out]; exact hk) (by rw [← HSM.out]; exact HGT.out) (.inr (by rw [← HY.out]; exact HXY.out)) (.inr (by rw [← HY.out]; exact hyx))
              have HMEM : Hid (∀ y, y ∈ s.take k ++ [x] ++ s.drop k ↔ y ∈ l.take (i + 1)) := fun y => by rw [mem_put, HM.out, mem_more (by rw [HL.out]; exact hlt), ← HX.out]
              clear hd hyx
              refine wp_region_noPanic ?_
              refine wp_region_held_drew (S := fun w' => w'.rangeAt b (o + i * 33) x.cs ∧ w'.rangeAt sb (so + (k - 1) * 33) y.cs) HMO.out (HSK.out _ (Below.refl _ _).drew) (fun hHeld => ?_)
              refine wpAnyH_take (i := 0) (oi := { dst := some 30, op := .move (.tmp 5), type := 3, pos := "forms.go:300", after := #[], guard := none }) (v := ?_) rfl (by kernel_rfl) (by kernel_rfl) (by kernel_rfl) (fun _ _ _ h => h) (Or.inl ⟨by rfl, ?_⟩) (by assumption) ?_
              rotate_left
              · intro _ _; go_simp; first | done | with_reducible rfl
              simp only [Act.put, List.setIfInBounds_toArray, List.set_cons_zero, List.set_cons_succ]
              refine wpAnyH_take (i := 1) (oi := { dst := some 31, op := .binOp Go.BinOp.eql 3 (.tmp 30) (.const (.int .i64 0)) 3, type := 4, pos := "forms.go:300", after := #[{ on := 0, ground := .data }], guard := none }) (v := .bool false) rfl (by kernel_rfl) (by kernel_rfl) (by kernel_rfl) (fun _ _ _ h => h) (Or.inl ⟨by rfl, ?_⟩) (by assumption) ?_
              · intro _ _; go_simp
              simp only [Act.put, List.setIfInBounds_toArray, List.set_cons_zero, List.set_cons_succ]
              refine wpAnyH_take (i := 2) (oi := { dst := some 32, op := .move (.tmp 31), type := 4, pos := "forms.go:300", after := #[{ on := 1, ground := .data }], guard := none }) (v := ?_) rfl (by kernel_rfl) (by kernel_rfl) (by kernel_rfl) (fun _ _ _ h => h) (Or.inl ⟨by rfl, ?_⟩) (by assumption) ?_
              rotate_left
              · intro _ _; go_simp; first | done | with_reducible rfl
              simp only [Act.put, List.setIfInBounds_toArray, List.set_cons_zero, List.set_cons_succ]
              refine wpAnyH_take (i := 3) (oi := { dst := some 33, op := .move (.tmp 3), type := 22, pos := "forms.go:300", after := #[{ on := 2, ground := .guard }], guard := some (2, false) }) (v := ?_) rfl (by kernel_rfl) (by kernel_rfl) (by kernel_rfl) (fun _ _ _ h => h) (Or.inl ⟨by rfl, ?_⟩) (by assumption) ?_
              rotate_left
              · intro _ _; go_simp; first | done | with_reducible rfl
              simp only [Act.put, List.setIfInBounds_toArray, List.set_cons_zero, List.set_cons_succ]
              refine wpAnyH_take (i := 4) (oi := { dst := some 34, op := .move (.tmp 5), type := 3, pos := "forms.go:300", after := #[{ on := 2, ground := .guard }], guard := some (2, false) }) (v := ?_) rfl (by kernel_rfl) (by kernel_rfl) (by kernel_rfl) (fun _ _ _ h => h) (Or.inl ⟨by rfl, ?_⟩) (by assumption) ?_
              rotate_left
              · intro _ _; go_simp; first | done | with_reducible rfl
              simp only [Act.put, List.setIfInBounds_toArray, List.set_cons_zero, List.set_cons_succ]
              refine wpAnyH_take (i := 5) (oi := { dst := some 35, op := .binOp Go.BinOp.sub 3 (.tmp 34) (.const (.int .i64 1)) 3, type := 3, pos := "forms.go:300", after := #[{ on := 4, ground := .data }, { on := 2, ground := .guard }], guard := some (2, false) }) (v := ?_) rfl (by kernel_rfl) (by kernel_rfl) (by kernel_rfl) (fun _ _ _ h => h) (Or.inl ⟨by rfl, ?_⟩) (by assumption) ?_
              rotate_left
              · intro _ _; go_simp; first | done | with_reducible rfl
              simp only [Act.put, List.setIfInBounds_toArray, List.set_cons_zero, List.set_cons_succ]
              refine wpAnyH_take (i := 6) (oi := { dst := some 36, op := .indexAddr 22 (.tmp 33) (.tmp 35), type := 0, pos := "forms.go:300", after := #[{ on := 3, ground := .data }, { on := 5, ground := .data }, { on := 2, ground := .guard }], guard := some (2, false) }) (v := ?_) rfl (by kernel_rfl) (by kernel_rfl) (by kernel_rfl) (fun _ _ _ h => h) (Or.inl ⟨by rfl, ?_⟩) (by assumption) ?_
              rotate_left
              · intro _ _; go_simp; first | done | with_reducible rfl
              simp only [Act.put, List.setIfInBounds_toArray, List.set_cons_zero, List.set_cons_succ]
              refine wpAnyH_take (i := 7) (oi := { dst := some 37, op := .load 26 (.tmp 36), type := 26, pos := "forms.go:300", after := #[{ on := 6, ground := .data }, { on := 2, ground := .guard }], guard := some (2, false) }) (v := _) rfl (by kernel_rfl) (by kernel_rfl) (by kernel_rfl) (fun _ _ _ h => h) (yieldsIf_load_mid (by rfl) _ _ rfl (sb) (so + (k - 1) * 33) rfl (y.cs) _ (fun _ h => h.2) (u26) rfl (iy)) (by assumption) ?_
              simp only [Act.put, List.setIfInBounds_toArray, List.set_cons_zero, List.set_cons_succ]
              refine wpAnyH_take (i := 8) (oi := { dst := some 38, op := .move (.tmp 0), type := 22, pos := "forms.go:300", after := #[{ on := 2, ground := .guard }], guard := some (2, false) }) (v := ?_) rfl (by kernel_rfl) (by kernel_rfl) (by kernel_rfl) (fun _ _ _ h => h) (Or.inl ⟨by rfl, ?_⟩) (by assumption) ?_
              rotate_left
              · intro _ _; go_simp; first | done | with_reducible rfl
              simp only [Act.put, List.setIfInBounds_toArray, List.set_cons_zero, List.set_cons_succ]
              refine wpAnyH_take (i := 9) (oi := { dst := some 39, op := .move (.tmp 4), type := 3, pos := "forms.go:300", after := #[{ on := 2, ground := .guard }], guard := some (2, false) }) (v := ?_) rfl (by kernel_rfl) (by kernel_rfl) (by kernel_rfl) (fun _ _ _ h => h) (Or.inl ⟨by rfl, ?_⟩) (by assumption) ?_
              rotate_left
              · intro _ _; go_simp; first | done | with_reducible rfl
              simp only [Act.put, List.setIfInBounds_toArray, List.set_cons_zero, List.set_cons_succ]
              refine wpAnyH_take (i := 10) (oi := { dst := some 40, op := .indexAddr 22 (.tmp 38) (.tmp 39), type := 0, pos := "forms.go:300", after := #[{ on := 8, ground := .data }, { on := 9, ground := .data }, { on := 2, ground := .guard }], guard := some (2, false) }) (v := ?_) rfl (by kernel_rfl) (by kernel_rfl) (by kernel_rfl) (fun _ _ _ h => h) (Or.inl ⟨by rfl, ?_⟩) (by assumption) ?_
              rotate_left
              · intro _ _; go_simp; first | done | with_reducible rfl
              simp only [Act.put, List.setIfInBounds_toArray, List.set_cons_zero, List.set_cons_succ]
              refine wpAnyH_take (i := 11) (oi := { dst := some 41, op := .load 26 (.tmp 40), type := 26, pos := "forms.go:300", after := #[{ on := 10, ground := .data }, { on := 2, ground := .guard }], guard := some (2, false) }) (v := _) rfl (by kernel_rfl) (by kernel_rfl) (by kernel_rfl) (fun _ _ _ h => h) (yieldsIf_load_mid (by rfl) _ _ rfl (b) (o + i * 33) rfl (x.cs) _ (fun _ h => h.1) (u26) rfl (ix)) (by assumption) ?_
              simp only [Act.put, List.setIfInBounds_toArray, List.set_cons_zero, List.set_cons_succ]
              refine wpAnyH_take (i := 12) (oi := { dst := some 42, op := .binOp Go.BinOp.neq 26 (.tmp 37) (.tmp 41) 26, type := 4, pos := "forms.go:300", after := #[{ on := 7, ground := .data }, { on := 11, ground := .data }, { on := 2, ground := .guard }], guard := some (2, false) }) (v := .bool true) rfl (by kernel_rfl) (by kernel_rfl) (by kernel_rfl) (fun _ _ _ h => h) (Or.inl ⟨by rfl, ?_⟩) (by assumption) ?_
              · intro _ _; go_simp
              simp only [Act.put, List.setIfInBounds_toArray, List.set_cons_zero, List.set_cons_succ]
              refine wpAnyH_take (i := 13) (oi := { dst := some 43, op := .pick (.tmp 32) (.const (.bool true)) (.tmp 42), type := 4, pos := "forms.go:300", after := #[{ on := 2, ground := .data }, { on := 12, ground := .data }], guard := none }) (v := ?_) rfl (by kernel_rfl) (by kernel_rfl) (by kernel_rfl) (fun _ _ _ h => h) (Or.inl ⟨by rfl, ?_⟩) (by assumption) ?_
              rotate_left
              · intro _ _; go_simp; first | done | with_reducible rfl
              simp only [Act.put, List.setIfInBounds_toArray, List.set_cons_zero, List.set_cons_succ]
              refine wpAnyH_done (by kernel_rfl) ?_ _
              refine NoPanic.normal ?_
              clear hHeld q1 q2 q3 u26 ix iy HSK g8 g9
              have HB8 : Hid (Below w0.heap.size w0 w3.drew) := HB3.out.drew
              clear HXY HY HCY HB3 HGT g0 g1 g3 g4 g5 g6 g7
              go_wp2_with fail
              obtain ⟨wq, hwq⟩ : ∃ wq, wq = w3.drew := ⟨_, rfl⟩
              rw [← hwq]
              have HBQ : Hid (Below w0.heap.size w0 wq) := by rw [hwq]; exact HB8.out
              clear hwq HB8
              have hq0 : w0.heap.size ≤ wq.heap.size := HBQ.out.size
              have HLX : Hid (∀ w', Below wq.heap.size wq w' → w'.rangeAt b (o + i * 33) x.cs) := fun w' hw' => rangeAt_below HCX.out (HBQ.out.trans (hw'.mono hq0)) (Nat.le_refl _)
              have HTK : Hid (∀ w', Below wq.heap.size wq w' → Pts w' (some ⟨sb, so, none⟩) k sc (s.take k)) := fun w' hw' => (HS.out.below (HBQ.out.trans (hw'.mono hq0))).take k hk
              obtain ⟨adr, hadr⟩ : ∃ r : Option Addr, (if sc = k then some ⟨sb, so, none⟩ else some ⟨sb, so + k * 33, none⟩) = r := ⟨_, rfl⟩
              have HDR : Hid (∀ w', Below wq.heap.size wq w' → Pts w' adr (m - k) (sc - k) (s.drop k)) := fun w' hw' => (HS.out.below (HBQ.out.trans (hw'.mono hq0))).drop k hk adr (fun h => by rw [← hadr] at h; split at h <;> cases h) (fun b o e h => by injection e with e; injection e with e1 e2; rw [← hadr, if_neg (by omega), e1, e2])
              have htl : (s.take k).length ≤ k := by rw [List.length_take]; omega
              have hdl : (s.drop k).length ≤ m := by rw [List.length_drop, ← HSM.out]; omega
              have e2 : (0 : Int) ≤ (k : Int) := by omega
              have e3 : (k : Int) ≤ (m : Int) := by omega
              have e4 : (k : Int) ≤ (sc : Int) := by omega
              have e5 : (m : Int) ≤ (sc : Int) := by omega
              have u26 := HU.out
              have ix := size_pt x
              have HE := HBQ
              refine wp_region_noPanic ?_
              refine wp_region_held_drew (S := fun w' => Below wq.heap.size wq w') HMO.out ((Below.refl _ _).drew) (fun hHeld => ?_)
              refine wpAnyH_take (i := 1) (oi := { dst := some 45, op := .move (.tmp 3), type := 22, pos := "forms.go:301", after := #[], guard := none }) (v := ?_) rfl (by kernel_rfl) (by kernel_rfl) (by kernel_rfl) (fun _ _ _ h => h) (Or.inl ⟨by rfl, ?_⟩) (by assumption) ?_
              rotate_left
              · intro _ _; go_simp; first | done | with_reducible rfl
              simp only [Act.put, List.setIfInBounds_toArray, List.set_cons_zero, List.set_cons_succ]
              refine wpAnyH_take (i := 2) (oi := { dst := some 46, op := .move (.tmp 5), type := 3, pos := "forms.go:301", after := #[], guard := none }) (v := ?_) rfl (by kernel_rfl) (by kernel_rfl) (by kernel_rfl) (fun _ _ _ h => h) (Or.inl ⟨by rfl, ?_⟩) (by assumption) ?_
              rotate_left
              · intro _ _; go_simp; first | done | with_reducible rfl
              simp only [Act.put, List.setIfInBounds_toArray, List.set_cons_zero, List.set_cons_succ]
              refine wpAnyH_take (i := 3) (oi := { dst := some 47, op := .slice 22 (.tmp 45) none (some (.tmp 46)) none, type := 22, pos := "forms.go:301", after := #[{ on := 1, ground := .data }, { on := 2, ground := .data }], guard := none }) (v := ?_) rfl (by kernel_rfl) (by kernel_rfl) (by kernel_rfl) (fun _ _ _ h => h) (Or.inl ⟨by rfl, ?_⟩) (by assumption) ?_
              rotate_left
              · intro _ _; go_simp; first | done | with_reducible rfl
              simp only [Act.put, List.setIfInBounds_toArray, List.set_cons_zero, List.set_cons_succ]
              refine wpAnyH_take (i := 5) (oi := { dst := some 49, op := .move (.tmp 0), type := 22, pos := "forms.go:301", after := #[], guard := none }) (v := ?_) rfl (by kernel_rfl) (by kernel_rfl) (by kernel_rfl) (fun _ _ _ h => h) (Or.inl ⟨by rfl, ?_⟩) (by assumption) ?_
              rotate_left
              · intro _ _; go_simp; first | done | with_reducible rfl
              simp only [Act.put, List.setIfInBounds_toArray, List.set_cons_zero, List.set_cons_succ]
              refine wpAnyH_take (i := 6) (oi := { dst := some 50, op := .move (.tmp 4), type := 3, pos := "forms.go:301", after := #[], guard := none }) (v := ?_) rfl (by kernel_rfl) (by kernel_rfl) (by kernel_rfl) (fun _ _ _ h => h) (Or.inl ⟨by rfl, ?_⟩) (by assumption) ?_
              rotate_left
              · intro _ _; go_simp; first | done | with_reducible rfl
              simp only [Act.put, List.setIfInBounds_toArray, List.set_cons_zero, List.set_cons_succ]
              refine wpAnyH_take (i := 7) (oi := { dst := some 51, op := .indexAddr 22 (.tmp 49) (.tmp 50), type := 0, pos := "forms.go:301", after := #[{ on := 5, ground := .data }, { on := 6, ground := .data }], guard := none }) (v := ?_) rfl (by kernel_rfl) (by kernel_rfl) (by kernel_rfl) (fun _ _ _ h => h) (Or.inl ⟨by rfl, ?_⟩) (by assumption) ?_
              rotate_left
              · intro _ _; go_simp; first | done | with_reducible rfl
              simp only [Act.put, List.setIfInBounds_toArray, List.set_cons_zero, List.set_cons_succ]
              refine wpAnyH_take (i := 8) (oi := { dst := some 52, op := .load 26 (.tmp 51), type := 26, pos := "forms.go:301", after := #[{ on := 7, ground := .data }], guard := none }) (v := _) rfl (by kernel_rfl) (by kernel_rfl) (by kernel_rfl) (fun _ _ _ h => h) (yieldsIf_load_mid (by rfl) _ _ rfl (b) (o + i * 33) rfl (x.cs) _ (fun _ h => HLX.out _ h) (u26) rfl (ix)) (by assumption) ?_
              simp only [Act.put, List.setIfInBounds_toArray, List.set_cons_zero, List.set_cons_succ]
              refine wpAnyH_take (i := 11) (oi := { dst := some 55, op := .move (.tmp 3), type := 22, pos := "forms.go:301", after := #[], guard := none }) (v := ?_) rfl (by kernel_rfl) (by kernel_rfl) (by kernel_rfl) (fun _ _ _ h => h) (Or.inl ⟨by rfl, ?_⟩) (by assumption) ?_
              rotate_left
              · intro _ _; go_simp; first | done | with_reducible rfl
              simp only [Act.put, List.setIfInBounds_toArray, List.set_cons_zero, List.set_cons_succ]
              refine wpAnyH_take (i := 12) (oi := { dst := some 56, op := .move (.tmp 5), type := 3, pos := "forms.go:301", after := #[], guard := none }) (v := ?_) rfl (by kernel_rfl) (by kernel_rfl) (by kernel_rfl) (fun _ _ _ h => h) (Or.inl ⟨by rfl, ?_⟩) (by assumption) ?_
              rotate_left
              · intro _ _; go_simp; first | done | with_reducible rfl
              simp only [Act.put, List.setIfInBounds_toArray, List.set_cons_zero, List.set_cons_succ]
              refine wpAnyH_take (i := 13) (oi := { dst := some 57, op := .slice 22 (.tmp 55) (some (.tmp 56)) none none, type := 22, pos := "forms.go:301", after := #[{ on := 11, ground := .data }, { on := 12, ground := .data }], guard := none }) (v := ?_) rfl (by kernel_rfl) (by kernel_rfl) (by kernel_rfl) (fun _ _ _ h => h) (Or.inl ⟨by rfl, ?_⟩) (by assumption) ?_
              rotate_left
              · intro _ _; go_simp; first | done | with_reducible rfl
              simp only [Act.put, List.setIfInBounds_toArray, List.set_cons_zero, List.set_cons_succ]
              refine wpAnyH_ready (rs := [0, 9]) (by kernel_rfl) (by simp) ?_
              refine (AllReadyH.cons (o := { dst := some 44, op := .buildSlice 22 0 #[], type := 22, pos := "forms.go:301", after := #[], guard := none }) rfl (fun K hK => ?_) (AllReadyH.cons (o := { dst := some 53, op := .buildSlice 22 1 #[(0, .tmp 52)], type := 22, pos := "forms.go:301", after := #[{ on := 8, ground := .data }], guard := none }) rfl (fun K hK => ?_) AllReadyH.nil))
              · refine step_build_none rfl rfl ?_; intro wz HOZ HEZ; have HOC : Hid (Own wz wq.heap.size _ []) := HOZ.out.less hHeld.size
                simp only [Act.put, List.setIfInBounds_toArray, List.set_cons_zero, List.set_cons_succ]
                refine hK.out _ _ ((show Below _ _ wz by rw [HEZ.out]; exact hHeld.alloc hHeld.size _)) (fun hHeld => ?_)
                clear hK K
                refine wpAnyH_ready (rs := [4, 9]) (by kernel_rfl) (by simp) ?_
                refine (AllReadyH.cons (o := { dst := some 48, op := .call { callee := .builtin Go.Builtin.append, args := #[.tmp 44, .tmp 47], argTypes := #[22, 22] }, type := 22, pos := "forms.go:301", after := #[{ on := 0, ground := .data }, { on := 3, ground := .data }], guard := none }) rfl (fun K hK => ?_) (AllReadyH.cons (o := { dst := some 53, op := .buildSlice 22 1 #[(0, .tmp 52)], type := 22, pos := "forms.go:301", after := #[{ on := 8, ground := .data }], guard := none }) rfl (fun K hK => ?_) AllReadyH.nil))
                · refine step_append_pts rfl _ _ rfl wq.heap.size _ [] rfl HOC.out _ k sc (s.take k) rfl (HTK.out _ hHeld) (by simp; omega) hHeld.size ?_; intro v1 wp HO1 HG1
                  simp only [Act.put, List.setIfInBounds_toArray, List.set_cons_zero, List.set_cons_succ]
                  refine hK.out _ _ (hHeld.trans (HOC.out.grown HG1.out hHeld.size)) (fun hHeld => ?_)
                  clear hK K
                  refine wpAnyH_ready (rs := [9]) (by kernel_rfl) (by simp) ?_
                  refine AllReadyH.cons (o := { dst := some 53, op := .buildSlice 22 1 #[(0, .tmp 52)], type := 22, pos := "forms.go:301", after := #[{ on := 8, ground := .data }], guard := none }) rfl (fun K hK => ?_) AllReadyH.nil
                  refine step_build_one rfl _ rfl x rfl ?_; intro wb HLIT HEB; have HOCX : Hid (Own wb wq.heap.size v1 ([] ++ s.take k)) := HO1.out.below (by rw [HEB.out]; exact (Below.refl _ _).alloc (Nat.le_refl _) _)
                  simp only [Act.put, List.setIfInBounds_toArray, List.set_cons_zero, List.set_cons_succ]
                  refine hK.out _ _ ((show Below _ _ wb by rw [HEB.out]; exact hHeld.alloc hHeld.size _)) (fun hHeld => ?_)
                  clear hK K
                  refine wpAnyH_ready (rs := [10]) (by kernel_rfl) (by simp) ?_
                  refine AllReadyH.cons (o := { dst := some 54, op := .call { callee := .builtin Go.Builtin.append, args := #[.tmp 48, .tmp 53], argTypes := #[22, 22] }, type := 22, pos := "forms.go:301", after := #[{ on := 4, ground := .data }, { on := 9, ground := .data }, { on := 4, ground := .chain }], guard := none }) rfl (fun K hK => ?_) AllReadyH.nil
                  refine step_append_pts rfl _ _ rfl wq.heap.size _ ([] ++ s.take k) rfl HOCX.out _ 1 1 [x] rfl HLIT.out (by simp; omega) hHeld.size ?_; intro v2 w5 HO2 HG2
                  simp only [Act.put, List.setIfInBounds_toArray, List.set_cons_zero, List.set_cons_succ]
                  refine hK.out _ _ (hHeld.trans (HOCX.out.grown HG2.out hHeld.size)) (fun hHeld => ?_)
                  clear hK K
                  refine wpAnyH_ready (rs := [14]) (by kernel_rfl) (by simp) ?_
                  refine AllReadyH.cons (o := { dst := some 58, op := .call { callee := .builtin Go.Builtin.append, args := #[.tmp 54, .tmp 57], argTypes := #[22, 22] }, type := 22, pos := "forms.go:301", after := #[{ on := 10, ground := .data }, { on := 13, ground := .data }, { on := 10, ground := .chain }], guard := none }) rfl (fun K hK => ?_) AllReadyH.nil
                  refine step_append_pts rfl _ _ rfl wq.heap.size _ ([] ++ s.take k ++ [x]) rfl HO2.out _ (m - k) (sc - k) (s.drop k) rfl (HDR.out _ hHeld) (by simp; omega) hHeld.size ?_; intro v3 w6 HO3 HG3
                  simp only [Act.put, List.setIfInBounds_toArray, List.set_cons_zero, List.set_cons_succ]
                  refine hK.out _ _ (hHeld.trans (HO2.out.grown HG3.out hHeld.size)) (fun hHeld => ?_)
                  clear hK K
                  refine wpAnyH_take (i := 15) (oi := { dst := some 3, op := .assign (.tmp 58), type := 22, pos := "forms.go:301", after := #[{ on := 14, ground := .data }, { on := 14, ground := .chain }, { on := 0, ground := .phase }, { on := 1, ground := .phase }, { on := 2, ground := .phase }, { on := 3, ground := .phase }, { on := 4, ground := .phase }, { on := 5, ground := .phase }, { on := 6, ground := .phase }, { on := 7, ground := .phase }, { on := 8, ground := .phase }, { on := 9, ground := .phase }, { on := 10, ground := .phase }, { on := 11, ground := .phase }, { on := 12, ground := .phase }, { on := 13, ground := .phase }, { on := 14, ground := .phase }], guard := none }) (v := ?_) rfl (by kernel_rfl) (by kernel_rfl) (by kernel_rfl) (fun _ _ _ h => h) (Or.inl ⟨by rfl, ?_⟩) (by assumption) ?_
                  rotate_left
                  · intro _ _; go_simp; first | done | with_reducible rfl
                  simp only [Act.put, List.setIfInBounds_toArray, List.set_cons_zero, List.set_cons_succ]
                  refine wpAnyH_done (by kernel_rfl) ?_ _
                  refine NoPanic.normal ?_
                  have HEND : Hid (Own w6 M v3 (s.take k ++ [x] ++ s.drop k) ∧ Below M w w6) := ⟨HO3.out.less (by omega), HB.out.trans ((HBQ.out.trans (hHeld.mono hq0)).mono hMw)⟩
                  clear hHeld HO3 HG3
                  go_wp2_with fail
                  go_roundw
                  case rel => exact ⟨i + 1, _, by omega, by go_num, by have := HSM.out; simp; omega, HINC.out, HMEM.out, HEND.out.1, HEND.out.2⟩
                  case measure => simp [intOf]; omega
                · refine step_build_one rfl _ rfl x rfl ?_; intro wb HLITB HEB; have HOC2 : Hid (Own wb wq.heap.size _ []) := HOC.out.below (by rw [HEB.out]; exact (Below.refl _ _).alloc (Nat.le_refl _) _)
                  simp only [Act.put, List.setIfInBounds_toArray, List.set_cons_zero, List.set_cons_succ]
                  refine hK.out _ _ ((show Below _ _ wb by rw [HEB.out]; exact hHeld.alloc hHeld.size _)) (fun hHeld => ?_)
                  clear hK K
                  refine wpAnyH_ready (rs := [4]) (by kernel_rfl) (by simp) ?_
                  refine AllReadyH.cons (o := { dst := some 48, op := .call { callee := .builtin Go.Builtin.append, args := #[.tmp 44, .tmp 47], argTypes := #[22, 22] }, type := 22, pos := "forms.go:301", after := #[{ on := 0, ground := .data }, { on := 3, ground := .data }], guard := none }) rfl (fun K hK => ?_) AllReadyH.nil
                  refine step_append_pts rfl _ _ rfl wq.heap.size (.slice (some ⟨wq.heap.size, 0, none⟩) 0 0) [] rfl HOC2.out _ k sc (s.take k) rfl (HTK.out _ hHeld) (by simp; omega) hHeld.size ?_; intro v1 wp HOCX HG1; have HLIT : Hid (Pts wp _ 1 1 [x]) := HLITB.out.kept HG1.out (by rw [HEZ.out]; simp [Value.ownBlock])
                  simp only [Act.put, List.setIfInBounds_toArray, List.set_cons_zero, List.set_cons_succ]
                  refine hK.out _ _ (hHeld.trans (HOC2.out.grown HG1.out hHeld.size)) (fun hHeld => ?_)
                  clear hK K
                  refine wpAnyH_ready (rs := [10]) (by kernel_rfl) (by simp) ?_
                  refine AllReadyH.cons (o := { dst := some 54, op := .call { callee := .builtin Go.Builtin.append, args := #[.tmp 48, .tmp 53], argTypes := #[22, 22] }, type := 22, pos := "forms.go:301", after := #[{ on := 4, ground := .data }, { on := 9, ground := .data }, { on := 4, ground := .chain }], guard := none }) rfl (fun K hK => ?_) AllReadyH.nil
                  refine step_append_pts rfl _ _ rfl wq.heap.size _ ([] ++ s.take k) rfl HOCX.out _ 1 1 [x] rfl HLIT.out (by simp; omega) hHeld.size ?_; intro v2 w5 HO2 HG2
                  simp only [Act.put, List.setIfInBounds_toArray, List.set_cons_zero, List.set_cons_succ]
                  refine hK.out _ _ (hHeld.trans (HOCX.out.grown HG2.out hHeld.size)) (fun hHeld => ?_)
                  clear hK K
                  refine wpAnyH_ready (rs := [14]) (by kernel_rfl) (by simp) ?_
                  refine AllReadyH.cons (o := { dst := some 58, op := .call { callee := .builtin Go.Builtin.append, args := #[.tmp 54, .tmp 57], argTypes := #[22, 22] }, type := 22, pos := "forms.go:301", after := #[{ on := 10, ground := .data }, { on := 13, ground := .data }, { on := 10, ground := .chain }], guard := none }) rfl (fun K hK => ?_) AllReadyH.nil
                  refine step_append_pts rfl _ _ rfl wq.heap.size _ ([] ++ s.take k ++ [x]) rfl HO2.out _ (m - k) (sc - k) (s.drop k) rfl (HDR.out _ hHeld) (by simp; omega) hHeld.size ?_; intro v3 w6 HO3 HG3
                  simp only [Act.put, List.setIfInBounds_toArray, List.set_cons_zero, List.set_cons_succ]
                  refine hK.out _ _ (hHeld.trans (HO2.out.grown HG3.out hHeld.size)) (fun hHeld => ?_)
                  clear hK K
                  refine wpAnyH_take (i := 15) (oi := { dst := some 3, op := .assign (.tmp 58), type := 22, pos := "forms.go:301", after := #[{ on := 14, ground := .data }, { on := 14, ground := .chain }, { on := 0, ground := .phase }, { on := 1, ground := .phase }, { on := 2, ground := .phase }, { on := 3, ground := .phase }, { on := 4, ground := .phase }, { on := 5, ground := .phase }, { on := 6, ground := .phase }, { on := 7, ground := .phase }, { on := 8, ground := .phase }, { on := 9, ground := .phase }, { on := 10, ground := .phase }, { on := 11, ground := .phase }, { on := 12, ground := .phase }, { on := 13, ground := .phase }, { on := 14, ground := .phase }], guard := none }) (v := ?_) rfl (by kernel_rfl) (by kernel_rfl) (by kernel_rfl) (fun _ _ _ h => h) (Or.inl ⟨by rfl, ?_⟩) (by assumption) ?_
                  rotate_left
                  · intro _ _; go_simp; first | done | with_reducible rfl
                  simp only [Act.put, List.setIfInBounds_toArray, List.set_cons_zero, List.set_cons_succ]
                  refine wpAnyH_done (by kernel_rfl) ?_ _
                  refine NoPanic.normal ?_
                  have HEND : Hid (Own w6 M v3 (s.take k ++ [x] ++ s.drop k) ∧ Below M w w6) := ⟨HO3.out.less (by omega), HB.out.trans ((HBQ.out.trans (hHeld.mono hq0)).mono hMw)⟩
                  clear hHeld HO3 HG3
                  go_wp2_with fail
                  go_roundw
                  case rel => exact ⟨i + 1, _, by omega, by go_num, by have := HSM.out; simp; omega, HINC.out, HMEM.out, HEND.out.1, HEND.out.2⟩
                  case measure => simp [intOf]; omega
              · refine step_build_one rfl _ rfl x rfl ?_; intro wb HLITB HEB
                simp only [Act.put, List.setIfInBounds_toArray, List.set_cons_zero, List.set_cons_succ]
                refine hK.out _ _ ((show Below _ _ wb by rw [HEB.out]; exact hHeld.alloc hHeld.size _)) (fun hHeld => ?_)
                clear hK K
                refine wpAnyH_ready (rs := [0]) (by kernel_rfl) (by simp) ?_
                refine AllReadyH.cons (o := { dst := some 44, op := .buildSlice 22 0 #[], type := 22, pos := "forms.go:301", after := #[], guard := none }) rfl (fun K hK => ?_) AllReadyH.nil
                refine step_build_none rfl rfl ?_; intro wz HOZ HEZ; have HOC2 : Hid (Own wz wq.heap.size _ []) := HOZ.out.less hHeld.size; have HLITZ : Hid (Pts wz _ 1 1 [x]) := HLITB.out.below (by rw [HEZ.out]; exact (Below.refl _ _).alloc (Nat.le_refl _) _)
                simp only [Act.put, List.setIfInBounds_toArray, List.set_cons_zero, List.set_cons_succ]
                refine hK.out _ _ ((show Below _ _ wz by rw [HEZ.out]; exact hHeld.alloc hHeld.size _)) (fun hHeld => ?_)
                clear hK K
                refine wpAnyH_ready (rs := [4]) (by kernel_rfl) (by simp) ?_
                refine AllReadyH.cons (o := { dst := some 48, op := .call { callee := .builtin Go.Builtin.append, args := #[.tmp 44, .tmp 47], argTypes := #[22, 22] }, type := 22, pos := "forms.go:301", after := #[{ on := 0, ground := .data }, { on := 3, ground := .data }], guard := none }) rfl (fun K hK => ?_) AllReadyH.nil
                refine step_append_pts rfl _ _ rfl wq.heap.size (.slice (some ⟨wb.heap.size, 0, none⟩) 0 0) [] rfl HOC2.out _ k sc (s.take k) rfl (HTK.out _ hHeld) (by simp; omega) hHeld.size ?_; intro v1 wp HOCX HG1; have HLIT : Hid (Pts wp _ 1 1 [x]) := HLITZ.out.kept HG1.out (by rw [HEB.out]; simp [Value.ownBlock])
                simp only [Act.put, List.setIfInBounds_toArray, List.set_cons_zero, List.set_cons_succ]
                refine hK.out _ _ (hHeld.trans (HOC2.out.grown HG1.out hHeld.size)) (fun hHeld => ?_)
                clear hK K
                refine wpAnyH_ready (rs := [10]) (by kernel_rfl) (by simp) ?_
                refine AllReadyH.cons (o := { dst := some 54, op := .call { callee := .builtin Go.Builtin.append, args := #[.tmp 48, .tmp 53], argTypes := #[22, 22] }, type := 22, pos := "forms.go:301", after := #[{ on := 4, ground := .data }, { on := 9, ground := .data }, { on := 4, ground := .chain }], guard := none }) rfl (fun K hK => ?_) AllReadyH.nil
                refine step_append_pts rfl _ _ rfl wq.heap.size _ ([] ++ s.take k) rfl HOCX.out _ 1 1 [x] rfl HLIT.out (by simp; omega) hHeld.size ?_; intro v2 w5 HO2 HG2
                simp only [Act.put, List.setIfInBounds_toArray, List.set_cons_zero, List.set_cons_succ]
                refine hK.out _ _ (hHeld.trans (HOCX.out.grown HG2.out hHeld.size)) (fun hHeld => ?_)
                clear hK K
                refine wpAnyH_ready (rs := [14]) (by kernel_rfl) (by simp) ?_
                refine AllReadyH.cons (o := { dst := some 58, op := .call { callee := .builtin Go.Builtin.append, args := #[.tmp 54, .tmp 57], argTypes := #[22, 22] }, type := 22, pos := "forms.go:301", after := #[{ on := 10, ground := .data }, { on := 13, ground := .data }, { on := 10, ground := .chain }], guard := none }) rfl (fun K hK => ?_) AllReadyH.nil
                refine step_append_pts rfl _ _ rfl wq.heap.size _ ([] ++ s.take k ++ [x]) rfl HO2.out _ (m - k) (sc - k) (s.drop k) rfl (HDR.out _ hHeld) (by simp; omega) hHeld.size ?_; intro v3 w6 HO3 HG3
                simp only [Act.put, List.setIfInBounds_toArray, List.set_cons_zero, List.set_cons_succ]
                refine hK.out _ _ (hHeld.trans (HO2.out.grown HG3.out hHeld.size)) (fun hHeld => ?_)
                clear hK K
                refine wpAnyH_take (i := 15) (oi := { dst := some 3, op := .assign (.tmp 58), type := 22, pos := "forms.go:301", after := #[{ on := 14, ground := .data }, { on := 14, ground := .chain }, { on := 0, ground := .phase }, { on := 1, ground := .phase }, { on := 2, ground := .phase }, { on := 3, ground := .phase }, { on := 4, ground := .phase }, { on := 5, ground := .phase }, { on := 6, ground := .phase }, { on := 7, ground := .phase }, { on := 8, ground := .phase }, { on := 9, ground := .phase }, { on := 10, ground := .phase }, { on := 11, ground := .phase }, { on := 12, ground := .phase }, { on := 13, ground := .phase }, { on := 14, ground := .phase }], guard := none }) (v := ?_) rfl (by kernel_rfl) (by kernel_rfl) (by kernel_rfl) (fun _ _ _ h => h) (Or.inl ⟨by rfl, ?_⟩) (by assumption) ?_
                rotate_left
                · intro _ _; go_simp; first | done | with_reducible rfl
                simp only [Act.put, List.setIfInBounds_toArray, List.set_cons_zero, List.set_cons_succ]
                refine wpAnyH_done (by kernel_rfl) ?_ _
                refine NoPanic.normal ?_
                have HEND : Hid (Own w6 M v3 (s.take k ++ [x] ++ s.drop k) ∧ Below M w w6) := ⟨HO3.out.less (by omega), HB.out.trans ((HBQ.out.trans (hHeld.mono hq0)).mono hMw)⟩
                clear hHeld HO3 HG3
                go_wp2_with fail
                go_roundw
                case rel => exact ⟨i + 1, _, by omega, by go_num, by have := HSM.out; simp; omega, HINC.out, HMEM.out, HEND.out.1, HEND.out.2⟩
                case measure => simp [intOf]; omega
    · obtain rfl : i = n := by omega
      have e1 : l.take i = l := List.take_of_length_le (by rw [HL.out]; exact Nat.le_refl _)
      have HM2 : Hid (∀ x, x ∈ s ↔ x ∈ l) := by have h := HM.out; rwa [e1] at h
      clear e1 HM
      go_wp2_with fail
      go_ret
      subst hM
      exact ⟨u3, s, rfl, HO.out, HI.out, HM2.out, hsi, hbk⟩
end Go.Proofs.YtlgadelcgboeoaaDoor
