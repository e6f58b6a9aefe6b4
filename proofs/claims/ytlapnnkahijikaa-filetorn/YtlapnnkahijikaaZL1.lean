/- coraclealike.Strings at two rows that are one. three names in order. coraclelaw7.FileNames: its walk. coraclelaw7: deeds; few. -/
import Derived.Test.YtlapnnkahijikaaZF6
namespace Go.Proofs.Ytlapnnkahijikaa
open Go.ChangeShapes Go.WideShapes Go.ChangeAt Go.RowKit Go.Lib

set_option maxRecDepth 100000 in
set_option maxHeartbeats 2000000 in
theorem strings_eq (v1 v2 : Value) (l : List ByteArray) (w : World) (h1 : SrcS w v1 l) (h2 : SrcS w v2 l) (hl : l.length ≤ 1000000) :
    Calls Try.prog 27 #[v1, v2] w fun e w' => e = .returned (.bool true) ∧ Below w.heap.size w w' := by
  have HMO : Hid (Try.prog.follows .mixedOrders = true) := show _ = _ by kernel_rfl
  rcases h1 with ⟨rfl, rfl⟩ | ⟨b1, c1, rfl, hc1⟩
  · rcases h2 with ⟨rfl, _⟩ | ⟨b2, c2, rfl, hc2⟩
    · go_enter Try.func27, Try.ntmps27
      go_wp2_with fail
      refine wp_loop_rounds 1 ?_
      rw [rounds_succ]
      go_wp2_with fail
      go_ret
      exact ⟨rfl, Below.refl _ _⟩
    · simp only [List.length_nil]
      clear hc2
      go_enter Try.func27, Try.ntmps27
      go_wp2_with fail
      refine wp_loop_rounds 1 ?_
      rw [rounds_succ]
      go_wp2_with fail
      go_ret
      exact ⟨rfl, Below.refl _ _⟩
  · rcases h2 with ⟨rfl, rfl⟩ | ⟨b2, c2, rfl, hc2⟩
    · simp only [List.length_nil]
      clear hc1
      go_enter Try.func27, Try.ntmps27
      go_wp2_with fail
      refine wp_loop_rounds 1 ?_
      rw [rounds_succ]
      go_wp2_with fail
      go_ret
      exact ⟨rfl, Below.refl _ _⟩
    · have HC : Hid ((∀ j x, l[j]? = some x → w.cell? ⟨b1, j, none⟩ = some (.string x)) ∧ (∀ j x, l[j]? = some x → w.cell? ⟨b2, j, none⟩ = some (.string x))) := ⟨hc1, hc2⟩
      obtain ⟨n, hn⟩ : ∃ n, n = l.length := ⟨_, rfl⟩
      have HN : Hid (n = l.length) := hn
      rw [← hn] at hl ⊢
      clear hc1 hc2 hn
      go_enter Try.func27, Try.ntmps27
      go_wp2_with fail
      go_loopw [5] (fun i wr => ∃ k : Nat, k ≤ n ∧ i = .int .i64 k ∧ Hid (Below w.heap.size w wr)) (fun i _ => n - (intOf i).toNat)
      case atStart => exact ⟨0, Nat.zero_le _, rfl, Below.refl _ _⟩
      case round =>
        obtain ⟨k, hk, rfl, HB⟩ := hrel
        by_cases hlt : k < n
        · have e0 : (0 : Int) ≤ (k : Int) := by omega
          have e1 : (k : Int) < (n : Int) := by omega
          obtain ⟨x, hx⟩ : ∃ x, l[k]? = some x := ⟨_, List.getElem?_eq_getElem (by rw [← HN.out]; exact hlt)⟩
          have HX : Hid (wr.cell? ⟨b1, k, none⟩ = some (.string x) ∧ wr.cell? ⟨b2, k, none⟩ = some (.string x)) := ⟨cell_below HB.out (HC.out.1 k x hx), cell_below HB.out (HC.out.2 k x hx)⟩
          clear hx
          go_upto_region 6 with fail
          refine wp_region_noPanic ?_
          refine wp_region_held_drew (S := fun w' => (w'.cell? ⟨b1, k, none⟩ = some (.string x) ∧ w'.cell? ⟨b2, k, none⟩ = some (.string x)) ∧ Below w.heap.size w w') HMO.out (⟨HX.out, HB.out.drew⟩) (fun hHeld => ?_)
          refine wpAnyH_take (i := 0) (oi := { dst := some 17, op := .move (.tmp 0), type := 58, pos := "alike.go:47", after := #[], guard := none }) (v := ?_) rfl (by kernel_rfl) (by kernel_rfl) (by kernel_rfl) (fun _ _ _ h => h) (Or.inl ⟨by rfl, ?_⟩) (by assumption) ?_
          rotate_left
          · intro _ _; go_simp; first | done | with_reducible rfl
          simp only [Act.put, List.setIfInBounds_toArray, List.set_cons_zero, List.set_cons_succ]
          refine wpAnyH_take (i := 1) (oi := { dst := some 18, op := .move (.tmp 5), type := 3, pos := "alike.go:47", after := #[], guard := none }) (v := ?_) rfl (by kernel_rfl) (by kernel_rfl) (by kernel_rfl) (fun _ _ _ h => h) (Or.inl ⟨by rfl, ?_⟩) (by assumption) ?_
          rotate_left
          · intro _ _; go_simp; first | done | with_reducible rfl
          simp only [Act.put, List.setIfInBounds_toArray, List.set_cons_zero, List.set_cons_succ]
          refine wpAnyH_take (i := 2) (oi := { dst := some 19, op := .indexAddr 58 (.tmp 17) (.tmp 18), type := 0, pos := "alike.go:47", after := #[{ on := 0, ground := .data }, { on := 1, ground := .data }], guard := none }) (v := ?_) rfl (by kernel_rfl) (by kernel_rfl) (by kernel_rfl) (fun _ _ _ h => h) (Or.inl ⟨by rfl, ?_⟩) (by assumption) ?_
          rotate_left
          · intro _ _; go_simp; first | done | with_reducible rfl
          simp only [Act.put, List.setIfInBounds_toArray, List.set_cons_zero, List.set_cons_succ]
          refine wpAnyH_take (i := 3) (oi := { dst := some 20, op := .load 9 (.tmp 19), type := 9, pos := "alike.go:47", after := #[{ on := 2, ground := .data }], guard := none }) (v := .string x) rfl (by kernel_rfl) (by kernel_rfl) (by kernel_rfl) (fun _ _ _ h => h) (Or.inl ⟨by rfl, ?_⟩) (by assumption) ?_
          · intro _ _; rename_i wz hz; have cz := hz.1.1; go_simp
          simp only [Act.put, List.setIfInBounds_toArray, List.set_cons_zero, List.set_cons_succ]
          refine wpAnyH_take (i := 4) (oi := { dst := some 21, op := .move (.tmp 1), type := 58, pos := "alike.go:47", after := #[], guard := none }) (v := ?_) rfl (by kernel_rfl) (by kernel_rfl) (by kernel_rfl) (fun _ _ _ h => h) (Or.inl ⟨by rfl, ?_⟩) (by assumption) ?_
          rotate_left
          · intro _ _; go_simp; first | done | with_reducible rfl
          simp only [Act.put, List.setIfInBounds_toArray, List.set_cons_zero, List.set_cons_succ]
          refine wpAnyH_take (i := 5) (oi := { dst := some 22, op := .move (.tmp 5), type := 3, pos := "alike.go:47", after := #[], guard := none }) (v := ?_) rfl (by kernel_rfl) (by kernel_rfl) (by kernel_rfl) (fun _ _ _ h => h) (Or.inl ⟨by rfl, ?_⟩) (by assumption) ?_
          rotate_left
          · intro _ _; go_simp; first | done | with_reducible rfl
          simp only [Act.put, List.setIfInBounds_toArray, List.set_cons_zero, List.set_cons_succ]
          refine wpAnyH_take (i := 6) (oi := { dst := some 23, op := .indexAddr 58 (.tmp 21) (.tmp 22), type := 0, pos := "alike.go:47", after := #[{ on := 4, ground := .data }, { on := 5, ground := .data }], guard := none }) (v := ?_) rfl (by kernel_rfl) (by kernel_rfl) (by kernel_rfl) (fun _ _ _ h => h) (Or.inl ⟨by rfl, ?_⟩) (by assumption) ?_
          rotate_left
          · intro _ _; go_simp; first | done | with_reducible rfl
          simp only [Act.put, List.setIfInBounds_toArray, List.set_cons_zero, List.set_cons_succ]
          refine wpAnyH_take (i := 7) (oi := { dst := some 24, op := .load 9 (.tmp 23), type := 9, pos := "alike.go:47", after := #[{ on := 6, ground := .data }], guard := none }) (v := .string x) rfl (by kernel_rfl) (by kernel_rfl) (by kernel_rfl) (fun _ _ _ h => h) (Or.inl ⟨by rfl, ?_⟩) (by assumption) ?_
          · intro _ _; rename_i wz hz; have cz := hz.1.2; go_simp
          simp only [Act.put, List.setIfInBounds_toArray, List.set_cons_zero, List.set_cons_succ]
          refine wpAnyH_take (i := 8) (oi := { dst := some 25, op := .binOp Go.BinOp.neq 9 (.tmp 20) (.tmp 24) 9, type := 4, pos := "alike.go:47", after := #[{ on := 3, ground := .data }, { on := 7, ground := .data }], guard := none }) (v := .bool false) rfl (by kernel_rfl) (by kernel_rfl) (by kernel_rfl) (fun _ _ _ h => h) (Or.inl ⟨by rfl, ?_⟩) (by assumption) ?_
          · intro _ _; go_simp
          simp only [Act.put, List.setIfInBounds_toArray, List.set_cons_zero, List.set_cons_succ]
          refine wpAnyH_done (by kernel_rfl) ?_ _
          refine NoPanic.normal ?_
          go_wp2_with fail
          go_roundw
          case rel => exact ⟨k + 1, by omega, by go_num, hHeld.2⟩
          case measure => simp [intOf]; omega
        · obtain rfl : k = n := by omega
          go_wp2_with fail
          go_ret
          exact ⟨rfl, HB.out⟩
end Go.Proofs.Ytlapnnkahijikaa
namespace Go.Proofs.Ytlapnnkahijikaa
open Go.ChangeShapes Go.WideShapes Go.ChangeAt Go.RowKit Go.Lib
theorem bytesOf_inj {a b : ByteArray} (h : bytesOf a = bytesOf b) : a = b := by rw [← mk_bytesOf a, ← mk_bytesOf b, h]
theorem sorted3 {a b c : ByteArray} (hab : a ≠ b) (hbc : b ≠ c) (hac : a ≠ c) : ∃ s0 s1 s2, sortN [a, b, c] = [s0, s1, s2] ∧ Op.bytesLess s0.toList s1.toList = true ∧ Op.bytesLess s1.toList s2.toList = true := by
  have tr : ∀ a b c : List UInt8, leB a b = true → leB b c = true → leB a c = true := fun a b c h1 h2 => by simp only [leB, decide_eq_true_eq] at *; exact List.le_trans h1 h2
  have tot : ∀ a b : List UInt8, (leB a b || leB b a) = true := fun a b => by simp only [leB, Bool.or_eq_true, decide_eq_true_eq]; exact List.le_total a b
  have hp := List.mergeSort_perm ([a, b, c].map bytesOf) leB
  have hs := List.pairwise_mergeSort tr tot ([a, b, c].map bytesOf)
  have hl := hp.length_eq
  have hn : ([a, b, c].map bytesOf).Nodup := by
    have e1 : bytesOf a ≠ bytesOf b := fun e => hab (bytesOf_inj e)
    have e2 : bytesOf b ≠ bytesOf c := fun e => hbc (bytesOf_inj e)
    have e3 : bytesOf a ≠ bytesOf c := fun e => hac (bytesOf_inj e)
    simp [e1, e2, e3]
  have hn' := hp.symm.nodup hn
  unfold sortN
  generalize (([a, b, c].map bytesOf).mergeSort leB) = l at *
  match l, hl with
  | [x0, x1, x2], _ =>
    refine ⟨_, _, _, rfl, ?_, ?_⟩
    · rw [Go.Proofs.bytesLess_eq, ByteArray.toList_mk, ByteArray.toList_mk, decide_eq_true_eq]
      have h1 : leB x0 x1 = true := by simp only [List.pairwise_cons] at hs; exact hs.1 x1 (by simp)
      simp only [leB, decide_eq_true_eq] at h1
      have h2 : x0 ≠ x1 := by intro e; simp [e] at hn'
      exact List.not_le.1 fun h => h2 (List.le_antisymm h1 h)
    · rw [Go.Proofs.bytesLess_eq, ByteArray.toList_mk, ByteArray.toList_mk, decide_eq_true_eq]
      have h1 : leB x1 x2 = true := by simp only [List.pairwise_cons] at hs; exact hs.2.1 x2 (by simp)
      simp only [leB, decide_eq_true_eq] at h1
      have h2 : x1 ≠ x2 := by intro e; simp [e] at hn'
      exact List.not_le.1 fun h => h2 (List.le_antisymm h1 h)
end Go.Proofs.Ytlapnnkahijikaa
namespace Go.Proofs.Ytlapnnkahijikaa
open Go.ChangeShapes Go.WideShapes Go.ChangeAt Go.RowKit Go.Lib

/-- Files of the law's own, that do not touch block B. -/
def Own8 (w wi : World) (f : Nat) (A : Abs) (B : Nat) : Prop := Below w.heap.size w wi ∧ ∃ S, FsAt wi f S ∧ S.abs = A ∧ (∀ k, S.foot f k → w.heap.size ≤ k ∧ k ≠ B) ∧ B < wi.heap.size
theorem Own8.own {w wi : World} {f B : Nat} {A : Abs} (h : Own8 w wi f A B) : Own7 w wi f A := by
  obtain ⟨h1, S, h2, h3, h4, _⟩ := h
  exact ⟨h1, S, h2, h3, fun k hk => (h4 k hk).1⟩
theorem Own8.of {w wi wj : World} {f : Nat} {A : Abs} (h : Own7 w wi f A) (hb : Below wi.heap.size wi wj) (B : Nat) (hB : wi.heap.size ≤ B) (hB2 : B < wj.heap.size) : Own8 w wj f A B := by
  obtain ⟨h1, S, h2, h3, h4⟩ := h
  exact ⟨h1.trans (hb.mono h1.size), S, h2.below hb, h3, fun k hk => ⟨h4 k hk, by have := h2.lt hk; omega⟩, hB2⟩
theorem own8_append {w wi wj : World} {f B : Nat} {A : Abs} (h : Own8 w wi f A B) (hb : Below wi.heap.size wi wj) (name : ByteArray) (b c n : Nat) (bs : List (BitVec 8)) (hn : n = bs.length) (hbn : wi.heap.size ≤ b) (hs : SrcB wj (.slice (some ⟨b, 0, none⟩) n c) bs) (hl : bs.length ≤ 50000000)
    (h0 : 0 ≤ A.ops) (h1 : A.ops ≤ 4611686018427387904) (h2 : -9223372036854775808 ≤ A.left) (h3 : A.left ≤ 9223372036854775807) :
    Calls Try.prog 13 #[.pointer (some ⟨f, 0, none⟩), .string name, .slice (some ⟨b, 0, none⟩) n c] wj fun e w' => e = .returned (.int .i64 (A.appE name bs)) ∧ Own8 w w' f (A.app name bs) B ∧ w'.heap[B]? = wi.heap[B]? := by
  subst hn
  obtain ⟨hb1, S, hf, ha, hfo, hB⟩ := h
  have hs1 := hb.size
  refine (append_any f S name _ bs wj (hf.below hb) (FS.sane_of ha h0 h1 h2 h3) hs hl fun k hk e => ?_).mono ?_
  · injection hk with hk
    have := hf.lt e
    simp only at hk
    omega
  · rintro e w' ⟨rfl, S', g1, g2, g3⟩
    rw [ha] at g1 ⊢
    refine ⟨rfl, ⟨(hb1.trans (hb.mono hb1.size)).trans (g3.below (by have := hb1.size; omega) fun k hk => (hfo k hk).1), S', g2, g1, fun k hk => ?_, by have := g3.size; omega⟩, ?_⟩
    · rcases g3.foot k hk with e | e
      · exact hfo k e
      · have := hb1.size
        exact ⟨by omega, by omega⟩
    · rw [g3.block B (by omega) fun e => (hfo B e).2 rfl, hb.block B hB]
theorem own_remove {w wi : World} {f : Nat} {A : Abs} (h : Own7 w wi f A) (name : ByteArray) (h0 : 0 ≤ A.ops) (h1 : A.ops ≤ 4611686018427387904) (h2 : -9223372036854775808 ≤ A.left) (h3 : A.left ≤ 9223372036854775807) :
    Calls Try.prog 21 #[.pointer (some ⟨f, 0, none⟩), .string name] wi fun e w' => e = .returned (.int .i64 (A.opn [name] name)) ∧ Own7 w w' f (A.rem name) := by
  obtain ⟨hb1, S, hf, ha, hfo⟩ := h
  refine (remove_any f S name wi hf (FS.sane_of ha h0 h1 h2 h3)).mono ?_
  rintro e w' ⟨rfl, h⟩
  rw [ha] at h ⊢
  exact ⟨rfl, Own7.after hb1 hfo h⟩
theorem own_truncate {w wi : World} {f : Nat} {A : Abs} (h : Own7 w wi f A) (name : ByteArray) (t : Int) (h0 : 0 ≤ A.ops) (h1 : A.ops ≤ 4611686018427387904) (h2 : -9223372036854775808 ≤ A.left) (h3 : A.left ≤ 9223372036854775807) :
    Calls Try.prog 23 #[.pointer (some ⟨f, 0, none⟩), .string name, .int .i64 t] wi fun e w' => e = .returned (.int .i64 (A.truE name t)) ∧ Own7 w w' f (A.tru name t) := by
  obtain ⟨hb1, S, hf, ha, hfo⟩ := h
  refine (truncate_any f S name t wi hf (FS.sane_of ha h0 h1 h2 h3)).mono ?_
  rintro e w' ⟨rfl, h⟩
  rw [ha] at h ⊢
  exact ⟨rfl, Own7.after hb1 hfo h⟩
theorem own_names {w wi : World} {f : Nat} {A : Abs} (h : Own7 w wi f A) (hs : ∀ p ∈ A.L, p.1.size ≤ 1000) (hl : A.L.length ≤ 1000000) :
    Calls Try.prog 28 #[.pointer (some ⟨f, 0, none⟩)] wi fun e w' => ∃ a c, e = .returned (.slice a A.L.length c) ∧ OwnS w' wi.heap.size (.slice a A.L.length c) (sortN (A.L.map Prod.fst)) ∧ Below wi.heap.size wi w' := by
  obtain ⟨hb1, S, hf, ha, hfo⟩ := h
  have hL : S.L = A.L := congrArg Abs.L ha
  refine (names_any f S wi hf (by rw [hL]; exact hs) (by rw [hL]; exact hl)).mono ?_
  rw [hL]
  rintro e w' ⟨v, rfl, ho, hb⟩
  obtain ⟨a, c, rfl⟩ := ho.shape
  rw [sortN_length, List.length_map] at ho ⊢
  exact ⟨a, c, rfl, ho, hb⟩
/-- The law's files behind so many of its first acts. -/
def L3 (a b c : ByteArray) (k : Nat) : List (ByteArray × Fl) := ([a, b, c].take k).map fun s => (s, ⟨strB s, 0⟩)
theorem L3_next {a b c : ByteArray} (hab : a ≠ b) (hbc : b ≠ c) (hac : a ≠ c) (oa : nameOK a = true) (ob : nameOK b = true) (oc : nameOK c = true) {k : Nat} {x : ByteArray} (hx : [a, b, c][k]? = some x) :
    Abs.appE ⟨L3 a b c k, k, false, 0, false⟩ x (strB x) = 0 ∧ Abs.app ⟨L3 a b c k, k, false, 0, false⟩ x (strB x) = ⟨L3 a b c (k + 1), (k : Int) + 1, false, 0, false⟩ := by
  have hn : nameOK x = true ∧ alook x (L3 a b c k) = none ∧ aput x ⟨strB x, 0⟩ (L3 a b c k) = L3 a b c (k + 1) := by
    match k, hx with
    | 0, hx => injection hx with hx; subst hx; exact ⟨oa, rfl, rfl⟩
    | 1, hx => injection hx with hx; subst hx; exact ⟨ob, by simp [L3, alook, Ne.symm hab], by simp [L3, aput, Ne.symm hab]⟩
    | 2, hx => injection hx with hx; subst hx; exact ⟨oc, by simp [L3, alook, Ne.symm hac, Ne.symm hbc], by simp [L3, aput, Ne.symm hac, Ne.symm hbc]⟩
    | k + 3, hx => cases hx
  have hsz := nameOK_size hn.1
  have := app_plain (L3 a b c k) k x (strB x) hn.1 (by rw [hn.2.1, strB_length]; show x.size + 0 ≤ _; omega)
  rw [hn.2.1] at this
  refine ⟨this.1, ?_⟩
  rw [this.2]
  show Abs.mk (aput x ⟨[] ++ strB x, 0⟩ (L3 a b c k)) _ _ _ _ = _
  rw [List.nil_append, hn.2.2]
theorem nameOK_of {s : ByteArray} (h1 : 1 ≤ s.size) (h2 : s.size ≤ 50) : nameOK s = true := by unfold nameOK; simp [h1, h2]
theorem ne_of_lists {a b : ByteArray} (h : (a.toList == b.toList) = false) : a ≠ b := fun e => by rw [e] at h; simp at h
theorem step_toBytes {ops : Array Oper} {o : Oper} {ac : Act} {w : World} {K : Act → World → Prop} {Q : Exit → Act → World → Prop} {E : Prop} (hgd : o.guard = none) (x : Operand) (ho : o.op = .convert 9 40 x) (s : ByteArray) (hx : ac.eval x = .string s)
    (hK : ∀ c w', Hid (SrcB w' (.slice (some ⟨w.heap.size, 0, none⟩) s.size c) (strB s)) → Hid (Below w.heap.size w w') → K (ac.put o.dst (.slice (some ⟨w.heap.size, 0, none⟩) s.size c)) w') : if Region.wanted o (yielded ops ac.tmps) = true then Oper.wp Try.prog o ac w K Q else E := by
  have hw : Region.wanted o (yielded ops ac.tmps) = true := by simp [Region.wanted, hgd]
  rw [if_pos hw]
  unfold Oper.wp execOp
  simp only [ho, hx, Sem.run_bind, Sem.run_pure, Go.Lib.run_convert_string_bytes w 9 40 5 s Try.underlying9 Try.underlying40 Try.underlying5, Result.andThen_ok]
  refine hK _ _ ?_ ?_
  · show SrcB _ _ _
    refine .inr ⟨w.heap.size, 0, grownCap w s.size 0 5, ?_, fun j u hu => ?_⟩
    · rw [show (strB s).length = s.size from strB_length s]
    · have hj : j < (strB s).length := by have := (List.getElem?_eq_some_iff.1 hu).1; rwa [u8s_length] at this
      have hj' : j < s.size := by rwa [strB_length] at hj
      rw [u8s_get _ j hj] at hu
      rw [Nat.zero_add, Go.Lib.bytesWorld_cell w 5 s j hj', ← hu]
      have hd : j < s.data.toList.length := by simpa using hj'
      unfold strB Y
      rw [List.getD_eq_getElem?_getD, List.getD_eq_getElem?_getD, List.getElem?_map, List.getElem?_eq_getElem hd]
      rfl
  · show Below _ _ _
    exact ⟨rfl, rfl, rfl, by rw [Go.Lib.bytesWorld_size]; omega, fun k hk => Go.Lib.bytesWorld_at_old w _ s k hk⟩
theorem list_ne {a b : ByteArray} (h : a ≠ b) : (a.toList == b.toList) = false := by
  rw [beq_eq_false_iff_ne]
  intro e
  rw [ByteArray.toList_eq, ByteArray.toList_eq] at e
  apply h
  cases a; cases b
  simp only at e
  rw [Array.toList_inj.1 e]
theorem opn_none (L : List (ByteArray × Fl)) (n : Int) (l : List ByteArray) (name : ByteArray) (h3 : l.all nameOK = true) (ha : alook name L = none) : Abs.opn ⟨L, n, false, 0, false⟩ l name = 5 := by
  obtain ⟨h1, _⟩ := beg_ok (A := ⟨L, n, false, 0, false⟩) (l := l) rfl rfl h3
  unfold Abs.opn
  rw [if_pos h1, ha]; rfl
theorem pow_plain (L : List (ByteArray × Fl)) (n : Int) : Abs.pow ⟨L, n, false, 0, false⟩ = ⟨L, n + 1, false, 0, false⟩ := by unfold Abs.pow; rw [if_pos rfl]
theorem names_acts {a b c : ByteArray} (A B C : Fl) (hab : a ≠ b) (hbc : b ≠ c) (hac : a ≠ c) (oa : nameOK a = true) (ob : nameOK b = true) (oc : nameOK c = true) :
    (Abs.opn ⟨[(a, A), (b, B), (c, C)], 3, false, 0, false⟩ [b, a] a = 0 ∧ Abs.ren ⟨[(a, A), (b, B), (c, C)], 3, false, 0, false⟩ a b = ⟨[(b, A), (c, C)], 4, false, 0, false⟩) ∧
    (Abs.opn ⟨[(b, A), (c, C)], 4, false, 0, false⟩ [c, a] a = 5 ∧ Abs.ren ⟨[(b, A), (c, C)], 4, false, 0, false⟩ a c = ⟨[(b, A), (c, C)], 5, false, 0, false⟩) ∧
    (Abs.opn ⟨[(b, A), (c, C)], 5, false, 0, false⟩ [c] c = 0 ∧ Abs.rem ⟨[(b, A), (c, C)], 5, false, 0, false⟩ c = ⟨[(b, A)], 6, false, 0, false⟩) ∧
    (Abs.opn ⟨[(b, A)], 6, false, 0, false⟩ [c] c = 5 ∧ Abs.rem ⟨[(b, A)], 6, false, 0, false⟩ c = ⟨[(b, A)], 7, false, 0, false⟩) ∧
    (Abs.opn ⟨[(b, A)], 7, false, 0, false⟩ [b, b] b = 0 ∧ Abs.ren ⟨[(b, A)], 7, false, 0, false⟩ b b = ⟨[(b, A)], 8, false, 0, false⟩) := by
  refine ⟨?_, ?_, ?_, ?_, ?_⟩
  · have h := ren_plain [(a, A), (b, B), (c, C)] 3 a b A oa ob (by simp [alook])
    refine ⟨h.1, h.2.trans ?_⟩
    simp [adel, aput]
  · have h1 : alook a [(b, A), (c, C)] = none := by simp [alook, hab, hac]
    have h := opn_none [(b, A), (c, C)] 4 [c, a] a (by simp [oa, oc]) h1
    refine ⟨h, ?_⟩
    unfold Abs.ren
    rw [if_neg (by rw [h]; decide), pow_plain]; rfl
  · have h1 : alook c [(b, A), (c, C)] = some C := by simp [alook, Ne.symm hbc]
    have h := opn_plain [(b, A), (c, C)] 5 [c] c C (by simp [oc]) h1
    refine ⟨h, ?_⟩
    unfold Abs.rem
    rw [if_pos h, pow_plain]
    simp [adel, Ne.symm hbc]
  · have h1 : alook c [(b, A)] = none := by simp [alook, Ne.symm hbc]
    have h := opn_none [(b, A)] 6 [c] c (by simp [oc]) h1
    refine ⟨h, ?_⟩
    unfold Abs.rem
    rw [if_neg (by rw [h]; decide), pow_plain]; rfl
  · have h := ren_plain [(b, A)] 7 b b A ob ob (by simp [alook])
    refine ⟨h.1, h.2.trans ?_⟩
    simp [adel, aput]
theorem names_cuts {b : ByteArray} (bs : List (BitVec 8)) (hb : 1 ≤ bs.length) (ob : nameOK b = true) :
    (Abs.truE ⟨[(b, ⟨bs, 0⟩)], 8, false, 0, false⟩ b ((bs.length : Int) + 1) = 1 ∧ Abs.tru ⟨[(b, ⟨bs, 0⟩)], 8, false, 0, false⟩ b ((bs.length : Int) + 1) = ⟨[(b, ⟨bs, 0⟩)], 9, false, 0, false⟩) ∧
    (Abs.truE ⟨[(b, ⟨bs, 0⟩)], 9, false, 0, false⟩ b 1 = 0 ∧ ∃ bs', Abs.tru ⟨[(b, ⟨bs, 0⟩)], 9, false, 0, false⟩ b 1 = ⟨[(b, ⟨bs', 0⟩)], 10, false, 0, false⟩) := by
  have hl : alook b [(b, (⟨bs, 0⟩ : Fl))] = some ⟨bs, 0⟩ := alook_one _ _
  have ho : ∀ n, Abs.opn ⟨[(b, ⟨bs, 0⟩)], n, false, 0, false⟩ [b] b = 0 := fun n => opn_plain _ n [b] b _ (by simp [ob]) hl
  have e1 : ∀ n, Abs.truE ⟨[(b, ⟨bs, 0⟩)], n, false, 0, false⟩ b ((bs.length : Int) + 1) = 1 := fun n => by
    unfold Abs.truE
    rw [if_pos (ho n), hl]
    show (if 0 ≤ (bs.length : Int) + 1 ∧ (bs.length : Int) + 1 ≤ bs.length then (0 : Int) else 1) = 1
    rw [if_neg (by omega)]
  have e2 : ∀ n, Abs.truE ⟨[(b, ⟨bs, 0⟩)], n, false, 0, false⟩ b 1 = 0 := fun n => by
    unfold Abs.truE
    rw [if_pos (ho n), hl]
    show (if 0 ≤ (1 : Int) ∧ (1 : Int) ≤ bs.length then (0 : Int) else 1) = 0
    rw [if_pos (by omega)]
  refine ⟨⟨e1 8, ?_⟩, e2 9, bs.take 1, ?_⟩
  · unfold Abs.tru
    rw [if_neg (by rw [e1]; decide), pow_plain]; rfl
  · unfold Abs.tru
    rw [if_pos (e2 9), pow_plain, hl]
    show Abs.mk (aput b ⟨bs.take 1, min 0 1⟩ [(b, ⟨bs, 0⟩)]) _ _ _ _ = _
    simp [aput]
end Go.Proofs.Ytlapnnkahijikaa
namespace Go.Proofs.Ytlapnnkahijikaa
open Go.ChangeShapes Go.WideShapes Go.ChangeAt Go.RowKit Go.Lib

structure Deed where
  k : Int
  a : ByteArray
  b : ByteArray
  n : Int
/-- Deeds that lie at a. -/
def Deeds (w : World) (a : Option Addr) (l : List Deed) : Prop := l = [] ∨ ∃ b o, a = some ⟨b, o, none⟩ ∧ ∀ j d, l[j]? = some d → w.cell? ⟨b, o + j * 4, none⟩ = some (.int .i64 d.k) ∧ w.cell? ⟨b, o + j * 4 + 1, none⟩ = some (.string d.a) ∧ w.cell? ⟨b, o + j * 4 + 2, none⟩ = some (.string d.b) ∧ w.cell? ⟨b, o + j * 4 + 3, none⟩ = some (.int .i64 d.n)
theorem Deeds.below {w w' : World} {a : Option Addr} {l : List Deed} (h : Deeds w a l) (hb : Below w.heap.size w w') : Deeds w' a l := by
  rcases h with h | ⟨b, o, rfl, hc⟩
  · exact .inl h
  · exact .inr ⟨b, o, rfl, fun j d hd => ⟨cell_below hb (hc j d hd).1, cell_below hb (hc j d hd).2.1, cell_below hb (hc j d hd).2.2.1, cell_below hb (hc j d hd).2.2.2⟩⟩
def Deed.ok (d : Deed) : Bool := decide (d.a.size ≤ 200) && decide (d.b.size ≤ 200)
/-- How long the second texts are. -/
def sumB (l : List Deed) : Nat := (l.map fun d => d.b.size).sum
def fewB (l : List Deed) : Bool := (l.take 100).all Deed.ok && (decide (l.length ≤ 60) && decide (sumB (l.take 100) ≤ 3000))
theorem sumB_snoc (l : List Deed) (d : Deed) : sumB (l ++ [d]) = sumB l + d.b.size := by simp [sumB]
theorem take_snoc {α : Type} {l : List α} {k : Nat} {d : α} (h : l[k]? = some d) : l.take (k + 1) = l.take k ++ [d] := by
  obtain ⟨hk, rfl⟩ := List.getElem?_eq_some_iff.1 h
  rw [List.take_succ_eq_append_getElem hk]
set_option maxRecDepth 100000 in
set_option maxHeartbeats 2000000 in
theorem few_any (a : Option Addr) (n cap : Nat) (l : List Deed) (w : World) (h : Deeds w a l) (hn : l.length = n) (hc : n ≤ cap) (hcm : cap ≤ maxLen) :
    Calls Try.prog 5 #[.slice a n cap] w fun e w' => e = .returned (.bool (fewB l)) ∧ w' = w := by
  have HD : Hid (Deeds w a l) := h
  have hn63 : (n : Int) ≤ 9223372036854775807 := by unfold maxLen at hcm; omega
  have HN : Hid (l.length = n) := hn
  have HF : Hid (fewB l = ((l.take 100).all Deed.ok && (decide (l.length ≤ 60) && decide (sumB (l.take 100) ≤ 3000)))) := show _ = _ from rfl
  clear h hn hc hcm
  go_enter Try.func5, Try.ntmps5
  go_wp2_with fail
  go_loopw [3, 4] (fun s i wr => ∃ k : Nat, k ≤ n ∧ k ≤ 100 ∧ i = .int .i64 k ∧ s = .int .i64 (sumB (l.take k)) ∧ sumB (l.take k) ≤ 200 * k ∧ wr = w ∧ Hid ((l.take k).all Deed.ok = true)) (fun _ i _ => 100 - (intOf i).toNat)
  case atStart => exact ⟨0, Nat.zero_le _, Nat.zero_le _, rfl, by simp [sumB], by simp [sumB], rfl, (rfl : (l.take 0).all Deed.ok = true)⟩
  case round =>
    obtain ⟨k, hk, hk1, rfl, rfl, hs, rfl, HA⟩ := hrel
    by_cases hlt : k < n ∧ k < 100
    · have e0 : (0 : Int) ≤ (k : Int) := by omega
      have e1 : (k : Int) < (n : Int) := by omega
      have e2 : (k : Int) < 100 := by omega
      obtain ⟨d, hd⟩ : ∃ d, l[k]? = some d := ⟨_, List.getElem?_eq_getElem (by have := HN.out; omega)⟩
      have hdd := HD.out
      rcases hdd with h0 | ⟨b, o, rfl, hcs⟩
      · rw [h0] at hd; cases hd
      obtain ⟨_, ca, cb, _⟩ := hcs k d hd
      have HT : Hid (l.take (k + 1) = l.take k ++ [d]) := take_snoc hd
      have HS : Hid (sumB (l.take (k + 1)) = sumB (l.take k) + d.b.size) := show _ = _ by rw [HT.out, sumB_snoc]
      have HD2 : Hid (l[k]? = some d) := hd
      clear hcs hd
      obtain ⟨sm, hsm⟩ : ∃ sm, sm = sumB (l.take k) := ⟨_, rfl⟩
      rw [← hsm] at hs HS ⊢
      clear hsm
      by_cases ha : d.a.size ≤ 200
      · by_cases hb : d.b.size ≤ 200
        · have f1 : ¬ (d.a.size : Int) > 200 := by omega
          have f2 : ¬ (d.b.size : Int) > 200 := by omega
          go_wp2_with fail
          go_roundw
          case rel =>
            refine ⟨k + 1, by omega, by omega, by go_num, by rw [HS.out]; go_num, by rw [HS.out]; omega, trivial, ?_⟩
            show _ = _
            rw [HT.out, List.all_append, HA.out]
            simp [Deed.ok, ha, hb]
          case measure => simp [intOf]; omega
        · have f1 : ¬ (d.a.size : Int) > 200 := by omega
          have f2 : (d.b.size : Int) > 200 := by omega
          have HR : Hid (fewB l = false) := by
            have hm : d ∈ l.take 100 := List.mem_of_getElem? (i := k) (by rw [List.getElem?_take_of_lt (by omega)]; exact HD2.out)
            have : (l.take 100).all Deed.ok = false := by
              rw [List.all_eq_false]
              exact ⟨d, hm, by simp [Deed.ok, hb]⟩
            show _ = _
            rw [HF.out, this]; rfl
          go_wp2_with fail
          go_ret
          exact ⟨ret_bool HR.out.symm, rfl⟩
      · have f1 : (d.a.size : Int) > 200 := by omega
        have HR : Hid (fewB l = false) := by
          have hm : d ∈ l.take 100 := List.mem_of_getElem? (i := k) (by rw [List.getElem?_take_of_lt (by omega)]; exact HD2.out)
          have : (l.take 100).all Deed.ok = false := by
            rw [List.all_eq_false]
            exact ⟨d, hm, by simp [Deed.ok, ha]⟩
          show _ = _
          rw [HF.out, this]; rfl
        go_wp2_with fail
        go_ret
        exact ⟨ret_bool HR.out.symm, rfl⟩
    · have htk : l.take k = l.take 100 := by
        by_cases h100 : k = 100
        · rw [h100]
        · have hkn : k = n := by omega
          rw [hkn, ← HN.out, List.take_length, List.take_of_length_le (by rw [HN.out]; omega)]
      have HR : Hid (fewB l = (decide (n ≤ 60) && decide (sumB (l.take k) ≤ 3000))) := show _ = _ by
        rw [HF.out, ← htk, HA.out, HN.out]; simp
      clear htk
      obtain ⟨sm, hsm⟩ : ∃ sm, sm = sumB (l.take k) := ⟨_, rfl⟩
      rw [← hsm] at hs HR ⊢
      clear hsm
      by_cases h60 : n ≤ 60
      · have g0 : ¬ (k : Int) < (n : Int) := by omega
        by_cases h3 : sm ≤ 3000
        · have g1 : (sm : Int) ≤ 3000 := by omega
          go_wp2_with fail
          go_ret
          exact ⟨ret_bool (by rw [HR.out, decide_eq_true h60, decide_eq_true h3]; simp; try omega), rfl⟩
        · have g1 : ¬ (sm : Int) ≤ 3000 := by omega
          go_wp2_with fail
          go_ret
          exact ⟨ret_bool (by rw [HR.out, decide_eq_true h60, decide_eq_false h3]; simp; try omega), rfl⟩
      · by_cases hkn : k < n
        · have g0 : ¬ (k : Int) < 100 := by omega
          go_wp2_with fail
          go_ret
          exact ⟨ret_bool (by rw [HR.out]; simp [h60]), rfl⟩
        · have g0 : ¬ (k : Int) < (n : Int) := by omega
          go_wp2_with fail
          go_ret
          exact ⟨ret_bool (by rw [HR.out]; simp [h60]), rfl⟩
end Go.Proofs.Ytlapnnkahijikaa
