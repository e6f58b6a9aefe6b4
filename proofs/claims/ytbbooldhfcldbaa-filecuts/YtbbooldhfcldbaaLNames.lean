/- coraclelaw7.FileNames: its walk. -/
import Derived.Test.YtbbooldhfcldbaaLSort3
namespace Go.Proofs.Ytbbooldhfcldbaa
open Go.ChangeShapes Go.WideShapes Go.ChangeAt Go.RowKit Go.Lib

/-- Files of the law's own, that do not touch block B. -/
def Own8 (w wi : World) (f : Nat) (A : Abs) (B : Nat) : Prop := Below w.heap.size w wi ∧ ∃ S, FsAt wi f S ∧ S.abs = A ∧ (∀ k, S.foot f k → w.heap.size ≤ k ∧ k ≠ B) ∧ B < wi.heap.size
theorem Own8.own {w wi : World} {f B : Nat} {A : Abs} (h : Own8 w wi f A B) : Own7 w wi f A := by
  obtain ⟨h1, S, h2, h3, h4, _⟩ := h
  exact ⟨h1, S, h2, h3, fun k hk => (h4 k hk).1⟩
theorem Own8.of {w wi wj : World} {f : Nat} {A : Abs} (h : Own7 w wi f A) (hb : Below wi.heap.size wi wj) (B : Nat) (hB : wi.heap.size ≤ B) (hB2 : B < wj.heap.size) : Own8 w wj f A B := by
  obtain ⟨h1, S, h2, h3, h4⟩ := h
  exact ⟨h1.trans (hb.mono h1.size), S, h2.below hb, h3, fun k hk => ⟨h4 k hk, by have := h2.lt hk; omega⟩, hB2⟩
theorem own8_append {w wi wj : World} {f B : Nat} {A : Abs} (h : Own8 w wi f A B) (hb : Below wi.heap.size wi wj) (name : ByteArray) (b c n : Nat) (bs : List (BitVec 8)) (hn : n = bs.length) (hbn : wi.heap.size ≤ b) (hs : SrcB wj (.slice (some ⟨b, 0, none⟩) n c) bs) (hl : bs.length ≤ 50000000)
    (h0 : 0 ≤ A.ops) (h1 : A.ops ≤ 4611686018427387904) (h2 : -9223372036854775808 ≤ A.left) (h3 : A.left ≤ 9223372036854775807) :
    Calls Try.prog 16 #[.pointer (some ⟨f, 0, none⟩), .string name, .slice (some ⟨b, 0, none⟩) n c] wj fun e w' => e = .returned (.int .i64 (A.appE name bs)) ∧ Own8 w w' f (A.app name bs) B ∧ w'.heap[B]? = wi.heap[B]? := by
  subst hn
  obtain ⟨hb1, S, hf, ha, hfo, hB⟩ := h
  have hs1 := hb.size
  refine (append_any f S name _ bs wj (hf.below hb) (FS.sane_of ha h0 h1 h2 h3) hs hl fun k hk e => ?_).mono ?_
  · injection hk with hk
    have := hf.lt e
    simp only at hk
    omega
  · rintro e w' ⟨rfl, S', g1, g2, g3⟩
    rw [ha] at g1 ⊢
    refine ⟨rfl, ⟨(hb1.trans (hb.mono hb1.size)).trans (g3.below (by have := hb1.size; omega) fun k hk => (hfo k hk).1), S', g2, g1, fun k hk => ?_, by have := g3.size; omega⟩, ?_⟩
    · rcases g3.foot k hk with e | e
      · exact hfo k e
      · have := hb1.size
        exact ⟨by omega, by omega⟩
    · rw [g3.block B (by omega) fun e => (hfo B e).2 rfl, hb.block B hB]
theorem own_remove {w wi : World} {f : Nat} {A : Abs} (h : Own7 w wi f A) (name : ByteArray) (h0 : 0 ≤ A.ops) (h1 : A.ops ≤ 4611686018427387904) (h2 : -9223372036854775808 ≤ A.left) (h3 : A.left ≤ 9223372036854775807) :
    Calls Try.prog 25 #[.pointer (some ⟨f, 0, none⟩), .string name] wi fun e w' => e = .returned (.int .i64 (A.opn [name] name)) ∧ Own7 w w' f (A.rem name) := by
  obtain ⟨hb1, S, hf, ha, hfo⟩ := h
  refine (remove_any f S name wi hf (FS.sane_of ha h0 h1 h2 h3)).mono ?_
  rintro e w' ⟨rfl, h⟩
  rw [ha] at h ⊢
  exact ⟨rfl, Own7.after hb1 hfo h⟩
theorem own_truncate {w wi : World} {f : Nat} {A : Abs} (h : Own7 w wi f A) (name : ByteArray) (t : Int) (h0 : 0 ≤ A.ops) (h1 : A.ops ≤ 4611686018427387904) (h2 : -9223372036854775808 ≤ A.left) (h3 : A.left ≤ 9223372036854775807) :
    Calls Try.prog 27 #[.pointer (some ⟨f, 0, none⟩), .string name, .int .i64 t] wi fun e w' => e = .returned (.int .i64 (A.truE name t)) ∧ Own7 w w' f (A.tru name t) := by
  obtain ⟨hb1, S, hf, ha, hfo⟩ := h
  refine (truncate_any f S name t wi hf (FS.sane_of ha h0 h1 h2 h3)).mono ?_
  rintro e w' ⟨rfl, h⟩
  rw [ha] at h ⊢
  exact ⟨rfl, Own7.after hb1 hfo h⟩
theorem own_names {w wi : World} {f : Nat} {A : Abs} (h : Own7 w wi f A) (hs : ∀ p ∈ A.L, p.1.size ≤ 1000) (hl : A.L.length ≤ 1000000) :
    Calls Try.prog 24 #[.pointer (some ⟨f, 0, none⟩)] wi fun e w' => ∃ a c, e = .returned (.slice a A.L.length c) ∧ OwnS w' wi.heap.size (.slice a A.L.length c) (sortN (A.L.map Prod.fst)) ∧ Below wi.heap.size wi w' := by
  obtain ⟨hb1, S, hf, ha, hfo⟩ := h
  have hL : S.L = A.L := congrArg Abs.L ha
  refine (names_any f S wi hf (by rw [hL]; exact hs) (by rw [hL]; exact hl)).mono ?_
  rw [hL]
  rintro e w' ⟨v, rfl, ho, hb⟩
  obtain ⟨a, c, rfl⟩ := ho.shape
  rw [sortN_length, List.length_map] at ho ⊢
  exact ⟨a, c, rfl, ho, hb⟩
/-- The law's files behind so many of its first acts. -/
def L3 (a b c : ByteArray) (k : Nat) : List (ByteArray × Fl) := ([a, b, c].take k).map fun s => (s, ⟨strB s, 0⟩)
theorem L3_next {a b c : ByteArray} (hab : a ≠ b) (hbc : b ≠ c) (hac : a ≠ c) (oa : nameOK a = true) (ob : nameOK b = true) (oc : nameOK c = true) {k : Nat} {x : ByteArray} (hx : [a, b, c][k]? = some x) :
    Abs.appE ⟨L3 a b c k, k, false, 0, false⟩ x (strB x) = 0 ∧ Abs.app ⟨L3 a b c k, k, false, 0, false⟩ x (strB x) = ⟨L3 a b c (k + 1), (k : Int) + 1, false, 0, false⟩ := by
  have hn : nameOK x = true ∧ alook x (L3 a b c k) = none ∧ aput x ⟨strB x, 0⟩ (L3 a b c k) = L3 a b c (k + 1) := by
    match k, hx with
    | 0, hx => injection hx with hx; subst hx; exact ⟨oa, rfl, rfl⟩
    | 1, hx => injection hx with hx; subst hx; exact ⟨ob, by simp [L3, alook, Ne.symm hab], by simp [L3, aput, Ne.symm hab]⟩
    | 2, hx => injection hx with hx; subst hx; exact ⟨oc, by simp [L3, alook, Ne.symm hac, Ne.symm hbc], by simp [L3, aput, Ne.symm hac, Ne.symm hbc]⟩
    | k + 3, hx => cases hx
  have hsz := nameOK_size hn.1
  have := app_plain (L3 a b c k) k x (strB x) hn.1 (by rw [hn.2.1, strB_length]; show x.size + 0 ≤ _; omega)
  rw [hn.2.1] at this
  refine ⟨this.1, ?_⟩
  rw [this.2]
  show Abs.mk (aput x ⟨[] ++ strB x, 0⟩ (L3 a b c k)) _ _ _ _ = _
  rw [List.nil_append, hn.2.2]
theorem nameOK_of {s : ByteArray} (h1 : 1 ≤ s.size) (h2 : s.size ≤ 50) : nameOK s = true := by unfold nameOK; simp [h1, h2]
theorem ne_of_lists {a b : ByteArray} (h : (a.toList == b.toList) = false) : a ≠ b := fun e => by rw [e] at h; simp at h
set_option maxRecDepth 100000 in
set_option maxHeartbeats 4000000 in
theorem names_bad (a b c : ByteArray) (w : World) (h : ¬ ((nameOK a = true ∧ nameOK b = true ∧ nameOK c = true) ∧ a ≠ b ∧ b ≠ c ∧ a ≠ c)) :
    Calls Try.prog 7 #[.string a, .string b, .string c] w fun e w' => e = .returned (.bool true) ∧ Below w.heap.size w w' := by
  by_cases h1 : (a.size : Int) < 1
  · clear h
    go_enter Try.func7, Try.ntmps7
    go_wp2_with fail
    refine Calls.mono (awake_any w) ?_
    rintro e w1 ⟨rfl, hb⟩
    go_wp2_with fail
    go_ret
    exact ⟨rfl, hb⟩
  · skip
    by_cases h2 : (a.size : Int) > 50
    · clear h
      go_enter Try.func7, Try.ntmps7
      go_wp2_with fail
      refine Calls.mono (awake_any w) ?_
      rintro e w1 ⟨rfl, hb⟩
      go_wp2_with fail
      go_ret
      exact ⟨rfl, hb⟩
    · skip
      by_cases h3 : (b.size : Int) < 1
      · clear h
        go_enter Try.func7, Try.ntmps7
        go_wp2_with fail
        refine Calls.mono (awake_any w) ?_
        rintro e w1 ⟨rfl, hb⟩
        go_wp2_with fail
        go_ret
        exact ⟨rfl, hb⟩
      · skip
        by_cases h4 : (b.size : Int) > 50
        · clear h
          go_enter Try.func7, Try.ntmps7
          go_wp2_with fail
          refine Calls.mono (awake_any w) ?_
          rintro e w1 ⟨rfl, hb⟩
          go_wp2_with fail
          go_ret
          exact ⟨rfl, hb⟩
        · skip
          by_cases h5 : (c.size : Int) < 1
          · clear h
            go_enter Try.func7, Try.ntmps7
            go_wp2_with fail
            refine Calls.mono (awake_any w) ?_
            rintro e w1 ⟨rfl, hb⟩
            go_wp2_with fail
            go_ret
            exact ⟨rfl, hb⟩
          · skip
            by_cases h6 : (c.size : Int) > 50
            · clear h
              go_enter Try.func7, Try.ntmps7
              go_wp2_with fail
              refine Calls.mono (awake_any w) ?_
              rintro e w1 ⟨rfl, hb⟩
              go_wp2_with fail
              go_ret
              exact ⟨rfl, hb⟩
            · skip
              cases h7 : (a.toList == b.toList) with
              | true =>
                clear h
                go_enter Try.func7, Try.ntmps7
                go_wp2_with fail
                refine Calls.mono (awake_any w) ?_
                rintro e w1 ⟨rfl, hb⟩
                go_wp2_with fail
                go_ret
                exact ⟨rfl, hb⟩
              | false =>
                cases h8 : (b.toList == c.toList) with
                | true =>
                  clear h
                  go_enter Try.func7, Try.ntmps7
                  go_wp2_with fail
                  refine Calls.mono (awake_any w) ?_
                  rintro e w1 ⟨rfl, hb⟩
                  go_wp2_with fail
                  go_ret
                  exact ⟨rfl, hb⟩
                | false =>
                  cases h9 : (a.toList == c.toList) with
                  | true =>
                    clear h
                    go_enter Try.func7, Try.ntmps7
                    go_wp2_with fail
                    refine Calls.mono (awake_any w) ?_
                    rintro e w1 ⟨rfl, hb⟩
                    go_wp2_with fail
                    go_ret
                    exact ⟨rfl, hb⟩
                  | false =>
                    exact absurd ⟨⟨nameOK_of (by omega) (by omega), nameOK_of (by omega) (by omega), nameOK_of (by omega) (by omega)⟩, ne_of_lists h7, ne_of_lists h8, ne_of_lists h9⟩ h
theorem step_toBytes {ops : Array Oper} {o : Oper} {ac : Act} {w : World} {K : Act → World → Prop} {Q : Exit → Act → World → Prop} {E : Prop} (hgd : o.guard = none) (x : Operand) (ho : o.op = .convert 9 40 x) (s : ByteArray) (hx : ac.eval x = .string s)
    (hK : ∀ c w', Hid (SrcB w' (.slice (some ⟨w.heap.size, 0, none⟩) s.size c) (strB s)) → Hid (Below w.heap.size w w') → K (ac.put o.dst (.slice (some ⟨w.heap.size, 0, none⟩) s.size c)) w') : if Region.wanted o (yielded ops ac.tmps) = true then Oper.wp Try.prog o ac w K Q else E := by
  have hw : Region.wanted o (yielded ops ac.tmps) = true := by simp [Region.wanted, hgd]
  rw [if_pos hw]
  unfold Oper.wp execOp
  simp only [ho, hx, Sem.run_bind, Sem.run_pure, Go.Lib.run_convert_string_bytes w 9 40 5 s Try.underlying9 Try.underlying40 Try.underlying5, Result.andThen_ok]
  refine hK _ _ ?_ ?_
  · show SrcB _ _ _
    refine .inr ⟨w.heap.size, 0, grownCap w s.size 0 5, ?_, fun j u hu => ?_⟩
    · rw [show (strB s).length = s.size from strB_length s]
    · have hj : j < (strB s).length := by have := (List.getElem?_eq_some_iff.1 hu).1; rwa [u8s_length] at this
      have hj' : j < s.size := by rwa [strB_length] at hj
      rw [u8s_get _ j hj] at hu
      rw [Nat.zero_add, Go.Lib.bytesWorld_cell w 5 s j hj', ← hu]
      have hd : j < s.data.toList.length := by simpa using hj'
      unfold strB Y
      rw [List.getD_eq_getElem?_getD, List.getD_eq_getElem?_getD, List.getElem?_map, List.getElem?_eq_getElem hd]
      rfl
  · show Below _ _ _
    exact ⟨rfl, rfl, rfl, by rw [Go.Lib.bytesWorld_size]; omega, fun k hk => Go.Lib.bytesWorld_at_old w _ s k hk⟩
theorem list_ne {a b : ByteArray} (h : a ≠ b) : (a.toList == b.toList) = false := by
  rw [beq_eq_false_iff_ne]
  intro e
  rw [ByteArray.toList_eq, ByteArray.toList_eq] at e
  apply h
  cases a; cases b
  simp only at e
  rw [Array.toList_inj.1 e]
theorem opn_none (L : List (ByteArray × Fl)) (n : Int) (l : List ByteArray) (name : ByteArray) (h3 : l.all nameOK = true) (ha : alook name L = none) : Abs.opn ⟨L, n, false, 0, false⟩ l name = 5 := by
  obtain ⟨h1, _⟩ := beg_ok (A := ⟨L, n, false, 0, false⟩) (l := l) rfl rfl h3
  unfold Abs.opn
  rw [if_pos h1, ha]; rfl
theorem pow_plain (L : List (ByteArray × Fl)) (n : Int) : Abs.pow ⟨L, n, false, 0, false⟩ = ⟨L, n + 1, false, 0, false⟩ := by unfold Abs.pow; rw [if_pos rfl]
theorem names_acts {a b c : ByteArray} (A B C : Fl) (hab : a ≠ b) (hbc : b ≠ c) (hac : a ≠ c) (oa : nameOK a = true) (ob : nameOK b = true) (oc : nameOK c = true) :
    (Abs.opn ⟨[(a, A), (b, B), (c, C)], 3, false, 0, false⟩ [b, a] a = 0 ∧ Abs.ren ⟨[(a, A), (b, B), (c, C)], 3, false, 0, false⟩ a b = ⟨[(b, A), (c, C)], 4, false, 0, false⟩) ∧
    (Abs.opn ⟨[(b, A), (c, C)], 4, false, 0, false⟩ [c, a] a = 5 ∧ Abs.ren ⟨[(b, A), (c, C)], 4, false, 0, false⟩ a c = ⟨[(b, A), (c, C)], 5, false, 0, false⟩) ∧
    (Abs.opn ⟨[(b, A), (c, C)], 5, false, 0, false⟩ [c] c = 0 ∧ Abs.rem ⟨[(b, A), (c, C)], 5, false, 0, false⟩ c = ⟨[(b, A)], 6, false, 0, false⟩) ∧
    (Abs.opn ⟨[(b, A)], 6, false, 0, false⟩ [c] c = 5 ∧ Abs.rem ⟨[(b, A)], 6, false, 0, false⟩ c = ⟨[(b, A)], 7, false, 0, false⟩) ∧
    (Abs.opn ⟨[(b, A)], 7, false, 0, false⟩ [b, b] b = 0 ∧ Abs.ren ⟨[(b, A)], 7, false, 0, false⟩ b b = ⟨[(b, A)], 8, false, 0, false⟩) := by
  refine ⟨?_, ?_, ?_, ?_, ?_⟩
  · have h := ren_plain [(a, A), (b, B), (c, C)] 3 a b A oa ob (by simp [alook])
    refine ⟨h.1, h.2.trans ?_⟩
    simp [adel, aput]
  · have h1 : alook a [(b, A), (c, C)] = none := by simp [alook, hab, hac]
    have h := opn_none [(b, A), (c, C)] 4 [c, a] a (by simp [oa, oc]) h1
    refine ⟨h, ?_⟩
    unfold Abs.ren
    rw [if_neg (by rw [h]; decide), pow_plain]; rfl
  · have h1 : alook c [(b, A), (c, C)] = some C := by simp [alook, Ne.symm hbc]
    have h := opn_plain [(b, A), (c, C)] 5 [c] c C (by simp [oc]) h1
    refine ⟨h, ?_⟩
    unfold Abs.rem
    rw [if_pos h, pow_plain]
    simp [adel, Ne.symm hbc]
  · have h1 : alook c [(b, A)] = none := by simp [alook, Ne.symm hbc]
    have h := opn_none [(b, A)] 6 [c] c (by simp [oc]) h1
    refine ⟨h, ?_⟩
    unfold Abs.rem
    rw [if_neg (by rw [h]; decide), pow_plain]; rfl
  · have h := ren_plain [(b, A)] 7 b b A ob ob (by simp [alook])
    refine ⟨h.1, h.2.trans ?_⟩
    simp [adel, aput]
theorem names_cuts {b : ByteArray} (bs : List (BitVec 8)) (hb : 1 ≤ bs.length) (ob : nameOK b = true) :
    (Abs.truE ⟨[(b, ⟨bs, 0⟩)], 8, false, 0, false⟩ b ((bs.length : Int) + 1) = 1 ∧ Abs.tru ⟨[(b, ⟨bs, 0⟩)], 8, false, 0, false⟩ b ((bs.length : Int) + 1) = ⟨[(b, ⟨bs, 0⟩)], 9, false, 0, false⟩) ∧
    (Abs.truE ⟨[(b, ⟨bs, 0⟩)], 9, false, 0, false⟩ b 1 = 0 ∧ ∃ bs', Abs.tru ⟨[(b, ⟨bs, 0⟩)], 9, false, 0, false⟩ b 1 = ⟨[(b, ⟨bs', 0⟩)], 10, false, 0, false⟩) := by
  have hl : alook b [(b, (⟨bs, 0⟩ : Fl))] = some ⟨bs, 0⟩ := alook_one _ _
  have ho : ∀ n, Abs.opn ⟨[(b, ⟨bs, 0⟩)], n, false, 0, false⟩ [b] b = 0 := fun n => opn_plain _ n [b] b _ (by simp [ob]) hl
  have e1 : ∀ n, Abs.truE ⟨[(b, ⟨bs, 0⟩)], n, false, 0, false⟩ b ((bs.length : Int) + 1) = 1 := fun n => by
    unfold Abs.truE
    rw [if_pos (ho n), hl]
    show (if 0 ≤ (bs.length : Int) + 1 ∧ (bs.length : Int) + 1 ≤ bs.length then (0 : Int) else 1) = 1
    rw [if_neg (by omega)]
  have e2 : ∀ n, Abs.truE ⟨[(b, ⟨bs, 0⟩)], n, false, 0, false⟩ b 1 = 0 := fun n => by
    unfold Abs.truE
    rw [if_pos (ho n), hl]
    show (if 0 ≤ (1 : Int) ∧ (1 : Int) ≤ bs.length then (0 : Int) else 1) = 0
    rw [if_pos (by omega)]
  refine ⟨⟨e1 8, ?_⟩, e2 9, bs.take 1, ?_⟩
  · unfold Abs.tru
    rw [if_neg (by rw [e1]; decide), pow_plain]; rfl
  · unfold Abs.tru
    rw [if_pos (e2 9), pow_plain, hl]
    show Abs.mk (aput b ⟨bs.take 1, min 0 1⟩ [(b, ⟨bs, 0⟩)]) _ _ _ _ = _
    simp [aput]
set_option maxRecDepth 100000 in
set_option maxHeartbeats 4000000 in
theorem names_good (a b c : ByteArray) (w : World) (oa : nameOK a = true) (ob : nameOK b = true) (oc : nameOK c = true) (hab : a ≠ b) (hbc : b ≠ c) (hac : a ≠ c) :
    Calls Try.prog 7 #[.string a, .string b, .string c] w fun e w' => e = .returned (.bool true) ∧ Below w.heap.size w w' := by
  have h1 := nameOK_size oa
  have h2 := nameOK_size ob
  have h3 := nameOK_size oc
  have g1 := list_ne hab
  have g2 := list_ne hbc
  have g3 := list_ne hac
  have HMO : Hid (Try.prog.follows .mixedOrders = true) := show _ = _ by kernel_rfl
  have HNX : Hid (∀ (k : Nat) (x : ByteArray), [a, b, c][k]? = some x → Abs.appE ⟨L3 a b c k, k, false, 0, false⟩ x (strB x) = 0 ∧ Abs.app ⟨L3 a b c k, k, false, 0, false⟩ x (strB x) = ⟨L3 a b c (k + 1), (k : Int) + 1, false, 0, false⟩) := fun k x hx => L3_next hab hbc hac oa ob oc hx
  have HSZ : Hid (∀ (k : Nat) (x : ByteArray), [a, b, c][k]? = some x → x.size ≤ 50) := fun k x hx => by
    have hm := List.mem_of_getElem? hx
    simp only [List.mem_cons, List.not_mem_nil, or_false] at hm
    rcases hm with rfl | rfl | rfl <;> omega
  go_enter Try.func7, Try.ntmps7
  go_wp2_with fail
  clear g1 g2 g3
  refine Calls.mono (new_any w) ?_
  rintro e w1 ⟨rfl, hf1, hb1, hsz⟩
  clear hsz
  have HO1 : Hid (Own7 w w1 w.heap.size ⟨[], 0, false, 0, false⟩) := Own7.new hf1 hb1
  clear hf1 hb1
  obtain ⟨f, hf⟩ : ∃ f, f = w.heap.size := ⟨_, rfl⟩
  rw [← hf] at HO1 ⊢
  clear hf
  go_upto_region 7 with fail
  generalize hw2 : World.alloc w1 _ = w2
  obtain ⟨B, hB⟩ : ∃ B, B = w1.heap.size := ⟨_, rfl⟩
  have hbk : Blk w2 B [.string a, .string b, .string c] := by rw [← hw2]; exact Blk.mk _ _ _ hB rfl
  have hb2 : Below w1.heap.size w1 w2 := by rw [← hw2]; exact (Below.refl _ _).alloc (Nat.le_refl _) _
  have HO2 : Hid (Own8 w w2 f ⟨L3 a b c 0, 0, false, 0, false⟩ B) := Own8.of HO1.out hb2 B (by omega) hbk.lt
  have HBK : Hid (Blk w2 B [.string a, .string b, .string c]) := hbk
  rw [← hB]
  clear hw2 hbk hb2 HO1 hB
  go_wp2_with fail
  go_loopw [9] (fun i wr => ∃ k : Nat, k ≤ 3 ∧ i = .int .i64 k ∧ Hid (Own8 w wr f ⟨L3 a b c k, k, false, 0, false⟩ B) ∧ Hid (Blk wr B [.string a, .string b, .string c])) (fun i _ => 3 - (intOf i).toNat)
  case atStart => exact ⟨0, by omega, rfl, HO2.out, HBK.out⟩
  case round =>
    obtain ⟨k, hk, rfl, HO, HK⟩ := hrel
    clear HO2 HBK
    by_cases hlt : k < 3
    · obtain ⟨x, hx⟩ : ∃ x, [a, b, c][k]? = some x := ⟨_, List.getElem?_eq_getElem (by simpa using hlt)⟩
      have HC : Hid (wr.cell? ⟨B, k, none⟩ = some (.string x)) := HK.out.one (by
        have : ([a, b, c].map Value.string)[k]? = some (.string x) := by rw [List.getElem?_map, hx]; rfl
        exact this)
      have HQ := HNX.out k x hx
      have HQ' : Hid (Abs.appE ⟨L3 a b c k, k, false, 0, false⟩ x (strB x) = 0 ∧ Abs.app ⟨L3 a b c k, k, false, 0, false⟩ x (strB x) = ⟨L3 a b c (k + 1), (k : Int) + 1, false, 0, false⟩) := HQ
      have hxs := HSZ.out k x hx
      clear HQ hx
      go_upto_region 10 with fail
      refine wp_region_noPanic ?_
      refine wp_region_held_drew (S := fun w' => w'.cell? ⟨B, k, none⟩ = some (.string x)) HMO.out (HC.out) (fun hHeld => ?_)
      refine wpAnyH_take (i := 0) (oi := { dst := some 68, op := .move (.tmp 7), type := 25, pos := "law.go:198", after := #[], guard := none }) (v := ?_) rfl (by kernel_rfl) (by kernel_rfl) (by kernel_rfl) (fun _ _ _ h => h) (Or.inl ⟨by rfl, ?_⟩) (by assumption) ?_
      rotate_left
      · intro _ _; go_simp; first | done | with_reducible rfl
      simp only [Act.put, List.setIfInBounds_toArray, List.set_cons_zero, List.set_cons_succ]
      refine wpAnyH_take (i := 1) (oi := { dst := some 69, op := .move (.tmp 8), type := 51, pos := "law.go:198", after := #[], guard := none }) (v := ?_) rfl (by kernel_rfl) (by kernel_rfl) (by kernel_rfl) (fun _ _ _ h => h) (Or.inl ⟨by rfl, ?_⟩) (by assumption) ?_
      rotate_left
      · intro _ _; go_simp; first | done | with_reducible rfl
      simp only [Act.put, List.setIfInBounds_toArray, List.set_cons_zero, List.set_cons_succ]
      refine wpAnyH_take (i := 2) (oi := { dst := some 70, op := .move (.tmp 9), type := 3, pos := "law.go:198", after := #[], guard := none }) (v := ?_) rfl (by kernel_rfl) (by kernel_rfl) (by kernel_rfl) (fun _ _ _ h => h) (Or.inl ⟨by rfl, ?_⟩) (by assumption) ?_
      rotate_left
      · intro _ _; go_simp; first | done | with_reducible rfl
      simp only [Act.put, List.setIfInBounds_toArray, List.set_cons_zero, List.set_cons_succ]
      refine wpAnyH_take (i := 3) (oi := { dst := some 71, op := .indexAddr 51 (.tmp 69) (.tmp 70), type := 0, pos := "law.go:198", after := #[{ on := 1, ground := .data }, { on := 2, ground := .data }], guard := none }) (v := ?_) rfl (by kernel_rfl) (by kernel_rfl) (by kernel_rfl) (fun _ _ _ h => h) (Or.inl ⟨by rfl, ?_⟩) (by assumption) ?_
      rotate_left
      · intro _ _; go_simp; first | done | with_reducible rfl
      simp only [Act.put, List.setIfInBounds_toArray, List.set_cons_zero, List.set_cons_succ]
      refine wpAnyH_take (i := 4) (oi := { dst := some 72, op := .load 9 (.tmp 71), type := 9, pos := "law.go:198", after := #[{ on := 3, ground := .data }], guard := none }) (v := .string x) rfl (by kernel_rfl) (by kernel_rfl) (by kernel_rfl) (fun _ _ _ h => h) (Or.inl ⟨by rfl, ?_⟩) (by assumption) ?_
      · intro _ _; rename_i wz hz; have cz := hz; go_simp
      simp only [Act.put, List.setIfInBounds_toArray, List.set_cons_zero, List.set_cons_succ]
      refine wpAnyH_take (i := 5) (oi := { dst := some 73, op := .move (.tmp 8), type := 51, pos := "law.go:198", after := #[], guard := none }) (v := ?_) rfl (by kernel_rfl) (by kernel_rfl) (by kernel_rfl) (fun _ _ _ h => h) (Or.inl ⟨by rfl, ?_⟩) (by assumption) ?_
      rotate_left
      · intro _ _; go_simp; first | done | with_reducible rfl
      simp only [Act.put, List.setIfInBounds_toArray, List.set_cons_zero, List.set_cons_succ]
      refine wpAnyH_take (i := 6) (oi := { dst := some 74, op := .move (.tmp 9), type := 3, pos := "law.go:198", after := #[], guard := none }) (v := ?_) rfl (by kernel_rfl) (by kernel_rfl) (by kernel_rfl) (fun _ _ _ h => h) (Or.inl ⟨by rfl, ?_⟩) (by assumption) ?_
      rotate_left
      · intro _ _; go_simp; first | done | with_reducible rfl
      simp only [Act.put, List.setIfInBounds_toArray, List.set_cons_zero, List.set_cons_succ]
      refine wpAnyH_take (i := 7) (oi := { dst := some 75, op := .indexAddr 51 (.tmp 73) (.tmp 74), type := 0, pos := "law.go:198", after := #[{ on := 5, ground := .data }, { on := 6, ground := .data }], guard := none }) (v := ?_) rfl (by kernel_rfl) (by kernel_rfl) (by kernel_rfl) (fun _ _ _ h => h) (Or.inl ⟨by rfl, ?_⟩) (by assumption) ?_
      rotate_left
      · intro _ _; go_simp; first | done | with_reducible rfl
      simp only [Act.put, List.setIfInBounds_toArray, List.set_cons_zero, List.set_cons_succ]
      refine wpAnyH_take (i := 8) (oi := { dst := some 76, op := .load 9 (.tmp 75), type := 9, pos := "law.go:198", after := #[{ on := 7, ground := .data }], guard := none }) (v := .string x) rfl (by kernel_rfl) (by kernel_rfl) (by kernel_rfl) (fun _ _ _ h => h) (Or.inl ⟨by rfl, ?_⟩) (by assumption) ?_
      · intro _ _; rename_i wz hz; have cz := hz; go_simp
      simp only [Act.put, List.setIfInBounds_toArray, List.set_cons_zero, List.set_cons_succ]
      refine wpAnyH_ready (rs := [9]) (by kernel_rfl) (by simp) ?_
      refine AllReadyH.cons (o := { dst := some 77, op := .convert 9 40 (.tmp 76), type := 40, pos := "law.go:198", after := #[{ on := 8, ground := .data }], guard := none }) rfl (fun K hK => ?_) AllReadyH.nil
      refine step_toBytes rfl _ rfl x rfl ?_; intro c5 w5 HS5 HB5
      simp only [Act.put, List.setIfInBounds_toArray, List.set_cons_zero, List.set_cons_succ]
      refine hK.out _ _ (cell_below HB5.out HC.out) (fun hHeld => ?_)
      clear hK K
      refine wpAnyH_ready (rs := [10]) (by kernel_rfl) (by simp) ?_
      refine AllReadyH.cons (o := { dst := some 78, op := .call { callee := .value (.func 16), args := #[.tmp 68, .tmp 72, .tmp 77], argTypes := #[25, 9, 40] }, type := 38, pos := "law.go:198", after := #[{ on := 0, ground := .data }, { on := 4, ground := .data }, { on := 9, ground := .data }], guard := none }) rfl (fun K hK => ?_) AllReadyH.nil
      go_simp
      refine Calls.mono (own8_append HO.out (below_undrew HB5.out) x _ c5 x.size (strB x) (strB_length x).symm (Nat.le_refl _) HS5.out (by rw [strB_length]; omega) (by show (0 : Int) ≤ (k : Int); omega) (by show (k : Int) ≤ 4611686018427387904; omega) (of_decide_eq_true rfl) (of_decide_eq_true rfl)) ?_; rw [HQ'.out.1, HQ'.out.2]; rintro e w6 ⟨rfl, ho6, hk6⟩; have HO6 : Hid (Own8 w w6 f ⟨L3 a b c (k + 1), (k : Int) + 1, false, 0, false⟩ B) := ho6; have HK6 : Hid (Blk w6 B [.string a, .string b, .string c]) := ⟨HK.out.choose, hk6.trans HK.out.choose_spec⟩; have hc6 : w6.cell? ⟨B, k, none⟩ = some (.string x) := (World.cell?_of_block (w := wr) hk6).trans HC.out; clear ho6 hk6
      go_simp
      refine hK.out _ _ (hc6) (fun hHeld => ?_)
      clear hK K
      refine wpAnyH_take (i := 11) (oi := { dst := some 79, op := .binOp Go.BinOp.neq 38 (.tmp 78) (.const (.int .i64 0)) 38, type := 4, pos := "law.go:198", after := #[{ on := 10, ground := .data }], guard := none }) (v := .bool false) rfl (by kernel_rfl) (by kernel_rfl) (by kernel_rfl) (fun _ _ _ h => h) (Or.inl ⟨by rfl, ?_⟩) (by assumption) ?_
      · intro _ _; go_simp
      simp only [Act.put, List.setIfInBounds_toArray, List.set_cons_zero, List.set_cons_succ]
      refine wpAnyH_done (by kernel_rfl) ?_ _
      refine NoPanic.normal ?_
      go_wp2_with fail
      go_roundw
      case rel => exact ⟨k + 1, by omega, by go_num, HO6.out, HK6.out⟩
      case measure => simp [intOf]; omega
    · obtain rfl : k = 3 := by omega
      have HO3 : Hid (Own7 w wr f ⟨[(a, ⟨strB a, 0⟩), (b, ⟨strB b, 0⟩), (c, ⟨strB c, 0⟩)], 3, false, 0, false⟩) := HO.out.own
      clear HO HK HNX HSZ
      go_wp2_with fail
      refine Calls.mono (own_names HO3.out (by intro q hq; simp only [List.mem_cons, List.not_mem_nil, or_false] at hq; rcases hq with rfl | rfl | rfl <;> (simp only; omega)) (by simp)) ?_
      obtain ⟨s0, s1, s2, hsort, hl1, hl2⟩ := sorted3 hab hbc hac
      rw [show (Abs.mk [(a, ⟨strB a, 0⟩), (b, ⟨strB b, 0⟩), (c, ⟨strB c, 0⟩)] 3 false 0 false).L.map Prod.fst = [a, b, c] from rfl, hsort, show (Abs.mk [(a, ⟨strB a, 0⟩), (b, ⟨strB b, 0⟩), (c, ⟨strB c, 0⟩)] 3 false 0 false).L.length = 3 from rfl]
      rintro e w4 ⟨an, cn, rfl, hon, hb4⟩
      have HO4 : Hid (Own7 w w4 f ⟨[(a, ⟨strB a, 0⟩), (b, ⟨strB b, 0⟩), (c, ⟨strB c, 0⟩)], 3, false, 0, false⟩) := HO3.out.below hb4
      obtain ⟨nb, cn', hnb, hcells⟩ : ∃ nb cn', Value.slice an 3 cn = .slice (some ⟨nb, 0, none⟩) 3 cn' ∧ ∀ j x, [s0, s1, s2][j]? = some x → w4.cell? ⟨nb, j, none⟩ = some (.string x) := by
        rcases hon.src with ⟨h, _⟩ | ⟨nb, cn', h, hc⟩
        · cases h
        · exact ⟨nb, cn', h, hc⟩
      rw [hnb]
      have HCN : Hid (w4.cell? ⟨nb, 0, none⟩ = some (.string s0) ∧ w4.cell? ⟨nb, 1, none⟩ = some (.string s1) ∧ w4.cell? ⟨nb, 2, none⟩ = some (.string s2)) := ⟨hcells 0 s0 rfl, hcells 1 s1 rfl, hcells 2 s2 rfl⟩
      have HL : Hid (Op.bytesLess s0.toList s1.toList = true ∧ Op.bytesLess s1.toList s2.toList = true) := ⟨hl1, hl2⟩
      obtain ⟨q1, q2, q3, q4, q5⟩ := names_acts ⟨strB a, 0⟩ ⟨strB b, 0⟩ ⟨strB c, 0⟩ hab hbc hac oa ob oc
      have HQ1 : Hid (Abs.opn ⟨[(a, ⟨strB a, 0⟩), (b, ⟨strB b, 0⟩), (c, ⟨strB c, 0⟩)], 3, false, 0, false⟩ [b, a] a = 0 ∧ Abs.ren ⟨[(a, ⟨strB a, 0⟩), (b, ⟨strB b, 0⟩), (c, ⟨strB c, 0⟩)], 3, false, 0, false⟩ a b = ⟨[(b, ⟨strB a, 0⟩), (c, ⟨strB c, 0⟩)], 4, false, 0, false⟩) := q1
      have HQ2 : Hid (Abs.opn ⟨[(b, ⟨strB a, 0⟩), (c, ⟨strB c, 0⟩)], 4, false, 0, false⟩ [c, a] a = 5 ∧ Abs.ren ⟨[(b, ⟨strB a, 0⟩), (c, ⟨strB c, 0⟩)], 4, false, 0, false⟩ a c = ⟨[(b, ⟨strB a, 0⟩), (c, ⟨strB c, 0⟩)], 5, false, 0, false⟩) := q2
      have HQ3 : Hid (Abs.opn ⟨[(b, ⟨strB a, 0⟩), (c, ⟨strB c, 0⟩)], 5, false, 0, false⟩ [c] c = 0 ∧ Abs.rem ⟨[(b, ⟨strB a, 0⟩), (c, ⟨strB c, 0⟩)], 5, false, 0, false⟩ c = ⟨[(b, ⟨strB a, 0⟩)], 6, false, 0, false⟩) := q3
      have HQ4 : Hid (Abs.opn ⟨[(b, ⟨strB a, 0⟩)], 6, false, 0, false⟩ [c] c = 5 ∧ Abs.rem ⟨[(b, ⟨strB a, 0⟩)], 6, false, 0, false⟩ c = ⟨[(b, ⟨strB a, 0⟩)], 7, false, 0, false⟩) := q4
      have HQ5 : Hid (Abs.opn ⟨[(b, ⟨strB a, 0⟩)], 7, false, 0, false⟩ [b, b] b = 0 ∧ Abs.ren ⟨[(b, ⟨strB a, 0⟩)], 7, false, 0, false⟩ b b = ⟨[(b, ⟨strB a, 0⟩)], 8, false, 0, false⟩) := q5
      obtain ⟨r1, r2⟩ := names_cuts (b := b) (strB a) (by rw [strB_length]; exact h1.1) ob
      rw [strB_length] at r1
      have HR1 : Hid (Abs.truE ⟨[(b, ⟨strB a, 0⟩)], 8, false, 0, false⟩ b ((a.size : Int) + 1) = 1 ∧ Abs.tru ⟨[(b, ⟨strB a, 0⟩)], 8, false, 0, false⟩ b ((a.size : Int) + 1) = ⟨[(b, ⟨strB a, 0⟩)], 9, false, 0, false⟩) := r1
      have HR2 : Hid (Abs.truE ⟨[(b, ⟨strB a, 0⟩)], 9, false, 0, false⟩ b 1 = 0 ∧ ∃ bs', Abs.tru ⟨[(b, ⟨strB a, 0⟩)], 9, false, 0, false⟩ b 1 = ⟨[(b, ⟨bs', 0⟩)], 10, false, 0, false⟩) := r2
      have has : 1 ≤ a.size ∧ a.size ≤ 50 := h1
      have hbs : b.size ≤ 50 := h2.2
      clear q1 q2 q3 q4 q5 r1 r2 hcells hon hb4 hnb HO3 hsort hl1 hl2 hab hbc hac oa ob oc h1 h2 h3
      go_upto_region 13 with fail
      refine wp_region_noPanic ?_
      refine wp_region_held_drew (S := fun w' => (w'.cell? ⟨nb, 0, none⟩ = some (.string s0) ∧ w'.cell? ⟨nb, 1, none⟩ = some (.string s1) ∧ w'.cell? ⟨nb, 2, none⟩ = some (.string s2)) ∧ Own7 w w' f ⟨[(a, ⟨strB a, 0⟩), (b, ⟨strB b, 0⟩), (c, ⟨strB c, 0⟩)], 3, false, 0, false⟩) HMO.out (⟨HCN.out, HO4.out.drewB⟩) (fun hHeld => ?_)
      refine wpAnyH_take (i := 0) (oi := { dst := some 82, op := .move (.tmp 10), type := 51, pos := "law.go:203", after := #[], guard := none }) (v := ?_) rfl (by kernel_rfl) (by kernel_rfl) (by kernel_rfl) (fun _ _ _ h => h) (Or.inl ⟨by rfl, ?_⟩) (by assumption) ?_
      rotate_left
      · intro _ _; go_simp; first | done | with_reducible rfl
      simp only [Act.put, List.setIfInBounds_toArray, List.set_cons_zero, List.set_cons_succ]
      refine wpAnyH_take (i := 1) (oi := { dst := some 83, op := .call { callee := .builtin Go.Builtin.len, args := #[.tmp 82], argTypes := #[51] }, type := 3, pos := "law.go:203", after := #[{ on := 0, ground := .data }], guard := none }) (v := ?_) rfl (by kernel_rfl) (by kernel_rfl) (by kernel_rfl) (fun _ _ _ h => h) (Or.inl ⟨by rfl, ?_⟩) (by assumption) ?_
      rotate_left
      · intro _ _; go_simp; first | done | with_reducible rfl
      simp only [Act.put, List.setIfInBounds_toArray, List.set_cons_zero, List.set_cons_succ]
      refine wpAnyH_take (i := 2) (oi := { dst := some 84, op := .binOp Go.BinOp.neq 3 (.tmp 83) (.const (.int .i64 3)) 3, type := 4, pos := "law.go:203", after := #[{ on := 1, ground := .data }], guard := none }) (v := ?_) rfl (by kernel_rfl) (by kernel_rfl) (by kernel_rfl) (fun _ _ _ h => h) (Or.inl ⟨by rfl, ?_⟩) (by assumption) ?_
      rotate_left
      · intro _ _; go_simp; first | done | with_reducible rfl
      simp only [Act.put, List.setIfInBounds_toArray, List.set_cons_zero, List.set_cons_succ]
      refine wpAnyH_take (i := 3) (oi := { dst := some 85, op := .move (.tmp 84), type := 4, pos := "law.go:203", after := #[{ on := 2, ground := .data }], guard := none }) (v := ?_) rfl (by kernel_rfl) (by kernel_rfl) (by kernel_rfl) (fun _ _ _ h => h) (Or.inl ⟨by rfl, ?_⟩) (by assumption) ?_
      rotate_left
      · intro _ _; go_simp; first | done | with_reducible rfl
      simp only [Act.put, List.setIfInBounds_toArray, List.set_cons_zero, List.set_cons_succ]
      refine wpAnyH_take (i := 4) (oi := { dst := some 86, op := .move (.tmp 10), type := 51, pos := "law.go:203", after := #[{ on := 3, ground := .guard }], guard := some (3, false) }) (v := ?_) rfl (by kernel_rfl) (by kernel_rfl) (by kernel_rfl) (fun _ _ _ h => h) (Or.inl ⟨by rfl, ?_⟩) (by assumption) ?_
      rotate_left
      · intro _ _; go_simp; first | done | with_reducible rfl
      simp only [Act.put, List.setIfInBounds_toArray, List.set_cons_zero, List.set_cons_succ]
      refine wpAnyH_take (i := 5) (oi := { dst := some 87, op := .indexAddr 51 (.tmp 86) (.const (.int .i64 0)), type := 0, pos := "law.go:203", after := #[{ on := 4, ground := .data }, { on := 3, ground := .guard }], guard := some (3, false) }) (v := ?_) rfl (by kernel_rfl) (by kernel_rfl) (by kernel_rfl) (fun _ _ _ h => h) (Or.inl ⟨by rfl, ?_⟩) (by assumption) ?_
      rotate_left
      · intro _ _; go_simp; first | done | with_reducible rfl
      simp only [Act.put, List.setIfInBounds_toArray, List.set_cons_zero, List.set_cons_succ]
      refine wpAnyH_take (i := 6) (oi := { dst := some 88, op := .load 9 (.tmp 87), type := 9, pos := "law.go:203", after := #[{ on := 5, ground := .data }, { on := 3, ground := .guard }], guard := some (3, false) }) (v := .string s0) rfl (by kernel_rfl) (by kernel_rfl) (by kernel_rfl) (fun _ _ _ h => h) (Or.inl ⟨by rfl, ?_⟩) (by assumption) ?_
      · intro _ _; rename_i wz hz; have cz := hz.1.1; go_simp
      simp only [Act.put, List.setIfInBounds_toArray, List.set_cons_zero, List.set_cons_succ]
      refine wpAnyH_take (i := 7) (oi := { dst := some 89, op := .move (.tmp 10), type := 51, pos := "law.go:203", after := #[{ on := 3, ground := .guard }], guard := some (3, false) }) (v := ?_) rfl (by kernel_rfl) (by kernel_rfl) (by kernel_rfl) (fun _ _ _ h => h) (Or.inl ⟨by rfl, ?_⟩) (by assumption) ?_
      rotate_left
      · intro _ _; go_simp; first | done | with_reducible rfl
      simp only [Act.put, List.setIfInBounds_toArray, List.set_cons_zero, List.set_cons_succ]
      refine wpAnyH_take (i := 8) (oi := { dst := some 90, op := .indexAddr 51 (.tmp 89) (.const (.int .i64 1)), type := 0, pos := "law.go:203", after := #[{ on := 7, ground := .data }, { on := 3, ground := .guard }], guard := some (3, false) }) (v := ?_) rfl (by kernel_rfl) (by kernel_rfl) (by kernel_rfl) (fun _ _ _ h => h) (Or.inl ⟨by rfl, ?_⟩) (by assumption) ?_
      rotate_left
      · intro _ _; go_simp; first | done | with_reducible rfl
      simp only [Act.put, List.setIfInBounds_toArray, List.set_cons_zero, List.set_cons_succ]
      refine wpAnyH_take (i := 9) (oi := { dst := some 91, op := .load 9 (.tmp 90), type := 9, pos := "law.go:203", after := #[{ on := 8, ground := .data }, { on := 3, ground := .guard }], guard := some (3, false) }) (v := .string s1) rfl (by kernel_rfl) (by kernel_rfl) (by kernel_rfl) (fun _ _ _ h => h) (Or.inl ⟨by rfl, ?_⟩) (by assumption) ?_
      · intro _ _; rename_i wz hz; have cz := hz.1.2.1; go_simp
      simp only [Act.put, List.setIfInBounds_toArray, List.set_cons_zero, List.set_cons_succ]
      refine wpAnyH_take (i := 10) (oi := { dst := some 92, op := .binOp Go.BinOp.geq 9 (.tmp 88) (.tmp 91) 9, type := 4, pos := "law.go:203", after := #[{ on := 6, ground := .data }, { on := 9, ground := .data }, { on := 3, ground := .guard }], guard := some (3, false) }) (v := .bool false) rfl (by kernel_rfl) (by kernel_rfl) (by kernel_rfl) (fun _ _ _ h => h) (Or.inl ⟨by rfl, ?_⟩) (by assumption) ?_
      · intro _ _; have hl := HL.out.1; go_simp
      simp only [Act.put, List.setIfInBounds_toArray, List.set_cons_zero, List.set_cons_succ]
      refine wpAnyH_take (i := 11) (oi := { dst := some 93, op := .pick (.tmp 85) (.const (.bool true)) (.tmp 92), type := 4, pos := "law.go:203", after := #[{ on := 3, ground := .data }, { on := 10, ground := .data }], guard := none }) (v := ?_) rfl (by kernel_rfl) (by kernel_rfl) (by kernel_rfl) (fun _ _ _ h => h) (Or.inl ⟨by rfl, ?_⟩) (by assumption) ?_
      rotate_left
      · intro _ _; go_simp; first | done | with_reducible rfl
      simp only [Act.put, List.setIfInBounds_toArray, List.set_cons_zero, List.set_cons_succ]
      refine wpAnyH_take (i := 12) (oi := { dst := some 94, op := .move (.tmp 93), type := 4, pos := "law.go:203", after := #[{ on := 11, ground := .data }, { on := 3, ground := .chain }], guard := none }) (v := ?_) rfl (by kernel_rfl) (by kernel_rfl) (by kernel_rfl) (fun _ _ _ h => h) (Or.inl ⟨by rfl, ?_⟩) (by assumption) ?_
      rotate_left
      · intro _ _; go_simp; first | done | with_reducible rfl
      simp only [Act.put, List.setIfInBounds_toArray, List.set_cons_zero, List.set_cons_succ]
      refine wpAnyH_take (i := 13) (oi := { dst := some 95, op := .move (.tmp 10), type := 51, pos := "law.go:203", after := #[{ on := 12, ground := .guard }], guard := some (12, false) }) (v := ?_) rfl (by kernel_rfl) (by kernel_rfl) (by kernel_rfl) (fun _ _ _ h => h) (Or.inl ⟨by rfl, ?_⟩) (by assumption) ?_
      rotate_left
      · intro _ _; go_simp; first | done | with_reducible rfl
      simp only [Act.put, List.setIfInBounds_toArray, List.set_cons_zero, List.set_cons_succ]
      refine wpAnyH_take (i := 14) (oi := { dst := some 96, op := .indexAddr 51 (.tmp 95) (.const (.int .i64 1)), type := 0, pos := "law.go:203", after := #[{ on := 13, ground := .data }, { on := 12, ground := .guard }], guard := some (12, false) }) (v := ?_) rfl (by kernel_rfl) (by kernel_rfl) (by kernel_rfl) (fun _ _ _ h => h) (Or.inl ⟨by rfl, ?_⟩) (by assumption) ?_
      rotate_left
      · intro _ _; go_simp; first | done | with_reducible rfl
      simp only [Act.put, List.setIfInBounds_toArray, List.set_cons_zero, List.set_cons_succ]
      refine wpAnyH_take (i := 15) (oi := { dst := some 97, op := .load 9 (.tmp 96), type := 9, pos := "law.go:203", after := #[{ on := 14, ground := .data }, { on := 12, ground := .guard }], guard := some (12, false) }) (v := .string s1) rfl (by kernel_rfl) (by kernel_rfl) (by kernel_rfl) (fun _ _ _ h => h) (Or.inl ⟨by rfl, ?_⟩) (by assumption) ?_
      · intro _ _; rename_i wz hz; have cz := hz.1.2.1; go_simp
      simp only [Act.put, List.setIfInBounds_toArray, List.set_cons_zero, List.set_cons_succ]
      refine wpAnyH_take (i := 16) (oi := { dst := some 98, op := .move (.tmp 10), type := 51, pos := "law.go:203", after := #[{ on := 12, ground := .guard }], guard := some (12, false) }) (v := ?_) rfl (by kernel_rfl) (by kernel_rfl) (by kernel_rfl) (fun _ _ _ h => h) (Or.inl ⟨by rfl, ?_⟩) (by assumption) ?_
      rotate_left
      · intro _ _; go_simp; first | done | with_reducible rfl
      simp only [Act.put, List.setIfInBounds_toArray, List.set_cons_zero, List.set_cons_succ]
      refine wpAnyH_take (i := 17) (oi := { dst := some 99, op := .indexAddr 51 (.tmp 98) (.const (.int .i64 2)), type := 0, pos := "law.go:203", after := #[{ on := 16, ground := .data }, { on := 12, ground := .guard }], guard := some (12, false) }) (v := ?_) rfl (by kernel_rfl) (by kernel_rfl) (by kernel_rfl) (fun _ _ _ h => h) (Or.inl ⟨by rfl, ?_⟩) (by assumption) ?_
      rotate_left
      · intro _ _; go_simp; first | done | with_reducible rfl
      simp only [Act.put, List.setIfInBounds_toArray, List.set_cons_zero, List.set_cons_succ]
      refine wpAnyH_take (i := 18) (oi := { dst := some 100, op := .load 9 (.tmp 99), type := 9, pos := "law.go:203", after := #[{ on := 17, ground := .data }, { on := 12, ground := .guard }], guard := some (12, false) }) (v := .string s2) rfl (by kernel_rfl) (by kernel_rfl) (by kernel_rfl) (fun _ _ _ h => h) (Or.inl ⟨by rfl, ?_⟩) (by assumption) ?_
      · intro _ _; rename_i wz hz; have cz := hz.1.2.2; go_simp
      simp only [Act.put, List.setIfInBounds_toArray, List.set_cons_zero, List.set_cons_succ]
      refine wpAnyH_take (i := 19) (oi := { dst := some 101, op := .binOp Go.BinOp.geq 9 (.tmp 97) (.tmp 100) 9, type := 4, pos := "law.go:203", after := #[{ on := 15, ground := .data }, { on := 18, ground := .data }, { on := 12, ground := .guard }], guard := some (12, false) }) (v := .bool false) rfl (by kernel_rfl) (by kernel_rfl) (by kernel_rfl) (fun _ _ _ h => h) (Or.inl ⟨by rfl, ?_⟩) (by assumption) ?_
      · intro _ _; have hl := HL.out.2; go_simp
      simp only [Act.put, List.setIfInBounds_toArray, List.set_cons_zero, List.set_cons_succ]
      refine wpAnyH_take (i := 20) (oi := { dst := some 102, op := .pick (.tmp 94) (.const (.bool true)) (.tmp 101), type := 4, pos := "law.go:203", after := #[{ on := 12, ground := .data }, { on := 19, ground := .data }], guard := none }) (v := ?_) rfl (by kernel_rfl) (by kernel_rfl) (by kernel_rfl) (fun _ _ _ h => h) (Or.inl ⟨by rfl, ?_⟩) (by assumption) ?_
      rotate_left
      · intro _ _; go_simp; first | done | with_reducible rfl
      simp only [Act.put, List.setIfInBounds_toArray, List.set_cons_zero, List.set_cons_succ]
      refine wpAnyH_done (by kernel_rfl) ?_ _
      refine NoPanic.normal ?_
      have HO5 : Hid (Own7 w w4.drew f ⟨[(a, ⟨strB a, 0⟩), (b, ⟨strB b, 0⟩), (c, ⟨strB c, 0⟩)], 3, false, 0, false⟩) := hHeld.2
      clear HO4 HCN hHeld HL
      go_wp2_with fail
      refine Calls.mono (own_rename HO5.out a b (of_decide_eq_true rfl) (of_decide_eq_true rfl) (of_decide_eq_true rfl) (of_decide_eq_true rfl)) ?_
      rw [HQ1.out.1, HQ1.out.2]
      rintro e w6 ⟨rfl, ho6⟩
      have HO6 : Hid (Own7 w w6 f ⟨[(b, ⟨strB a, 0⟩), (c, ⟨strB c, 0⟩)], 4, false, 0, false⟩) := ho6
      clear ho6 HO5 HQ1
      go_wp2_with fail
      refine Calls.mono (own_rename HO6.out a c (of_decide_eq_true rfl) (of_decide_eq_true rfl) (of_decide_eq_true rfl) (of_decide_eq_true rfl)) ?_
      rw [HQ2.out.1, HQ2.out.2]
      rintro e w7 ⟨rfl, ho7⟩
      have HO7 : Hid (Own7 w w7 f ⟨[(b, ⟨strB a, 0⟩), (c, ⟨strB c, 0⟩)], 5, false, 0, false⟩) := ho7
      clear ho7 HO6 HQ2
      go_wp2_with fail
      refine Calls.mono (own_remove HO7.out c (of_decide_eq_true rfl) (of_decide_eq_true rfl) (of_decide_eq_true rfl) (of_decide_eq_true rfl)) ?_
      rw [HQ3.out.1, HQ3.out.2]
      rintro e w8 ⟨rfl, ho8⟩
      have HO8 : Hid (Own7 w w8 f ⟨[(b, ⟨strB a, 0⟩)], 6, false, 0, false⟩) := ho8
      clear ho8 HO7 HQ3
      go_wp2_with fail
      refine Calls.mono (own_remove HO8.out c (of_decide_eq_true rfl) (of_decide_eq_true rfl) (of_decide_eq_true rfl) (of_decide_eq_true rfl)) ?_
      rw [HQ4.out.1, HQ4.out.2]
      rintro e w9 ⟨rfl, ho9⟩
      have HO9 : Hid (Own7 w w9 f ⟨[(b, ⟨strB a, 0⟩)], 7, false, 0, false⟩) := ho9
      clear ho9 HO8 HQ4
      go_wp2_with fail
      refine Calls.mono (own_rename HO9.out b b (of_decide_eq_true rfl) (of_decide_eq_true rfl) (of_decide_eq_true rfl) (of_decide_eq_true rfl)) ?_
      rw [HQ5.out.1, HQ5.out.2]
      rintro e w10 ⟨rfl, ho10⟩
      have HO10 : Hid (Own7 w w10 f ⟨[(b, ⟨strB a, 0⟩)], 8, false, 0, false⟩) := ho10
      clear ho10 HO9 HQ5
      go_wp2_with fail
      refine Calls.mono (own_read HO10.out b) ?_
      rw [show alook b (Abs.mk [(b, (⟨strB a, 0⟩ : Fl))] 8 false 0 false).L = some ⟨strB a, 0⟩ from alook_one _ _]
      rintro e w11 ⟨ax, cx, rfl, hox, hb11⟩
      rw [show (flOf (some (⟨strB a, 0⟩ : Fl))) = ⟨strB a, 0⟩ from rfl] at hox ⊢
      simp only [Option.isSome_some, if_true]
      have HO11 : Hid (Own7 w w11 f ⟨[(b, ⟨strB a, 0⟩)], 8, false, 0, false⟩) := HO10.out.below hb11
      have HSx : Hid (SrcB w11 (.slice ax (strB a).length cx) (strB a)) := hox.src
      have HX : Hid (ofB (strB a) = a) := ofB_strB a
      have hself : (a.toList == a.toList) = true := by simp
      clear hox hb11 HO10
      go_wp2_with (refine wpList_str_if (by rfl) _ rfl _ (strB a) rfl HSx.out ?_; rw [HX.out])
      refine Calls.mono (own_names HO11.out (by intro q hq; simp only [List.mem_cons, List.not_mem_nil, or_false] at hq; rcases hq with rfl; simp only; omega) (by simp)) ?_
      rw [show (Abs.mk [(b, ⟨strB a, 0⟩)] 8 false 0 false).L.map Prod.fst = [b] from rfl, sortN_one, show (Abs.mk [(b, ⟨strB a, 0⟩)] 8 false 0 false).L.length = 1 from rfl]
      rintro e w12 ⟨am, cm, rfl, hom, hb12⟩
      have HO12 : Hid (Own7 w w12 f ⟨[(b, ⟨strB a, 0⟩)], 8, false, 0, false⟩) := HO11.out.below hb12
      have HOm : Hid (SrcS w12 (.slice am 1 cm) [b]) := hom.src
      clear hom hb12 HO11 HSx HX
      go_wp2_with fail
      generalize hw13 : World.alloc w12 _ = w13
      have hb13 : Below w12.heap.size w12 w13 := by rw [← hw13]; exact (Below.refl _ _).alloc (Nat.le_refl _) _
      have hk13 : w13.cell? ⟨w12.heap.size, 0, none⟩ = some (.string b) := by rw [← hw13]; exact (Blk.mk (b := w12.heap.size) _ _ _ rfl rfl).one (i := 0) rfl
      clear hw13
      refine Calls.mono (strings_eq _ _ [b] w13 (HOm.out.below hb13) (.inr ⟨w12.heap.size, 1, rfl, fun j x hx => by
        cases j with
        | zero => injection hx with hx; subst hx; exact hk13
        | succ j => cases hx⟩) (by simp)) ?_
      rintro e w14 ⟨rfl, hb14⟩
      have HO14 : Hid (Own7 w w14 f ⟨[(b, ⟨strB a, 0⟩)], 8, false, 0, false⟩) := (HO12.out.below hb13).below hb14
      clear hb13 hk13 hb14 HO12 HOm
      go_wp2_with fail
      refine Calls.mono (own_truncate HO14.out b ((a.size : Int) + 1) (of_decide_eq_true rfl) (of_decide_eq_true rfl) (of_decide_eq_true rfl) (of_decide_eq_true rfl)) ?_
      rw [HR1.out.1, HR1.out.2]
      rintro e w15 ⟨rfl, ho15⟩
      have HO15 : Hid (Own7 w w15 f ⟨[(b, ⟨strB a, 0⟩)], 9, false, 0, false⟩) := ho15
      clear ho15 HO14 HR1
      go_wp2_with fail
      obtain ⟨bs', hbs'⟩ := HR2.out.2
      refine Calls.mono (own_truncate HO15.out b 1 (of_decide_eq_true rfl) (of_decide_eq_true rfl) (of_decide_eq_true rfl) (of_decide_eq_true rfl)) ?_
      rw [HR2.out.1, hbs']
      rintro e w16 ⟨rfl, ho16⟩
      have HO16 : Hid (Own7 w w16 f ⟨[(b, ⟨bs', 0⟩)], 10, false, 0, false⟩) := ho16
      clear ho16 HO15 HR2 hbs'
      go_wp2_with fail
      refine Calls.mono (own_safe HO16.out b) ?_
      rw [show safeOf (alook b (Abs.mk [(b, (⟨bs', 0⟩ : Fl))] 10 false 0 false).L) = 0 by rw [show alook b (Abs.mk [(b, (⟨bs', 0⟩ : Fl))] 10 false 0 false).L = some ⟨bs', 0⟩ from alook_one _ _]; rfl]
      rintro e w17 ⟨rfl, hb17⟩
      have HB17 : Hid (Below w.heap.size w w17) := (HO16.out.below hb17).1
      clear hb17 HO16
      go_wp2_with fail
      refine Calls.mono (awake_any w17) ?_
      rintro e w18 ⟨rfl, hb18⟩
      have HB18 : Hid (Below w.heap.size w w18) := HB17.out.trans (hb18.mono HB17.out.size)
      clear hb18
      go_wp2_with fail
      go_ret
      exact ⟨rfl, HB18.out⟩
theorem fnames_any (a b c : ByteArray) (w : World) :
    Calls Try.prog 7 #[.string a, .string b, .string c] w fun e w' => e = .returned (.bool true) ∧ Below w.heap.size w w' := by
  by_cases h : (nameOK a = true ∧ nameOK b = true ∧ nameOK c = true) ∧ a ≠ b ∧ b ≠ c ∧ a ≠ c
  · exact names_good a b c w h.1.1 h.1.2.1 h.1.2.2 h.2.1 h.2.2.1 h.2.2.2
  · exact names_bad a b c w h
end Go.Proofs.Ytbbooldhfcldbaa
