/- coraclelaw7.FileCuts: its walk. -/
import Derived.Test.YtbbooldhfcldbaaLCutA
namespace Go.Proofs.Ytbbooldhfcldbaa
open Go.ChangeShapes Go.WideShapes Go.ChangeAt Go.RowKit Go.Lib

theorem own_cut {w wi : World} {f : Nat} {A : Abs} (h : Own7 w wi f A) (n : Int) :
    Calls Try.prog 22 #[.pointer (some ⟨f, 0, none⟩), .int .i64 n] wi fun e w' => e = .returned (.tuple #[]) ∧ Own7 w w' f { A with counted := true, left := n } := by
  obtain ⟨hb1, S, hf, ha, hfo⟩ := h
  refine (cut_any f S n wi hf).mono ?_
  rintro e w' ⟨rfl, h1, h2, _⟩
  exact ⟨rfl, Own7.after hb1 hfo ⟨_, by rw [← ha]; rfl, h1, h2⟩⟩
theorem cuts_fewn (n : Int) (a : Option Addr) (m cap : Nat) (l : List Deed) (w : World) (h : Deeds w a l) (hn : l.length = m) (hc : m ≤ cap) (hcm : cap ≤ maxLen) (hbad : ¬ ((0 ≤ n ∧ n ≤ 50) ∧ fewB l = true)) :
    Calls Try.prog 6 #[.int .i64 n, .slice a m cap] w fun e w' => e = .returned (.bool true) ∧ Below w.heap.size w w' := by
  have HFW : Hid (Calls Try.prog 8 #[.slice a m cap] w fun e w' => e = .returned (.bool (fewB l)) ∧ w' = w) := few_any a m cap l w h hn hc hcm
  clear h hn hc hcm
  by_cases h1 : n < 0
  · clear hbad
    go_enter Try.func6, Try.ntmps6
    go_wp2_with fail
    refine Calls.mono (awake_any w) ?_
    rintro e w1 ⟨rfl, hb⟩
    go_wp2_with fail
    go_ret
    exact ⟨rfl, hb⟩
  · by_cases h2 : n > 50
    · clear hbad
      go_enter Try.func6, Try.ntmps6
      go_wp2_with fail
      refine Calls.mono (awake_any w) ?_
      rintro e w1 ⟨rfl, hb⟩
      go_wp2_with fail
      go_ret
      exact ⟨rfl, hb⟩
    · have h3 : fewB l = false := by
        cases hf : fewB l with
        | false => rfl
        | true => exact absurd ⟨⟨by omega, by omega⟩, hf⟩ hbad
      rw [h3] at HFW
      clear hbad h3
      go_enter Try.func6, Try.ntmps6
      go_wp2_with fail
      refine Calls.mono HFW.out ?_
      rintro e w' ⟨rfl, rfl⟩
      go_wp2_with fail
      refine Calls.mono (awake_any _) ?_
      rintro e w1 ⟨rfl, hb⟩
      go_wp2_with fail
      go_ret
      exact ⟨rfl, hb⟩
/-- What is known behind the deeds. -/
def CutW (w wr : World) (f : Nat) (n : Int) (kk : Nat) : Prop := ∃ A, CutSt n kk A ∧ Own7 w wr f A
theorem CutSt.sane {n : Int} {kk : Nat} {A : Abs} (h : CutSt n kk A) (hn : n ≤ 50) (hk : kk ≤ 100) : 0 ≤ A.ops ∧ A.ops ≤ 4611686018427387904 ∧ -9223372036854775808 ≤ A.left ∧ A.left ≤ 9223372036854775807 := by
  have := h.ops
  rcases h.power with ⟨g1, g2, _⟩ | ⟨g1, g2, _⟩ <;> omega
theorem CutW.append {w wi wj : World} {f : Nat} {n : Int} {kk : Nat} (h : CutW w wi f n kk) (hn : n ≤ 50) (hk : kk ≤ 100) (hb : Below wi.heap.size wi wj) (name : ByteArray) (b c m : Nat) (bs : List (BitVec 8)) (hm : m = bs.length) (hbn : wi.heap.size ≤ b) (hs : SrcB wj (.slice (some ⟨b, 0, none⟩) m c) bs) (hl : bs.length ≤ 50000000) :
    Calls Try.prog 16 #[.pointer (some ⟨f, 0, none⟩), .string name, .slice (some ⟨b, 0, none⟩) m c] wj fun e w' => ∃ E : Int, e = .returned (.int .i64 E) ∧ (E = 7 ↔ n < (kk : Int) + 1) ∧ CutW w w' f n (kk + 1) := by
  obtain ⟨A, hA, ho⟩ := h
  obtain ⟨s1, s2, s3, s4⟩ := hA.sane hn hk
  refine (own_append ho hb name b c m bs hm hbn hs hl s1 s2 s3 s4).mono ?_
  rintro e w' ⟨rfl, h⟩
  exact ⟨_, rfl, (hA.app name bs).1, _, (hA.app name bs).2, h⟩
theorem CutW.sync {w wi : World} {f : Nat} {n : Int} {kk : Nat} (h : CutW w wi f n kk) (hn : n ≤ 50) (hk : kk ≤ 100) (name : ByteArray) :
    Calls Try.prog 17 #[.pointer (some ⟨f, 0, none⟩), .string name] wi fun e w' => ∃ E : Int, e = .returned (.int .i64 E) ∧ (E = 7 ↔ n < (kk : Int) + 1) ∧ CutW w w' f n (kk + 1) := by
  obtain ⟨A, hA, ho⟩ := h
  obtain ⟨s1, s2, s3, s4⟩ := hA.sane hn hk
  refine (own_sync ho name s1 s2 s3 s4).mono ?_
  rintro e w' ⟨rfl, h⟩
  exact ⟨_, rfl, (hA.syn name).1, _, (hA.syn name).2, h⟩
theorem CutW.drewB {w wi : World} {f : Nat} {n : Int} {kk : Nat} (h : CutW w wi f n kk) : CutW w wi.drew f n kk := by
  obtain ⟨A, hA, ho⟩ := h
  exact ⟨A, hA, ho.drewB⟩
set_option maxRecDepth 100000 in
set_option maxHeartbeats 4000000 in
theorem cuts_good (n : Int) (a : Option Addr) (m cap : Nat) (l : List Deed) (w : World) (h : Deeds w a l) (hm : l.length = m) (hc : m ≤ cap) (hcm : cap ≤ maxLen) (hn0 : 0 ≤ n) (hn1 : n ≤ 50) (hf : fewB l = true) :
    Calls Try.prog 6 #[.int .i64 n, .slice a m cap] w fun e w' => e = .returned (.bool true) ∧ Below w.heap.size w w' := by
  have HFW : Hid (Calls Try.prog 8 #[.slice a m cap] w fun e w' => e = .returned (.bool true) ∧ w' = w) := by
    have := few_any a m cap l w h hm hc hcm
    rw [hf] at this
    exact this
  have hm60 : m ≤ 60 := by
    unfold fewB at hf
    simp only [Bool.and_eq_true, decide_eq_true_eq] at hf
    omega
  have HB : Hid (∀ d ∈ l, d.b.size ≤ 200) := fun d hd => by
    unfold fewB at hf
    simp only [Bool.and_eq_true, List.all_eq_true] at hf
    have := hf.1 d (by rw [List.take_of_length_le (by omega)]; exact hd)
    unfold Deed.ok at this
    simp only [Bool.and_eq_true, decide_eq_true_eq] at this
    exact this.2
  have HD : Hid (Deeds w a l) := h
  have HM : Hid (l.length = m) := hm
  have HMO : Hid (Try.prog.follows .mixedOrders = true) := show _ = _ by kernel_rfl
  have kc := fun (w : World) (C : Array Value) (n c : Nat) => Lib.run_convert_bytes_const (P := Try.prog) w 40 5 C n c Try.underlying40 Try.underlying5
  clear h hm hcm hf
  go_enter Try.func6, Try.ntmps6
  go_wp2_with fail
  refine Calls.mono HFW.out ?_
  rintro e w' ⟨rfl, rfl⟩
  clear HFW
  go_wp2_with fail
  refine Calls.mono (new_any _) ?_
  rintro e w1 ⟨rfl, hf1, hb1, hsz⟩
  clear hsz
  have HO1 : Hid (Own7 w' w1 w'.heap.size ⟨[], 0, false, 0, false⟩) := Own7.new hf1 hb1
  clear hf1 hb1
  obtain ⟨f, hf⟩ : ∃ f, f = w'.heap.size := ⟨_, rfl⟩
  rw [← hf] at HO1 ⊢
  clear hf
  go_wp2_with fail
  clear kc
  generalize hw2 : World.alloc w1 _ = w2
  have hb2 : Below w1.heap.size w1 w2 := by rw [← hw2]; exact (Below.refl _ _).alloc (Nat.le_refl _) _
  have hbk : ∀ j, w2.cell? ⟨w1.heap.size, j, none⟩ = (#[Value.int .u8 107, Value.int .u8 101, Value.int .u8 112, Value.int .u8 116] : Array Value)[j]? := fun j => by rw [← hw2]; exact World.cell?_alloc_mark _ _ _ _ _
  have hv2 : SrcB w2 (.slice (some ⟨w1.heap.size, 0, none⟩) 4 4) keptB := .inr ⟨w1.heap.size, 0, 4, rfl, fun j u hu => by
    rw [Nat.zero_add]
    match j, hu with
    | 0, hu => rw [← hu]; exact hbk 0
    | 1, hu => rw [← hu]; exact hbk 1
    | 2, hu => rw [← hu]; exact hbk 2
    | 3, hu => rw [← hu]; exact hbk 3
    | j + 4, hu => cases hu⟩
  clear hw2
  refine Calls.mono (own_append HO1.out hb2 ⟨#[107, 101, 101, 112]⟩ _ 4 4 keptB rfl (Nat.le_refl _) hv2 (by decide) (of_decide_eq_true rfl) (of_decide_eq_true rfl) (of_decide_eq_true rfl) (of_decide_eq_true rfl)) ?_
  rw [show Abs.appE ⟨[], 0, false, 0, false⟩ ⟨#[107, 101, 101, 112]⟩ keptB = 0 from cut_acts.1.1, show Abs.app ⟨[], 0, false, 0, false⟩ ⟨#[107, 101, 101, 112]⟩ keptB = ⟨[(nK, ⟨keptB, 0⟩)], 1, false, 0, false⟩ from cut_acts.1.2]
  rintro e w3 ⟨rfl, ho3⟩
  have HO3 : Hid (Own7 w' w3 f ⟨[(nK, ⟨keptB, 0⟩)], 1, false, 0, false⟩) := ho3
  clear ho3 HO1 hb2 hbk hv2
  go_wp2_with fail
  refine Calls.mono (own_sync HO3.out ⟨#[107, 101, 101, 112]⟩ (of_decide_eq_true rfl) (of_decide_eq_true rfl) (of_decide_eq_true rfl) (of_decide_eq_true rfl)) ?_
  rw [show Abs.opn ⟨[(nK, ⟨keptB, 0⟩)], 1, false, 0, false⟩ [⟨#[107, 101, 101, 112]⟩] ⟨#[107, 101, 101, 112]⟩ = 0 from cut_acts.2.1, show Abs.syn ⟨[(nK, ⟨keptB, 0⟩)], 1, false, 0, false⟩ ⟨#[107, 101, 101, 112]⟩ = ⟨[(nK, ⟨keptB, 4⟩)], 2, false, 0, false⟩ from cut_acts.2.2]
  rintro e w4 ⟨rfl, ho4⟩
  have HO4 : Hid (Own7 w' w4 f ⟨[(nK, ⟨keptB, 4⟩)], 2, false, 0, false⟩) := ho4
  clear ho4 HO3
  go_wp2_with fail
  refine Calls.mono (own_cut HO4.out n) ?_
  rintro e w5 ⟨rfl, ho5⟩
  have HW5 : Hid (CutW w' w5 f n 0) := ⟨_, cut_start n hn0, ho5⟩
  clear ho5 HO4
  go_wp2_with fail
  go_loopw [6, 7] (fun q i wr => ∃ k kk : Nat, k ≤ m ∧ i = .int .i64 k ∧ q = .int .i64 kk ∧ kk ≤ k ∧ Hid (CutW w' wr f n kk)) (fun _ i _ => m - (intOf i).toNat)
  case atStart => exact ⟨0, 0, Nat.zero_le _, rfl, rfl, Nat.le_refl _, HW5.out⟩
  case round =>
    obtain ⟨k, kk, hk, rfl, rfl, hkk, HW⟩ := hrel
    clear HW5
    by_cases hlt : k < m
    · have e0 : (0 : Int) ≤ (k : Int) := by omega
      have e1 : (k : Int) < (m : Int) := by omega
      obtain ⟨d, hd⟩ : ∃ d, l[k]? = some d := ⟨_, List.getElem?_eq_getElem (by have := HM.out; omega)⟩
      have hdb := HB.out d (List.mem_of_getElem? hd)
      have HBel : Hid (Below w'.heap.size w' wr) := HW.out.choose_spec.2.1
      have hdd := HD.out.below HBel.out
      rcases hdd with h0 | ⟨b, o, rfl, hcs⟩
      · rw [h0] at hd; cases hd
      obtain ⟨ck, ca, cb, _⟩ := hcs k d hd
      have HCK : Hid (∀ w'', Below w'.heap.size w' w'' → w''.cell? ⟨b, o + k * 4 + 1, none⟩ = some (.string d.a) ∧ w''.cell? ⟨b, o + k * 4 + 2, none⟩ = some (.string d.b)) := fun w'' hb'' => by
        rcases HD.out.below hb'' with h0 | ⟨b', o', e, hcs'⟩
        · rw [h0] at hd; cases hd
        · injection e with e
          injection e with e1 e2
          subst e1
          subst e2
          exact ⟨(hcs' k d hd).2.1, (hcs' k d hd).2.2.1⟩
      have HC : Hid (wr.cell? ⟨b, o + k * 4 + 1, none⟩ = some (.string d.a) ∧ wr.cell? ⟨b, o + k * 4 + 2, none⟩ = some (.string d.b)) := ⟨ca, cb⟩
      clear hcs hd
      by_cases h1 : d.k = 1
      · rw [h1] at ck
        clear ca cb
        go_upto_region 14 with fail
        refine wp_region_noPanic ?_
        refine wp_region_held_drew (S := fun w' => w'.cell? ⟨b, o + k * 4 + 1, none⟩ = some (.string d.a) ∧ w'.cell? ⟨b, o + k * 4 + 2, none⟩ = some (.string d.b)) HMO.out (HC.out) (fun hHeld => ?_)
        refine wpAnyH_take (i := 0) (oi := { dst := some 70, op := .move (.tmp 5), type := 25, pos := "law.go:169", after := #[], guard := none }) (v := ?_) rfl (by kernel_rfl) (by kernel_rfl) (by kernel_rfl) (fun _ _ _ h => h) (Or.inl ⟨by rfl, ?_⟩) (by assumption) ?_
        rotate_left
        · intro _ _; go_simp; first | done | with_reducible rfl
        simp only [Act.put, List.setIfInBounds_toArray, List.set_cons_zero, List.set_cons_succ]
        refine wpAnyH_take (i := 1) (oi := { dst := some 71, op := .move (.tmp 1), type := 22, pos := "law.go:169", after := #[], guard := none }) (v := ?_) rfl (by kernel_rfl) (by kernel_rfl) (by kernel_rfl) (fun _ _ _ h => h) (Or.inl ⟨by rfl, ?_⟩) (by assumption) ?_
        rotate_left
        · intro _ _; go_simp; first | done | with_reducible rfl
        simp only [Act.put, List.setIfInBounds_toArray, List.set_cons_zero, List.set_cons_succ]
        refine wpAnyH_take (i := 2) (oi := { dst := some 72, op := .move (.tmp 7), type := 3, pos := "law.go:169", after := #[], guard := none }) (v := ?_) rfl (by kernel_rfl) (by kernel_rfl) (by kernel_rfl) (fun _ _ _ h => h) (Or.inl ⟨by rfl, ?_⟩) (by assumption) ?_
        rotate_left
        · intro _ _; go_simp; first | done | with_reducible rfl
        simp only [Act.put, List.setIfInBounds_toArray, List.set_cons_zero, List.set_cons_succ]
        refine wpAnyH_take (i := 3) (oi := { dst := some 73, op := .indexAddr 22 (.tmp 71) (.tmp 72), type := 0, pos := "law.go:169", after := #[{ on := 1, ground := .data }, { on := 2, ground := .data }], guard := none }) (v := ?_) rfl (by kernel_rfl) (by kernel_rfl) (by kernel_rfl) (fun _ _ _ h => h) (Or.inl ⟨by rfl, ?_⟩) (by assumption) ?_
        rotate_left
        · intro _ _; go_simp; first | done | with_reducible rfl
        simp only [Act.put, List.setIfInBounds_toArray, List.set_cons_zero, List.set_cons_succ]
        refine wpAnyH_take (i := 4) (oi := { dst := some 74, op := .fieldAddr 32 (.tmp 73) 1, type := 0, pos := "law.go:169", after := #[{ on := 3, ground := .data }], guard := none }) (v := ?_) rfl (by kernel_rfl) (by kernel_rfl) (by kernel_rfl) (fun _ _ _ h => h) (Or.inl ⟨by rfl, ?_⟩) (by assumption) ?_
        rotate_left
        · intro _ _; go_simp; first | done | with_reducible rfl
        simp only [Act.put, List.setIfInBounds_toArray, List.set_cons_zero, List.set_cons_succ]
        refine wpAnyH_take (i := 5) (oi := { dst := some 75, op := .load 9 (.tmp 74), type := 9, pos := "law.go:169", after := #[{ on := 4, ground := .data }], guard := none }) (v := .string d.a) rfl (by kernel_rfl) (by kernel_rfl) (by kernel_rfl) (fun _ _ _ h => h) (Or.inl ⟨by rfl, ?_⟩) (by assumption) ?_
        · intro _ _; rename_i wz hz; have cz := hz.1; go_simp
        simp only [Act.put, List.setIfInBounds_toArray, List.set_cons_zero, List.set_cons_succ]
        refine wpAnyH_take (i := 6) (oi := { dst := some 76, op := .move (.tmp 1), type := 22, pos := "law.go:169", after := #[], guard := none }) (v := ?_) rfl (by kernel_rfl) (by kernel_rfl) (by kernel_rfl) (fun _ _ _ h => h) (Or.inl ⟨by rfl, ?_⟩) (by assumption) ?_
        rotate_left
        · intro _ _; go_simp; first | done | with_reducible rfl
        simp only [Act.put, List.setIfInBounds_toArray, List.set_cons_zero, List.set_cons_succ]
        refine wpAnyH_take (i := 7) (oi := { dst := some 77, op := .move (.tmp 7), type := 3, pos := "law.go:169", after := #[], guard := none }) (v := ?_) rfl (by kernel_rfl) (by kernel_rfl) (by kernel_rfl) (fun _ _ _ h => h) (Or.inl ⟨by rfl, ?_⟩) (by assumption) ?_
        rotate_left
        · intro _ _; go_simp; first | done | with_reducible rfl
        simp only [Act.put, List.setIfInBounds_toArray, List.set_cons_zero, List.set_cons_succ]
        refine wpAnyH_take (i := 8) (oi := { dst := some 78, op := .indexAddr 22 (.tmp 76) (.tmp 77), type := 0, pos := "law.go:169", after := #[{ on := 6, ground := .data }, { on := 7, ground := .data }], guard := none }) (v := ?_) rfl (by kernel_rfl) (by kernel_rfl) (by kernel_rfl) (fun _ _ _ h => h) (Or.inl ⟨by rfl, ?_⟩) (by assumption) ?_
        rotate_left
        · intro _ _; go_simp; first | done | with_reducible rfl
        simp only [Act.put, List.setIfInBounds_toArray, List.set_cons_zero, List.set_cons_succ]
        refine wpAnyH_take (i := 9) (oi := { dst := some 79, op := .fieldAddr 32 (.tmp 78) 2, type := 0, pos := "law.go:169", after := #[{ on := 8, ground := .data }], guard := none }) (v := ?_) rfl (by kernel_rfl) (by kernel_rfl) (by kernel_rfl) (fun _ _ _ h => h) (Or.inl ⟨by rfl, ?_⟩) (by assumption) ?_
        rotate_left
        · intro _ _; go_simp; first | done | with_reducible rfl
        simp only [Act.put, List.setIfInBounds_toArray, List.set_cons_zero, List.set_cons_succ]
        refine wpAnyH_take (i := 10) (oi := { dst := some 80, op := .load 9 (.tmp 79), type := 9, pos := "law.go:169", after := #[{ on := 9, ground := .data }], guard := none }) (v := .string d.b) rfl (by kernel_rfl) (by kernel_rfl) (by kernel_rfl) (fun _ _ _ h => h) (Or.inl ⟨by rfl, ?_⟩) (by assumption) ?_
        · intro _ _; rename_i wz hz; have cz := hz.2; go_simp
        simp only [Act.put, List.setIfInBounds_toArray, List.set_cons_zero, List.set_cons_succ]
        refine wpAnyH_ready (rs := [11]) (by kernel_rfl) (by simp) ?_
        refine AllReadyH.cons (o := { dst := some 81, op := .convert 9 40 (.tmp 80), type := 40, pos := "law.go:169", after := #[{ on := 10, ground := .data }], guard := none }) rfl (fun K hK => ?_) AllReadyH.nil
        refine step_toBytes rfl _ rfl d.b rfl ?_; intro c5 w5 HS5 HB5
        simp only [Act.put, List.setIfInBounds_toArray, List.set_cons_zero, List.set_cons_succ]
        refine hK.out _ _ (⟨cell_below HB5.out HC.out.1, cell_below HB5.out HC.out.2⟩) (fun hHeld => ?_)
        clear hK K
        refine wpAnyH_ready (rs := [12]) (by kernel_rfl) (by simp) ?_
        refine AllReadyH.cons (o := { dst := some 82, op := .call { callee := .value (.func 16), args := #[.tmp 70, .tmp 75, .tmp 81], argTypes := #[25, 9, 40] }, type := 38, pos := "law.go:169", after := #[{ on := 0, ground := .data }, { on := 5, ground := .data }, { on := 11, ground := .data }], guard := none }) rfl (fun K hK => ?_) AllReadyH.nil
        go_simp
        refine Calls.mono (HW.out.append hn1 (by omega) (below_undrew HB5.out) d.a _ c5 d.b.size (strB d.b) (strB_length d.b).symm (Nat.le_refl _) HS5.out (by rw [strB_length]; omega)) ?_; rintro e w6 ⟨E, rfl, hE, hw6⟩; have HW6 : Hid (CutW w' w6 f n (kk + 1)) := hw6; have hc6 : w6.cell? ⟨b, o + k * 4 + 1, none⟩ = some (.string d.a) ∧ w6.cell? ⟨b, o + k * 4 + 2, none⟩ = some (.string d.b) := HCK.out w6 hw6.choose_spec.2.1; clear hw6
        go_simp
        refine hK.out _ _ (hc6) (fun hHeld => ?_)
        clear hK K
        refine wpAnyH_take (i := 13) (oi := { dst := some 8, op := .assign (.tmp 82), type := 38, pos := "law.go:169", after := #[{ on := 12, ground := .data }, { on := 12, ground := .chain }, { on := 0, ground := .phase }, { on := 1, ground := .phase }, { on := 2, ground := .phase }, { on := 3, ground := .phase }, { on := 4, ground := .phase }, { on := 5, ground := .phase }, { on := 6, ground := .phase }, { on := 7, ground := .phase }, { on := 8, ground := .phase }, { on := 9, ground := .phase }, { on := 10, ground := .phase }, { on := 11, ground := .phase }, { on := 12, ground := .phase }], guard := none }) (v := ?_) rfl (by kernel_rfl) (by kernel_rfl) (by kernel_rfl) (fun _ _ _ h => h) (Or.inl ⟨by rfl, ?_⟩) (by assumption) ?_
        rotate_left
        · intro _ _; go_simp; first | done | with_reducible rfl
        simp only [Act.put, List.setIfInBounds_toArray, List.set_cons_zero, List.set_cons_succ]
        refine wpAnyH_done (by kernel_rfl) ?_ _
        refine NoPanic.normal ?_
        clear hHeld hc6
        by_cases hoff : n < (kk : Int) + 1
        · have hE7 : E = 7 := hE.2 hoff
          subst hE7
          have g1 : (kk : Int) + 1 > n := by omega
          clear hE
          go_wp2_with fail
          go_roundw
          case rel => exact ⟨k + 1, kk + 1, by omega, by go_num, by go_num, by omega, HW6.out⟩
          case measure => simp [intOf]; omega
        · have hE7 : (E == 7) = false := beq_eq_false_iff_ne.2 fun e => hoff (hE.1 e)
          have g1 : ¬ (kk : Int) + 1 > n := by omega
          clear hE
          go_wp2_with fail
          go_roundw
          case rel => exact ⟨k + 1, kk + 1, by omega, by go_num, by go_num, by omega, HW6.out⟩
          case measure => simp [intOf]; omega
      · by_cases h2 : d.k = 2
        · rw [h2] at ck
          clear cb
          go_wp2_with fail
          refine Calls.mono (HW.out.sync hn1 (by omega) d.a) ?_
          rintro e w6 ⟨E, rfl, hE, hw6⟩
          have HW6 : Hid (CutW w' w6 f n (kk + 1)) := hw6
          clear hw6 ca ck HC
          by_cases hoff : n < (kk : Int) + 1
          · have hE7 : E = 7 := hE.2 hoff
            subst hE7
            have g1 : (kk : Int) + 1 > n := by omega
            clear hE
            go_wp2_with fail
            go_roundw
            case rel => exact ⟨k + 1, kk + 1, by omega, by go_num, by go_num, by omega, HW6.out⟩
            case measure => simp [intOf]; omega
          · have hE7 : (E == 7) = false := beq_eq_false_iff_ne.2 fun e => hoff (hE.1 e)
            have g1 : ¬ (kk : Int) + 1 > n := by omega
            clear hE
            go_wp2_with fail
            go_roundw
            case rel => exact ⟨k + 1, kk + 1, by omega, by go_num, by go_num, by omega, HW6.out⟩
            case measure => simp [intOf]; omega
        · clear ca cb HC
          by_cases h3 : d.k < 1
          · go_wp2_with fail
            go_roundw
            case rel => exact ⟨k + 1, kk, by omega, by go_num, rfl, by omega, HW.out⟩
            case measure => simp [intOf]; omega
          · have h4 : d.k > 2 := by omega
            go_wp2_with fail
            go_roundw
            case rel => exact ⟨k + 1, kk, by omega, by go_num, rfl, by omega, HW.out⟩
            case measure => simp [intOf]; omega
    · have hkm : k = m := by omega
      obtain ⟨A, hA, hbw, S, hfS, haS, hfoS⟩ := HW.out
      obtain ⟨flk, hk1, hk2, hk3, hk4⟩ := hA.cutL.keep
      have hk5 := KeepF.crash (A := A) hA.cutL.keep
      have hops : A.ops = kk + 2 := hA.ops
      have HN : Hid ((∀ p ∈ A.L, p.1.size ≤ 1000) ∧ A.L.length ≤ 1000000) := ⟨hA.cutL.names, by have := hA.cutL.len; omega⟩
      have HS : Hid (FsAt wr f S ∧ S.abs = A) := ⟨hfS, haS⟩
      have HO : Hid (Own7 w' wr f A) := ⟨hbw, S, hfS, haS, hfoS⟩
      have HB0 : Hid (Below w'.heap.size w' wr) := hbw
      clear hA hbw hfS haS hfoS HW HD HB HM
      go_wp2_with fail
      refine Calls.mono (own_read HO.out ⟨#[107, 101, 101, 112]⟩) ?_
      rw [show alook ⟨#[107, 101, 101, 112]⟩ A.L = some flk from hk1, show flOf (some flk) = flk from rfl]
      rintro e w12 ⟨ax, cx, rfl, hox, hb12⟩
      simp only [Option.isSome_some, if_true]
      obtain ⟨lx, hlx⟩ : ∃ lx, lx = flk.b.length := ⟨_, rfl⟩
      rw [← hlx] at hox hk3 ⊢
      rw [hlx] at hox
      obtain ⟨ay, cy, hay, hcy1, hcy2, hcy3, htk⟩ := hox.take (n := 4) (by omega)
      injection hay with e1 _ e3
      subst e1
      subst e3
      rw [← hlx] at hcy1
      have hcy4 : cx ≤ 9223372036854775807 := hcy2
      have HS12 : Hid (SrcB w12 (.slice ax 4 cx) keptB) := by have := htk.src; rwa [hk4] at this
      have HF12 : Hid (FsAt w12 f S ∧ S.abs = A) := ⟨HS.out.1.below hb12, HS.out.2⟩
      have HB12 : Hid (Below w'.heap.size w' w12) := HB0.out.trans (hb12.mono HB0.out.size)
      clear hox hb12 htk hcy2 hcy3 HO HS HB0 hlx hk1 hk4
      go_wp2_with fail
      refine Calls.mono (crash_any f S none 0 0 [] w12 HF12.out.1 (by rw [show S.L = A.L from congrArg Abs.L HF12.out.2]; exact HN.out.1) (by rw [show S.L = A.L from congrArg Abs.L HF12.out.2]; exact HN.out.2) (.inl rfl) rfl (Nat.le_refl _) (Nat.zero_le _)) ?_
      rintro e w13 ⟨g, T, rfl, haT, hfT, hgT, hb13⟩
      rw [HF12.out.2] at haT
      obtain ⟨flc, hc1, hc2⟩ := hk5
      have HF13 : Hid (FsAt w13 f S ∧ S.abs = A) := ⟨HF12.out.1.below hb13, HF12.out.2⟩
      have HB13 : Hid (Below w'.heap.size w' w13) := HB12.out.trans (hb13.mono HB12.out.size)
      have HS13 : Hid (SrcB w13 (.slice ax 4 cx) keptB) := HS12.out.below hb13
      have HT13 : Hid (FsAt w13 g T ∧ T.abs = A.crash []) := ⟨hfT, haT⟩
      have HDis : Hid (∀ i, S.foot f i → ¬ T.foot g i) := fun i hi hi' => by
        have := hgT i hi'
        have := HF12.out.1.lt hi
        omega
      have HGf : Hid (∀ i, T.foot g i → w'.heap.size ≤ i) := fun i hi => Nat.le_trans HB12.out.size (hgT i hi)
      clear hb13 hfT haT hgT HF12 HB12 HS12 HN
      go_wp2_with fail
      refine Calls.mono (read_any g T ⟨#[107, 101, 101, 112]⟩ w13 HT13.out.1) ?_
      rw [show T.L = (A.crash []).L from congrArg Abs.L HT13.out.2, show alook ⟨#[107, 101, 101, 112]⟩ (A.crash []).L = some flc from hc1, show flOf (some flc) = flc from rfl]
      rintro e w14 ⟨v14, rfl, ho14, hb14⟩
      simp only [Option.isSome_some, if_true]
      obtain ⟨az, cz, hv14⟩ := ho14.shape
      subst hv14
      obtain ⟨lz, hlz⟩ : ∃ lz, lz = flc.b.length := ⟨_, rfl⟩
      rw [← hlz] at hc2 ⊢
      have HF14 : Hid (FsAt w14 f S ∧ S.abs = A) := ⟨HF13.out.1.below hb14, HF13.out.2⟩
      have HB14 : Hid (Below w'.heap.size w' w14) := HB13.out.trans (hb14.mono HB13.out.size)
      have HS14 : Hid (SrcB w14 (.slice ax 4 cx) keptB) := HS13.out.below hb14
      have HT14 : Hid (FsAt w14 g T ∧ T.abs = A.crash []) := ⟨HT13.out.1.below hb14, HT13.out.2⟩
      have HX : Hid (ofB keptB = ⟨#[107, 101, 112, 116]⟩) := show _ = _ from rfl
      have hself : ((⟨#[107, 101, 112, 116]⟩ : ByteArray).toList == (⟨#[107, 101, 112, 116]⟩ : ByteArray).toList) = true := by simp
      clear ho14 hb14 HF13 HB13 HS13 HT13 hlz hc1
      have hk3' : (lx : Int) ≥ 4 := by omega
      have hc2' : (lz : Int) ≥ 4 := by omega
      have hcx4 : (4 : Int) ≤ (cx : Int) := by omega
      go_wp2_with (refine wpList_str_if (by rfl) _ rfl _ keptB rfl HS14.out ?_; rw [HX.out])
      have hnew : T.abs.appE ⟨#[110, 101, 119]⟩ [] = 0 := by
        obtain ⟨_, _, _, _, _, _, h16⟩ := shapeOf HT14.out.1 ⟨#[110, 101, 119]⟩
        have hL : T.abs.L = T.L := rfl
        rw [HT14.out.2] at hL ⊢
        obtain ⟨q1, _⟩ := beg_ok (A := A.crash []) (l := [⟨#[110, 101, 119]⟩]) rfl rfl rfl
        unfold Abs.appE
        rw [if_pos q1, hL, if_pos (by simpa using h16)]
      refine Calls.mono (append_any g T ⟨#[110, 101, 119]⟩ (.slice none 0 0) [] w14 HT14.out.1 (FS.sane_of HT14.out.2 (of_decide_eq_true rfl) (of_decide_eq_true rfl) (of_decide_eq_true rfl) (of_decide_eq_true rfl)) (.inl ⟨rfl, rfl⟩) (Nat.zero_le _) (fun i hi => by cases hi)) ?_
      rw [hnew]
      rintro e w15 ⟨rfl, T', _, _, hG⟩
      have HF15 : Hid (FsAt w15 f S ∧ S.abs = A) := ⟨HF14.out.1.same fun i hi => hG.block i (HF14.out.1.lt hi) (HDis.out i hi), HF14.out.2⟩
      have HB15 : Hid (Below w'.heap.size w' w15) := HB14.out.trans (hG.below HB14.out.size HGf.out)
      clear hG hnew HF14 HB14 HT14 HS14 HX hself hk3' hc2' hcx4
      go_wp2_with fail
      refine Calls.mono (ops_any f S w15 HF15.out.1) ?_
      have hso : S.ops = (kk : Int) + 2 := by rw [show S.ops = A.ops from congrArg Abs.ops HF15.out.2]; exact hops
      rw [hso]
      rintro e w16 ⟨rfl, rfl⟩
      clear hso hops HF15
      go_wp2_with fail
      refine Calls.mono (awake_any _) ?_
      rintro e w17 ⟨rfl, hb17⟩
      have HB17 : Hid (Below w'.heap.size w' w17) := HB15.out.trans (hb17.mono HB15.out.size)
      clear hb17
      go_wp2_with fail
      go_ret
      exact ⟨rfl, HB17.out⟩
theorem fcuts_any (n : Int) (a : Option Addr) (m cap : Nat) (l : List Deed) (w : World) (h : Deeds w a l) (hm : l.length = m) (hc : m ≤ cap) (hcm : cap ≤ maxLen) :
    Calls Try.prog 6 #[.int .i64 n, .slice a m cap] w fun e w' => e = .returned (.bool true) ∧ Below w.heap.size w w' := by
  by_cases hg : (0 ≤ n ∧ n ≤ 50) ∧ fewB l = true
  · exact cuts_good n a m cap l w h hm hc hcm hg.1.1 hg.1.2 hg.2
  · exact cuts_fewn n a m cap l w h hm hc hcm hg
end Go.Proofs.Ytbbooldhfcldbaa
