/- The document's own files in memory: gone, set (a row laid anew). -/
import Derived.Test.YtlapnnkahijikaaZR1
namespace Go.Proofs.Ytlapnnkahijikaa
open Go.ChangeShapes Go.WideShapes Go.ChangeAt Go.RowKit Go.Lib

section
variable {α : Type} [El α]
theorem rangeAt_take {w : World} {b o k : Nat} {cs : List Value} (h : w.rangeAt b o cs) : w.rangeAt b o (cs.take k) := fun j v hv => by
  rw [List.getElem?_take] at hv
  split at hv
  · exact h j v hv
  · cases hv
theorem rangeAt_drop {w : World} {b o k : Nat} {cs : List Value} (h : w.rangeAt b o cs) : w.rangeAt b (o + k) (cs.drop k) := fun j v hv => by
  rw [List.getElem?_drop] at hv
  have := h (k + j) v hv
  rwa [← Nat.add_assoc] at this
theorem Els.cutA {w : World} {a : Option Addr} {n c : Nat} {l : List α} (h : Els w a n c l) (k : Nat) (hk : k ≤ n) : Els w a k c (l.take k) :=
  ⟨by rw [List.length_take, h.len]; omega, Nat.le_trans hk h.fits, h.most, h.bare, fun h0 => by
    obtain ⟨b, o, ha, hc⟩ := h.there (by omega)
    exact ⟨b, o, ha, by rw [flatE_take]; exact rangeAt_take hc⟩⟩
theorem Els.cutB {w : World} {a : Option Addr} {n c : Nat} {l : List α} (h : Els w a n c l) (k : Nat) (hk : k ≤ n) : Els w (if c = k then a else Option.map (fun x => x.add (k * El.k α)) a) (n - k) (c - k) (l.drop k) := by
  have hf := h.fits
  refine ⟨by rw [List.length_drop, h.len], by omega, Nat.le_trans (Nat.sub_le _ _) h.most, fun e => ?_, fun h0 => ?_⟩
  · split at e
    · omega
    · cases a with
      | none => have := h.bare rfl; omega
      | some x => cases e
  · obtain ⟨b, o, ha, hc⟩ := h.there (by omega)
    rw [if_neg (by omega), ha]
    exact ⟨b, o + k * El.k α, by rw [Option.map_some, Addr.add_mid], by rw [flatE_drop]; exact rangeAt_drop hc⟩
end
section
variable {α : Type} [El α] {P : Program} {S T : TypeId} {by_ : Nat} {ops : Array Oper} {o : Oper} {ac : Act} {w : World} {K : Act → World → Prop} {Q : Exit → Act → World → Prop} {E : Prop}
/-- An empty slice, laid by a region that draws its order. -/
theorem step_build_none (H : ElT α P S T by_) (hgd : o.guard = none) (ho : o.op = .buildSlice S 0 #[]) (B : Nat) (hB : B ≤ w.heap.size)
    (hK : ∀ w' g, Hid (OwnE T w' B (.slice (some ⟨g, 0, none⟩) 0 0) ([] : List α)) → Hid (Below w.heap.size w w') → K (ac.put o.dst (.slice (some ⟨g, 0, none⟩) 0 0)) w') : if Region.wanted o (yielded ops ac.tmps) = true then Oper.wp P o ac w K Q else E := by
  have hw : Region.wanted o (yielded ops ac.tmps) = true := by simp [Region.wanted, hgd]
  rw [if_pos hw]
  obtain ⟨i, hi, hi1, hi2, hi3⟩ := info_parts H.info
  have hrun : (Instr.buildSlice S 0 #[]).run P w = .ok (.slice (some ⟨w.heap.size, 0, none⟩) 0 0) (w.alloc (.cells #[] T)) := by
    simp [Instr.buildSlice, run_underlying H.und, sizeOf, typeInfo, hi, Instr.fill, newRow]
    rw [show Array.map (fun _ => (default : Value)) (Array.range 0) = #[] from Array.eq_empty_of_size_eq_zero (by simp)]
  unfold Oper.wp execOp
  simp only [ho, Sem.run_bind, List.map_toArray, List.map_nil, hrun, Result.andThen_ok]
  exact hK _ w.heap.size (World.ownsRow_lit w #[] 0 hB (by unfold maxLen; omega) (by simp)) ((Below.refl _ _).alloc (Nat.le_refl _) _)
theorem step_build_own (H : ElT α P S T by_) (hgd : o.guard = none) (y : Operand) (ho : o.op = .buildSlice S 1 #[(0, y)]) (x : α) (hy : ac.eval y = .agg (El.cs x).toArray)
    (hK : ∀ w' g, Hid (Els w' (some ⟨g, 0, none⟩) 1 1 [x]) → Hid (Below w.heap.size w w') → K (ac.put o.dst (.slice (some ⟨g, 0, none⟩) 1 1)) w') : if Region.wanted o (yielded ops ac.tmps) = true then Oper.wp P o ac w K Q else E :=
  step_build_one H hgd y ho x hy fun w' h1 h2 => hK w' _ h1 h2
end
theorem OwnE.less0 {α : Type} [El α] {T : TypeId} {w : World} {B : Nat} {v : Value} {l : List α} (h : OwnE T w B v l) : OwnE T w 0 v l := by
  refine ⟨h.1, ?_⟩
  rcases h.2 with hn | ⟨g, cap, cur, hv, _, rest⟩
  · exact .inl hn
  · exact .inr ⟨g, cap, cur, hv, Nat.zero_le _, rest⟩
theorem Els.lt1 {α : Type} [El α] {w : World} {a : Option Addr} {n c b' o' : Nat} {l : List α} (h : Els w a n c l) (e : a = some ⟨b', o', none⟩) (h0 : 0 < n) (hk : 0 < El.k α) : b' < w.heap.size := by
  obtain ⟨b, o, ha, hc⟩ := h.there h0
  rw [e] at ha
  injection ha with ha
  injection ha with ha _ _
  have hx : ∃ v, (flatE l)[0]? = some v := ⟨_, List.getElem?_eq_getElem (by rw [flatE_length, h.len]; exact Nat.mul_pos h0 hk)⟩
  obtain ⟨v, hv⟩ := hx
  rw [ha]
  exact World.block_lt_of_cell? w _ (hc 0 v hv)
theorem i64_one {P : Nat} (h : P ≤ 100000) : IntKind.i64.wrap ((P : Int) + 1) = (P : Int) + 1 := by
  exact i64_fit (by omega) (by omega)
theorem own_ne {α : Type} [El α] {T : TypeId} {w : World} {B g g2 : Nat} {x : α} (h : OwnE T w B (.slice (some ⟨g, 0, none⟩) 0 0) ([] : List α)) (k : Els w (some ⟨g2, 0, none⟩) 1 1 [x]) (h0 : 0 < El.k α) : g2 ≠ g := fun e => by
  subst e
  obtain ⟨b, o, e1, e2⟩ := k.there (by omega)
  injection e1 with e1
  injection e1 with e1 e3 _
  subst e1
  subst e3
  have hx : ∃ v, (flatE [x])[0]? = some v := ⟨_, List.getElem?_eq_getElem (by rw [flatE_length]; simpa using h0)⟩
  obtain ⟨v, hv⟩ := hx
  have h1 := e2 0 v hv
  rcases h.2 with ⟨e, _⟩ | ⟨g', cap, cur, e, _, hg, _, _, hs, _⟩
  · cases e
  · injection e with e e4 e5
    injection e with e
    injection e with e _ _
    subst e
    rw [cell_of_row w _ _ _ _ _ hg] at h1
    have : cur.size = 0 := by rw [hs, ← e5, Nat.zero_mul]
    simp [this] at h1
set_option maxRecDepth 100000 in
set_option maxHeartbeats 4000000 in
theorem rgone_any (m : Nat) (v : Value) (R : RS) (n : ByteArray) (w : World) (h : RkAt w m v R) (hl : R.L.length ≤ 100000) :
    Calls Try.prog 38 #[.pointer (some ⟨m, 0, none⟩), .string n] w fun e w' => e = .returned (.tuple #[]) ∧ ∃ v', RkAt w' m v' { R with L := sdel n R.L } ∧ Keep m w w' ∧ Mvd w v v' := by
  have HPL : Hid _ := place_any m v R n w h
  have HMO : Hid (Try.prog.follows .mixedOrders = true) := show _ = _ by kernel_rfl
  obtain ⟨a, c, rfl, hels⟩ := h.shape
  obtain ⟨L, fuse, dark, ops⟩ := R
  simp only at hels hl
  obtain ⟨z, hz⟩ : ∃ z, z = L.length := ⟨_, rfl⟩
  rw [← hz] at hels h
  have HR : Hid (RkAt w m (.slice a z c) ⟨L, fuse, dark, ops⟩) := h
  have HE : Hid (Els w a z c L) := hels
  have HN : Hid (z = L.length) := hz
  have hzc : z ≤ c := hels.fits
  have hc63 : c ≤ 9223372036854775807 := by have h2 := hels.most; unfold maxLen at h2; omega
  have hP : cnt n L ≤ z := by rw [hz]; exact cnt_le n L
  have hPlt : shas n L = true → cnt n L < z := fun e => by rw [hz]; exact shas_lt e
  have hz100 : z ≤ 100000 := by rw [hz]; exact hl
  simp only at HPL
  have HSD : Hid (shas n L = true → sdel n L = L.take (cnt n L) ++ L.drop (cnt n L + 1)) := fun e => sdel_eq n L e
  have HSN : Hid (shas n L = false → sdel n L = L) := fun e => sdel_none n L e
  show Calls _ _ _ _ fun e w' => e = .returned (.tuple #[]) ∧ ∃ v', RkAt w' m v' ⟨sdel n L, fuse, dark, ops⟩ ∧ Keep m w w' ∧ Mvd w (.slice a L.length c) v'
  rw [← hz]
  clear h hels hz hl
  generalize cnt n L = P at *
  generalize shas n L = TA at *
  generalize sdel n L = L' at *
  go_enter Try.func38, Try.ntmps38
  go_wp2_with fail
  refine Calls.mono HPL.out ?_
  rintro e w1 ⟨rfl, hb1⟩
  have HB1 : Hid (Below w.heap.size w w1) := hb1
  have HR1 : Hid (RkAt w1 m (.slice a z c) ⟨L, fuse, dark, ops⟩) := HR.out.below hb1
  clear hb1 HPL
  cases TA with
  | false =>
    go_wp2_with fail
    go_end0
    exact ⟨rfl, _, by first | (rw [HSN.out rfl]; exact HR1.out) | (rw [HSN.out trivial]; exact HR1.out), Keep.of_below HB1.out, Mvd.refl _ _⟩
  | true =>
    have hPz := hPlt rfl
    have HLQ : Hid (L' = L.take P ++ L.drop (P + 1)) := HSD.out rfl
    obtain ⟨adr, hadr⟩ : ∃ x, (if c = P + 1 then a else Option.map (fun x => x.add ((P + 1) * 3)) a) = x := ⟨_, rfl⟩
    have HCB : Hid (∀ w', Below w1.heap.size w1 w' → Els w' adr (z - (P + 1)) (c - (P + 1)) (L.drop (P + 1))) := fun w' hb => by rw [← hadr]; exact ((HE.out.below HB1.out).below hb).cutB (P + 1) (by omega)
    have HCA : Hid (∀ w', Below w1.heap.size w1 w' → Els w' a P c (L.take P)) := fun w' hb => ((HE.out.below HB1.out).below hb).cutA P (by omega)
    have HLA : Hid ((L.take P).length = P ∧ z ≤ 100000 ∧ P ≤ z) := ⟨by rw [List.length_take, ← HN.out]; omega, hz100, hP⟩
    have HC1 : Hid (w1.cell? ⟨m, 0, none⟩ = some (.slice a z c)) := HR1.out.blk.one rfl
    have HW : Hid (Below w1.heap.size w1 w1.drew) := (Below.refl _ _).drew
    have hcn : w1.drew.cell? ⟨m, 0, none⟩ = some (.slice a z c) := HC1.out
    have HX : Hid True := trivial
    have hPc : P ≤ c := by omega
    have hwp : IntKind.i64.wrap ((P : Int) + 1) = (P : Int) + 1 := i64_one (by omega)
    have HO1 : Hid True := trivial
    have HO3 : Hid True := trivial
    clear hPlt HSD HSN
    go_upto_region 2 with fail
    refine wp_region_noPanic ?_
    refine wp_region_held_drew (S := fun _ => True) HMO.out (trivial) (fun hHeld => ?_)
    refine wpAnyH_take (i := 0) (oi := { dst := some 13, op := .move (.tmp 0), type := 27, pos := "chain.go:82", after := #[], guard := none }) (v := ?_) rfl (by kernel_rfl) (by kernel_rfl) (by kernel_rfl) (fun _ _ _ h => h) (Or.inl ⟨by rfl, ?_⟩) (by assumption) ?_
    rotate_left
    · intro _ _; go_simp; first | done | with_reducible rfl
    simp only [Act.put, List.setIfInBounds_toArray, List.set_cons_zero, List.set_cons_succ]
    refine wpAnyH_take (i := 2) (oi := { dst := some 15, op := .move (.tmp 0), type := 27, pos := "chain.go:82", after := #[], guard := none }) (v := ?_) rfl (by kernel_rfl) (by kernel_rfl) (by kernel_rfl) (fun _ _ _ h => h) (Or.inl ⟨by rfl, ?_⟩) (by assumption) ?_
    rotate_left
    · intro _ _; go_simp; first | done | with_reducible rfl
    simp only [Act.put, List.setIfInBounds_toArray, List.set_cons_zero, List.set_cons_succ]
    refine wpAnyH_take (i := 3) (oi := { dst := some 16, op := .nilCheck (.tmp 15), type := 0, pos := "chain.go:82", after := #[{ on := 2, ground := .data }], guard := none }) (v := ?_) rfl (by kernel_rfl) (by kernel_rfl) (by kernel_rfl) (fun _ _ _ h => h) (Or.inl ⟨by rfl, ?_⟩) (by assumption) ?_
    rotate_left
    · intro _ _; go_simp; first | done | with_reducible rfl
    simp only [Act.put, List.setIfInBounds_toArray, List.set_cons_zero, List.set_cons_succ]
    refine wpAnyH_take (i := 4) (oi := { dst := some 17, op := .fieldAddr 50 (.tmp 16) 0, type := 0, pos := "chain.go:82", after := #[{ on := 3, ground := .data }], guard := none }) (v := ?_) rfl (by kernel_rfl) (by kernel_rfl) (by kernel_rfl) (fun _ _ _ h => h) (Or.inl ⟨by rfl, ?_⟩) (by assumption) ?_
    rotate_left
    · intro _ _; go_simp; first | done | with_reducible rfl
    simp only [Act.put, List.setIfInBounds_toArray, List.set_cons_zero, List.set_cons_succ]
    refine wpAnyH_take (i := 6) (oi := { dst := some 19, op := .move (.tmp 4), type := 3, pos := "chain.go:82", after := #[], guard := none }) (v := ?_) rfl (by kernel_rfl) (by kernel_rfl) (by kernel_rfl) (fun _ _ _ h => h) (Or.inl ⟨by rfl, ?_⟩) (by assumption) ?_
    rotate_left
    · intro _ _; go_simp; first | done | with_reducible rfl
    simp only [Act.put, List.setIfInBounds_toArray, List.set_cons_zero, List.set_cons_succ]
    refine wpAnyH_take (i := 9) (oi := { dst := some 22, op := .move (.tmp 0), type := 27, pos := "chain.go:82", after := #[], guard := none }) (v := ?_) rfl (by kernel_rfl) (by kernel_rfl) (by kernel_rfl) (fun _ _ _ h => h) (Or.inl ⟨by rfl, ?_⟩) (by assumption) ?_
    rotate_left
    · intro _ _; go_simp; first | done | with_reducible rfl
    simp only [Act.put, List.setIfInBounds_toArray, List.set_cons_zero, List.set_cons_succ]
    refine wpAnyH_take (i := 10) (oi := { dst := some 23, op := .nilCheck (.tmp 22), type := 0, pos := "chain.go:82", after := #[{ on := 9, ground := .data }], guard := none }) (v := ?_) rfl (by kernel_rfl) (by kernel_rfl) (by kernel_rfl) (fun _ _ _ h => h) (Or.inl ⟨by rfl, ?_⟩) (by assumption) ?_
    rotate_left
    · intro _ _; go_simp; first | done | with_reducible rfl
    simp only [Act.put, List.setIfInBounds_toArray, List.set_cons_zero, List.set_cons_succ]
    refine wpAnyH_take (i := 11) (oi := { dst := some 24, op := .fieldAddr 50 (.tmp 23) 0, type := 0, pos := "chain.go:82", after := #[{ on := 10, ground := .data }], guard := none }) (v := ?_) rfl (by kernel_rfl) (by kernel_rfl) (by kernel_rfl) (fun _ _ _ h => h) (Or.inl ⟨by rfl, ?_⟩) (by assumption) ?_
    rotate_left
    · intro _ _; go_simp; first | done | with_reducible rfl
    simp only [Act.put, List.setIfInBounds_toArray, List.set_cons_zero, List.set_cons_succ]
    refine wpAnyH_take (i := 13) (oi := { dst := some 26, op := .move (.tmp 4), type := 3, pos := "chain.go:82", after := #[], guard := none }) (v := ?_) rfl (by kernel_rfl) (by kernel_rfl) (by kernel_rfl) (fun _ _ _ h => h) (Or.inl ⟨by rfl, ?_⟩) (by assumption) ?_
    rotate_left
    · intro _ _; go_simp; first | done | with_reducible rfl
    simp only [Act.put, List.setIfInBounds_toArray, List.set_cons_zero, List.set_cons_succ]
    refine wpAnyH_take (i := 14) (oi := { dst := some 27, op := .binOp Go.BinOp.add 3 (.tmp 26) (.const (.int .i64 1)) 3, type := 3, pos := "chain.go:82", after := #[{ on := 13, ground := .data }], guard := none }) (v := .int .i64 ((P : Int) + 1)) rfl (by kernel_rfl) (by kernel_rfl) (by kernel_rfl) (fun _ _ _ h => h) (Or.inl ⟨by rfl, ?_⟩) (by assumption) ?_
    · intro _ _; go_simp
    simp only [Act.put, List.setIfInBounds_toArray, List.set_cons_zero, List.set_cons_succ]
    refine wpAnyH_ready (rs := [1, 5, 12]) (by kernel_rfl) (by simp) ?_
    refine (AllReadyH.cons (o := { dst := some 14, op := .buildSlice 48 0 #[], type := 48, pos := "chain.go:82", after := #[], guard := none }) rfl (fun K hK => ?_) (AllReadyH.cons (o := { dst := some 18, op := .load 48 (.tmp 17), type := 48, pos := "chain.go:82", after := #[{ on := 4, ground := .data }], guard := none }) rfl (fun K hK => ?_) (AllReadyH.cons (o := { dst := some 25, op := .load 48 (.tmp 24), type := 48, pos := "chain.go:82", after := #[{ on := 11, ground := .data }], guard := none }) rfl (fun K hK => ?_) AllReadyH.nil)))
    · refine step_build_none elF rfl rfl w1.heap.size HW.out.size ?_; intro wn g1 HO1' HBn; (try replace HX : Hid _ := HX.out.below HBn.out); clear HO1; have HO1 := HO1'; clear HO1'; replace HW : Hid (Below w1.heap.size w1 wn) := HW.out.trans (HBn.out.mono HW.out.size); clear HBn; have hcn := cell_below HW.out HC1.out
      simp only [Act.put, List.setIfInBounds_toArray, List.set_cons_zero, List.set_cons_succ]
      refine hK.out _ _ (trivial) (fun hHeld => ?_)
      clear hK K
      refine wpAnyH_ready (rs := [5, 12]) (by kernel_rfl) (by simp) ?_
      refine (AllReadyH.cons (o := { dst := some 18, op := .load 48 (.tmp 17), type := 48, pos := "chain.go:82", after := #[{ on := 4, ground := .data }], guard := none }) rfl (fun K hK => ?_) (AllReadyH.cons (o := { dst := some 25, op := .load 48 (.tmp 24), type := 48, pos := "chain.go:82", after := #[{ on := 11, ground := .data }], guard := none }) rfl (fun K hK => ?_) AllReadyH.nil))
      · go_simp
        skip
        go_simp
        refine hK.out _ _ (trivial) (fun hHeld => ?_)
        clear hK K
        refine wpAnyH_take (i := 7) (oi := { dst := some 20, op := .slice 48 (.tmp 18) none (some (.tmp 19)) none, type := 48, pos := "chain.go:82", after := #[{ on := 5, ground := .data }, { on := 6, ground := .data }], guard := none }) (v := .slice a P c) rfl (by kernel_rfl) (by kernel_rfl) (by kernel_rfl) (fun _ _ _ h => h) (Or.inl ⟨by rfl, ?_⟩) (by assumption) ?_
        · intro _ _; go_simp
        simp only [Act.put, List.setIfInBounds_toArray, List.set_cons_zero, List.set_cons_succ]
        refine wpAnyH_ready (rs := [8, 12]) (by kernel_rfl) (by simp) ?_
        refine (AllReadyH.cons (o := { dst := some 21, op := .call { callee := .builtin Go.Builtin.append, args := #[.tmp 14, .tmp 20], argTypes := #[48, 48] }, type := 48, pos := "chain.go:82", after := #[{ on := 1, ground := .data }, { on := 7, ground := .data }], guard := none }) rfl (fun K hK => ?_) (AllReadyH.cons (o := { dst := some 25, op := .load 48 (.tmp 24), type := 48, pos := "chain.go:82", after := #[{ on := 11, ground := .data }], guard := none }) rfl (fun K hK => ?_) AllReadyH.nil))
        · refine step_append_e elF rfl _ _ rfl w1.heap.size _ [] rfl HO1.out a P c (L.take P) rfl (HCA.out _ HW.out) (by have := HLA.out; simp only [List.length_nil]; omega) HW.out.size ?_; intro v3 wn HO3' HG3 _; rw [List.nil_append] at HO3'; (try replace HX : Hid _ := HX.out.later fun b' o' _ e => HG3.out.5 b' (HX.out.lt1 e (by omega) (by decide)) fun e2 => own_ne HO1.out HX.out (by decide) (by injection e with e; injection e with e _ _; injection e2 with e2; rw [e]; exact e2)); replace HW : Hid (Below w1.heap.size w1 wn) := HW.out.grown HG3.out HW.out.size fun k e => (HO1.out.lt k e).1; clear HG3 HO3; have HO3 := HO3'; clear HO3'; have hcn := cell_below HW.out HC1.out; obtain ⟨a3, c3, hv3, _⟩ := HO3.out.els; obtain ⟨n3, hn3⟩ : ∃ n, n = (L.take P).length := ⟨_, rfl⟩; rw [← hn3] at hv3; clear hn3; subst hv3
          simp only [Act.put, List.setIfInBounds_toArray, List.set_cons_zero, List.set_cons_succ]
          refine hK.out _ _ (trivial) (fun hHeld => ?_)
          clear hK K
          refine wpAnyH_ready (rs := [12]) (by kernel_rfl) (by simp) ?_
          refine AllReadyH.cons (o := { dst := some 25, op := .load 48 (.tmp 24), type := 48, pos := "chain.go:82", after := #[{ on := 11, ground := .data }], guard := none }) rfl (fun K hK => ?_) AllReadyH.nil
          go_simp
          skip
          go_simp
          refine hK.out _ _ (trivial) (fun hHeld => ?_)
          clear hK K
          refine wpAnyH_take (i := 15) (oi := { dst := some 28, op := .slice 48 (.tmp 25) (some (.tmp 27)) none none, type := 48, pos := "chain.go:82", after := #[{ on := 12, ground := .data }, { on := 14, ground := .data }], guard := none }) (v := .slice adr (z - (P + 1)) (c - (P + 1))) rfl (by kernel_rfl) (by kernel_rfl) (by kernel_rfl) (fun _ _ _ h => h) (Or.inl ⟨by rfl, ?_⟩) (by assumption) ?_
          · intro _ _; go_simp; intro hcon; exfalso; have := hcon (by omega); omega
          simp only [Act.put, List.setIfInBounds_toArray, List.set_cons_zero, List.set_cons_succ]
          refine wpAnyH_ready (rs := [16]) (by kernel_rfl) (by simp) ?_
          refine AllReadyH.cons (o := { dst := some 29, op := .call { callee := .builtin Go.Builtin.append, args := #[.tmp 21, .tmp 28], argTypes := #[48, 48] }, type := 48, pos := "chain.go:82", after := #[{ on := 8, ground := .data }, { on := 15, ground := .data }, { on := 8, ground := .chain }], guard := none }) rfl (fun K hK => ?_) AllReadyH.nil
          refine step_append_e elF rfl _ _ rfl w1.heap.size _ (L.take P) rfl HO3.out adr (z - (P + 1)) (c - (P + 1)) (L.drop (P + 1)) rfl (HCB.out _ HW.out) (by have := HLA.out; omega) HW.out.size ?_; intro v4 w4 HO4 HG4 _; have HW4 : Hid (Below w1.heap.size w1 w4) := HW.out.grown HG4.out HW.out.size fun k e => (HO3.out.lt k e).1; clear HG4; have hy4 := cell_below HW4.out HC1.out; have hf4 := (HR1.out.blk.below HW4.out HR1.out.blk.lt).frozen 0; obtain ⟨a4, c4, hv4, _⟩ := HO4.out.els; obtain ⟨n4, hn4⟩ : ∃ n, n = (L.take P ++ L.drop (P + 1)).length := ⟨_, rfl⟩; rw [← hn4] at hv4; clear hn4; subst hv4
          simp only [Act.put, List.setIfInBounds_toArray, List.set_cons_zero, List.set_cons_succ]
          refine hK.out _ _ (trivial) (fun hHeld => ?_)
          clear hK K
          refine wpAnyH_take (i := 17) (oi := { dst := some 30, op := .nilCheck (.tmp 13), type := 0, pos := "chain.go:82", after := #[{ on := 0, ground := .data }, { on := 0, ground := .phase }, { on := 1, ground := .phase }, { on := 2, ground := .phase }, { on := 3, ground := .phase }, { on := 4, ground := .phase }, { on := 5, ground := .phase }, { on := 6, ground := .phase }, { on := 7, ground := .phase }, { on := 8, ground := .phase }, { on := 9, ground := .phase }, { on := 10, ground := .phase }, { on := 11, ground := .phase }, { on := 12, ground := .phase }, { on := 13, ground := .phase }, { on := 14, ground := .phase }, { on := 15, ground := .phase }, { on := 16, ground := .phase }], guard := none }) (v := ?_) rfl (by kernel_rfl) (by kernel_rfl) (by kernel_rfl) (fun _ _ _ h => h) (Or.inl ⟨by rfl, ?_⟩) (by assumption) ?_
          rotate_left
          · intro _ _; go_simp; first | done | with_reducible rfl
          simp only [Act.put, List.setIfInBounds_toArray, List.set_cons_zero, List.set_cons_succ]
          refine wpAnyH_take (i := 18) (oi := { dst := some 31, op := .fieldAddr 50 (.tmp 30) 0, type := 0, pos := "chain.go:82", after := #[{ on := 17, ground := .data }, { on := 0, ground := .phase }, { on := 1, ground := .phase }, { on := 2, ground := .phase }, { on := 3, ground := .phase }, { on := 4, ground := .phase }, { on := 5, ground := .phase }, { on := 6, ground := .phase }, { on := 7, ground := .phase }, { on := 8, ground := .phase }, { on := 9, ground := .phase }, { on := 10, ground := .phase }, { on := 11, ground := .phase }, { on := 12, ground := .phase }, { on := 13, ground := .phase }, { on := 14, ground := .phase }, { on := 15, ground := .phase }, { on := 16, ground := .phase }], guard := none }) (v := ?_) rfl (by kernel_rfl) (by kernel_rfl) (by kernel_rfl) (fun _ _ _ h => h) (Or.inl ⟨by rfl, ?_⟩) (by assumption) ?_
          rotate_left
          · intro _ _; go_simp; first | done | with_reducible rfl
          simp only [Act.put, List.setIfInBounds_toArray, List.set_cons_zero, List.set_cons_succ]
          refine wpAnyH_ready (rs := [19]) (by kernel_rfl) (by simp) ?_
          refine AllReadyH.cons (o := { dst := none, op := .store 48 (.tmp 31) (.tmp 29), type := 0, pos := "chain.go:82", after := #[{ on := 18, ground := .data }, { on := 16, ground := .data }, { on := 16, ground := .chain }, { on := 0, ground := .phase }, { on := 1, ground := .phase }, { on := 2, ground := .phase }, { on := 3, ground := .phase }, { on := 4, ground := .phase }, { on := 5, ground := .phase }, { on := 6, ground := .phase }, { on := 7, ground := .phase }, { on := 8, ground := .phase }, { on := 9, ground := .phase }, { on := 10, ground := .phase }, { on := 11, ground := .phase }, { on := 12, ground := .phase }, { on := 13, ground := .phase }, { on := 14, ground := .phase }, { on := 15, ground := .phase }, { on := 16, ground := .phase }], guard := none }) rfl (fun K hK => ?_) AllReadyH.nil
          go_simp
          skip
          go_simp
          refine hK.out _ _ (trivial) (fun hHeld => ?_)
          clear hK K
          refine wpAnyH_done (by kernel_rfl) ?_ _
          refine NoPanic.normal ?_
          clear hHeld hy4 hf4
          generalize hw5 : World.setCell w4 _ _ = w5
          have HFIN : Hid (RkAt w5 m (.slice a4 n4 c4) ⟨L', fuse, dark, ops⟩ ∧ Keep m w w5 ∧ Mvd w (.slice a z c) (.slice a4 n4 c4)) := by
            have hk : Keep m w4 w5 := by rw [← hw5]; exact (Keep.refl _ _).setCell _ _
            have hb5 : Blk w5 m [.slice a4 n4 c4, .int .i64 fuse, .bool dark, .int .i64 ops] := by rw [← hw5]; exact (HR1.out.blk.below HW4.out HR1.out.blk.lt).set 0 _
            have hm : m < w1.heap.size := HR1.out.blk.lt
            have hne : ∀ k, (Value.slice a4 n4 c4).ownBlock = some k → k ≠ m := fun k e => by have := (HO4.out.lt k e).1; omega
            have hs1 := HB1.out.size
            refine ⟨⟨hb5, ?_, hne⟩, (Keep.of_below (HB1.out.trans (HW4.out.mono hs1))).trans hk, fun k e => .inr (by have := (HO4.out.lt k e).1; omega)⟩
            show OwnF w5 0 _ L'
            rw [HLQ.out]
            exact OwnE.same (OwnE.less0 HO4.out) fun k e => hk.block k (HO4.out.lt k e).2 (hne k e)
          clear hw5 HO4 HW4
          go_wp2_with fail
          go_end0
          exact ⟨rfl, _, HFIN.out⟩
        · go_simp
          skip
          go_simp
          refine hK.out _ _ (trivial) (fun hHeld => ?_)
          clear hK K
          refine wpAnyH_take (i := 15) (oi := { dst := some 28, op := .slice 48 (.tmp 25) (some (.tmp 27)) none none, type := 48, pos := "chain.go:82", after := #[{ on := 12, ground := .data }, { on := 14, ground := .data }], guard := none }) (v := .slice adr (z - (P + 1)) (c - (P + 1))) rfl (by kernel_rfl) (by kernel_rfl) (by kernel_rfl) (fun _ _ _ h => h) (Or.inl ⟨by rfl, ?_⟩) (by assumption) ?_
          · intro _ _; go_simp; intro hcon; exfalso; have := hcon (by omega); omega
          simp only [Act.put, List.setIfInBounds_toArray, List.set_cons_zero, List.set_cons_succ]
          refine wpAnyH_ready (rs := [8]) (by kernel_rfl) (by simp) ?_
          refine AllReadyH.cons (o := { dst := some 21, op := .call { callee := .builtin Go.Builtin.append, args := #[.tmp 14, .tmp 20], argTypes := #[48, 48] }, type := 48, pos := "chain.go:82", after := #[{ on := 1, ground := .data }, { on := 7, ground := .data }], guard := none }) rfl (fun K hK => ?_) AllReadyH.nil
          refine step_append_e elF rfl _ _ rfl w1.heap.size _ [] rfl HO1.out a P c (L.take P) rfl (HCA.out _ HW.out) (by have := HLA.out; simp only [List.length_nil]; omega) HW.out.size ?_; intro v3 wn HO3' HG3 _; rw [List.nil_append] at HO3'; (try replace HX : Hid _ := HX.out.later fun b' o' _ e => HG3.out.5 b' (HX.out.lt1 e (by omega) (by decide)) fun e2 => own_ne HO1.out HX.out (by decide) (by injection e with e; injection e with e _ _; injection e2 with e2; rw [e]; exact e2)); replace HW : Hid (Below w1.heap.size w1 wn) := HW.out.grown HG3.out HW.out.size fun k e => (HO1.out.lt k e).1; clear HG3 HO3; have HO3 := HO3'; clear HO3'; have hcn := cell_below HW.out HC1.out; obtain ⟨a3, c3, hv3, _⟩ := HO3.out.els; obtain ⟨n3, hn3⟩ : ∃ n, n = (L.take P).length := ⟨_, rfl⟩; rw [← hn3] at hv3; clear hn3; subst hv3
          simp only [Act.put, List.setIfInBounds_toArray, List.set_cons_zero, List.set_cons_succ]
          refine hK.out _ _ (trivial) (fun hHeld => ?_)
          clear hK K
          refine wpAnyH_ready (rs := [16]) (by kernel_rfl) (by simp) ?_
          refine AllReadyH.cons (o := { dst := some 29, op := .call { callee := .builtin Go.Builtin.append, args := #[.tmp 21, .tmp 28], argTypes := #[48, 48] }, type := 48, pos := "chain.go:82", after := #[{ on := 8, ground := .data }, { on := 15, ground := .data }, { on := 8, ground := .chain }], guard := none }) rfl (fun K hK => ?_) AllReadyH.nil
          refine step_append_e elF rfl _ _ rfl w1.heap.size _ (L.take P) rfl HO3.out adr (z - (P + 1)) (c - (P + 1)) (L.drop (P + 1)) rfl (HCB.out _ HW.out) (by have := HLA.out; omega) HW.out.size ?_; intro v4 w4 HO4 HG4 _; have HW4 : Hid (Below w1.heap.size w1 w4) := HW.out.grown HG4.out HW.out.size fun k e => (HO3.out.lt k e).1; clear HG4; have hy4 := cell_below HW4.out HC1.out; have hf4 := (HR1.out.blk.below HW4.out HR1.out.blk.lt).frozen 0; obtain ⟨a4, c4, hv4, _⟩ := HO4.out.els; obtain ⟨n4, hn4⟩ : ∃ n, n = (L.take P ++ L.drop (P + 1)).length := ⟨_, rfl⟩; rw [← hn4] at hv4; clear hn4; subst hv4
          simp only [Act.put, List.setIfInBounds_toArray, List.set_cons_zero, List.set_cons_succ]
          refine hK.out _ _ (trivial) (fun hHeld => ?_)
          clear hK K
          refine wpAnyH_take (i := 17) (oi := { dst := some 30, op := .nilCheck (.tmp 13), type := 0, pos := "chain.go:82", after := #[{ on := 0, ground := .data }, { on := 0, ground := .phase }, { on := 1, ground := .phase }, { on := 2, ground := .phase }, { on := 3, ground := .phase }, { on := 4, ground := .phase }, { on := 5, ground := .phase }, { on := 6, ground := .phase }, { on := 7, ground := .phase }, { on := 8, ground := .phase }, { on := 9, ground := .phase }, { on := 10, ground := .phase }, { on := 11, ground := .phase }, { on := 12, ground := .phase }, { on := 13, ground := .phase }, { on := 14, ground := .phase }, { on := 15, ground := .phase }, { on := 16, ground := .phase }], guard := none }) (v := ?_) rfl (by kernel_rfl) (by kernel_rfl) (by kernel_rfl) (fun _ _ _ h => h) (Or.inl ⟨by rfl, ?_⟩) (by assumption) ?_
          rotate_left
          · intro _ _; go_simp; first | done | with_reducible rfl
          simp only [Act.put, List.setIfInBounds_toArray, List.set_cons_zero, List.set_cons_succ]
          refine wpAnyH_take (i := 18) (oi := { dst := some 31, op := .fieldAddr 50 (.tmp 30) 0, type := 0, pos := "chain.go:82", after := #[{ on := 17, ground := .data }, { on := 0, ground := .phase }, { on := 1, ground := .phase }, { on := 2, ground := .phase }, { on := 3, ground := .phase }, { on := 4, ground := .phase }, { on := 5, ground := .phase }, { on := 6, ground := .phase }, { on := 7, ground := .phase }, { on := 8, ground := .phase }, { on := 9, ground := .phase }, { on := 10, ground := .phase }, { on := 11, ground := .phase }, { on := 12, ground := .phase }, { on := 13, ground := .phase }, { on := 14, ground := .phase }, { on := 15, ground := .phase }, { on := 16, ground := .phase }], guard := none }) (v := ?_) rfl (by kernel_rfl) (by kernel_rfl) (by kernel_rfl) (fun _ _ _ h => h) (Or.inl ⟨by rfl, ?_⟩) (by assumption) ?_
          rotate_left
          · intro _ _; go_simp; first | done | with_reducible rfl
          simp only [Act.put, List.setIfInBounds_toArray, List.set_cons_zero, List.set_cons_succ]
          refine wpAnyH_ready (rs := [19]) (by kernel_rfl) (by simp) ?_
          refine AllReadyH.cons (o := { dst := none, op := .store 48 (.tmp 31) (.tmp 29), type := 0, pos := "chain.go:82", after := #[{ on := 18, ground := .data }, { on := 16, ground := .data }, { on := 16, ground := .chain }, { on := 0, ground := .phase }, { on := 1, ground := .phase }, { on := 2, ground := .phase }, { on := 3, ground := .phase }, { on := 4, ground := .phase }, { on := 5, ground := .phase }, { on := 6, ground := .phase }, { on := 7, ground := .phase }, { on := 8, ground := .phase }, { on := 9, ground := .phase }, { on := 10, ground := .phase }, { on := 11, ground := .phase }, { on := 12, ground := .phase }, { on := 13, ground := .phase }, { on := 14, ground := .phase }, { on := 15, ground := .phase }, { on := 16, ground := .phase }], guard := none }) rfl (fun K hK => ?_) AllReadyH.nil
          go_simp
          skip
          go_simp
          refine hK.out _ _ (trivial) (fun hHeld => ?_)
          clear hK K
          refine wpAnyH_done (by kernel_rfl) ?_ _
          refine NoPanic.normal ?_
          clear hHeld hy4 hf4
          generalize hw5 : World.setCell w4 _ _ = w5
          have HFIN : Hid (RkAt w5 m (.slice a4 n4 c4) ⟨L', fuse, dark, ops⟩ ∧ Keep m w w5 ∧ Mvd w (.slice a z c) (.slice a4 n4 c4)) := by
            have hk : Keep m w4 w5 := by rw [← hw5]; exact (Keep.refl _ _).setCell _ _
            have hb5 : Blk w5 m [.slice a4 n4 c4, .int .i64 fuse, .bool dark, .int .i64 ops] := by rw [← hw5]; exact (HR1.out.blk.below HW4.out HR1.out.blk.lt).set 0 _
            have hm : m < w1.heap.size := HR1.out.blk.lt
            have hne : ∀ k, (Value.slice a4 n4 c4).ownBlock = some k → k ≠ m := fun k e => by have := (HO4.out.lt k e).1; omega
            have hs1 := HB1.out.size
            refine ⟨⟨hb5, ?_, hne⟩, (Keep.of_below (HB1.out.trans (HW4.out.mono hs1))).trans hk, fun k e => .inr (by have := (HO4.out.lt k e).1; omega)⟩
            show OwnF w5 0 _ L'
            rw [HLQ.out]
            exact OwnE.same (OwnE.less0 HO4.out) fun k e => hk.block k (HO4.out.lt k e).2 (hne k e)
          clear hw5 HO4 HW4
          go_wp2_with fail
          go_end0
          exact ⟨rfl, _, HFIN.out⟩
      · go_simp
        skip
        go_simp
        refine hK.out _ _ (trivial) (fun hHeld => ?_)
        clear hK K
        refine wpAnyH_take (i := 15) (oi := { dst := some 28, op := .slice 48 (.tmp 25) (some (.tmp 27)) none none, type := 48, pos := "chain.go:82", after := #[{ on := 12, ground := .data }, { on := 14, ground := .data }], guard := none }) (v := .slice adr (z - (P + 1)) (c - (P + 1))) rfl (by kernel_rfl) (by kernel_rfl) (by kernel_rfl) (fun _ _ _ h => h) (Or.inl ⟨by rfl, ?_⟩) (by assumption) ?_
        · intro _ _; go_simp; intro hcon; exfalso; have := hcon (by omega); omega
        simp only [Act.put, List.setIfInBounds_toArray, List.set_cons_zero, List.set_cons_succ]
        refine wpAnyH_ready (rs := [5]) (by kernel_rfl) (by simp) ?_
        refine AllReadyH.cons (o := { dst := some 18, op := .load 48 (.tmp 17), type := 48, pos := "chain.go:82", after := #[{ on := 4, ground := .data }], guard := none }) rfl (fun K hK => ?_) AllReadyH.nil
        go_simp
        skip
        go_simp
        refine hK.out _ _ (trivial) (fun hHeld => ?_)
        clear hK K
        refine wpAnyH_take (i := 7) (oi := { dst := some 20, op := .slice 48 (.tmp 18) none (some (.tmp 19)) none, type := 48, pos := "chain.go:82", after := #[{ on := 5, ground := .data }, { on := 6, ground := .data }], guard := none }) (v := .slice a P c) rfl (by kernel_rfl) (by kernel_rfl) (by kernel_rfl) (fun _ _ _ h => h) (Or.inl ⟨by rfl, ?_⟩) (by assumption) ?_
        · intro _ _; go_simp
        simp only [Act.put, List.setIfInBounds_toArray, List.set_cons_zero, List.set_cons_succ]
        refine wpAnyH_ready (rs := [8]) (by kernel_rfl) (by simp) ?_
        refine AllReadyH.cons (o := { dst := some 21, op := .call { callee := .builtin Go.Builtin.append, args := #[.tmp 14, .tmp 20], argTypes := #[48, 48] }, type := 48, pos := "chain.go:82", after := #[{ on := 1, ground := .data }, { on := 7, ground := .data }], guard := none }) rfl (fun K hK => ?_) AllReadyH.nil
        refine step_append_e elF rfl _ _ rfl w1.heap.size _ [] rfl HO1.out a P c (L.take P) rfl (HCA.out _ HW.out) (by have := HLA.out; simp only [List.length_nil]; omega) HW.out.size ?_; intro v3 wn HO3' HG3 _; rw [List.nil_append] at HO3'; (try replace HX : Hid _ := HX.out.later fun b' o' _ e => HG3.out.5 b' (HX.out.lt1 e (by omega) (by decide)) fun e2 => own_ne HO1.out HX.out (by decide) (by injection e with e; injection e with e _ _; injection e2 with e2; rw [e]; exact e2)); replace HW : Hid (Below w1.heap.size w1 wn) := HW.out.grown HG3.out HW.out.size fun k e => (HO1.out.lt k e).1; clear HG3 HO3; have HO3 := HO3'; clear HO3'; have hcn := cell_below HW.out HC1.out; obtain ⟨a3, c3, hv3, _⟩ := HO3.out.els; obtain ⟨n3, hn3⟩ : ∃ n, n = (L.take P).length := ⟨_, rfl⟩; rw [← hn3] at hv3; clear hn3; subst hv3
        simp only [Act.put, List.setIfInBounds_toArray, List.set_cons_zero, List.set_cons_succ]
        refine hK.out _ _ (trivial) (fun hHeld => ?_)
        clear hK K
        refine wpAnyH_ready (rs := [16]) (by kernel_rfl) (by simp) ?_
        refine AllReadyH.cons (o := { dst := some 29, op := .call { callee := .builtin Go.Builtin.append, args := #[.tmp 21, .tmp 28], argTypes := #[48, 48] }, type := 48, pos := "chain.go:82", after := #[{ on := 8, ground := .data }, { on := 15, ground := .data }, { on := 8, ground := .chain }], guard := none }) rfl (fun K hK => ?_) AllReadyH.nil
        refine step_append_e elF rfl _ _ rfl w1.heap.size _ (L.take P) rfl HO3.out adr (z - (P + 1)) (c - (P + 1)) (L.drop (P + 1)) rfl (HCB.out _ HW.out) (by have := HLA.out; omega) HW.out.size ?_; intro v4 w4 HO4 HG4 _; have HW4 : Hid (Below w1.heap.size w1 w4) := HW.out.grown HG4.out HW.out.size fun k e => (HO3.out.lt k e).1; clear HG4; have hy4 := cell_below HW4.out HC1.out; have hf4 := (HR1.out.blk.below HW4.out HR1.out.blk.lt).frozen 0; obtain ⟨a4, c4, hv4, _⟩ := HO4.out.els; obtain ⟨n4, hn4⟩ : ∃ n, n = (L.take P ++ L.drop (P + 1)).length := ⟨_, rfl⟩; rw [← hn4] at hv4; clear hn4; subst hv4
        simp only [Act.put, List.setIfInBounds_toArray, List.set_cons_zero, List.set_cons_succ]
        refine hK.out _ _ (trivial) (fun hHeld => ?_)
        clear hK K
        refine wpAnyH_take (i := 17) (oi := { dst := some 30, op := .nilCheck (.tmp 13), type := 0, pos := "chain.go:82", after := #[{ on := 0, ground := .data }, { on := 0, ground := .phase }, { on := 1, ground := .phase }, { on := 2, ground := .phase }, { on := 3, ground := .phase }, { on := 4, ground := .phase }, { on := 5, ground := .phase }, { on := 6, ground := .phase }, { on := 7, ground := .phase }, { on := 8, ground := .phase }, { on := 9, ground := .phase }, { on := 10, ground := .phase }, { on := 11, ground := .phase }, { on := 12, ground := .phase }, { on := 13, ground := .phase }, { on := 14, ground := .phase }, { on := 15, ground := .phase }, { on := 16, ground := .phase }], guard := none }) (v := ?_) rfl (by kernel_rfl) (by kernel_rfl) (by kernel_rfl) (fun _ _ _ h => h) (Or.inl ⟨by rfl, ?_⟩) (by assumption) ?_
        rotate_left
        · intro _ _; go_simp; first | done | with_reducible rfl
        simp only [Act.put, List.setIfInBounds_toArray, List.set_cons_zero, List.set_cons_succ]
        refine wpAnyH_take (i := 18) (oi := { dst := some 31, op := .fieldAddr 50 (.tmp 30) 0, type := 0, pos := "chain.go:82", after := #[{ on := 17, ground := .data }, { on := 0, ground := .phase }, { on := 1, ground := .phase }, { on := 2, ground := .phase }, { on := 3, ground := .phase }, { on := 4, ground := .phase }, { on := 5, ground := .phase }, { on := 6, ground := .phase }, { on := 7, ground := .phase }, { on := 8, ground := .phase }, { on := 9, ground := .phase }, { on := 10, ground := .phase }, { on := 11, ground := .phase }, { on := 12, ground := .phase }, { on := 13, ground := .phase }, { on := 14, ground := .phase }, { on := 15, ground := .phase }, { on := 16, ground := .phase }], guard := none }) (v := ?_) rfl (by kernel_rfl) (by kernel_rfl) (by kernel_rfl) (fun _ _ _ h => h) (Or.inl ⟨by rfl, ?_⟩) (by assumption) ?_
        rotate_left
        · intro _ _; go_simp; first | done | with_reducible rfl
        simp only [Act.put, List.setIfInBounds_toArray, List.set_cons_zero, List.set_cons_succ]
        refine wpAnyH_ready (rs := [19]) (by kernel_rfl) (by simp) ?_
        refine AllReadyH.cons (o := { dst := none, op := .store 48 (.tmp 31) (.tmp 29), type := 0, pos := "chain.go:82", after := #[{ on := 18, ground := .data }, { on := 16, ground := .data }, { on := 16, ground := .chain }, { on := 0, ground := .phase }, { on := 1, ground := .phase }, { on := 2, ground := .phase }, { on := 3, ground := .phase }, { on := 4, ground := .phase }, { on := 5, ground := .phase }, { on := 6, ground := .phase }, { on := 7, ground := .phase }, { on := 8, ground := .phase }, { on := 9, ground := .phase }, { on := 10, ground := .phase }, { on := 11, ground := .phase }, { on := 12, ground := .phase }, { on := 13, ground := .phase }, { on := 14, ground := .phase }, { on := 15, ground := .phase }, { on := 16, ground := .phase }], guard := none }) rfl (fun K hK => ?_) AllReadyH.nil
        go_simp
        skip
        go_simp
        refine hK.out _ _ (trivial) (fun hHeld => ?_)
        clear hK K
        refine wpAnyH_done (by kernel_rfl) ?_ _
        refine NoPanic.normal ?_
        clear hHeld hy4 hf4
        generalize hw5 : World.setCell w4 _ _ = w5
        have HFIN : Hid (RkAt w5 m (.slice a4 n4 c4) ⟨L', fuse, dark, ops⟩ ∧ Keep m w w5 ∧ Mvd w (.slice a z c) (.slice a4 n4 c4)) := by
          have hk : Keep m w4 w5 := by rw [← hw5]; exact (Keep.refl _ _).setCell _ _
          have hb5 : Blk w5 m [.slice a4 n4 c4, .int .i64 fuse, .bool dark, .int .i64 ops] := by rw [← hw5]; exact (HR1.out.blk.below HW4.out HR1.out.blk.lt).set 0 _
          have hm : m < w1.heap.size := HR1.out.blk.lt
          have hne : ∀ k, (Value.slice a4 n4 c4).ownBlock = some k → k ≠ m := fun k e => by have := (HO4.out.lt k e).1; omega
          have hs1 := HB1.out.size
          refine ⟨⟨hb5, ?_, hne⟩, (Keep.of_below (HB1.out.trans (HW4.out.mono hs1))).trans hk, fun k e => .inr (by have := (HO4.out.lt k e).1; omega)⟩
          show OwnF w5 0 _ L'
          rw [HLQ.out]
          exact OwnE.same (OwnE.less0 HO4.out) fun k e => hk.block k (HO4.out.lt k e).2 (hne k e)
        clear hw5 HO4 HW4
        go_wp2_with fail
        go_end0
        exact ⟨rfl, _, HFIN.out⟩
    · go_simp
      skip
      go_simp
      refine hK.out _ _ (trivial) (fun hHeld => ?_)
      clear hK K
      refine wpAnyH_take (i := 7) (oi := { dst := some 20, op := .slice 48 (.tmp 18) none (some (.tmp 19)) none, type := 48, pos := "chain.go:82", after := #[{ on := 5, ground := .data }, { on := 6, ground := .data }], guard := none }) (v := .slice a P c) rfl (by kernel_rfl) (by kernel_rfl) (by kernel_rfl) (fun _ _ _ h => h) (Or.inl ⟨by rfl, ?_⟩) (by assumption) ?_
      · intro _ _; go_simp
      simp only [Act.put, List.setIfInBounds_toArray, List.set_cons_zero, List.set_cons_succ]
      refine wpAnyH_ready (rs := [1, 12]) (by kernel_rfl) (by simp) ?_
      refine (AllReadyH.cons (o := { dst := some 14, op := .buildSlice 48 0 #[], type := 48, pos := "chain.go:82", after := #[], guard := none }) rfl (fun K hK => ?_) (AllReadyH.cons (o := { dst := some 25, op := .load 48 (.tmp 24), type := 48, pos := "chain.go:82", after := #[{ on := 11, ground := .data }], guard := none }) rfl (fun K hK => ?_) AllReadyH.nil))
      · refine step_build_none elF rfl rfl w1.heap.size HW.out.size ?_; intro wn g1 HO1' HBn; (try replace HX : Hid _ := HX.out.below HBn.out); clear HO1; have HO1 := HO1'; clear HO1'; replace HW : Hid (Below w1.heap.size w1 wn) := HW.out.trans (HBn.out.mono HW.out.size); clear HBn; have hcn := cell_below HW.out HC1.out
        simp only [Act.put, List.setIfInBounds_toArray, List.set_cons_zero, List.set_cons_succ]
        refine hK.out _ _ (trivial) (fun hHeld => ?_)
        clear hK K
        refine wpAnyH_ready (rs := [8, 12]) (by kernel_rfl) (by simp) ?_
        refine (AllReadyH.cons (o := { dst := some 21, op := .call { callee := .builtin Go.Builtin.append, args := #[.tmp 14, .tmp 20], argTypes := #[48, 48] }, type := 48, pos := "chain.go:82", after := #[{ on := 1, ground := .data }, { on := 7, ground := .data }], guard := none }) rfl (fun K hK => ?_) (AllReadyH.cons (o := { dst := some 25, op := .load 48 (.tmp 24), type := 48, pos := "chain.go:82", after := #[{ on := 11, ground := .data }], guard := none }) rfl (fun K hK => ?_) AllReadyH.nil))
        · refine step_append_e elF rfl _ _ rfl w1.heap.size _ [] rfl HO1.out a P c (L.take P) rfl (HCA.out _ HW.out) (by have := HLA.out; simp only [List.length_nil]; omega) HW.out.size ?_; intro v3 wn HO3' HG3 _; rw [List.nil_append] at HO3'; (try replace HX : Hid _ := HX.out.later fun b' o' _ e => HG3.out.5 b' (HX.out.lt1 e (by omega) (by decide)) fun e2 => own_ne HO1.out HX.out (by decide) (by injection e with e; injection e with e _ _; injection e2 with e2; rw [e]; exact e2)); replace HW : Hid (Below w1.heap.size w1 wn) := HW.out.grown HG3.out HW.out.size fun k e => (HO1.out.lt k e).1; clear HG3 HO3; have HO3 := HO3'; clear HO3'; have hcn := cell_below HW.out HC1.out; obtain ⟨a3, c3, hv3, _⟩ := HO3.out.els; obtain ⟨n3, hn3⟩ : ∃ n, n = (L.take P).length := ⟨_, rfl⟩; rw [← hn3] at hv3; clear hn3; subst hv3
          simp only [Act.put, List.setIfInBounds_toArray, List.set_cons_zero, List.set_cons_succ]
          refine hK.out _ _ (trivial) (fun hHeld => ?_)
          clear hK K
          refine wpAnyH_ready (rs := [12]) (by kernel_rfl) (by simp) ?_
          refine AllReadyH.cons (o := { dst := some 25, op := .load 48 (.tmp 24), type := 48, pos := "chain.go:82", after := #[{ on := 11, ground := .data }], guard := none }) rfl (fun K hK => ?_) AllReadyH.nil
          go_simp
          skip
          go_simp
          refine hK.out _ _ (trivial) (fun hHeld => ?_)
          clear hK K
          refine wpAnyH_take (i := 15) (oi := { dst := some 28, op := .slice 48 (.tmp 25) (some (.tmp 27)) none none, type := 48, pos := "chain.go:82", after := #[{ on := 12, ground := .data }, { on := 14, ground := .data }], guard := none }) (v := .slice adr (z - (P + 1)) (c - (P + 1))) rfl (by kernel_rfl) (by kernel_rfl) (by kernel_rfl) (fun _ _ _ h => h) (Or.inl ⟨by rfl, ?_⟩) (by assumption) ?_
          · intro _ _; go_simp; intro hcon; exfalso; have := hcon (by omega); omega
          simp only [Act.put, List.setIfInBounds_toArray, List.set_cons_zero, List.set_cons_succ]
          refine wpAnyH_ready (rs := [16]) (by kernel_rfl) (by simp) ?_
          refine AllReadyH.cons (o := { dst := some 29, op := .call { callee := .builtin Go.Builtin.append, args := #[.tmp 21, .tmp 28], argTypes := #[48, 48] }, type := 48, pos := "chain.go:82", after := #[{ on := 8, ground := .data }, { on := 15, ground := .data }, { on := 8, ground := .chain }], guard := none }) rfl (fun K hK => ?_) AllReadyH.nil
          refine step_append_e elF rfl _ _ rfl w1.heap.size _ (L.take P) rfl HO3.out adr (z - (P + 1)) (c - (P + 1)) (L.drop (P + 1)) rfl (HCB.out _ HW.out) (by have := HLA.out; omega) HW.out.size ?_; intro v4 w4 HO4 HG4 _; have HW4 : Hid (Below w1.heap.size w1 w4) := HW.out.grown HG4.out HW.out.size fun k e => (HO3.out.lt k e).1; clear HG4; have hy4 := cell_below HW4.out HC1.out; have hf4 := (HR1.out.blk.below HW4.out HR1.out.blk.lt).frozen 0; obtain ⟨a4, c4, hv4, _⟩ := HO4.out.els; obtain ⟨n4, hn4⟩ : ∃ n, n = (L.take P ++ L.drop (P + 1)).length := ⟨_, rfl⟩; rw [← hn4] at hv4; clear hn4; subst hv4
          simp only [Act.put, List.setIfInBounds_toArray, List.set_cons_zero, List.set_cons_succ]
          refine hK.out _ _ (trivial) (fun hHeld => ?_)
          clear hK K
          refine wpAnyH_take (i := 17) (oi := { dst := some 30, op := .nilCheck (.tmp 13), type := 0, pos := "chain.go:82", after := #[{ on := 0, ground := .data }, { on := 0, ground := .phase }, { on := 1, ground := .phase }, { on := 2, ground := .phase }, { on := 3, ground := .phase }, { on := 4, ground := .phase }, { on := 5, ground := .phase }, { on := 6, ground := .phase }, { on := 7, ground := .phase }, { on := 8, ground := .phase }, { on := 9, ground := .phase }, { on := 10, ground := .phase }, { on := 11, ground := .phase }, { on := 12, ground := .phase }, { on := 13, ground := .phase }, { on := 14, ground := .phase }, { on := 15, ground := .phase }, { on := 16, ground := .phase }], guard := none }) (v := ?_) rfl (by kernel_rfl) (by kernel_rfl) (by kernel_rfl) (fun _ _ _ h => h) (Or.inl ⟨by rfl, ?_⟩) (by assumption) ?_
          rotate_left
          · intro _ _; go_simp; first | done | with_reducible rfl
          simp only [Act.put, List.setIfInBounds_toArray, List.set_cons_zero, List.set_cons_succ]
          refine wpAnyH_take (i := 18) (oi := { dst := some 31, op := .fieldAddr 50 (.tmp 30) 0, type := 0, pos := "chain.go:82", after := #[{ on := 17, ground := .data }, { on := 0, ground := .phase }, { on := 1, ground := .phase }, { on := 2, ground := .phase }, { on := 3, ground := .phase }, { on := 4, ground := .phase }, { on := 5, ground := .phase }, { on := 6, ground := .phase }, { on := 7, ground := .phase }, { on := 8, ground := .phase }, { on := 9, ground := .phase }, { on := 10, ground := .phase }, { on := 11, ground := .phase }, { on := 12, ground := .phase }, { on := 13, ground := .phase }, { on := 14, ground := .phase }, { on := 15, ground := .phase }, { on := 16, ground := .phase }], guard := none }) (v := ?_) rfl (by kernel_rfl) (by kernel_rfl) (by kernel_rfl) (fun _ _ _ h => h) (Or.inl ⟨by rfl, ?_⟩) (by assumption) ?_
          rotate_left
          · intro _ _; go_simp; first | done | with_reducible rfl
          simp only [Act.put, List.setIfInBounds_toArray, List.set_cons_zero, List.set_cons_succ]
          refine wpAnyH_ready (rs := [19]) (by kernel_rfl) (by simp) ?_
          refine AllReadyH.cons (o := { dst := none, op := .store 48 (.tmp 31) (.tmp 29), type := 0, pos := "chain.go:82", after := #[{ on := 18, ground := .data }, { on := 16, ground := .data }, { on := 16, ground := .chain }, { on := 0, ground := .phase }, { on := 1, ground := .phase }, { on := 2, ground := .phase }, { on := 3, ground := .phase }, { on := 4, ground := .phase }, { on := 5, ground := .phase }, { on := 6, ground := .phase }, { on := 7, ground := .phase }, { on := 8, ground := .phase }, { on := 9, ground := .phase }, { on := 10, ground := .phase }, { on := 11, ground := .phase }, { on := 12, ground := .phase }, { on := 13, ground := .phase }, { on := 14, ground := .phase }, { on := 15, ground := .phase }, { on := 16, ground := .phase }], guard := none }) rfl (fun K hK => ?_) AllReadyH.nil
          go_simp
          skip
          go_simp
          refine hK.out _ _ (trivial) (fun hHeld => ?_)
          clear hK K
          refine wpAnyH_done (by kernel_rfl) ?_ _
          refine NoPanic.normal ?_
          clear hHeld hy4 hf4
          generalize hw5 : World.setCell w4 _ _ = w5
          have HFIN : Hid (RkAt w5 m (.slice a4 n4 c4) ⟨L', fuse, dark, ops⟩ ∧ Keep m w w5 ∧ Mvd w (.slice a z c) (.slice a4 n4 c4)) := by
            have hk : Keep m w4 w5 := by rw [← hw5]; exact (Keep.refl _ _).setCell _ _
            have hb5 : Blk w5 m [.slice a4 n4 c4, .int .i64 fuse, .bool dark, .int .i64 ops] := by rw [← hw5]; exact (HR1.out.blk.below HW4.out HR1.out.blk.lt).set 0 _
            have hm : m < w1.heap.size := HR1.out.blk.lt
            have hne : ∀ k, (Value.slice a4 n4 c4).ownBlock = some k → k ≠ m := fun k e => by have := (HO4.out.lt k e).1; omega
            have hs1 := HB1.out.size
            refine ⟨⟨hb5, ?_, hne⟩, (Keep.of_below (HB1.out.trans (HW4.out.mono hs1))).trans hk, fun k e => .inr (by have := (HO4.out.lt k e).1; omega)⟩
            show OwnF w5 0 _ L'
            rw [HLQ.out]
            exact OwnE.same (OwnE.less0 HO4.out) fun k e => hk.block k (HO4.out.lt k e).2 (hne k e)
          clear hw5 HO4 HW4
          go_wp2_with fail
          go_end0
          exact ⟨rfl, _, HFIN.out⟩
        · go_simp
          skip
          go_simp
          refine hK.out _ _ (trivial) (fun hHeld => ?_)
          clear hK K
          refine wpAnyH_take (i := 15) (oi := { dst := some 28, op := .slice 48 (.tmp 25) (some (.tmp 27)) none none, type := 48, pos := "chain.go:82", after := #[{ on := 12, ground := .data }, { on := 14, ground := .data }], guard := none }) (v := .slice adr (z - (P + 1)) (c - (P + 1))) rfl (by kernel_rfl) (by kernel_rfl) (by kernel_rfl) (fun _ _ _ h => h) (Or.inl ⟨by rfl, ?_⟩) (by assumption) ?_
          · intro _ _; go_simp; intro hcon; exfalso; have := hcon (by omega); omega
          simp only [Act.put, List.setIfInBounds_toArray, List.set_cons_zero, List.set_cons_succ]
          refine wpAnyH_ready (rs := [8]) (by kernel_rfl) (by simp) ?_
          refine AllReadyH.cons (o := { dst := some 21, op := .call { callee := .builtin Go.Builtin.append, args := #[.tmp 14, .tmp 20], argTypes := #[48, 48] }, type := 48, pos := "chain.go:82", after := #[{ on := 1, ground := .data }, { on := 7, ground := .data }], guard := none }) rfl (fun K hK => ?_) AllReadyH.nil
          refine step_append_e elF rfl _ _ rfl w1.heap.size _ [] rfl HO1.out a P c (L.take P) rfl (HCA.out _ HW.out) (by have := HLA.out; simp only [List.length_nil]; omega) HW.out.size ?_; intro v3 wn HO3' HG3 _; rw [List.nil_append] at HO3'; (try replace HX : Hid _ := HX.out.later fun b' o' _ e => HG3.out.5 b' (HX.out.lt1 e (by omega) (by decide)) fun e2 => own_ne HO1.out HX.out (by decide) (by injection e with e; injection e with e _ _; injection e2 with e2; rw [e]; exact e2)); replace HW : Hid (Below w1.heap.size w1 wn) := HW.out.grown HG3.out HW.out.size fun k e => (HO1.out.lt k e).1; clear HG3 HO3; have HO3 := HO3'; clear HO3'; have hcn := cell_below HW.out HC1.out; obtain ⟨a3, c3, hv3, _⟩ := HO3.out.els; obtain ⟨n3, hn3⟩ : ∃ n, n = (L.take P).length := ⟨_, rfl⟩; rw [← hn3] at hv3; clear hn3; subst hv3
          simp only [Act.put, List.setIfInBounds_toArray, List.set_cons_zero, List.set_cons_succ]
          refine hK.out _ _ (trivial) (fun hHeld => ?_)
          clear hK K
          refine wpAnyH_ready (rs := [16]) (by kernel_rfl) (by simp) ?_
          refine AllReadyH.cons (o := { dst := some 29, op := .call { callee := .builtin Go.Builtin.append, args := #[.tmp 21, .tmp 28], argTypes := #[48, 48] }, type := 48, pos := "chain.go:82", after := #[{ on := 8, ground := .data }, { on := 15, ground := .data }, { on := 8, ground := .chain }], guard := none }) rfl (fun K hK => ?_) AllReadyH.nil
          refine step_append_e elF rfl _ _ rfl w1.heap.size _ (L.take P) rfl HO3.out adr (z - (P + 1)) (c - (P + 1)) (L.drop (P + 1)) rfl (HCB.out _ HW.out) (by have := HLA.out; omega) HW.out.size ?_; intro v4 w4 HO4 HG4 _; have HW4 : Hid (Below w1.heap.size w1 w4) := HW.out.grown HG4.out HW.out.size fun k e => (HO3.out.lt k e).1; clear HG4; have hy4 := cell_below HW4.out HC1.out; have hf4 := (HR1.out.blk.below HW4.out HR1.out.blk.lt).frozen 0; obtain ⟨a4, c4, hv4, _⟩ := HO4.out.els; obtain ⟨n4, hn4⟩ : ∃ n, n = (L.take P ++ L.drop (P + 1)).length := ⟨_, rfl⟩; rw [← hn4] at hv4; clear hn4; subst hv4
          simp only [Act.put, List.setIfInBounds_toArray, List.set_cons_zero, List.set_cons_succ]
          refine hK.out _ _ (trivial) (fun hHeld => ?_)
          clear hK K
          refine wpAnyH_take (i := 17) (oi := { dst := some 30, op := .nilCheck (.tmp 13), type := 0, pos := "chain.go:82", after := #[{ on := 0, ground := .data }, { on := 0, ground := .phase }, { on := 1, ground := .phase }, { on := 2, ground := .phase }, { on := 3, ground := .phase }, { on := 4, ground := .phase }, { on := 5, ground := .phase }, { on := 6, ground := .phase }, { on := 7, ground := .phase }, { on := 8, ground := .phase }, { on := 9, ground := .phase }, { on := 10, ground := .phase }, { on := 11, ground := .phase }, { on := 12, ground := .phase }, { on := 13, ground := .phase }, { on := 14, ground := .phase }, { on := 15, ground := .phase }, { on := 16, ground := .phase }], guard := none }) (v := ?_) rfl (by kernel_rfl) (by kernel_rfl) (by kernel_rfl) (fun _ _ _ h => h) (Or.inl ⟨by rfl, ?_⟩) (by assumption) ?_
          rotate_left
          · intro _ _; go_simp; first | done | with_reducible rfl
          simp only [Act.put, List.setIfInBounds_toArray, List.set_cons_zero, List.set_cons_succ]
          refine wpAnyH_take (i := 18) (oi := { dst := some 31, op := .fieldAddr 50 (.tmp 30) 0, type := 0, pos := "chain.go:82", after := #[{ on := 17, ground := .data }, { on := 0, ground := .phase }, { on := 1, ground := .phase }, { on := 2, ground := .phase }, { on := 3, ground := .phase }, { on := 4, ground := .phase }, { on := 5, ground := .phase }, { on := 6, ground := .phase }, { on := 7, ground := .phase }, { on := 8, ground := .phase }, { on := 9, ground := .phase }, { on := 10, ground := .phase }, { on := 11, ground := .phase }, { on := 12, ground := .phase }, { on := 13, ground := .phase }, { on := 14, ground := .phase }, { on := 15, ground := .phase }, { on := 16, ground := .phase }], guard := none }) (v := ?_) rfl (by kernel_rfl) (by kernel_rfl) (by kernel_rfl) (fun _ _ _ h => h) (Or.inl ⟨by rfl, ?_⟩) (by assumption) ?_
          rotate_left
          · intro _ _; go_simp; first | done | with_reducible rfl
          simp only [Act.put, List.setIfInBounds_toArray, List.set_cons_zero, List.set_cons_succ]
          refine wpAnyH_ready (rs := [19]) (by kernel_rfl) (by simp) ?_
          refine AllReadyH.cons (o := { dst := none, op := .store 48 (.tmp 31) (.tmp 29), type := 0, pos := "chain.go:82", after := #[{ on := 18, ground := .data }, { on := 16, ground := .data }, { on := 16, ground := .chain }, { on := 0, ground := .phase }, { on := 1, ground := .phase }, { on := 2, ground := .phase }, { on := 3, ground := .phase }, { on := 4, ground := .phase }, { on := 5, ground := .phase }, { on := 6, ground := .phase }, { on := 7, ground := .phase }, { on := 8, ground := .phase }, { on := 9, ground := .phase }, { on := 10, ground := .phase }, { on := 11, ground := .phase }, { on := 12, ground := .phase }, { on := 13, ground := .phase }, { on := 14, ground := .phase }, { on := 15, ground := .phase }, { on := 16, ground := .phase }], guard := none }) rfl (fun K hK => ?_) AllReadyH.nil
          go_simp
          skip
          go_simp
          refine hK.out _ _ (trivial) (fun hHeld => ?_)
          clear hK K
          refine wpAnyH_done (by kernel_rfl) ?_ _
          refine NoPanic.normal ?_
          clear hHeld hy4 hf4
          generalize hw5 : World.setCell w4 _ _ = w5
          have HFIN : Hid (RkAt w5 m (.slice a4 n4 c4) ⟨L', fuse, dark, ops⟩ ∧ Keep m w w5 ∧ Mvd w (.slice a z c) (.slice a4 n4 c4)) := by
            have hk : Keep m w4 w5 := by rw [← hw5]; exact (Keep.refl _ _).setCell _ _
            have hb5 : Blk w5 m [.slice a4 n4 c4, .int .i64 fuse, .bool dark, .int .i64 ops] := by rw [← hw5]; exact (HR1.out.blk.below HW4.out HR1.out.blk.lt).set 0 _
            have hm : m < w1.heap.size := HR1.out.blk.lt
            have hne : ∀ k, (Value.slice a4 n4 c4).ownBlock = some k → k ≠ m := fun k e => by have := (HO4.out.lt k e).1; omega
            have hs1 := HB1.out.size
            refine ⟨⟨hb5, ?_, hne⟩, (Keep.of_below (HB1.out.trans (HW4.out.mono hs1))).trans hk, fun k e => .inr (by have := (HO4.out.lt k e).1; omega)⟩
            show OwnF w5 0 _ L'
            rw [HLQ.out]
            exact OwnE.same (OwnE.less0 HO4.out) fun k e => hk.block k (HO4.out.lt k e).2 (hne k e)
          clear hw5 HO4 HW4
          go_wp2_with fail
          go_end0
          exact ⟨rfl, _, HFIN.out⟩
      · go_simp
        skip
        go_simp
        refine hK.out _ _ (trivial) (fun hHeld => ?_)
        clear hK K
        refine wpAnyH_take (i := 15) (oi := { dst := some 28, op := .slice 48 (.tmp 25) (some (.tmp 27)) none none, type := 48, pos := "chain.go:82", after := #[{ on := 12, ground := .data }, { on := 14, ground := .data }], guard := none }) (v := .slice adr (z - (P + 1)) (c - (P + 1))) rfl (by kernel_rfl) (by kernel_rfl) (by kernel_rfl) (fun _ _ _ h => h) (Or.inl ⟨by rfl, ?_⟩) (by assumption) ?_
        · intro _ _; go_simp; intro hcon; exfalso; have := hcon (by omega); omega
        simp only [Act.put, List.setIfInBounds_toArray, List.set_cons_zero, List.set_cons_succ]
        refine wpAnyH_ready (rs := [1]) (by kernel_rfl) (by simp) ?_
        refine AllReadyH.cons (o := { dst := some 14, op := .buildSlice 48 0 #[], type := 48, pos := "chain.go:82", after := #[], guard := none }) rfl (fun K hK => ?_) AllReadyH.nil
        refine step_build_none elF rfl rfl w1.heap.size HW.out.size ?_; intro wn g1 HO1' HBn; (try replace HX : Hid _ := HX.out.below HBn.out); clear HO1; have HO1 := HO1'; clear HO1'; replace HW : Hid (Below w1.heap.size w1 wn) := HW.out.trans (HBn.out.mono HW.out.size); clear HBn; have hcn := cell_below HW.out HC1.out
        simp only [Act.put, List.setIfInBounds_toArray, List.set_cons_zero, List.set_cons_succ]
        refine hK.out _ _ (trivial) (fun hHeld => ?_)
        clear hK K
        refine wpAnyH_ready (rs := [8]) (by kernel_rfl) (by simp) ?_
        refine AllReadyH.cons (o := { dst := some 21, op := .call { callee := .builtin Go.Builtin.append, args := #[.tmp 14, .tmp 20], argTypes := #[48, 48] }, type := 48, pos := "chain.go:82", after := #[{ on := 1, ground := .data }, { on := 7, ground := .data }], guard := none }) rfl (fun K hK => ?_) AllReadyH.nil
        refine step_append_e elF rfl _ _ rfl w1.heap.size _ [] rfl HO1.out a P c (L.take P) rfl (HCA.out _ HW.out) (by have := HLA.out; simp only [List.length_nil]; omega) HW.out.size ?_; intro v3 wn HO3' HG3 _; rw [List.nil_append] at HO3'; (try replace HX : Hid _ := HX.out.later fun b' o' _ e => HG3.out.5 b' (HX.out.lt1 e (by omega) (by decide)) fun e2 => own_ne HO1.out HX.out (by decide) (by injection e with e; injection e with e _ _; injection e2 with e2; rw [e]; exact e2)); replace HW : Hid (Below w1.heap.size w1 wn) := HW.out.grown HG3.out HW.out.size fun k e => (HO1.out.lt k e).1; clear HG3 HO3; have HO3 := HO3'; clear HO3'; have hcn := cell_below HW.out HC1.out; obtain ⟨a3, c3, hv3, _⟩ := HO3.out.els; obtain ⟨n3, hn3⟩ : ∃ n, n = (L.take P).length := ⟨_, rfl⟩; rw [← hn3] at hv3; clear hn3; subst hv3
        simp only [Act.put, List.setIfInBounds_toArray, List.set_cons_zero, List.set_cons_succ]
        refine hK.out _ _ (trivial) (fun hHeld => ?_)
        clear hK K
        refine wpAnyH_ready (rs := [16]) (by kernel_rfl) (by simp) ?_
        refine AllReadyH.cons (o := { dst := some 29, op := .call { callee := .builtin Go.Builtin.append, args := #[.tmp 21, .tmp 28], argTypes := #[48, 48] }, type := 48, pos := "chain.go:82", after := #[{ on := 8, ground := .data }, { on := 15, ground := .data }, { on := 8, ground := .chain }], guard := none }) rfl (fun K hK => ?_) AllReadyH.nil
        refine step_append_e elF rfl _ _ rfl w1.heap.size _ (L.take P) rfl HO3.out adr (z - (P + 1)) (c - (P + 1)) (L.drop (P + 1)) rfl (HCB.out _ HW.out) (by have := HLA.out; omega) HW.out.size ?_; intro v4 w4 HO4 HG4 _; have HW4 : Hid (Below w1.heap.size w1 w4) := HW.out.grown HG4.out HW.out.size fun k e => (HO3.out.lt k e).1; clear HG4; have hy4 := cell_below HW4.out HC1.out; have hf4 := (HR1.out.blk.below HW4.out HR1.out.blk.lt).frozen 0; obtain ⟨a4, c4, hv4, _⟩ := HO4.out.els; obtain ⟨n4, hn4⟩ : ∃ n, n = (L.take P ++ L.drop (P + 1)).length := ⟨_, rfl⟩; rw [← hn4] at hv4; clear hn4; subst hv4
        simp only [Act.put, List.setIfInBounds_toArray, List.set_cons_zero, List.set_cons_succ]
        refine hK.out _ _ (trivial) (fun hHeld => ?_)
        clear hK K
        refine wpAnyH_take (i := 17) (oi := { dst := some 30, op := .nilCheck (.tmp 13), type := 0, pos := "chain.go:82", after := #[{ on := 0, ground := .data }, { on := 0, ground := .phase }, { on := 1, ground := .phase }, { on := 2, ground := .phase }, { on := 3, ground := .phase }, { on := 4, ground := .phase }, { on := 5, ground := .phase }, { on := 6, ground := .phase }, { on := 7, ground := .phase }, { on := 8, ground := .phase }, { on := 9, ground := .phase }, { on := 10, ground := .phase }, { on := 11, ground := .phase }, { on := 12, ground := .phase }, { on := 13, ground := .phase }, { on := 14, ground := .phase }, { on := 15, ground := .phase }, { on := 16, ground := .phase }], guard := none }) (v := ?_) rfl (by kernel_rfl) (by kernel_rfl) (by kernel_rfl) (fun _ _ _ h => h) (Or.inl ⟨by rfl, ?_⟩) (by assumption) ?_
        rotate_left
        · intro _ _; go_simp; first | done | with_reducible rfl
        simp only [Act.put, List.setIfInBounds_toArray, List.set_cons_zero, List.set_cons_succ]
        refine wpAnyH_take (i := 18) (oi := { dst := some 31, op := .fieldAddr 50 (.tmp 30) 0, type := 0, pos := "chain.go:82", after := #[{ on := 17, ground := .data }, { on := 0, ground := .phase }, { on := 1, ground := .phase }, { on := 2, ground := .phase }, { on := 3, ground := .phase }, { on := 4, ground := .phase }, { on := 5, ground := .phase }, { on := 6, ground := .phase }, { on := 7, ground := .phase }, { on := 8, ground := .phase }, { on := 9, ground := .phase }, { on := 10, ground := .phase }, { on := 11, ground := .phase }, { on := 12, ground := .phase }, { on := 13, ground := .phase }, { on := 14, ground := .phase }, { on := 15, ground := .phase }, { on := 16, ground := .phase }], guard := none }) (v := ?_) rfl (by kernel_rfl) (by kernel_rfl) (by kernel_rfl) (fun _ _ _ h => h) (Or.inl ⟨by rfl, ?_⟩) (by assumption) ?_
        rotate_left
        · intro _ _; go_simp; first | done | with_reducible rfl
        simp only [Act.put, List.setIfInBounds_toArray, List.set_cons_zero, List.set_cons_succ]
        refine wpAnyH_ready (rs := [19]) (by kernel_rfl) (by simp) ?_
        refine AllReadyH.cons (o := { dst := none, op := .store 48 (.tmp 31) (.tmp 29), type := 0, pos := "chain.go:82", after := #[{ on := 18, ground := .data }, { on := 16, ground := .data }, { on := 16, ground := .chain }, { on := 0, ground := .phase }, { on := 1, ground := .phase }, { on := 2, ground := .phase }, { on := 3, ground := .phase }, { on := 4, ground := .phase }, { on := 5, ground := .phase }, { on := 6, ground := .phase }, { on := 7, ground := .phase }, { on := 8, ground := .phase }, { on := 9, ground := .phase }, { on := 10, ground := .phase }, { on := 11, ground := .phase }, { on := 12, ground := .phase }, { on := 13, ground := .phase }, { on := 14, ground := .phase }, { on := 15, ground := .phase }, { on := 16, ground := .phase }], guard := none }) rfl (fun K hK => ?_) AllReadyH.nil
        go_simp
        skip
        go_simp
        refine hK.out _ _ (trivial) (fun hHeld => ?_)
        clear hK K
        refine wpAnyH_done (by kernel_rfl) ?_ _
        refine NoPanic.normal ?_
        clear hHeld hy4 hf4
        generalize hw5 : World.setCell w4 _ _ = w5
        have HFIN : Hid (RkAt w5 m (.slice a4 n4 c4) ⟨L', fuse, dark, ops⟩ ∧ Keep m w w5 ∧ Mvd w (.slice a z c) (.slice a4 n4 c4)) := by
          have hk : Keep m w4 w5 := by rw [← hw5]; exact (Keep.refl _ _).setCell _ _
          have hb5 : Blk w5 m [.slice a4 n4 c4, .int .i64 fuse, .bool dark, .int .i64 ops] := by rw [← hw5]; exact (HR1.out.blk.below HW4.out HR1.out.blk.lt).set 0 _
          have hm : m < w1.heap.size := HR1.out.blk.lt
          have hne : ∀ k, (Value.slice a4 n4 c4).ownBlock = some k → k ≠ m := fun k e => by have := (HO4.out.lt k e).1; omega
          have hs1 := HB1.out.size
          refine ⟨⟨hb5, ?_, hne⟩, (Keep.of_below (HB1.out.trans (HW4.out.mono hs1))).trans hk, fun k e => .inr (by have := (HO4.out.lt k e).1; omega)⟩
          show OwnF w5 0 _ L'
          rw [HLQ.out]
          exact OwnE.same (OwnE.less0 HO4.out) fun k e => hk.block k (HO4.out.lt k e).2 (hne k e)
        clear hw5 HO4 HW4
        go_wp2_with fail
        go_end0
        exact ⟨rfl, _, HFIN.out⟩
    · go_simp
      skip
      go_simp
      refine hK.out _ _ (trivial) (fun hHeld => ?_)
      clear hK K
      refine wpAnyH_take (i := 15) (oi := { dst := some 28, op := .slice 48 (.tmp 25) (some (.tmp 27)) none none, type := 48, pos := "chain.go:82", after := #[{ on := 12, ground := .data }, { on := 14, ground := .data }], guard := none }) (v := .slice adr (z - (P + 1)) (c - (P + 1))) rfl (by kernel_rfl) (by kernel_rfl) (by kernel_rfl) (fun _ _ _ h => h) (Or.inl ⟨by rfl, ?_⟩) (by assumption) ?_
      · intro _ _; go_simp; intro hcon; exfalso; have := hcon (by omega); omega
      simp only [Act.put, List.setIfInBounds_toArray, List.set_cons_zero, List.set_cons_succ]
      refine wpAnyH_ready (rs := [1, 5]) (by kernel_rfl) (by simp) ?_
      refine (AllReadyH.cons (o := { dst := some 14, op := .buildSlice 48 0 #[], type := 48, pos := "chain.go:82", after := #[], guard := none }) rfl (fun K hK => ?_) (AllReadyH.cons (o := { dst := some 18, op := .load 48 (.tmp 17), type := 48, pos := "chain.go:82", after := #[{ on := 4, ground := .data }], guard := none }) rfl (fun K hK => ?_) AllReadyH.nil))
      · refine step_build_none elF rfl rfl w1.heap.size HW.out.size ?_; intro wn g1 HO1' HBn; (try replace HX : Hid _ := HX.out.below HBn.out); clear HO1; have HO1 := HO1'; clear HO1'; replace HW : Hid (Below w1.heap.size w1 wn) := HW.out.trans (HBn.out.mono HW.out.size); clear HBn; have hcn := cell_below HW.out HC1.out
        simp only [Act.put, List.setIfInBounds_toArray, List.set_cons_zero, List.set_cons_succ]
        refine hK.out _ _ (trivial) (fun hHeld => ?_)
        clear hK K
        refine wpAnyH_ready (rs := [5]) (by kernel_rfl) (by simp) ?_
        refine AllReadyH.cons (o := { dst := some 18, op := .load 48 (.tmp 17), type := 48, pos := "chain.go:82", after := #[{ on := 4, ground := .data }], guard := none }) rfl (fun K hK => ?_) AllReadyH.nil
        go_simp
        skip
        go_simp
        refine hK.out _ _ (trivial) (fun hHeld => ?_)
        clear hK K
        refine wpAnyH_take (i := 7) (oi := { dst := some 20, op := .slice 48 (.tmp 18) none (some (.tmp 19)) none, type := 48, pos := "chain.go:82", after := #[{ on := 5, ground := .data }, { on := 6, ground := .data }], guard := none }) (v := .slice a P c) rfl (by kernel_rfl) (by kernel_rfl) (by kernel_rfl) (fun _ _ _ h => h) (Or.inl ⟨by rfl, ?_⟩) (by assumption) ?_
        · intro _ _; go_simp
        simp only [Act.put, List.setIfInBounds_toArray, List.set_cons_zero, List.set_cons_succ]
        refine wpAnyH_ready (rs := [8]) (by kernel_rfl) (by simp) ?_
        refine AllReadyH.cons (o := { dst := some 21, op := .call { callee := .builtin Go.Builtin.append, args := #[.tmp 14, .tmp 20], argTypes := #[48, 48] }, type := 48, pos := "chain.go:82", after := #[{ on := 1, ground := .data }, { on := 7, ground := .data }], guard := none }) rfl (fun K hK => ?_) AllReadyH.nil
        refine step_append_e elF rfl _ _ rfl w1.heap.size _ [] rfl HO1.out a P c (L.take P) rfl (HCA.out _ HW.out) (by have := HLA.out; simp only [List.length_nil]; omega) HW.out.size ?_; intro v3 wn HO3' HG3 _; rw [List.nil_append] at HO3'; (try replace HX : Hid _ := HX.out.later fun b' o' _ e => HG3.out.5 b' (HX.out.lt1 e (by omega) (by decide)) fun e2 => own_ne HO1.out HX.out (by decide) (by injection e with e; injection e with e _ _; injection e2 with e2; rw [e]; exact e2)); replace HW : Hid (Below w1.heap.size w1 wn) := HW.out.grown HG3.out HW.out.size fun k e => (HO1.out.lt k e).1; clear HG3 HO3; have HO3 := HO3'; clear HO3'; have hcn := cell_below HW.out HC1.out; obtain ⟨a3, c3, hv3, _⟩ := HO3.out.els; obtain ⟨n3, hn3⟩ : ∃ n, n = (L.take P).length := ⟨_, rfl⟩; rw [← hn3] at hv3; clear hn3; subst hv3
        simp only [Act.put, List.setIfInBounds_toArray, List.set_cons_zero, List.set_cons_succ]
        refine hK.out _ _ (trivial) (fun hHeld => ?_)
        clear hK K
        refine wpAnyH_ready (rs := [16]) (by kernel_rfl) (by simp) ?_
        refine AllReadyH.cons (o := { dst := some 29, op := .call { callee := .builtin Go.Builtin.append, args := #[.tmp 21, .tmp 28], argTypes := #[48, 48] }, type := 48, pos := "chain.go:82", after := #[{ on := 8, ground := .data }, { on := 15, ground := .data }, { on := 8, ground := .chain }], guard := none }) rfl (fun K hK => ?_) AllReadyH.nil
        refine step_append_e elF rfl _ _ rfl w1.heap.size _ (L.take P) rfl HO3.out adr (z - (P + 1)) (c - (P + 1)) (L.drop (P + 1)) rfl (HCB.out _ HW.out) (by have := HLA.out; omega) HW.out.size ?_; intro v4 w4 HO4 HG4 _; have HW4 : Hid (Below w1.heap.size w1 w4) := HW.out.grown HG4.out HW.out.size fun k e => (HO3.out.lt k e).1; clear HG4; have hy4 := cell_below HW4.out HC1.out; have hf4 := (HR1.out.blk.below HW4.out HR1.out.blk.lt).frozen 0; obtain ⟨a4, c4, hv4, _⟩ := HO4.out.els; obtain ⟨n4, hn4⟩ : ∃ n, n = (L.take P ++ L.drop (P + 1)).length := ⟨_, rfl⟩; rw [← hn4] at hv4; clear hn4; subst hv4
        simp only [Act.put, List.setIfInBounds_toArray, List.set_cons_zero, List.set_cons_succ]
        refine hK.out _ _ (trivial) (fun hHeld => ?_)
        clear hK K
        refine wpAnyH_take (i := 17) (oi := { dst := some 30, op := .nilCheck (.tmp 13), type := 0, pos := "chain.go:82", after := #[{ on := 0, ground := .data }, { on := 0, ground := .phase }, { on := 1, ground := .phase }, { on := 2, ground := .phase }, { on := 3, ground := .phase }, { on := 4, ground := .phase }, { on := 5, ground := .phase }, { on := 6, ground := .phase }, { on := 7, ground := .phase }, { on := 8, ground := .phase }, { on := 9, ground := .phase }, { on := 10, ground := .phase }, { on := 11, ground := .phase }, { on := 12, ground := .phase }, { on := 13, ground := .phase }, { on := 14, ground := .phase }, { on := 15, ground := .phase }, { on := 16, ground := .phase }], guard := none }) (v := ?_) rfl (by kernel_rfl) (by kernel_rfl) (by kernel_rfl) (fun _ _ _ h => h) (Or.inl ⟨by rfl, ?_⟩) (by assumption) ?_
        rotate_left
        · intro _ _; go_simp; first | done | with_reducible rfl
        simp only [Act.put, List.setIfInBounds_toArray, List.set_cons_zero, List.set_cons_succ]
        refine wpAnyH_take (i := 18) (oi := { dst := some 31, op := .fieldAddr 50 (.tmp 30) 0, type := 0, pos := "chain.go:82", after := #[{ on := 17, ground := .data }, { on := 0, ground := .phase }, { on := 1, ground := .phase }, { on := 2, ground := .phase }, { on := 3, ground := .phase }, { on := 4, ground := .phase }, { on := 5, ground := .phase }, { on := 6, ground := .phase }, { on := 7, ground := .phase }, { on := 8, ground := .phase }, { on := 9, ground := .phase }, { on := 10, ground := .phase }, { on := 11, ground := .phase }, { on := 12, ground := .phase }, { on := 13, ground := .phase }, { on := 14, ground := .phase }, { on := 15, ground := .phase }, { on := 16, ground := .phase }], guard := none }) (v := ?_) rfl (by kernel_rfl) (by kernel_rfl) (by kernel_rfl) (fun _ _ _ h => h) (Or.inl ⟨by rfl, ?_⟩) (by assumption) ?_
        rotate_left
        · intro _ _; go_simp; first | done | with_reducible rfl
        simp only [Act.put, List.setIfInBounds_toArray, List.set_cons_zero, List.set_cons_succ]
        refine wpAnyH_ready (rs := [19]) (by kernel_rfl) (by simp) ?_
        refine AllReadyH.cons (o := { dst := none, op := .store 48 (.tmp 31) (.tmp 29), type := 0, pos := "chain.go:82", after := #[{ on := 18, ground := .data }, { on := 16, ground := .data }, { on := 16, ground := .chain }, { on := 0, ground := .phase }, { on := 1, ground := .phase }, { on := 2, ground := .phase }, { on := 3, ground := .phase }, { on := 4, ground := .phase }, { on := 5, ground := .phase }, { on := 6, ground := .phase }, { on := 7, ground := .phase }, { on := 8, ground := .phase }, { on := 9, ground := .phase }, { on := 10, ground := .phase }, { on := 11, ground := .phase }, { on := 12, ground := .phase }, { on := 13, ground := .phase }, { on := 14, ground := .phase }, { on := 15, ground := .phase }, { on := 16, ground := .phase }], guard := none }) rfl (fun K hK => ?_) AllReadyH.nil
        go_simp
        skip
        go_simp
        refine hK.out _ _ (trivial) (fun hHeld => ?_)
        clear hK K
        refine wpAnyH_done (by kernel_rfl) ?_ _
        refine NoPanic.normal ?_
        clear hHeld hy4 hf4
        generalize hw5 : World.setCell w4 _ _ = w5
        have HFIN : Hid (RkAt w5 m (.slice a4 n4 c4) ⟨L', fuse, dark, ops⟩ ∧ Keep m w w5 ∧ Mvd w (.slice a z c) (.slice a4 n4 c4)) := by
          have hk : Keep m w4 w5 := by rw [← hw5]; exact (Keep.refl _ _).setCell _ _
          have hb5 : Blk w5 m [.slice a4 n4 c4, .int .i64 fuse, .bool dark, .int .i64 ops] := by rw [← hw5]; exact (HR1.out.blk.below HW4.out HR1.out.blk.lt).set 0 _
          have hm : m < w1.heap.size := HR1.out.blk.lt
          have hne : ∀ k, (Value.slice a4 n4 c4).ownBlock = some k → k ≠ m := fun k e => by have := (HO4.out.lt k e).1; omega
          have hs1 := HB1.out.size
          refine ⟨⟨hb5, ?_, hne⟩, (Keep.of_below (HB1.out.trans (HW4.out.mono hs1))).trans hk, fun k e => .inr (by have := (HO4.out.lt k e).1; omega)⟩
          show OwnF w5 0 _ L'
          rw [HLQ.out]
          exact OwnE.same (OwnE.less0 HO4.out) fun k e => hk.block k (HO4.out.lt k e).2 (hne k e)
        clear hw5 HO4 HW4
        go_wp2_with fail
        go_end0
        exact ⟨rfl, _, HFIN.out⟩
      · go_simp
        skip
        go_simp
        refine hK.out _ _ (trivial) (fun hHeld => ?_)
        clear hK K
        refine wpAnyH_take (i := 7) (oi := { dst := some 20, op := .slice 48 (.tmp 18) none (some (.tmp 19)) none, type := 48, pos := "chain.go:82", after := #[{ on := 5, ground := .data }, { on := 6, ground := .data }], guard := none }) (v := .slice a P c) rfl (by kernel_rfl) (by kernel_rfl) (by kernel_rfl) (fun _ _ _ h => h) (Or.inl ⟨by rfl, ?_⟩) (by assumption) ?_
        · intro _ _; go_simp
        simp only [Act.put, List.setIfInBounds_toArray, List.set_cons_zero, List.set_cons_succ]
        refine wpAnyH_ready (rs := [1]) (by kernel_rfl) (by simp) ?_
        refine AllReadyH.cons (o := { dst := some 14, op := .buildSlice 48 0 #[], type := 48, pos := "chain.go:82", after := #[], guard := none }) rfl (fun K hK => ?_) AllReadyH.nil
        refine step_build_none elF rfl rfl w1.heap.size HW.out.size ?_; intro wn g1 HO1' HBn; (try replace HX : Hid _ := HX.out.below HBn.out); clear HO1; have HO1 := HO1'; clear HO1'; replace HW : Hid (Below w1.heap.size w1 wn) := HW.out.trans (HBn.out.mono HW.out.size); clear HBn; have hcn := cell_below HW.out HC1.out
        simp only [Act.put, List.setIfInBounds_toArray, List.set_cons_zero, List.set_cons_succ]
        refine hK.out _ _ (trivial) (fun hHeld => ?_)
        clear hK K
        refine wpAnyH_ready (rs := [8]) (by kernel_rfl) (by simp) ?_
        refine AllReadyH.cons (o := { dst := some 21, op := .call { callee := .builtin Go.Builtin.append, args := #[.tmp 14, .tmp 20], argTypes := #[48, 48] }, type := 48, pos := "chain.go:82", after := #[{ on := 1, ground := .data }, { on := 7, ground := .data }], guard := none }) rfl (fun K hK => ?_) AllReadyH.nil
        refine step_append_e elF rfl _ _ rfl w1.heap.size _ [] rfl HO1.out a P c (L.take P) rfl (HCA.out _ HW.out) (by have := HLA.out; simp only [List.length_nil]; omega) HW.out.size ?_; intro v3 wn HO3' HG3 _; rw [List.nil_append] at HO3'; (try replace HX : Hid _ := HX.out.later fun b' o' _ e => HG3.out.5 b' (HX.out.lt1 e (by omega) (by decide)) fun e2 => own_ne HO1.out HX.out (by decide) (by injection e with e; injection e with e _ _; injection e2 with e2; rw [e]; exact e2)); replace HW : Hid (Below w1.heap.size w1 wn) := HW.out.grown HG3.out HW.out.size fun k e => (HO1.out.lt k e).1; clear HG3 HO3; have HO3 := HO3'; clear HO3'; have hcn := cell_below HW.out HC1.out; obtain ⟨a3, c3, hv3, _⟩ := HO3.out.els; obtain ⟨n3, hn3⟩ : ∃ n, n = (L.take P).length := ⟨_, rfl⟩; rw [← hn3] at hv3; clear hn3; subst hv3
        simp only [Act.put, List.setIfInBounds_toArray, List.set_cons_zero, List.set_cons_succ]
        refine hK.out _ _ (trivial) (fun hHeld => ?_)
        clear hK K
        refine wpAnyH_ready (rs := [16]) (by kernel_rfl) (by simp) ?_
        refine AllReadyH.cons (o := { dst := some 29, op := .call { callee := .builtin Go.Builtin.append, args := #[.tmp 21, .tmp 28], argTypes := #[48, 48] }, type := 48, pos := "chain.go:82", after := #[{ on := 8, ground := .data }, { on := 15, ground := .data }, { on := 8, ground := .chain }], guard := none }) rfl (fun K hK => ?_) AllReadyH.nil
        refine step_append_e elF rfl _ _ rfl w1.heap.size _ (L.take P) rfl HO3.out adr (z - (P + 1)) (c - (P + 1)) (L.drop (P + 1)) rfl (HCB.out _ HW.out) (by have := HLA.out; omega) HW.out.size ?_; intro v4 w4 HO4 HG4 _; have HW4 : Hid (Below w1.heap.size w1 w4) := HW.out.grown HG4.out HW.out.size fun k e => (HO3.out.lt k e).1; clear HG4; have hy4 := cell_below HW4.out HC1.out; have hf4 := (HR1.out.blk.below HW4.out HR1.out.blk.lt).frozen 0; obtain ⟨a4, c4, hv4, _⟩ := HO4.out.els; obtain ⟨n4, hn4⟩ : ∃ n, n = (L.take P ++ L.drop (P + 1)).length := ⟨_, rfl⟩; rw [← hn4] at hv4; clear hn4; subst hv4
        simp only [Act.put, List.setIfInBounds_toArray, List.set_cons_zero, List.set_cons_succ]
        refine hK.out _ _ (trivial) (fun hHeld => ?_)
        clear hK K
        refine wpAnyH_take (i := 17) (oi := { dst := some 30, op := .nilCheck (.tmp 13), type := 0, pos := "chain.go:82", after := #[{ on := 0, ground := .data }, { on := 0, ground := .phase }, { on := 1, ground := .phase }, { on := 2, ground := .phase }, { on := 3, ground := .phase }, { on := 4, ground := .phase }, { on := 5, ground := .phase }, { on := 6, ground := .phase }, { on := 7, ground := .phase }, { on := 8, ground := .phase }, { on := 9, ground := .phase }, { on := 10, ground := .phase }, { on := 11, ground := .phase }, { on := 12, ground := .phase }, { on := 13, ground := .phase }, { on := 14, ground := .phase }, { on := 15, ground := .phase }, { on := 16, ground := .phase }], guard := none }) (v := ?_) rfl (by kernel_rfl) (by kernel_rfl) (by kernel_rfl) (fun _ _ _ h => h) (Or.inl ⟨by rfl, ?_⟩) (by assumption) ?_
        rotate_left
        · intro _ _; go_simp; first | done | with_reducible rfl
        simp only [Act.put, List.setIfInBounds_toArray, List.set_cons_zero, List.set_cons_succ]
        refine wpAnyH_take (i := 18) (oi := { dst := some 31, op := .fieldAddr 50 (.tmp 30) 0, type := 0, pos := "chain.go:82", after := #[{ on := 17, ground := .data }, { on := 0, ground := .phase }, { on := 1, ground := .phase }, { on := 2, ground := .phase }, { on := 3, ground := .phase }, { on := 4, ground := .phase }, { on := 5, ground := .phase }, { on := 6, ground := .phase }, { on := 7, ground := .phase }, { on := 8, ground := .phase }, { on := 9, ground := .phase }, { on := 10, ground := .phase }, { on := 11, ground := .phase }, { on := 12, ground := .phase }, { on := 13, ground := .phase }, { on := 14, ground := .phase }, { on := 15, ground := .phase }, { on := 16, ground := .phase }], guard := none }) (v := ?_) rfl (by kernel_rfl) (by kernel_rfl) (by kernel_rfl) (fun _ _ _ h => h) (Or.inl ⟨by rfl, ?_⟩) (by assumption) ?_
        rotate_left
        · intro _ _; go_simp; first | done | with_reducible rfl
        simp only [Act.put, List.setIfInBounds_toArray, List.set_cons_zero, List.set_cons_succ]
        refine wpAnyH_ready (rs := [19]) (by kernel_rfl) (by simp) ?_
        refine AllReadyH.cons (o := { dst := none, op := .store 48 (.tmp 31) (.tmp 29), type := 0, pos := "chain.go:82", after := #[{ on := 18, ground := .data }, { on := 16, ground := .data }, { on := 16, ground := .chain }, { on := 0, ground := .phase }, { on := 1, ground := .phase }, { on := 2, ground := .phase }, { on := 3, ground := .phase }, { on := 4, ground := .phase }, { on := 5, ground := .phase }, { on := 6, ground := .phase }, { on := 7, ground := .phase }, { on := 8, ground := .phase }, { on := 9, ground := .phase }, { on := 10, ground := .phase }, { on := 11, ground := .phase }, { on := 12, ground := .phase }, { on := 13, ground := .phase }, { on := 14, ground := .phase }, { on := 15, ground := .phase }, { on := 16, ground := .phase }], guard := none }) rfl (fun K hK => ?_) AllReadyH.nil
        go_simp
        skip
        go_simp
        refine hK.out _ _ (trivial) (fun hHeld => ?_)
        clear hK K
        refine wpAnyH_done (by kernel_rfl) ?_ _
        refine NoPanic.normal ?_
        clear hHeld hy4 hf4
        generalize hw5 : World.setCell w4 _ _ = w5
        have HFIN : Hid (RkAt w5 m (.slice a4 n4 c4) ⟨L', fuse, dark, ops⟩ ∧ Keep m w w5 ∧ Mvd w (.slice a z c) (.slice a4 n4 c4)) := by
          have hk : Keep m w4 w5 := by rw [← hw5]; exact (Keep.refl _ _).setCell _ _
          have hb5 : Blk w5 m [.slice a4 n4 c4, .int .i64 fuse, .bool dark, .int .i64 ops] := by rw [← hw5]; exact (HR1.out.blk.below HW4.out HR1.out.blk.lt).set 0 _
          have hm : m < w1.heap.size := HR1.out.blk.lt
          have hne : ∀ k, (Value.slice a4 n4 c4).ownBlock = some k → k ≠ m := fun k e => by have := (HO4.out.lt k e).1; omega
          have hs1 := HB1.out.size
          refine ⟨⟨hb5, ?_, hne⟩, (Keep.of_below (HB1.out.trans (HW4.out.mono hs1))).trans hk, fun k e => .inr (by have := (HO4.out.lt k e).1; omega)⟩
          show OwnF w5 0 _ L'
          rw [HLQ.out]
          exact OwnE.same (OwnE.less0 HO4.out) fun k e => hk.block k (HO4.out.lt k e).2 (hne k e)
        clear hw5 HO4 HW4
        go_wp2_with fail
        go_end0
        exact ⟨rfl, _, HFIN.out⟩
set_option maxRecDepth 100000 in
set_option maxHeartbeats 8000000 in
theorem rset_any (m : Nat) (v : Value) (R : RS) (n : ByteArray) (xb : List (BitVec 8)) (xs : Nat) (w : World) (h : RkAt w m v R) (hl : R.L.length ≤ 100000) :
    Calls Try.prog 37 #[.pointer (some ⟨m, 0, none⟩), .agg #[.string n, .string (ofB xb), .int .i64 xs]] w fun e w' => e = .returned (.tuple #[]) ∧ ∃ v', RkAt w' m v' { R with L := sput n ⟨xb, xs⟩ R.L } ∧ Keep m w w' ∧ Mvd w v v' := by
  have HPLA : Hid (∀ w', Below w.heap.size w w' → Calls Try.prog 36 #[.pointer (some ⟨m, 0, none⟩), .string n] w' fun e w'' => e = .returned (.tuple #[.int .i64 (cnt n R.L), .bool (shas n R.L)]) ∧ Below w'.heap.size w' w'') := fun w' hb => place_any m v R n w' (h.below hb)
  have HMO : Hid (Try.prog.follows .mixedOrders = true) := show _ = _ by kernel_rfl
  obtain ⟨a, c, rfl, hels⟩ := h.shape
  obtain ⟨L, fuse, dark, ops⟩ := R
  simp only at hels hl
  obtain ⟨z, hz⟩ : ∃ z, z = L.length := ⟨_, rfl⟩
  rw [← hz] at hels h
  have HR : Hid (RkAt w m (.slice a z c) ⟨L, fuse, dark, ops⟩) := h
  have HE : Hid (Els w a z c L) := hels
  have HN : Hid (z = L.length) := hz
  have hzc : z ≤ c := hels.fits
  have hc63 : c ≤ 9223372036854775807 := by have h2 := hels.most; unfold maxLen at h2; omega
  have hP : cnt n L ≤ z := by rw [hz]; exact cnt_le n L
  have hPlt : shas n L = true → cnt n L < z := fun e => by rw [hz]; exact shas_lt e
  have hz100 : z ≤ 100000 := by rw [hz]; exact hl
  simp only at HPLA
  have HSD : Hid (sput n ⟨xb, xs⟩ L = L.take (cnt n L) ++ [(n, (⟨xb, xs⟩ : Fl))] ++ L.drop (if shas n L = true then cnt n L + 1 else cnt n L)) := sput_eq n _ L
  show Calls _ _ _ _ fun e w' => e = .returned (.tuple #[]) ∧ ∃ v', RkAt w' m v' ⟨sput n ⟨xb, xs⟩ L, fuse, dark, ops⟩ ∧ Keep m w w' ∧ Mvd w (.slice a L.length c) v'
  rw [← hz]
  clear h hels hz hl
  generalize cnt n L = P at *
  generalize shas n L = TA at *
  generalize sput n ⟨xb, xs⟩ L = L' at *
  go_enter Try.func37, Try.ntmps37
  go_upto_region 1 with fail
  generalize hw0 : World.alloc w _ = w0
  have HB0 : Hid (Below w.heap.size w w0) := by rw [← hw0]; exact (Below.refl _ _).alloc (Nat.le_refl _) _
  have HBX0 : Hid (Blk w0 w.heap.size [.string n, .string (ofB xb), .int .i64 xs]) := by rw [← hw0]; exact Blk.mk _ _ _ rfl rfl
  have HBM : Hid (w.heap.size ≠ m) := fun e => by have := HR.out.blk.lt; omega
  have HPL : Hid _ := HPLA.out w0 HB0.out
  have hb00 : w0.cell? ⟨w.heap.size, 0, none⟩ = some (.string n) := HBX0.out.one rfl
  clear hw0 HPLA
  obtain ⟨B0, hB0⟩ : ∃ b, b = w.heap.size := ⟨_, rfl⟩
  rw [← hB0] at HBX0 HBM hb00 ⊢
  clear hB0
  go_wp2_with fail
  refine Calls.mono HPL.out ?_
  rintro e w1 ⟨rfl, hb1⟩
  have HB1 : Hid (Below w.heap.size w w1) := HB0.out.trans (hb1.mono HB0.out.size)
  have HBX : Hid (Blk w1 B0 [.string n, .string (ofB xb), .int .i64 xs]) := HBX0.out.below hb1 HBX0.out.lt
  have HR1 : Hid (RkAt w1 m (.slice a z c) ⟨L, fuse, dark, ops⟩) := HR.out.below HB1.out
  clear hb1 HPL hb00 HBX0 HB0
  have HC1 : Hid (w1.cell? ⟨m, 0, none⟩ = some (.slice a z c)) := HR1.out.blk.one rfl
  have hc1 := HC1.out
  have HLA : Hid ((L.take P).length = P ∧ z ≤ 100000 ∧ P ≤ z) := ⟨by rw [List.length_take, ← HN.out]; omega, hz100, hP⟩
  have HCA : Hid (∀ w', Below w1.heap.size w1 w' → Els w' a P c (L.take P)) := fun w' hb => ((HE.out.below HB1.out).below hb).cutA P (by omega)
  have hPc : P ≤ c := by omega
  have hwp : IntKind.i64.wrap ((P : Int) + 1) = (P : Int) + 1 := i64_one (by omega)
  have hPz0 : (P : Int) ≤ (z : Int) := by omega
  obtain ⟨adr0, hadr0⟩ : ∃ x, (if c = P then a else Option.map (fun x => x.add (P * 3)) a) = x := ⟨_, rfl⟩
  cases TA with
  | true =>
    have hPz := hPlt rfl
    have hPz1 : (P : Int) + 1 ≤ (z : Int) := by omega
    have hPz2 : (0 : Int) ≤ (P : Int) + 1 := by omega
    have HLQ : Hid (L' = L.take P ++ [(n, (⟨xb, xs⟩ : Fl))] ++ L.drop (P + 1)) := HSD.out
    obtain ⟨adr, hadr⟩ : ∃ x, (if c = P + 1 then a else Option.map (fun x => x.add ((P + 1) * 3)) a) = x := ⟨_, rfl⟩
    have HCB : Hid (∀ w', Below w1.heap.size w1 w' → Els w' adr (z - (P + 1)) (c - (P + 1)) (L.drop (P + 1))) := fun w' hb => by rw [← hadr]; exact ((HE.out.below HB1.out).below hb).cutB (P + 1) (by omega)
    clear hPlt HSD
    go_upto_region 5 with fail
    have HW : Hid (Below w1.heap.size w1 w1.drew) := (Below.refl _ _).drew
    have hcn : w1.drew.cell? ⟨m, 0, none⟩ = some (.slice a z c) := HC1.out
    have HX : Hid True := trivial
    have HO1 : Hid True := trivial
    have HO3 : Hid True := trivial
    refine wp_region_noPanic ?_
    refine wp_region_held_drew (S := fun w' => w'.cell? ⟨B0, 0, none⟩ = some (.string n) ∧ w'.cell? ⟨B0, 1, none⟩ = some (.string (ofB xb)) ∧ w'.cell? ⟨B0, 2, none⟩ = some (.int .i64 xs)) HMO.out (⟨cell_below HW.out (HBX.out.one rfl), cell_below HW.out (HBX.out.one rfl), cell_below HW.out (HBX.out.one rfl)⟩) (fun hHeld => ?_)
    refine wpAnyH_take (i := 0) (oi := { dst := some 28, op := .move (.tmp 0), type := 27, pos := "chain.go:75", after := #[], guard := none }) (v := ?_) rfl (by kernel_rfl) (by kernel_rfl) (by kernel_rfl) (fun _ _ _ h => h) (Or.inl ⟨by rfl, ?_⟩) (by assumption) ?_
    rotate_left
    · intro _ _; go_simp; first | done | with_reducible rfl
    simp only [Act.put, List.setIfInBounds_toArray, List.set_cons_zero, List.set_cons_succ]
    refine wpAnyH_take (i := 2) (oi := { dst := some 30, op := .move (.tmp 0), type := 27, pos := "chain.go:75", after := #[], guard := none }) (v := ?_) rfl (by kernel_rfl) (by kernel_rfl) (by kernel_rfl) (fun _ _ _ h => h) (Or.inl ⟨by rfl, ?_⟩) (by assumption) ?_
    rotate_left
    · intro _ _; go_simp; first | done | with_reducible rfl
    simp only [Act.put, List.setIfInBounds_toArray, List.set_cons_zero, List.set_cons_succ]
    refine wpAnyH_take (i := 3) (oi := { dst := some 31, op := .nilCheck (.tmp 30), type := 0, pos := "chain.go:75", after := #[{ on := 2, ground := .data }], guard := none }) (v := ?_) rfl (by kernel_rfl) (by kernel_rfl) (by kernel_rfl) (fun _ _ _ h => h) (Or.inl ⟨by rfl, ?_⟩) (by assumption) ?_
    rotate_left
    · intro _ _; go_simp; first | done | with_reducible rfl
    simp only [Act.put, List.setIfInBounds_toArray, List.set_cons_zero, List.set_cons_succ]
    refine wpAnyH_take (i := 4) (oi := { dst := some 32, op := .fieldAddr 50 (.tmp 31) 0, type := 0, pos := "chain.go:75", after := #[{ on := 3, ground := .data }], guard := none }) (v := ?_) rfl (by kernel_rfl) (by kernel_rfl) (by kernel_rfl) (fun _ _ _ h => h) (Or.inl ⟨by rfl, ?_⟩) (by assumption) ?_
    rotate_left
    · intro _ _; go_simp; first | done | with_reducible rfl
    simp only [Act.put, List.setIfInBounds_toArray, List.set_cons_zero, List.set_cons_succ]
    refine wpAnyH_take (i := 6) (oi := { dst := some 34, op := .move (.tmp 4), type := 3, pos := "chain.go:75", after := #[], guard := none }) (v := ?_) rfl (by kernel_rfl) (by kernel_rfl) (by kernel_rfl) (fun _ _ _ h => h) (Or.inl ⟨by rfl, ?_⟩) (by assumption) ?_
    rotate_left
    · intro _ _; go_simp; first | done | with_reducible rfl
    simp only [Act.put, List.setIfInBounds_toArray, List.set_cons_zero, List.set_cons_succ]
    refine wpAnyH_take (i := 9) (oi := { dst := some 37, op := .load 60 (.tmp 3), type := 60, pos := "chain.go:75", after := #[], guard := none }) (v := .agg #[.string n, .string (ofB xb), .int .i64 xs]) rfl (by kernel_rfl) (by kernel_rfl) (by kernel_rfl) (fun _ _ _ h => h) (Or.inl ⟨by rfl, ?_⟩) (by assumption) ?_
    · intro _ _; rename_i wz hz; obtain ⟨cz0, cz1, cz2⟩ := hz; go_simp
    simp only [Act.put, List.setIfInBounds_toArray, List.set_cons_zero, List.set_cons_succ]
    refine wpAnyH_take (i := 12) (oi := { dst := some 40, op := .move (.tmp 6), type := 48, pos := "chain.go:75", after := #[], guard := none }) (v := ?_) rfl (by kernel_rfl) (by kernel_rfl) (by kernel_rfl) (fun _ _ _ h => h) (Or.inl ⟨by rfl, ?_⟩) (by assumption) ?_
    rotate_left
    · intro _ _; go_simp; first | done | with_reducible rfl
    simp only [Act.put, List.setIfInBounds_toArray, List.set_cons_zero, List.set_cons_succ]
    refine wpAnyH_ready (rs := [1, 5, 10]) (by kernel_rfl) (by simp) ?_
    refine (AllReadyH.cons (o := { dst := some 29, op := .buildSlice 48 0 #[], type := 48, pos := "chain.go:75", after := #[], guard := none }) rfl (fun K hK => ?_) (AllReadyH.cons (o := { dst := some 33, op := .load 48 (.tmp 32), type := 48, pos := "chain.go:75", after := #[{ on := 4, ground := .data }], guard := none }) rfl (fun K hK => ?_) (AllReadyH.cons (o := { dst := some 38, op := .buildSlice 48 1 #[(0, .tmp 37)], type := 48, pos := "chain.go:75", after := #[{ on := 9, ground := .data }], guard := none }) rfl (fun K hK => ?_) AllReadyH.nil)))
    · refine step_build_none elF rfl rfl w1.heap.size HW.out.size ?_; intro wn g1 HO1' HBn; (try replace HX : Hid _ := HX.out.below HBn.out); clear HO1; have HO1 := HO1'; clear HO1'; replace HW : Hid (Below w1.heap.size w1 wn) := HW.out.trans (HBn.out.mono HW.out.size); clear HBn; have hcn := cell_below HW.out HC1.out
      simp only [Act.put, List.setIfInBounds_toArray, List.set_cons_zero, List.set_cons_succ]
      refine hK.out _ _ (⟨cell_below HW.out (HBX.out.one rfl), cell_below HW.out (HBX.out.one rfl), cell_below HW.out (HBX.out.one rfl)⟩) (fun hHeld => ?_)
      clear hK K
      refine wpAnyH_ready (rs := [5, 10]) (by kernel_rfl) (by simp) ?_
      refine (AllReadyH.cons (o := { dst := some 33, op := .load 48 (.tmp 32), type := 48, pos := "chain.go:75", after := #[{ on := 4, ground := .data }], guard := none }) rfl (fun K hK => ?_) (AllReadyH.cons (o := { dst := some 38, op := .buildSlice 48 1 #[(0, .tmp 37)], type := 48, pos := "chain.go:75", after := #[{ on := 9, ground := .data }], guard := none }) rfl (fun K hK => ?_) AllReadyH.nil))
      · go_simp
        skip
        go_simp
        refine hK.out _ _ (⟨cell_below HW.out (HBX.out.one rfl), cell_below HW.out (HBX.out.one rfl), cell_below HW.out (HBX.out.one rfl)⟩) (fun hHeld => ?_)
        clear hK K
        refine wpAnyH_take (i := 7) (oi := { dst := some 35, op := .slice 48 (.tmp 33) none (some (.tmp 34)) none, type := 48, pos := "chain.go:75", after := #[{ on := 5, ground := .data }, { on := 6, ground := .data }], guard := none }) (v := .slice a P c) rfl (by kernel_rfl) (by kernel_rfl) (by kernel_rfl) (fun _ _ _ h => h) (Or.inl ⟨by rfl, ?_⟩) (by assumption) ?_
        · intro _ _; go_simp
        simp only [Act.put, List.setIfInBounds_toArray, List.set_cons_zero, List.set_cons_succ]
        refine wpAnyH_ready (rs := [8, 10]) (by kernel_rfl) (by simp) ?_
        refine (AllReadyH.cons (o := { dst := some 36, op := .call { callee := .builtin Go.Builtin.append, args := #[.tmp 29, .tmp 35], argTypes := #[48, 48] }, type := 48, pos := "chain.go:75", after := #[{ on := 1, ground := .data }, { on := 7, ground := .data }], guard := none }) rfl (fun K hK => ?_) (AllReadyH.cons (o := { dst := some 38, op := .buildSlice 48 1 #[(0, .tmp 37)], type := 48, pos := "chain.go:75", after := #[{ on := 9, ground := .data }], guard := none }) rfl (fun K hK => ?_) AllReadyH.nil))
        · refine step_append_e elF rfl _ _ rfl w1.heap.size _ [] rfl HO1.out a P c (L.take P) rfl (HCA.out _ HW.out) (by have := HLA.out; simp only [List.length_nil]; omega) HW.out.size ?_; intro v3 wn HO3' HG3 _; rw [List.nil_append] at HO3'; (try replace HX : Hid _ := HX.out.later fun b' o' _ e => HG3.out.5 b' (HX.out.lt1 e (by omega) (by decide)) fun e2 => own_ne HO1.out HX.out (by decide) (by injection e with e; injection e with e _ _; injection e2 with e2; rw [e]; exact e2)); replace HW : Hid (Below w1.heap.size w1 wn) := HW.out.grown HG3.out HW.out.size fun k e => (HO1.out.lt k e).1; clear HG3 HO3; have HO3 := HO3'; clear HO3'; have hcn := cell_below HW.out HC1.out; obtain ⟨a3, c3, hv3, _⟩ := HO3.out.els; obtain ⟨n3, hn3⟩ : ∃ n, n = (L.take P).length := ⟨_, rfl⟩; rw [← hn3] at hv3; clear hn3; subst hv3
          simp only [Act.put, List.setIfInBounds_toArray, List.set_cons_zero, List.set_cons_succ]
          refine hK.out _ _ (⟨cell_below HW.out (HBX.out.one rfl), cell_below HW.out (HBX.out.one rfl), cell_below HW.out (HBX.out.one rfl)⟩) (fun hHeld => ?_)
          clear hK K
          refine wpAnyH_ready (rs := [10]) (by kernel_rfl) (by simp) ?_
          refine AllReadyH.cons (o := { dst := some 38, op := .buildSlice 48 1 #[(0, .tmp 37)], type := 48, pos := "chain.go:75", after := #[{ on := 9, ground := .data }], guard := none }) rfl (fun K hK => ?_) AllReadyH.nil
          refine step_build_own elF rfl _ rfl (n, ⟨xb, xs⟩) rfl ?_; intro wn g10 HX' HBn; (try replace HO1 : Hid _ := HO1.out.below HBn.out); (try replace HO3 : Hid _ := HO3.out.below HBn.out); clear HX; have HX := HX'; clear HX'; replace HW : Hid (Below w1.heap.size w1 wn) := HW.out.trans (HBn.out.mono HW.out.size); clear HBn; have hcn := cell_below HW.out HC1.out
          simp only [Act.put, List.setIfInBounds_toArray, List.set_cons_zero, List.set_cons_succ]
          refine hK.out _ _ (⟨cell_below HW.out (HBX.out.one rfl), cell_below HW.out (HBX.out.one rfl), cell_below HW.out (HBX.out.one rfl)⟩) (fun hHeld => ?_)
          clear hK K
          refine wpAnyH_ready (rs := [11]) (by kernel_rfl) (by simp) ?_
          refine AllReadyH.cons (o := { dst := some 39, op := .call { callee := .builtin Go.Builtin.append, args := #[.tmp 36, .tmp 38], argTypes := #[48, 48] }, type := 48, pos := "chain.go:75", after := #[{ on := 8, ground := .data }, { on := 10, ground := .data }, { on := 8, ground := .chain }], guard := none }) rfl (fun K hK => ?_) AllReadyH.nil
          refine step_append_e elF rfl _ _ rfl w1.heap.size _ (L.take P) rfl HO3.out _ 1 1 [(n, ⟨xb, xs⟩)] rfl HX.out (by have := HLA.out; omega) HW.out.size ?_; intro v5 wn HO5 HG5 _; replace HW : Hid (Below w1.heap.size w1 wn) := HW.out.grown HG5.out HW.out.size fun k e => (HO3.out.lt k e).1; clear HG5; have hcn := cell_below HW.out HC1.out; obtain ⟨a5, c5, hv5, _⟩ := HO5.out.els; obtain ⟨n5, hn5⟩ : ∃ n', n' = (L.take P ++ [(n, (⟨xb, xs⟩ : Fl))]).length := ⟨_, rfl⟩; rw [← hn5] at hv5; clear hn5; subst hv5
          simp only [Act.put, List.setIfInBounds_toArray, List.set_cons_zero, List.set_cons_succ]
          refine hK.out _ _ (⟨cell_below HW.out (HBX.out.one rfl), cell_below HW.out (HBX.out.one rfl), cell_below HW.out (HBX.out.one rfl)⟩) (fun hHeld => ?_)
          clear hK K
          refine wpAnyH_ready (rs := [13]) (by kernel_rfl) (by simp) ?_
          refine AllReadyH.cons (o := { dst := some 41, op := .call { callee := .builtin Go.Builtin.append, args := #[.tmp 39, .tmp 40], argTypes := #[48, 48] }, type := 48, pos := "chain.go:75", after := #[{ on := 11, ground := .data }, { on := 12, ground := .data }, { on := 11, ground := .chain }], guard := none }) rfl (fun K hK => ?_) AllReadyH.nil
          refine step_append_e elF rfl _ _ rfl w1.heap.size _ (L.take P ++ [(n, (⟨xb, xs⟩ : Fl))]) rfl HO5.out adr (z - (P + 1)) (c - (P + 1)) (L.drop (P + 1)) rfl (HCB.out _ HW.out) (by have := HLA.out; simp only [List.length_append, List.length_cons, List.length_nil]; omega) HW.out.size ?_; intro v4 w4 HO4 HG4 _; have HW4 : Hid (Below w1.heap.size w1 w4) := HW.out.grown HG4.out HW.out.size fun k e => (HO5.out.lt k e).1; clear HG4; have hy4 := cell_below HW4.out HC1.out; have hf4 := (HR1.out.blk.below HW4.out HR1.out.blk.lt).frozen 0; obtain ⟨a4, c4, hv4, _⟩ := HO4.out.els; obtain ⟨n4, hn4⟩ : ∃ n', n' = (L.take P ++ [(n, (⟨xb, xs⟩ : Fl))] ++ L.drop (P + 1)).length := ⟨_, rfl⟩; rw [← hn4] at hv4; clear hn4; subst hv4; have HFK : Hid (∀ {j : Nat} {u : Value}, w4.cell? ⟨B0, j, none⟩ = some u → (w4.setCell ⟨m, 0, none⟩ (.slice a4 n4 c4)).cell? ⟨B0, j, none⟩ = some u) := fun h => ((Keep.refl m w4).setCell 0 _).cell HBM.out h
          simp only [Act.put, List.setIfInBounds_toArray, List.set_cons_zero, List.set_cons_succ]
          refine hK.out _ _ (⟨cell_below HW4.out (HBX.out.one rfl), cell_below HW4.out (HBX.out.one rfl), cell_below HW4.out (HBX.out.one rfl)⟩) (fun hHeld => ?_)
          clear hK K
          refine wpAnyH_take (i := 14) (oi := { dst := some 42, op := .nilCheck (.tmp 28), type := 0, pos := "chain.go:75", after := #[{ on := 0, ground := .data }, { on := 0, ground := .phase }, { on := 1, ground := .phase }, { on := 2, ground := .phase }, { on := 3, ground := .phase }, { on := 4, ground := .phase }, { on := 5, ground := .phase }, { on := 6, ground := .phase }, { on := 7, ground := .phase }, { on := 8, ground := .phase }, { on := 9, ground := .phase }, { on := 10, ground := .phase }, { on := 11, ground := .phase }, { on := 12, ground := .phase }, { on := 13, ground := .phase }], guard := none }) (v := ?_) rfl (by kernel_rfl) (by kernel_rfl) (by kernel_rfl) (fun _ _ _ h => h) (Or.inl ⟨by rfl, ?_⟩) (by assumption) ?_
          rotate_left
          · intro _ _; go_simp; first | done | with_reducible rfl
          simp only [Act.put, List.setIfInBounds_toArray, List.set_cons_zero, List.set_cons_succ]
          refine wpAnyH_take (i := 15) (oi := { dst := some 43, op := .fieldAddr 50 (.tmp 42) 0, type := 0, pos := "chain.go:75", after := #[{ on := 14, ground := .data }, { on := 0, ground := .phase }, { on := 1, ground := .phase }, { on := 2, ground := .phase }, { on := 3, ground := .phase }, { on := 4, ground := .phase }, { on := 5, ground := .phase }, { on := 6, ground := .phase }, { on := 7, ground := .phase }, { on := 8, ground := .phase }, { on := 9, ground := .phase }, { on := 10, ground := .phase }, { on := 11, ground := .phase }, { on := 12, ground := .phase }, { on := 13, ground := .phase }], guard := none }) (v := ?_) rfl (by kernel_rfl) (by kernel_rfl) (by kernel_rfl) (fun _ _ _ h => h) (Or.inl ⟨by rfl, ?_⟩) (by assumption) ?_
          rotate_left
          · intro _ _; go_simp; first | done | with_reducible rfl
          simp only [Act.put, List.setIfInBounds_toArray, List.set_cons_zero, List.set_cons_succ]
          refine wpAnyH_ready (rs := [16]) (by kernel_rfl) (by simp) ?_
          refine AllReadyH.cons (o := { dst := none, op := .store 48 (.tmp 43) (.tmp 41), type := 0, pos := "chain.go:75", after := #[{ on := 15, ground := .data }, { on := 13, ground := .data }, { on := 13, ground := .chain }, { on := 0, ground := .phase }, { on := 1, ground := .phase }, { on := 2, ground := .phase }, { on := 3, ground := .phase }, { on := 4, ground := .phase }, { on := 5, ground := .phase }, { on := 6, ground := .phase }, { on := 7, ground := .phase }, { on := 8, ground := .phase }, { on := 9, ground := .phase }, { on := 10, ground := .phase }, { on := 11, ground := .phase }, { on := 12, ground := .phase }, { on := 13, ground := .phase }], guard := none }) rfl (fun K hK => ?_) AllReadyH.nil
          go_simp
          skip
          go_simp
          refine hK.out _ _ (⟨HFK.out (cell_below HW4.out (HBX.out.one rfl)), HFK.out (cell_below HW4.out (HBX.out.one rfl)), HFK.out (cell_below HW4.out (HBX.out.one rfl))⟩) (fun hHeld => ?_)
          clear hK K
          refine wpAnyH_done (by kernel_rfl) ?_ _
          refine NoPanic.normal ?_
          clear hHeld hy4 hf4 HFK
          generalize hw5 : World.setCell w4 _ _ = w5
          have HFIN : Hid (RkAt w5 m (.slice a4 n4 c4) ⟨L', fuse, dark, ops⟩ ∧ Keep m w w5 ∧ Mvd w (.slice a z c) (.slice a4 n4 c4)) := by
            have hk : Keep m w4 w5 := by rw [← hw5]; exact (Keep.refl _ _).setCell _ _
            have hb5 : Blk w5 m [.slice a4 n4 c4, .int .i64 fuse, .bool dark, .int .i64 ops] := by rw [← hw5]; exact (HR1.out.blk.below HW4.out HR1.out.blk.lt).set 0 _
            have hm : m < w1.heap.size := HR1.out.blk.lt
            have hne : ∀ k, (Value.slice a4 n4 c4).ownBlock = some k → k ≠ m := fun k e => by have := (HO4.out.lt k e).1; omega
            have hs1 := HB1.out.size
            refine ⟨⟨hb5, ?_, hne⟩, (Keep.of_below (HB1.out.trans (HW4.out.mono hs1))).trans hk, fun k e => .inr (by have := (HO4.out.lt k e).1; omega)⟩
            show OwnF w5 0 _ L'
            rw [HLQ.out]
            exact OwnE.same (OwnE.less0 HO4.out) fun k e => hk.block k (HO4.out.lt k e).2 (hne k e)
          clear hw5 HO4 HW4
          go_wp2_with fail
          go_end0
          exact ⟨rfl, _, HFIN.out⟩
        · refine step_build_own elF rfl _ rfl (n, ⟨xb, xs⟩) rfl ?_; intro wn g10 HX' HBn; (try replace HO1 : Hid _ := HO1.out.below HBn.out); (try replace HO3 : Hid _ := HO3.out.below HBn.out); clear HX; have HX := HX'; clear HX'; replace HW : Hid (Below w1.heap.size w1 wn) := HW.out.trans (HBn.out.mono HW.out.size); clear HBn; have hcn := cell_below HW.out HC1.out
          simp only [Act.put, List.setIfInBounds_toArray, List.set_cons_zero, List.set_cons_succ]
          refine hK.out _ _ (⟨cell_below HW.out (HBX.out.one rfl), cell_below HW.out (HBX.out.one rfl), cell_below HW.out (HBX.out.one rfl)⟩) (fun hHeld => ?_)
          clear hK K
          refine wpAnyH_ready (rs := [8]) (by kernel_rfl) (by simp) ?_
          refine AllReadyH.cons (o := { dst := some 36, op := .call { callee := .builtin Go.Builtin.append, args := #[.tmp 29, .tmp 35], argTypes := #[48, 48] }, type := 48, pos := "chain.go:75", after := #[{ on := 1, ground := .data }, { on := 7, ground := .data }], guard := none }) rfl (fun K hK => ?_) AllReadyH.nil
          refine step_append_e elF rfl _ _ rfl w1.heap.size _ [] rfl HO1.out a P c (L.take P) rfl (HCA.out _ HW.out) (by have := HLA.out; simp only [List.length_nil]; omega) HW.out.size ?_; intro v3 wn HO3' HG3 _; rw [List.nil_append] at HO3'; (try replace HX : Hid _ := HX.out.later fun b' o' _ e => HG3.out.5 b' (HX.out.lt1 e (by omega) (by decide)) fun e2 => own_ne HO1.out HX.out (by decide) (by injection e with e; injection e with e _ _; injection e2 with e2; rw [e]; exact e2)); replace HW : Hid (Below w1.heap.size w1 wn) := HW.out.grown HG3.out HW.out.size fun k e => (HO1.out.lt k e).1; clear HG3 HO3; have HO3 := HO3'; clear HO3'; have hcn := cell_below HW.out HC1.out; obtain ⟨a3, c3, hv3, _⟩ := HO3.out.els; obtain ⟨n3, hn3⟩ : ∃ n, n = (L.take P).length := ⟨_, rfl⟩; rw [← hn3] at hv3; clear hn3; subst hv3
          simp only [Act.put, List.setIfInBounds_toArray, List.set_cons_zero, List.set_cons_succ]
          refine hK.out _ _ (⟨cell_below HW.out (HBX.out.one rfl), cell_below HW.out (HBX.out.one rfl), cell_below HW.out (HBX.out.one rfl)⟩) (fun hHeld => ?_)
          clear hK K
          refine wpAnyH_ready (rs := [11]) (by kernel_rfl) (by simp) ?_
          refine AllReadyH.cons (o := { dst := some 39, op := .call { callee := .builtin Go.Builtin.append, args := #[.tmp 36, .tmp 38], argTypes := #[48, 48] }, type := 48, pos := "chain.go:75", after := #[{ on := 8, ground := .data }, { on := 10, ground := .data }, { on := 8, ground := .chain }], guard := none }) rfl (fun K hK => ?_) AllReadyH.nil
          refine step_append_e elF rfl _ _ rfl w1.heap.size _ (L.take P) rfl HO3.out _ 1 1 [(n, ⟨xb, xs⟩)] rfl HX.out (by have := HLA.out; omega) HW.out.size ?_; intro v5 wn HO5 HG5 _; replace HW : Hid (Below w1.heap.size w1 wn) := HW.out.grown HG5.out HW.out.size fun k e => (HO3.out.lt k e).1; clear HG5; have hcn := cell_below HW.out HC1.out; obtain ⟨a5, c5, hv5, _⟩ := HO5.out.els; obtain ⟨n5, hn5⟩ : ∃ n', n' = (L.take P ++ [(n, (⟨xb, xs⟩ : Fl))]).length := ⟨_, rfl⟩; rw [← hn5] at hv5; clear hn5; subst hv5
          simp only [Act.put, List.setIfInBounds_toArray, List.set_cons_zero, List.set_cons_succ]
          refine hK.out _ _ (⟨cell_below HW.out (HBX.out.one rfl), cell_below HW.out (HBX.out.one rfl), cell_below HW.out (HBX.out.one rfl)⟩) (fun hHeld => ?_)
          clear hK K
          refine wpAnyH_ready (rs := [13]) (by kernel_rfl) (by simp) ?_
          refine AllReadyH.cons (o := { dst := some 41, op := .call { callee := .builtin Go.Builtin.append, args := #[.tmp 39, .tmp 40], argTypes := #[48, 48] }, type := 48, pos := "chain.go:75", after := #[{ on := 11, ground := .data }, { on := 12, ground := .data }, { on := 11, ground := .chain }], guard := none }) rfl (fun K hK => ?_) AllReadyH.nil
          refine step_append_e elF rfl _ _ rfl w1.heap.size _ (L.take P ++ [(n, (⟨xb, xs⟩ : Fl))]) rfl HO5.out adr (z - (P + 1)) (c - (P + 1)) (L.drop (P + 1)) rfl (HCB.out _ HW.out) (by have := HLA.out; simp only [List.length_append, List.length_cons, List.length_nil]; omega) HW.out.size ?_; intro v4 w4 HO4 HG4 _; have HW4 : Hid (Below w1.heap.size w1 w4) := HW.out.grown HG4.out HW.out.size fun k e => (HO5.out.lt k e).1; clear HG4; have hy4 := cell_below HW4.out HC1.out; have hf4 := (HR1.out.blk.below HW4.out HR1.out.blk.lt).frozen 0; obtain ⟨a4, c4, hv4, _⟩ := HO4.out.els; obtain ⟨n4, hn4⟩ : ∃ n', n' = (L.take P ++ [(n, (⟨xb, xs⟩ : Fl))] ++ L.drop (P + 1)).length := ⟨_, rfl⟩; rw [← hn4] at hv4; clear hn4; subst hv4; have HFK : Hid (∀ {j : Nat} {u : Value}, w4.cell? ⟨B0, j, none⟩ = some u → (w4.setCell ⟨m, 0, none⟩ (.slice a4 n4 c4)).cell? ⟨B0, j, none⟩ = some u) := fun h => ((Keep.refl m w4).setCell 0 _).cell HBM.out h
          simp only [Act.put, List.setIfInBounds_toArray, List.set_cons_zero, List.set_cons_succ]
          refine hK.out _ _ (⟨cell_below HW4.out (HBX.out.one rfl), cell_below HW4.out (HBX.out.one rfl), cell_below HW4.out (HBX.out.one rfl)⟩) (fun hHeld => ?_)
          clear hK K
          refine wpAnyH_take (i := 14) (oi := { dst := some 42, op := .nilCheck (.tmp 28), type := 0, pos := "chain.go:75", after := #[{ on := 0, ground := .data }, { on := 0, ground := .phase }, { on := 1, ground := .phase }, { on := 2, ground := .phase }, { on := 3, ground := .phase }, { on := 4, ground := .phase }, { on := 5, ground := .phase }, { on := 6, ground := .phase }, { on := 7, ground := .phase }, { on := 8, ground := .phase }, { on := 9, ground := .phase }, { on := 10, ground := .phase }, { on := 11, ground := .phase }, { on := 12, ground := .phase }, { on := 13, ground := .phase }], guard := none }) (v := ?_) rfl (by kernel_rfl) (by kernel_rfl) (by kernel_rfl) (fun _ _ _ h => h) (Or.inl ⟨by rfl, ?_⟩) (by assumption) ?_
          rotate_left
          · intro _ _; go_simp; first | done | with_reducible rfl
          simp only [Act.put, List.setIfInBounds_toArray, List.set_cons_zero, List.set_cons_succ]
          refine wpAnyH_take (i := 15) (oi := { dst := some 43, op := .fieldAddr 50 (.tmp 42) 0, type := 0, pos := "chain.go:75", after := #[{ on := 14, ground := .data }, { on := 0, ground := .phase }, { on := 1, ground := .phase }, { on := 2, ground := .phase }, { on := 3, ground := .phase }, { on := 4, ground := .phase }, { on := 5, ground := .phase }, { on := 6, ground := .phase }, { on := 7, ground := .phase }, { on := 8, ground := .phase }, { on := 9, ground := .phase }, { on := 10, ground := .phase }, { on := 11, ground := .phase }, { on := 12, ground := .phase }, { on := 13, ground := .phase }], guard := none }) (v := ?_) rfl (by kernel_rfl) (by kernel_rfl) (by kernel_rfl) (fun _ _ _ h => h) (Or.inl ⟨by rfl, ?_⟩) (by assumption) ?_
          rotate_left
          · intro _ _; go_simp; first | done | with_reducible rfl
          simp only [Act.put, List.setIfInBounds_toArray, List.set_cons_zero, List.set_cons_succ]
          refine wpAnyH_ready (rs := [16]) (by kernel_rfl) (by simp) ?_
          refine AllReadyH.cons (o := { dst := none, op := .store 48 (.tmp 43) (.tmp 41), type := 0, pos := "chain.go:75", after := #[{ on := 15, ground := .data }, { on := 13, ground := .data }, { on := 13, ground := .chain }, { on := 0, ground := .phase }, { on := 1, ground := .phase }, { on := 2, ground := .phase }, { on := 3, ground := .phase }, { on := 4, ground := .phase }, { on := 5, ground := .phase }, { on := 6, ground := .phase }, { on := 7, ground := .phase }, { on := 8, ground := .phase }, { on := 9, ground := .phase }, { on := 10, ground := .phase }, { on := 11, ground := .phase }, { on := 12, ground := .phase }, { on := 13, ground := .phase }], guard := none }) rfl (fun K hK => ?_) AllReadyH.nil
          go_simp
          skip
          go_simp
          refine hK.out _ _ (⟨HFK.out (cell_below HW4.out (HBX.out.one rfl)), HFK.out (cell_below HW4.out (HBX.out.one rfl)), HFK.out (cell_below HW4.out (HBX.out.one rfl))⟩) (fun hHeld => ?_)
          clear hK K
          refine wpAnyH_done (by kernel_rfl) ?_ _
          refine NoPanic.normal ?_
          clear hHeld hy4 hf4 HFK
          generalize hw5 : World.setCell w4 _ _ = w5
          have HFIN : Hid (RkAt w5 m (.slice a4 n4 c4) ⟨L', fuse, dark, ops⟩ ∧ Keep m w w5 ∧ Mvd w (.slice a z c) (.slice a4 n4 c4)) := by
            have hk : Keep m w4 w5 := by rw [← hw5]; exact (Keep.refl _ _).setCell _ _
            have hb5 : Blk w5 m [.slice a4 n4 c4, .int .i64 fuse, .bool dark, .int .i64 ops] := by rw [← hw5]; exact (HR1.out.blk.below HW4.out HR1.out.blk.lt).set 0 _
            have hm : m < w1.heap.size := HR1.out.blk.lt
            have hne : ∀ k, (Value.slice a4 n4 c4).ownBlock = some k → k ≠ m := fun k e => by have := (HO4.out.lt k e).1; omega
            have hs1 := HB1.out.size
            refine ⟨⟨hb5, ?_, hne⟩, (Keep.of_below (HB1.out.trans (HW4.out.mono hs1))).trans hk, fun k e => .inr (by have := (HO4.out.lt k e).1; omega)⟩
            show OwnF w5 0 _ L'
            rw [HLQ.out]
            exact OwnE.same (OwnE.less0 HO4.out) fun k e => hk.block k (HO4.out.lt k e).2 (hne k e)
          clear hw5 HO4 HW4
          go_wp2_with fail
          go_end0
          exact ⟨rfl, _, HFIN.out⟩
      · refine step_build_own elF rfl _ rfl (n, ⟨xb, xs⟩) rfl ?_; intro wn g10 HX' HBn; (try replace HO1 : Hid _ := HO1.out.below HBn.out); (try replace HO3 : Hid _ := HO3.out.below HBn.out); clear HX; have HX := HX'; clear HX'; replace HW : Hid (Below w1.heap.size w1 wn) := HW.out.trans (HBn.out.mono HW.out.size); clear HBn; have hcn := cell_below HW.out HC1.out
        simp only [Act.put, List.setIfInBounds_toArray, List.set_cons_zero, List.set_cons_succ]
        refine hK.out _ _ (⟨cell_below HW.out (HBX.out.one rfl), cell_below HW.out (HBX.out.one rfl), cell_below HW.out (HBX.out.one rfl)⟩) (fun hHeld => ?_)
        clear hK K
        refine wpAnyH_ready (rs := [5]) (by kernel_rfl) (by simp) ?_
        refine AllReadyH.cons (o := { dst := some 33, op := .load 48 (.tmp 32), type := 48, pos := "chain.go:75", after := #[{ on := 4, ground := .data }], guard := none }) rfl (fun K hK => ?_) AllReadyH.nil
        go_simp
        skip
        go_simp
        refine hK.out _ _ (⟨cell_below HW.out (HBX.out.one rfl), cell_below HW.out (HBX.out.one rfl), cell_below HW.out (HBX.out.one rfl)⟩) (fun hHeld => ?_)
        clear hK K
        refine wpAnyH_take (i := 7) (oi := { dst := some 35, op := .slice 48 (.tmp 33) none (some (.tmp 34)) none, type := 48, pos := "chain.go:75", after := #[{ on := 5, ground := .data }, { on := 6, ground := .data }], guard := none }) (v := .slice a P c) rfl (by kernel_rfl) (by kernel_rfl) (by kernel_rfl) (fun _ _ _ h => h) (Or.inl ⟨by rfl, ?_⟩) (by assumption) ?_
        · intro _ _; go_simp
        simp only [Act.put, List.setIfInBounds_toArray, List.set_cons_zero, List.set_cons_succ]
        refine wpAnyH_ready (rs := [8]) (by kernel_rfl) (by simp) ?_
        refine AllReadyH.cons (o := { dst := some 36, op := .call { callee := .builtin Go.Builtin.append, args := #[.tmp 29, .tmp 35], argTypes := #[48, 48] }, type := 48, pos := "chain.go:75", after := #[{ on := 1, ground := .data }, { on := 7, ground := .data }], guard := none }) rfl (fun K hK => ?_) AllReadyH.nil
        refine step_append_e elF rfl _ _ rfl w1.heap.size _ [] rfl HO1.out a P c (L.take P) rfl (HCA.out _ HW.out) (by have := HLA.out; simp only [List.length_nil]; omega) HW.out.size ?_; intro v3 wn HO3' HG3 _; rw [List.nil_append] at HO3'; (try replace HX : Hid _ := HX.out.later fun b' o' _ e => HG3.out.5 b' (HX.out.lt1 e (by omega) (by decide)) fun e2 => own_ne HO1.out HX.out (by decide) (by injection e with e; injection e with e _ _; injection e2 with e2; rw [e]; exact e2)); replace HW : Hid (Below w1.heap.size w1 wn) := HW.out.grown HG3.out HW.out.size fun k e => (HO1.out.lt k e).1; clear HG3 HO3; have HO3 := HO3'; clear HO3'; have hcn := cell_below HW.out HC1.out; obtain ⟨a3, c3, hv3, _⟩ := HO3.out.els; obtain ⟨n3, hn3⟩ : ∃ n, n = (L.take P).length := ⟨_, rfl⟩; rw [← hn3] at hv3; clear hn3; subst hv3
        simp only [Act.put, List.setIfInBounds_toArray, List.set_cons_zero, List.set_cons_succ]
        refine hK.out _ _ (⟨cell_below HW.out (HBX.out.one rfl), cell_below HW.out (HBX.out.one rfl), cell_below HW.out (HBX.out.one rfl)⟩) (fun hHeld => ?_)
        clear hK K
        refine wpAnyH_ready (rs := [11]) (by kernel_rfl) (by simp) ?_
        refine AllReadyH.cons (o := { dst := some 39, op := .call { callee := .builtin Go.Builtin.append, args := #[.tmp 36, .tmp 38], argTypes := #[48, 48] }, type := 48, pos := "chain.go:75", after := #[{ on := 8, ground := .data }, { on := 10, ground := .data }, { on := 8, ground := .chain }], guard := none }) rfl (fun K hK => ?_) AllReadyH.nil
        refine step_append_e elF rfl _ _ rfl w1.heap.size _ (L.take P) rfl HO3.out _ 1 1 [(n, ⟨xb, xs⟩)] rfl HX.out (by have := HLA.out; omega) HW.out.size ?_; intro v5 wn HO5 HG5 _; replace HW : Hid (Below w1.heap.size w1 wn) := HW.out.grown HG5.out HW.out.size fun k e => (HO3.out.lt k e).1; clear HG5; have hcn := cell_below HW.out HC1.out; obtain ⟨a5, c5, hv5, _⟩ := HO5.out.els; obtain ⟨n5, hn5⟩ : ∃ n', n' = (L.take P ++ [(n, (⟨xb, xs⟩ : Fl))]).length := ⟨_, rfl⟩; rw [← hn5] at hv5; clear hn5; subst hv5
        simp only [Act.put, List.setIfInBounds_toArray, List.set_cons_zero, List.set_cons_succ]
        refine hK.out _ _ (⟨cell_below HW.out (HBX.out.one rfl), cell_below HW.out (HBX.out.one rfl), cell_below HW.out (HBX.out.one rfl)⟩) (fun hHeld => ?_)
        clear hK K
        refine wpAnyH_ready (rs := [13]) (by kernel_rfl) (by simp) ?_
        refine AllReadyH.cons (o := { dst := some 41, op := .call { callee := .builtin Go.Builtin.append, args := #[.tmp 39, .tmp 40], argTypes := #[48, 48] }, type := 48, pos := "chain.go:75", after := #[{ on := 11, ground := .data }, { on := 12, ground := .data }, { on := 11, ground := .chain }], guard := none }) rfl (fun K hK => ?_) AllReadyH.nil
        refine step_append_e elF rfl _ _ rfl w1.heap.size _ (L.take P ++ [(n, (⟨xb, xs⟩ : Fl))]) rfl HO5.out adr (z - (P + 1)) (c - (P + 1)) (L.drop (P + 1)) rfl (HCB.out _ HW.out) (by have := HLA.out; simp only [List.length_append, List.length_cons, List.length_nil]; omega) HW.out.size ?_; intro v4 w4 HO4 HG4 _; have HW4 : Hid (Below w1.heap.size w1 w4) := HW.out.grown HG4.out HW.out.size fun k e => (HO5.out.lt k e).1; clear HG4; have hy4 := cell_below HW4.out HC1.out; have hf4 := (HR1.out.blk.below HW4.out HR1.out.blk.lt).frozen 0; obtain ⟨a4, c4, hv4, _⟩ := HO4.out.els; obtain ⟨n4, hn4⟩ : ∃ n', n' = (L.take P ++ [(n, (⟨xb, xs⟩ : Fl))] ++ L.drop (P + 1)).length := ⟨_, rfl⟩; rw [← hn4] at hv4; clear hn4; subst hv4; have HFK : Hid (∀ {j : Nat} {u : Value}, w4.cell? ⟨B0, j, none⟩ = some u → (w4.setCell ⟨m, 0, none⟩ (.slice a4 n4 c4)).cell? ⟨B0, j, none⟩ = some u) := fun h => ((Keep.refl m w4).setCell 0 _).cell HBM.out h
        simp only [Act.put, List.setIfInBounds_toArray, List.set_cons_zero, List.set_cons_succ]
        refine hK.out _ _ (⟨cell_below HW4.out (HBX.out.one rfl), cell_below HW4.out (HBX.out.one rfl), cell_below HW4.out (HBX.out.one rfl)⟩) (fun hHeld => ?_)
        clear hK K
        refine wpAnyH_take (i := 14) (oi := { dst := some 42, op := .nilCheck (.tmp 28), type := 0, pos := "chain.go:75", after := #[{ on := 0, ground := .data }, { on := 0, ground := .phase }, { on := 1, ground := .phase }, { on := 2, ground := .phase }, { on := 3, ground := .phase }, { on := 4, ground := .phase }, { on := 5, ground := .phase }, { on := 6, ground := .phase }, { on := 7, ground := .phase }, { on := 8, ground := .phase }, { on := 9, ground := .phase }, { on := 10, ground := .phase }, { on := 11, ground := .phase }, { on := 12, ground := .phase }, { on := 13, ground := .phase }], guard := none }) (v := ?_) rfl (by kernel_rfl) (by kernel_rfl) (by kernel_rfl) (fun _ _ _ h => h) (Or.inl ⟨by rfl, ?_⟩) (by assumption) ?_
        rotate_left
        · intro _ _; go_simp; first | done | with_reducible rfl
        simp only [Act.put, List.setIfInBounds_toArray, List.set_cons_zero, List.set_cons_succ]
        refine wpAnyH_take (i := 15) (oi := { dst := some 43, op := .fieldAddr 50 (.tmp 42) 0, type := 0, pos := "chain.go:75", after := #[{ on := 14, ground := .data }, { on := 0, ground := .phase }, { on := 1, ground := .phase }, { on := 2, ground := .phase }, { on := 3, ground := .phase }, { on := 4, ground := .phase }, { on := 5, ground := .phase }, { on := 6, ground := .phase }, { on := 7, ground := .phase }, { on := 8, ground := .phase }, { on := 9, ground := .phase }, { on := 10, ground := .phase }, { on := 11, ground := .phase }, { on := 12, ground := .phase }, { on := 13, ground := .phase }], guard := none }) (v := ?_) rfl (by kernel_rfl) (by kernel_rfl) (by kernel_rfl) (fun _ _ _ h => h) (Or.inl ⟨by rfl, ?_⟩) (by assumption) ?_
        rotate_left
        · intro _ _; go_simp; first | done | with_reducible rfl
        simp only [Act.put, List.setIfInBounds_toArray, List.set_cons_zero, List.set_cons_succ]
        refine wpAnyH_ready (rs := [16]) (by kernel_rfl) (by simp) ?_
        refine AllReadyH.cons (o := { dst := none, op := .store 48 (.tmp 43) (.tmp 41), type := 0, pos := "chain.go:75", after := #[{ on := 15, ground := .data }, { on := 13, ground := .data }, { on := 13, ground := .chain }, { on := 0, ground := .phase }, { on := 1, ground := .phase }, { on := 2, ground := .phase }, { on := 3, ground := .phase }, { on := 4, ground := .phase }, { on := 5, ground := .phase }, { on := 6, ground := .phase }, { on := 7, ground := .phase }, { on := 8, ground := .phase }, { on := 9, ground := .phase }, { on := 10, ground := .phase }, { on := 11, ground := .phase }, { on := 12, ground := .phase }, { on := 13, ground := .phase }], guard := none }) rfl (fun K hK => ?_) AllReadyH.nil
        go_simp
        skip
        go_simp
        refine hK.out _ _ (⟨HFK.out (cell_below HW4.out (HBX.out.one rfl)), HFK.out (cell_below HW4.out (HBX.out.one rfl)), HFK.out (cell_below HW4.out (HBX.out.one rfl))⟩) (fun hHeld => ?_)
        clear hK K
        refine wpAnyH_done (by kernel_rfl) ?_ _
        refine NoPanic.normal ?_
        clear hHeld hy4 hf4 HFK
        generalize hw5 : World.setCell w4 _ _ = w5
        have HFIN : Hid (RkAt w5 m (.slice a4 n4 c4) ⟨L', fuse, dark, ops⟩ ∧ Keep m w w5 ∧ Mvd w (.slice a z c) (.slice a4 n4 c4)) := by
          have hk : Keep m w4 w5 := by rw [← hw5]; exact (Keep.refl _ _).setCell _ _
          have hb5 : Blk w5 m [.slice a4 n4 c4, .int .i64 fuse, .bool dark, .int .i64 ops] := by rw [← hw5]; exact (HR1.out.blk.below HW4.out HR1.out.blk.lt).set 0 _
          have hm : m < w1.heap.size := HR1.out.blk.lt
          have hne : ∀ k, (Value.slice a4 n4 c4).ownBlock = some k → k ≠ m := fun k e => by have := (HO4.out.lt k e).1; omega
          have hs1 := HB1.out.size
          refine ⟨⟨hb5, ?_, hne⟩, (Keep.of_below (HB1.out.trans (HW4.out.mono hs1))).trans hk, fun k e => .inr (by have := (HO4.out.lt k e).1; omega)⟩
          show OwnF w5 0 _ L'
          rw [HLQ.out]
          exact OwnE.same (OwnE.less0 HO4.out) fun k e => hk.block k (HO4.out.lt k e).2 (hne k e)
        clear hw5 HO4 HW4
        go_wp2_with fail
        go_end0
        exact ⟨rfl, _, HFIN.out⟩
    · go_simp
      skip
      go_simp
      refine hK.out _ _ (⟨cell_below HW.out (HBX.out.one rfl), cell_below HW.out (HBX.out.one rfl), cell_below HW.out (HBX.out.one rfl)⟩) (fun hHeld => ?_)
      clear hK K
      refine wpAnyH_take (i := 7) (oi := { dst := some 35, op := .slice 48 (.tmp 33) none (some (.tmp 34)) none, type := 48, pos := "chain.go:75", after := #[{ on := 5, ground := .data }, { on := 6, ground := .data }], guard := none }) (v := .slice a P c) rfl (by kernel_rfl) (by kernel_rfl) (by kernel_rfl) (fun _ _ _ h => h) (Or.inl ⟨by rfl, ?_⟩) (by assumption) ?_
      · intro _ _; go_simp
      simp only [Act.put, List.setIfInBounds_toArray, List.set_cons_zero, List.set_cons_succ]
      refine wpAnyH_ready (rs := [1, 10]) (by kernel_rfl) (by simp) ?_
      refine (AllReadyH.cons (o := { dst := some 29, op := .buildSlice 48 0 #[], type := 48, pos := "chain.go:75", after := #[], guard := none }) rfl (fun K hK => ?_) (AllReadyH.cons (o := { dst := some 38, op := .buildSlice 48 1 #[(0, .tmp 37)], type := 48, pos := "chain.go:75", after := #[{ on := 9, ground := .data }], guard := none }) rfl (fun K hK => ?_) AllReadyH.nil))
      · refine step_build_none elF rfl rfl w1.heap.size HW.out.size ?_; intro wn g1 HO1' HBn; (try replace HX : Hid _ := HX.out.below HBn.out); clear HO1; have HO1 := HO1'; clear HO1'; replace HW : Hid (Below w1.heap.size w1 wn) := HW.out.trans (HBn.out.mono HW.out.size); clear HBn; have hcn := cell_below HW.out HC1.out
        simp only [Act.put, List.setIfInBounds_toArray, List.set_cons_zero, List.set_cons_succ]
        refine hK.out _ _ (⟨cell_below HW.out (HBX.out.one rfl), cell_below HW.out (HBX.out.one rfl), cell_below HW.out (HBX.out.one rfl)⟩) (fun hHeld => ?_)
        clear hK K
        refine wpAnyH_ready (rs := [8, 10]) (by kernel_rfl) (by simp) ?_
        refine (AllReadyH.cons (o := { dst := some 36, op := .call { callee := .builtin Go.Builtin.append, args := #[.tmp 29, .tmp 35], argTypes := #[48, 48] }, type := 48, pos := "chain.go:75", after := #[{ on := 1, ground := .data }, { on := 7, ground := .data }], guard := none }) rfl (fun K hK => ?_) (AllReadyH.cons (o := { dst := some 38, op := .buildSlice 48 1 #[(0, .tmp 37)], type := 48, pos := "chain.go:75", after := #[{ on := 9, ground := .data }], guard := none }) rfl (fun K hK => ?_) AllReadyH.nil))
        · refine step_append_e elF rfl _ _ rfl w1.heap.size _ [] rfl HO1.out a P c (L.take P) rfl (HCA.out _ HW.out) (by have := HLA.out; simp only [List.length_nil]; omega) HW.out.size ?_; intro v3 wn HO3' HG3 _; rw [List.nil_append] at HO3'; (try replace HX : Hid _ := HX.out.later fun b' o' _ e => HG3.out.5 b' (HX.out.lt1 e (by omega) (by decide)) fun e2 => own_ne HO1.out HX.out (by decide) (by injection e with e; injection e with e _ _; injection e2 with e2; rw [e]; exact e2)); replace HW : Hid (Below w1.heap.size w1 wn) := HW.out.grown HG3.out HW.out.size fun k e => (HO1.out.lt k e).1; clear HG3 HO3; have HO3 := HO3'; clear HO3'; have hcn := cell_below HW.out HC1.out; obtain ⟨a3, c3, hv3, _⟩ := HO3.out.els; obtain ⟨n3, hn3⟩ : ∃ n, n = (L.take P).length := ⟨_, rfl⟩; rw [← hn3] at hv3; clear hn3; subst hv3
          simp only [Act.put, List.setIfInBounds_toArray, List.set_cons_zero, List.set_cons_succ]
          refine hK.out _ _ (⟨cell_below HW.out (HBX.out.one rfl), cell_below HW.out (HBX.out.one rfl), cell_below HW.out (HBX.out.one rfl)⟩) (fun hHeld => ?_)
          clear hK K
          refine wpAnyH_ready (rs := [10]) (by kernel_rfl) (by simp) ?_
          refine AllReadyH.cons (o := { dst := some 38, op := .buildSlice 48 1 #[(0, .tmp 37)], type := 48, pos := "chain.go:75", after := #[{ on := 9, ground := .data }], guard := none }) rfl (fun K hK => ?_) AllReadyH.nil
          refine step_build_own elF rfl _ rfl (n, ⟨xb, xs⟩) rfl ?_; intro wn g10 HX' HBn; (try replace HO1 : Hid _ := HO1.out.below HBn.out); (try replace HO3 : Hid _ := HO3.out.below HBn.out); clear HX; have HX := HX'; clear HX'; replace HW : Hid (Below w1.heap.size w1 wn) := HW.out.trans (HBn.out.mono HW.out.size); clear HBn; have hcn := cell_below HW.out HC1.out
          simp only [Act.put, List.setIfInBounds_toArray, List.set_cons_zero, List.set_cons_succ]
          refine hK.out _ _ (⟨cell_below HW.out (HBX.out.one rfl), cell_below HW.out (HBX.out.one rfl), cell_below HW.out (HBX.out.one rfl)⟩) (fun hHeld => ?_)
          clear hK K
          refine wpAnyH_ready (rs := [11]) (by kernel_rfl) (by simp) ?_
          refine AllReadyH.cons (o := { dst := some 39, op := .call { callee := .builtin Go.Builtin.append, args := #[.tmp 36, .tmp 38], argTypes := #[48, 48] }, type := 48, pos := "chain.go:75", after := #[{ on := 8, ground := .data }, { on := 10, ground := .data }, { on := 8, ground := .chain }], guard := none }) rfl (fun K hK => ?_) AllReadyH.nil
          refine step_append_e elF rfl _ _ rfl w1.heap.size _ (L.take P) rfl HO3.out _ 1 1 [(n, ⟨xb, xs⟩)] rfl HX.out (by have := HLA.out; omega) HW.out.size ?_; intro v5 wn HO5 HG5 _; replace HW : Hid (Below w1.heap.size w1 wn) := HW.out.grown HG5.out HW.out.size fun k e => (HO3.out.lt k e).1; clear HG5; have hcn := cell_below HW.out HC1.out; obtain ⟨a5, c5, hv5, _⟩ := HO5.out.els; obtain ⟨n5, hn5⟩ : ∃ n', n' = (L.take P ++ [(n, (⟨xb, xs⟩ : Fl))]).length := ⟨_, rfl⟩; rw [← hn5] at hv5; clear hn5; subst hv5
          simp only [Act.put, List.setIfInBounds_toArray, List.set_cons_zero, List.set_cons_succ]
          refine hK.out _ _ (⟨cell_below HW.out (HBX.out.one rfl), cell_below HW.out (HBX.out.one rfl), cell_below HW.out (HBX.out.one rfl)⟩) (fun hHeld => ?_)
          clear hK K
          refine wpAnyH_ready (rs := [13]) (by kernel_rfl) (by simp) ?_
          refine AllReadyH.cons (o := { dst := some 41, op := .call { callee := .builtin Go.Builtin.append, args := #[.tmp 39, .tmp 40], argTypes := #[48, 48] }, type := 48, pos := "chain.go:75", after := #[{ on := 11, ground := .data }, { on := 12, ground := .data }, { on := 11, ground := .chain }], guard := none }) rfl (fun K hK => ?_) AllReadyH.nil
          refine step_append_e elF rfl _ _ rfl w1.heap.size _ (L.take P ++ [(n, (⟨xb, xs⟩ : Fl))]) rfl HO5.out adr (z - (P + 1)) (c - (P + 1)) (L.drop (P + 1)) rfl (HCB.out _ HW.out) (by have := HLA.out; simp only [List.length_append, List.length_cons, List.length_nil]; omega) HW.out.size ?_; intro v4 w4 HO4 HG4 _; have HW4 : Hid (Below w1.heap.size w1 w4) := HW.out.grown HG4.out HW.out.size fun k e => (HO5.out.lt k e).1; clear HG4; have hy4 := cell_below HW4.out HC1.out; have hf4 := (HR1.out.blk.below HW4.out HR1.out.blk.lt).frozen 0; obtain ⟨a4, c4, hv4, _⟩ := HO4.out.els; obtain ⟨n4, hn4⟩ : ∃ n', n' = (L.take P ++ [(n, (⟨xb, xs⟩ : Fl))] ++ L.drop (P + 1)).length := ⟨_, rfl⟩; rw [← hn4] at hv4; clear hn4; subst hv4; have HFK : Hid (∀ {j : Nat} {u : Value}, w4.cell? ⟨B0, j, none⟩ = some u → (w4.setCell ⟨m, 0, none⟩ (.slice a4 n4 c4)).cell? ⟨B0, j, none⟩ = some u) := fun h => ((Keep.refl m w4).setCell 0 _).cell HBM.out h
          simp only [Act.put, List.setIfInBounds_toArray, List.set_cons_zero, List.set_cons_succ]
          refine hK.out _ _ (⟨cell_below HW4.out (HBX.out.one rfl), cell_below HW4.out (HBX.out.one rfl), cell_below HW4.out (HBX.out.one rfl)⟩) (fun hHeld => ?_)
          clear hK K
          refine wpAnyH_take (i := 14) (oi := { dst := some 42, op := .nilCheck (.tmp 28), type := 0, pos := "chain.go:75", after := #[{ on := 0, ground := .data }, { on := 0, ground := .phase }, { on := 1, ground := .phase }, { on := 2, ground := .phase }, { on := 3, ground := .phase }, { on := 4, ground := .phase }, { on := 5, ground := .phase }, { on := 6, ground := .phase }, { on := 7, ground := .phase }, { on := 8, ground := .phase }, { on := 9, ground := .phase }, { on := 10, ground := .phase }, { on := 11, ground := .phase }, { on := 12, ground := .phase }, { on := 13, ground := .phase }], guard := none }) (v := ?_) rfl (by kernel_rfl) (by kernel_rfl) (by kernel_rfl) (fun _ _ _ h => h) (Or.inl ⟨by rfl, ?_⟩) (by assumption) ?_
          rotate_left
          · intro _ _; go_simp; first | done | with_reducible rfl
          simp only [Act.put, List.setIfInBounds_toArray, List.set_cons_zero, List.set_cons_succ]
          refine wpAnyH_take (i := 15) (oi := { dst := some 43, op := .fieldAddr 50 (.tmp 42) 0, type := 0, pos := "chain.go:75", after := #[{ on := 14, ground := .data }, { on := 0, ground := .phase }, { on := 1, ground := .phase }, { on := 2, ground := .phase }, { on := 3, ground := .phase }, { on := 4, ground := .phase }, { on := 5, ground := .phase }, { on := 6, ground := .phase }, { on := 7, ground := .phase }, { on := 8, ground := .phase }, { on := 9, ground := .phase }, { on := 10, ground := .phase }, { on := 11, ground := .phase }, { on := 12, ground := .phase }, { on := 13, ground := .phase }], guard := none }) (v := ?_) rfl (by kernel_rfl) (by kernel_rfl) (by kernel_rfl) (fun _ _ _ h => h) (Or.inl ⟨by rfl, ?_⟩) (by assumption) ?_
          rotate_left
          · intro _ _; go_simp; first | done | with_reducible rfl
          simp only [Act.put, List.setIfInBounds_toArray, List.set_cons_zero, List.set_cons_succ]
          refine wpAnyH_ready (rs := [16]) (by kernel_rfl) (by simp) ?_
          refine AllReadyH.cons (o := { dst := none, op := .store 48 (.tmp 43) (.tmp 41), type := 0, pos := "chain.go:75", after := #[{ on := 15, ground := .data }, { on := 13, ground := .data }, { on := 13, ground := .chain }, { on := 0, ground := .phase }, { on := 1, ground := .phase }, { on := 2, ground := .phase }, { on := 3, ground := .phase }, { on := 4, ground := .phase }, { on := 5, ground := .phase }, { on := 6, ground := .phase }, { on := 7, ground := .phase }, { on := 8, ground := .phase }, { on := 9, ground := .phase }, { on := 10, ground := .phase }, { on := 11, ground := .phase }, { on := 12, ground := .phase }, { on := 13, ground := .phase }], guard := none }) rfl (fun K hK => ?_) AllReadyH.nil
          go_simp
          skip
          go_simp
          refine hK.out _ _ (⟨HFK.out (cell_below HW4.out (HBX.out.one rfl)), HFK.out (cell_below HW4.out (HBX.out.one rfl)), HFK.out (cell_below HW4.out (HBX.out.one rfl))⟩) (fun hHeld => ?_)
          clear hK K
          refine wpAnyH_done (by kernel_rfl) ?_ _
          refine NoPanic.normal ?_
          clear hHeld hy4 hf4 HFK
          generalize hw5 : World.setCell w4 _ _ = w5
          have HFIN : Hid (RkAt w5 m (.slice a4 n4 c4) ⟨L', fuse, dark, ops⟩ ∧ Keep m w w5 ∧ Mvd w (.slice a z c) (.slice a4 n4 c4)) := by
            have hk : Keep m w4 w5 := by rw [← hw5]; exact (Keep.refl _ _).setCell _ _
            have hb5 : Blk w5 m [.slice a4 n4 c4, .int .i64 fuse, .bool dark, .int .i64 ops] := by rw [← hw5]; exact (HR1.out.blk.below HW4.out HR1.out.blk.lt).set 0 _
            have hm : m < w1.heap.size := HR1.out.blk.lt
            have hne : ∀ k, (Value.slice a4 n4 c4).ownBlock = some k → k ≠ m := fun k e => by have := (HO4.out.lt k e).1; omega
            have hs1 := HB1.out.size
            refine ⟨⟨hb5, ?_, hne⟩, (Keep.of_below (HB1.out.trans (HW4.out.mono hs1))).trans hk, fun k e => .inr (by have := (HO4.out.lt k e).1; omega)⟩
            show OwnF w5 0 _ L'
            rw [HLQ.out]
            exact OwnE.same (OwnE.less0 HO4.out) fun k e => hk.block k (HO4.out.lt k e).2 (hne k e)
          clear hw5 HO4 HW4
          go_wp2_with fail
          go_end0
          exact ⟨rfl, _, HFIN.out⟩
        · refine step_build_own elF rfl _ rfl (n, ⟨xb, xs⟩) rfl ?_; intro wn g10 HX' HBn; (try replace HO1 : Hid _ := HO1.out.below HBn.out); (try replace HO3 : Hid _ := HO3.out.below HBn.out); clear HX; have HX := HX'; clear HX'; replace HW : Hid (Below w1.heap.size w1 wn) := HW.out.trans (HBn.out.mono HW.out.size); clear HBn; have hcn := cell_below HW.out HC1.out
          simp only [Act.put, List.setIfInBounds_toArray, List.set_cons_zero, List.set_cons_succ]
          refine hK.out _ _ (⟨cell_below HW.out (HBX.out.one rfl), cell_below HW.out (HBX.out.one rfl), cell_below HW.out (HBX.out.one rfl)⟩) (fun hHeld => ?_)
          clear hK K
          refine wpAnyH_ready (rs := [8]) (by kernel_rfl) (by simp) ?_
          refine AllReadyH.cons (o := { dst := some 36, op := .call { callee := .builtin Go.Builtin.append, args := #[.tmp 29, .tmp 35], argTypes := #[48, 48] }, type := 48, pos := "chain.go:75", after := #[{ on := 1, ground := .data }, { on := 7, ground := .data }], guard := none }) rfl (fun K hK => ?_) AllReadyH.nil
          refine step_append_e elF rfl _ _ rfl w1.heap.size _ [] rfl HO1.out a P c (L.take P) rfl (HCA.out _ HW.out) (by have := HLA.out; simp only [List.length_nil]; omega) HW.out.size ?_; intro v3 wn HO3' HG3 _; rw [List.nil_append] at HO3'; (try replace HX : Hid _ := HX.out.later fun b' o' _ e => HG3.out.5 b' (HX.out.lt1 e (by omega) (by decide)) fun e2 => own_ne HO1.out HX.out (by decide) (by injection e with e; injection e with e _ _; injection e2 with e2; rw [e]; exact e2)); replace HW : Hid (Below w1.heap.size w1 wn) := HW.out.grown HG3.out HW.out.size fun k e => (HO1.out.lt k e).1; clear HG3 HO3; have HO3 := HO3'; clear HO3'; have hcn := cell_below HW.out HC1.out; obtain ⟨a3, c3, hv3, _⟩ := HO3.out.els; obtain ⟨n3, hn3⟩ : ∃ n, n = (L.take P).length := ⟨_, rfl⟩; rw [← hn3] at hv3; clear hn3; subst hv3
          simp only [Act.put, List.setIfInBounds_toArray, List.set_cons_zero, List.set_cons_succ]
          refine hK.out _ _ (⟨cell_below HW.out (HBX.out.one rfl), cell_below HW.out (HBX.out.one rfl), cell_below HW.out (HBX.out.one rfl)⟩) (fun hHeld => ?_)
          clear hK K
          refine wpAnyH_ready (rs := [11]) (by kernel_rfl) (by simp) ?_
          refine AllReadyH.cons (o := { dst := some 39, op := .call { callee := .builtin Go.Builtin.append, args := #[.tmp 36, .tmp 38], argTypes := #[48, 48] }, type := 48, pos := "chain.go:75", after := #[{ on := 8, ground := .data }, { on := 10, ground := .data }, { on := 8, ground := .chain }], guard := none }) rfl (fun K hK => ?_) AllReadyH.nil
          refine step_append_e elF rfl _ _ rfl w1.heap.size _ (L.take P) rfl HO3.out _ 1 1 [(n, ⟨xb, xs⟩)] rfl HX.out (by have := HLA.out; omega) HW.out.size ?_; intro v5 wn HO5 HG5 _; replace HW : Hid (Below w1.heap.size w1 wn) := HW.out.grown HG5.out HW.out.size fun k e => (HO3.out.lt k e).1; clear HG5; have hcn := cell_below HW.out HC1.out; obtain ⟨a5, c5, hv5, _⟩ := HO5.out.els; obtain ⟨n5, hn5⟩ : ∃ n', n' = (L.take P ++ [(n, (⟨xb, xs⟩ : Fl))]).length := ⟨_, rfl⟩; rw [← hn5] at hv5; clear hn5; subst hv5
          simp only [Act.put, List.setIfInBounds_toArray, List.set_cons_zero, List.set_cons_succ]
          refine hK.out _ _ (⟨cell_below HW.out (HBX.out.one rfl), cell_below HW.out (HBX.out.one rfl), cell_below HW.out (HBX.out.one rfl)⟩) (fun hHeld => ?_)
          clear hK K
          refine wpAnyH_ready (rs := [13]) (by kernel_rfl) (by simp) ?_
          refine AllReadyH.cons (o := { dst := some 41, op := .call { callee := .builtin Go.Builtin.append, args := #[.tmp 39, .tmp 40], argTypes := #[48, 48] }, type := 48, pos := "chain.go:75", after := #[{ on := 11, ground := .data }, { on := 12, ground := .data }, { on := 11, ground := .chain }], guard := none }) rfl (fun K hK => ?_) AllReadyH.nil
          refine step_append_e elF rfl _ _ rfl w1.heap.size _ (L.take P ++ [(n, (⟨xb, xs⟩ : Fl))]) rfl HO5.out adr (z - (P + 1)) (c - (P + 1)) (L.drop (P + 1)) rfl (HCB.out _ HW.out) (by have := HLA.out; simp only [List.length_append, List.length_cons, List.length_nil]; omega) HW.out.size ?_; intro v4 w4 HO4 HG4 _; have HW4 : Hid (Below w1.heap.size w1 w4) := HW.out.grown HG4.out HW.out.size fun k e => (HO5.out.lt k e).1; clear HG4; have hy4 := cell_below HW4.out HC1.out; have hf4 := (HR1.out.blk.below HW4.out HR1.out.blk.lt).frozen 0; obtain ⟨a4, c4, hv4, _⟩ := HO4.out.els; obtain ⟨n4, hn4⟩ : ∃ n', n' = (L.take P ++ [(n, (⟨xb, xs⟩ : Fl))] ++ L.drop (P + 1)).length := ⟨_, rfl⟩; rw [← hn4] at hv4; clear hn4; subst hv4; have HFK : Hid (∀ {j : Nat} {u : Value}, w4.cell? ⟨B0, j, none⟩ = some u → (w4.setCell ⟨m, 0, none⟩ (.slice a4 n4 c4)).cell? ⟨B0, j, none⟩ = some u) := fun h => ((Keep.refl m w4).setCell 0 _).cell HBM.out h
          simp only [Act.put, List.setIfInBounds_toArray, List.set_cons_zero, List.set_cons_succ]
          refine hK.out _ _ (⟨cell_below HW4.out (HBX.out.one rfl), cell_below HW4.out (HBX.out.one rfl), cell_below HW4.out (HBX.out.one rfl)⟩) (fun hHeld => ?_)
          clear hK K
          refine wpAnyH_take (i := 14) (oi := { dst := some 42, op := .nilCheck (.tmp 28), type := 0, pos := "chain.go:75", after := #[{ on := 0, ground := .data }, { on := 0, ground := .phase }, { on := 1, ground := .phase }, { on := 2, ground := .phase }, { on := 3, ground := .phase }, { on := 4, ground := .phase }, { on := 5, ground := .phase }, { on := 6, ground := .phase }, { on := 7, ground := .phase }, { on := 8, ground := .phase }, { on := 9, ground := .phase }, { on := 10, ground := .phase }, { on := 11, ground := .phase }, { on := 12, ground := .phase }, { on := 13, ground := .phase }], guard := none }) (v := ?_) rfl (by kernel_rfl) (by kernel_rfl) (by kernel_rfl) (fun _ _ _ h => h) (Or.inl ⟨by rfl, ?_⟩) (by assumption) ?_
          rotate_left
          · intro _ _; go_simp; first | done | with_reducible rfl
          simp only [Act.put, List.setIfInBounds_toArray, List.set_cons_zero, List.set_cons_succ]
          refine wpAnyH_take (i := 15) (oi := { dst := some 43, op := .fieldAddr 50 (.tmp 42) 0, type := 0, pos := "chain.go:75", after := #[{ on := 14, ground := .data }, { on := 0, ground := .phase }, { on := 1, ground := .phase }, { on := 2, ground := .phase }, { on := 3, ground := .phase }, { on := 4, ground := .phase }, { on := 5, ground := .phase }, { on := 6, ground := .phase }, { on := 7, ground := .phase }, { on := 8, ground := .phase }, { on := 9, ground := .phase }, { on := 10, ground := .phase }, { on := 11, ground := .phase }, { on := 12, ground := .phase }, { on := 13, ground := .phase }], guard := none }) (v := ?_) rfl (by kernel_rfl) (by kernel_rfl) (by kernel_rfl) (fun _ _ _ h => h) (Or.inl ⟨by rfl, ?_⟩) (by assumption) ?_
          rotate_left
          · intro _ _; go_simp; first | done | with_reducible rfl
          simp only [Act.put, List.setIfInBounds_toArray, List.set_cons_zero, List.set_cons_succ]
          refine wpAnyH_ready (rs := [16]) (by kernel_rfl) (by simp) ?_
          refine AllReadyH.cons (o := { dst := none, op := .store 48 (.tmp 43) (.tmp 41), type := 0, pos := "chain.go:75", after := #[{ on := 15, ground := .data }, { on := 13, ground := .data }, { on := 13, ground := .chain }, { on := 0, ground := .phase }, { on := 1, ground := .phase }, { on := 2, ground := .phase }, { on := 3, ground := .phase }, { on := 4, ground := .phase }, { on := 5, ground := .phase }, { on := 6, ground := .phase }, { on := 7, ground := .phase }, { on := 8, ground := .phase }, { on := 9, ground := .phase }, { on := 10, ground := .phase }, { on := 11, ground := .phase }, { on := 12, ground := .phase }, { on := 13, ground := .phase }], guard := none }) rfl (fun K hK => ?_) AllReadyH.nil
          go_simp
          skip
          go_simp
          refine hK.out _ _ (⟨HFK.out (cell_below HW4.out (HBX.out.one rfl)), HFK.out (cell_below HW4.out (HBX.out.one rfl)), HFK.out (cell_below HW4.out (HBX.out.one rfl))⟩) (fun hHeld => ?_)
          clear hK K
          refine wpAnyH_done (by kernel_rfl) ?_ _
          refine NoPanic.normal ?_
          clear hHeld hy4 hf4 HFK
          generalize hw5 : World.setCell w4 _ _ = w5
          have HFIN : Hid (RkAt w5 m (.slice a4 n4 c4) ⟨L', fuse, dark, ops⟩ ∧ Keep m w w5 ∧ Mvd w (.slice a z c) (.slice a4 n4 c4)) := by
            have hk : Keep m w4 w5 := by rw [← hw5]; exact (Keep.refl _ _).setCell _ _
            have hb5 : Blk w5 m [.slice a4 n4 c4, .int .i64 fuse, .bool dark, .int .i64 ops] := by rw [← hw5]; exact (HR1.out.blk.below HW4.out HR1.out.blk.lt).set 0 _
            have hm : m < w1.heap.size := HR1.out.blk.lt
            have hne : ∀ k, (Value.slice a4 n4 c4).ownBlock = some k → k ≠ m := fun k e => by have := (HO4.out.lt k e).1; omega
            have hs1 := HB1.out.size
            refine ⟨⟨hb5, ?_, hne⟩, (Keep.of_below (HB1.out.trans (HW4.out.mono hs1))).trans hk, fun k e => .inr (by have := (HO4.out.lt k e).1; omega)⟩
            show OwnF w5 0 _ L'
            rw [HLQ.out]
            exact OwnE.same (OwnE.less0 HO4.out) fun k e => hk.block k (HO4.out.lt k e).2 (hne k e)
          clear hw5 HO4 HW4
          go_wp2_with fail
          go_end0
          exact ⟨rfl, _, HFIN.out⟩
      · refine step_build_own elF rfl _ rfl (n, ⟨xb, xs⟩) rfl ?_; intro wn g10 HX' HBn; (try replace HO1 : Hid _ := HO1.out.below HBn.out); (try replace HO3 : Hid _ := HO3.out.below HBn.out); clear HX; have HX := HX'; clear HX'; replace HW : Hid (Below w1.heap.size w1 wn) := HW.out.trans (HBn.out.mono HW.out.size); clear HBn; have hcn := cell_below HW.out HC1.out
        simp only [Act.put, List.setIfInBounds_toArray, List.set_cons_zero, List.set_cons_succ]
        refine hK.out _ _ (⟨cell_below HW.out (HBX.out.one rfl), cell_below HW.out (HBX.out.one rfl), cell_below HW.out (HBX.out.one rfl)⟩) (fun hHeld => ?_)
        clear hK K
        refine wpAnyH_ready (rs := [1]) (by kernel_rfl) (by simp) ?_
        refine AllReadyH.cons (o := { dst := some 29, op := .buildSlice 48 0 #[], type := 48, pos := "chain.go:75", after := #[], guard := none }) rfl (fun K hK => ?_) AllReadyH.nil
        refine step_build_none elF rfl rfl w1.heap.size HW.out.size ?_; intro wn g1 HO1' HBn; (try replace HX : Hid _ := HX.out.below HBn.out); clear HO1; have HO1 := HO1'; clear HO1'; replace HW : Hid (Below w1.heap.size w1 wn) := HW.out.trans (HBn.out.mono HW.out.size); clear HBn; have hcn := cell_below HW.out HC1.out
        simp only [Act.put, List.setIfInBounds_toArray, List.set_cons_zero, List.set_cons_succ]
        refine hK.out _ _ (⟨cell_below HW.out (HBX.out.one rfl), cell_below HW.out (HBX.out.one rfl), cell_below HW.out (HBX.out.one rfl)⟩) (fun hHeld => ?_)
        clear hK K
        refine wpAnyH_ready (rs := [8]) (by kernel_rfl) (by simp) ?_
        refine AllReadyH.cons (o := { dst := some 36, op := .call { callee := .builtin Go.Builtin.append, args := #[.tmp 29, .tmp 35], argTypes := #[48, 48] }, type := 48, pos := "chain.go:75", after := #[{ on := 1, ground := .data }, { on := 7, ground := .data }], guard := none }) rfl (fun K hK => ?_) AllReadyH.nil
        refine step_append_e elF rfl _ _ rfl w1.heap.size _ [] rfl HO1.out a P c (L.take P) rfl (HCA.out _ HW.out) (by have := HLA.out; simp only [List.length_nil]; omega) HW.out.size ?_; intro v3 wn HO3' HG3 _; rw [List.nil_append] at HO3'; (try replace HX : Hid _ := HX.out.later fun b' o' _ e => HG3.out.5 b' (HX.out.lt1 e (by omega) (by decide)) fun e2 => own_ne HO1.out HX.out (by decide) (by injection e with e; injection e with e _ _; injection e2 with e2; rw [e]; exact e2)); replace HW : Hid (Below w1.heap.size w1 wn) := HW.out.grown HG3.out HW.out.size fun k e => (HO1.out.lt k e).1; clear HG3 HO3; have HO3 := HO3'; clear HO3'; have hcn := cell_below HW.out HC1.out; obtain ⟨a3, c3, hv3, _⟩ := HO3.out.els; obtain ⟨n3, hn3⟩ : ∃ n, n = (L.take P).length := ⟨_, rfl⟩; rw [← hn3] at hv3; clear hn3; subst hv3
        simp only [Act.put, List.setIfInBounds_toArray, List.set_cons_zero, List.set_cons_succ]
        refine hK.out _ _ (⟨cell_below HW.out (HBX.out.one rfl), cell_below HW.out (HBX.out.one rfl), cell_below HW.out (HBX.out.one rfl)⟩) (fun hHeld => ?_)
        clear hK K
        refine wpAnyH_ready (rs := [11]) (by kernel_rfl) (by simp) ?_
        refine AllReadyH.cons (o := { dst := some 39, op := .call { callee := .builtin Go.Builtin.append, args := #[.tmp 36, .tmp 38], argTypes := #[48, 48] }, type := 48, pos := "chain.go:75", after := #[{ on := 8, ground := .data }, { on := 10, ground := .data }, { on := 8, ground := .chain }], guard := none }) rfl (fun K hK => ?_) AllReadyH.nil
        refine step_append_e elF rfl _ _ rfl w1.heap.size _ (L.take P) rfl HO3.out _ 1 1 [(n, ⟨xb, xs⟩)] rfl HX.out (by have := HLA.out; omega) HW.out.size ?_; intro v5 wn HO5 HG5 _; replace HW : Hid (Below w1.heap.size w1 wn) := HW.out.grown HG5.out HW.out.size fun k e => (HO3.out.lt k e).1; clear HG5; have hcn := cell_below HW.out HC1.out; obtain ⟨a5, c5, hv5, _⟩ := HO5.out.els; obtain ⟨n5, hn5⟩ : ∃ n', n' = (L.take P ++ [(n, (⟨xb, xs⟩ : Fl))]).length := ⟨_, rfl⟩; rw [← hn5] at hv5; clear hn5; subst hv5
        simp only [Act.put, List.setIfInBounds_toArray, List.set_cons_zero, List.set_cons_succ]
        refine hK.out _ _ (⟨cell_below HW.out (HBX.out.one rfl), cell_below HW.out (HBX.out.one rfl), cell_below HW.out (HBX.out.one rfl)⟩) (fun hHeld => ?_)
        clear hK K
        refine wpAnyH_ready (rs := [13]) (by kernel_rfl) (by simp) ?_
        refine AllReadyH.cons (o := { dst := some 41, op := .call { callee := .builtin Go.Builtin.append, args := #[.tmp 39, .tmp 40], argTypes := #[48, 48] }, type := 48, pos := "chain.go:75", after := #[{ on := 11, ground := .data }, { on := 12, ground := .data }, { on := 11, ground := .chain }], guard := none }) rfl (fun K hK => ?_) AllReadyH.nil
        refine step_append_e elF rfl _ _ rfl w1.heap.size _ (L.take P ++ [(n, (⟨xb, xs⟩ : Fl))]) rfl HO5.out adr (z - (P + 1)) (c - (P + 1)) (L.drop (P + 1)) rfl (HCB.out _ HW.out) (by have := HLA.out; simp only [List.length_append, List.length_cons, List.length_nil]; omega) HW.out.size ?_; intro v4 w4 HO4 HG4 _; have HW4 : Hid (Below w1.heap.size w1 w4) := HW.out.grown HG4.out HW.out.size fun k e => (HO5.out.lt k e).1; clear HG4; have hy4 := cell_below HW4.out HC1.out; have hf4 := (HR1.out.blk.below HW4.out HR1.out.blk.lt).frozen 0; obtain ⟨a4, c4, hv4, _⟩ := HO4.out.els; obtain ⟨n4, hn4⟩ : ∃ n', n' = (L.take P ++ [(n, (⟨xb, xs⟩ : Fl))] ++ L.drop (P + 1)).length := ⟨_, rfl⟩; rw [← hn4] at hv4; clear hn4; subst hv4; have HFK : Hid (∀ {j : Nat} {u : Value}, w4.cell? ⟨B0, j, none⟩ = some u → (w4.setCell ⟨m, 0, none⟩ (.slice a4 n4 c4)).cell? ⟨B0, j, none⟩ = some u) := fun h => ((Keep.refl m w4).setCell 0 _).cell HBM.out h
        simp only [Act.put, List.setIfInBounds_toArray, List.set_cons_zero, List.set_cons_succ]
        refine hK.out _ _ (⟨cell_below HW4.out (HBX.out.one rfl), cell_below HW4.out (HBX.out.one rfl), cell_below HW4.out (HBX.out.one rfl)⟩) (fun hHeld => ?_)
        clear hK K
        refine wpAnyH_take (i := 14) (oi := { dst := some 42, op := .nilCheck (.tmp 28), type := 0, pos := "chain.go:75", after := #[{ on := 0, ground := .data }, { on := 0, ground := .phase }, { on := 1, ground := .phase }, { on := 2, ground := .phase }, { on := 3, ground := .phase }, { on := 4, ground := .phase }, { on := 5, ground := .phase }, { on := 6, ground := .phase }, { on := 7, ground := .phase }, { on := 8, ground := .phase }, { on := 9, ground := .phase }, { on := 10, ground := .phase }, { on := 11, ground := .phase }, { on := 12, ground := .phase }, { on := 13, ground := .phase }], guard := none }) (v := ?_) rfl (by kernel_rfl) (by kernel_rfl) (by kernel_rfl) (fun _ _ _ h => h) (Or.inl ⟨by rfl, ?_⟩) (by assumption) ?_
        rotate_left
        · intro _ _; go_simp; first | done | with_reducible rfl
        simp only [Act.put, List.setIfInBounds_toArray, List.set_cons_zero, List.set_cons_succ]
        refine wpAnyH_take (i := 15) (oi := { dst := some 43, op := .fieldAddr 50 (.tmp 42) 0, type := 0, pos := "chain.go:75", after := #[{ on := 14, ground := .data }, { on := 0, ground := .phase }, { on := 1, ground := .phase }, { on := 2, ground := .phase }, { on := 3, ground := .phase }, { on := 4, ground := .phase }, { on := 5, ground := .phase }, { on := 6, ground := .phase }, { on := 7, ground := .phase }, { on := 8, ground := .phase }, { on := 9, ground := .phase }, { on := 10, ground := .phase }, { on := 11, ground := .phase }, { on := 12, ground := .phase }, { on := 13, ground := .phase }], guard := none }) (v := ?_) rfl (by kernel_rfl) (by kernel_rfl) (by kernel_rfl) (fun _ _ _ h => h) (Or.inl ⟨by rfl, ?_⟩) (by assumption) ?_
        rotate_left
        · intro _ _; go_simp; first | done | with_reducible rfl
        simp only [Act.put, List.setIfInBounds_toArray, List.set_cons_zero, List.set_cons_succ]
        refine wpAnyH_ready (rs := [16]) (by kernel_rfl) (by simp) ?_
        refine AllReadyH.cons (o := { dst := none, op := .store 48 (.tmp 43) (.tmp 41), type := 0, pos := "chain.go:75", after := #[{ on := 15, ground := .data }, { on := 13, ground := .data }, { on := 13, ground := .chain }, { on := 0, ground := .phase }, { on := 1, ground := .phase }, { on := 2, ground := .phase }, { on := 3, ground := .phase }, { on := 4, ground := .phase }, { on := 5, ground := .phase }, { on := 6, ground := .phase }, { on := 7, ground := .phase }, { on := 8, ground := .phase }, { on := 9, ground := .phase }, { on := 10, ground := .phase }, { on := 11, ground := .phase }, { on := 12, ground := .phase }, { on := 13, ground := .phase }], guard := none }) rfl (fun K hK => ?_) AllReadyH.nil
        go_simp
        skip
        go_simp
        refine hK.out _ _ (⟨HFK.out (cell_below HW4.out (HBX.out.one rfl)), HFK.out (cell_below HW4.out (HBX.out.one rfl)), HFK.out (cell_below HW4.out (HBX.out.one rfl))⟩) (fun hHeld => ?_)
        clear hK K
        refine wpAnyH_done (by kernel_rfl) ?_ _
        refine NoPanic.normal ?_
        clear hHeld hy4 hf4 HFK
        generalize hw5 : World.setCell w4 _ _ = w5
        have HFIN : Hid (RkAt w5 m (.slice a4 n4 c4) ⟨L', fuse, dark, ops⟩ ∧ Keep m w w5 ∧ Mvd w (.slice a z c) (.slice a4 n4 c4)) := by
          have hk : Keep m w4 w5 := by rw [← hw5]; exact (Keep.refl _ _).setCell _ _
          have hb5 : Blk w5 m [.slice a4 n4 c4, .int .i64 fuse, .bool dark, .int .i64 ops] := by rw [← hw5]; exact (HR1.out.blk.below HW4.out HR1.out.blk.lt).set 0 _
          have hm : m < w1.heap.size := HR1.out.blk.lt
          have hne : ∀ k, (Value.slice a4 n4 c4).ownBlock = some k → k ≠ m := fun k e => by have := (HO4.out.lt k e).1; omega
          have hs1 := HB1.out.size
          refine ⟨⟨hb5, ?_, hne⟩, (Keep.of_below (HB1.out.trans (HW4.out.mono hs1))).trans hk, fun k e => .inr (by have := (HO4.out.lt k e).1; omega)⟩
          show OwnF w5 0 _ L'
          rw [HLQ.out]
          exact OwnE.same (OwnE.less0 HO4.out) fun k e => hk.block k (HO4.out.lt k e).2 (hne k e)
        clear hw5 HO4 HW4
        go_wp2_with fail
        go_end0
        exact ⟨rfl, _, HFIN.out⟩
    · refine step_build_own elF rfl _ rfl (n, ⟨xb, xs⟩) rfl ?_; intro wn g10 HX' HBn; (try replace HO1 : Hid _ := HO1.out.below HBn.out); (try replace HO3 : Hid _ := HO3.out.below HBn.out); clear HX; have HX := HX'; clear HX'; replace HW : Hid (Below w1.heap.size w1 wn) := HW.out.trans (HBn.out.mono HW.out.size); clear HBn; have hcn := cell_below HW.out HC1.out
      simp only [Act.put, List.setIfInBounds_toArray, List.set_cons_zero, List.set_cons_succ]
      refine hK.out _ _ (⟨cell_below HW.out (HBX.out.one rfl), cell_below HW.out (HBX.out.one rfl), cell_below HW.out (HBX.out.one rfl)⟩) (fun hHeld => ?_)
      clear hK K
      refine wpAnyH_ready (rs := [1, 5]) (by kernel_rfl) (by simp) ?_
      refine (AllReadyH.cons (o := { dst := some 29, op := .buildSlice 48 0 #[], type := 48, pos := "chain.go:75", after := #[], guard := none }) rfl (fun K hK => ?_) (AllReadyH.cons (o := { dst := some 33, op := .load 48 (.tmp 32), type := 48, pos := "chain.go:75", after := #[{ on := 4, ground := .data }], guard := none }) rfl (fun K hK => ?_) AllReadyH.nil))
      · refine step_build_none elF rfl rfl w1.heap.size HW.out.size ?_; intro wn g1 HO1' HBn; (try replace HX : Hid _ := HX.out.below HBn.out); clear HO1; have HO1 := HO1'; clear HO1'; replace HW : Hid (Below w1.heap.size w1 wn) := HW.out.trans (HBn.out.mono HW.out.size); clear HBn; have hcn := cell_below HW.out HC1.out
        simp only [Act.put, List.setIfInBounds_toArray, List.set_cons_zero, List.set_cons_succ]
        refine hK.out _ _ (⟨cell_below HW.out (HBX.out.one rfl), cell_below HW.out (HBX.out.one rfl), cell_below HW.out (HBX.out.one rfl)⟩) (fun hHeld => ?_)
        clear hK K
        refine wpAnyH_ready (rs := [5]) (by kernel_rfl) (by simp) ?_
        refine AllReadyH.cons (o := { dst := some 33, op := .load 48 (.tmp 32), type := 48, pos := "chain.go:75", after := #[{ on := 4, ground := .data }], guard := none }) rfl (fun K hK => ?_) AllReadyH.nil
        go_simp
        skip
        go_simp
        refine hK.out _ _ (⟨cell_below HW.out (HBX.out.one rfl), cell_below HW.out (HBX.out.one rfl), cell_below HW.out (HBX.out.one rfl)⟩) (fun hHeld => ?_)
        clear hK K
        refine wpAnyH_take (i := 7) (oi := { dst := some 35, op := .slice 48 (.tmp 33) none (some (.tmp 34)) none, type := 48, pos := "chain.go:75", after := #[{ on := 5, ground := .data }, { on := 6, ground := .data }], guard := none }) (v := .slice a P c) rfl (by kernel_rfl) (by kernel_rfl) (by kernel_rfl) (fun _ _ _ h => h) (Or.inl ⟨by rfl, ?_⟩) (by assumption) ?_
        · intro _ _; go_simp
        simp only [Act.put, List.setIfInBounds_toArray, List.set_cons_zero, List.set_cons_succ]
        refine wpAnyH_ready (rs := [8]) (by kernel_rfl) (by simp) ?_
        refine AllReadyH.cons (o := { dst := some 36, op := .call { callee := .builtin Go.Builtin.append, args := #[.tmp 29, .tmp 35], argTypes := #[48, 48] }, type := 48, pos := "chain.go:75", after := #[{ on := 1, ground := .data }, { on := 7, ground := .data }], guard := none }) rfl (fun K hK => ?_) AllReadyH.nil
        refine step_append_e elF rfl _ _ rfl w1.heap.size _ [] rfl HO1.out a P c (L.take P) rfl (HCA.out _ HW.out) (by have := HLA.out; simp only [List.length_nil]; omega) HW.out.size ?_; intro v3 wn HO3' HG3 _; rw [List.nil_append] at HO3'; (try replace HX : Hid _ := HX.out.later fun b' o' _ e => HG3.out.5 b' (HX.out.lt1 e (by omega) (by decide)) fun e2 => own_ne HO1.out HX.out (by decide) (by injection e with e; injection e with e _ _; injection e2 with e2; rw [e]; exact e2)); replace HW : Hid (Below w1.heap.size w1 wn) := HW.out.grown HG3.out HW.out.size fun k e => (HO1.out.lt k e).1; clear HG3 HO3; have HO3 := HO3'; clear HO3'; have hcn := cell_below HW.out HC1.out; obtain ⟨a3, c3, hv3, _⟩ := HO3.out.els; obtain ⟨n3, hn3⟩ : ∃ n, n = (L.take P).length := ⟨_, rfl⟩; rw [← hn3] at hv3; clear hn3; subst hv3
        simp only [Act.put, List.setIfInBounds_toArray, List.set_cons_zero, List.set_cons_succ]
        refine hK.out _ _ (⟨cell_below HW.out (HBX.out.one rfl), cell_below HW.out (HBX.out.one rfl), cell_below HW.out (HBX.out.one rfl)⟩) (fun hHeld => ?_)
        clear hK K
        refine wpAnyH_ready (rs := [11]) (by kernel_rfl) (by simp) ?_
        refine AllReadyH.cons (o := { dst := some 39, op := .call { callee := .builtin Go.Builtin.append, args := #[.tmp 36, .tmp 38], argTypes := #[48, 48] }, type := 48, pos := "chain.go:75", after := #[{ on := 8, ground := .data }, { on := 10, ground := .data }, { on := 8, ground := .chain }], guard := none }) rfl (fun K hK => ?_) AllReadyH.nil
        refine step_append_e elF rfl _ _ rfl w1.heap.size _ (L.take P) rfl HO3.out _ 1 1 [(n, ⟨xb, xs⟩)] rfl HX.out (by have := HLA.out; omega) HW.out.size ?_; intro v5 wn HO5 HG5 _; replace HW : Hid (Below w1.heap.size w1 wn) := HW.out.grown HG5.out HW.out.size fun k e => (HO3.out.lt k e).1; clear HG5; have hcn := cell_below HW.out HC1.out; obtain ⟨a5, c5, hv5, _⟩ := HO5.out.els; obtain ⟨n5, hn5⟩ : ∃ n', n' = (L.take P ++ [(n, (⟨xb, xs⟩ : Fl))]).length := ⟨_, rfl⟩; rw [← hn5] at hv5; clear hn5; subst hv5
        simp only [Act.put, List.setIfInBounds_toArray, List.set_cons_zero, List.set_cons_succ]
        refine hK.out _ _ (⟨cell_below HW.out (HBX.out.one rfl), cell_below HW.out (HBX.out.one rfl), cell_below HW.out (HBX.out.one rfl)⟩) (fun hHeld => ?_)
        clear hK K
        refine wpAnyH_ready (rs := [13]) (by kernel_rfl) (by simp) ?_
        refine AllReadyH.cons (o := { dst := some 41, op := .call { callee := .builtin Go.Builtin.append, args := #[.tmp 39, .tmp 40], argTypes := #[48, 48] }, type := 48, pos := "chain.go:75", after := #[{ on := 11, ground := .data }, { on := 12, ground := .data }, { on := 11, ground := .chain }], guard := none }) rfl (fun K hK => ?_) AllReadyH.nil
        refine step_append_e elF rfl _ _ rfl w1.heap.size _ (L.take P ++ [(n, (⟨xb, xs⟩ : Fl))]) rfl HO5.out adr (z - (P + 1)) (c - (P + 1)) (L.drop (P + 1)) rfl (HCB.out _ HW.out) (by have := HLA.out; simp only [List.length_append, List.length_cons, List.length_nil]; omega) HW.out.size ?_; intro v4 w4 HO4 HG4 _; have HW4 : Hid (Below w1.heap.size w1 w4) := HW.out.grown HG4.out HW.out.size fun k e => (HO5.out.lt k e).1; clear HG4; have hy4 := cell_below HW4.out HC1.out; have hf4 := (HR1.out.blk.below HW4.out HR1.out.blk.lt).frozen 0; obtain ⟨a4, c4, hv4, _⟩ := HO4.out.els; obtain ⟨n4, hn4⟩ : ∃ n', n' = (L.take P ++ [(n, (⟨xb, xs⟩ : Fl))] ++ L.drop (P + 1)).length := ⟨_, rfl⟩; rw [← hn4] at hv4; clear hn4; subst hv4; have HFK : Hid (∀ {j : Nat} {u : Value}, w4.cell? ⟨B0, j, none⟩ = some u → (w4.setCell ⟨m, 0, none⟩ (.slice a4 n4 c4)).cell? ⟨B0, j, none⟩ = some u) := fun h => ((Keep.refl m w4).setCell 0 _).cell HBM.out h
        simp only [Act.put, List.setIfInBounds_toArray, List.set_cons_zero, List.set_cons_succ]
        refine hK.out _ _ (⟨cell_below HW4.out (HBX.out.one rfl), cell_below HW4.out (HBX.out.one rfl), cell_below HW4.out (HBX.out.one rfl)⟩) (fun hHeld => ?_)
        clear hK K
        refine wpAnyH_take (i := 14) (oi := { dst := some 42, op := .nilCheck (.tmp 28), type := 0, pos := "chain.go:75", after := #[{ on := 0, ground := .data }, { on := 0, ground := .phase }, { on := 1, ground := .phase }, { on := 2, ground := .phase }, { on := 3, ground := .phase }, { on := 4, ground := .phase }, { on := 5, ground := .phase }, { on := 6, ground := .phase }, { on := 7, ground := .phase }, { on := 8, ground := .phase }, { on := 9, ground := .phase }, { on := 10, ground := .phase }, { on := 11, ground := .phase }, { on := 12, ground := .phase }, { on := 13, ground := .phase }], guard := none }) (v := ?_) rfl (by kernel_rfl) (by kernel_rfl) (by kernel_rfl) (fun _ _ _ h => h) (Or.inl ⟨by rfl, ?_⟩) (by assumption) ?_
        rotate_left
        · intro _ _; go_simp; first | done | with_reducible rfl
        simp only [Act.put, List.setIfInBounds_toArray, List.set_cons_zero, List.set_cons_succ]
        refine wpAnyH_take (i := 15) (oi := { dst := some 43, op := .fieldAddr 50 (.tmp 42) 0, type := 0, pos := "chain.go:75", after := #[{ on := 14, ground := .data }, { on := 0, ground := .phase }, { on := 1, ground := .phase }, { on := 2, ground := .phase }, { on := 3, ground := .phase }, { on := 4, ground := .phase }, { on := 5, ground := .phase }, { on := 6, ground := .phase }, { on := 7, ground := .phase }, { on := 8, ground := .phase }, { on := 9, ground := .phase }, { on := 10, ground := .phase }, { on := 11, ground := .phase }, { on := 12, ground := .phase }, { on := 13, ground := .phase }], guard := none }) (v := ?_) rfl (by kernel_rfl) (by kernel_rfl) (by kernel_rfl) (fun _ _ _ h => h) (Or.inl ⟨by rfl, ?_⟩) (by assumption) ?_
        rotate_left
        · intro _ _; go_simp; first | done | with_reducible rfl
        simp only [Act.put, List.setIfInBounds_toArray, List.set_cons_zero, List.set_cons_succ]
        refine wpAnyH_ready (rs := [16]) (by kernel_rfl) (by simp) ?_
        refine AllReadyH.cons (o := { dst := none, op := .store 48 (.tmp 43) (.tmp 41), type := 0, pos := "chain.go:75", after := #[{ on := 15, ground := .data }, { on := 13, ground := .data }, { on := 13, ground := .chain }, { on := 0, ground := .phase }, { on := 1, ground := .phase }, { on := 2, ground := .phase }, { on := 3, ground := .phase }, { on := 4, ground := .phase }, { on := 5, ground := .phase }, { on := 6, ground := .phase }, { on := 7, ground := .phase }, { on := 8, ground := .phase }, { on := 9, ground := .phase }, { on := 10, ground := .phase }, { on := 11, ground := .phase }, { on := 12, ground := .phase }, { on := 13, ground := .phase }], guard := none }) rfl (fun K hK => ?_) AllReadyH.nil
        go_simp
        skip
        go_simp
        refine hK.out _ _ (⟨HFK.out (cell_below HW4.out (HBX.out.one rfl)), HFK.out (cell_below HW4.out (HBX.out.one rfl)), HFK.out (cell_below HW4.out (HBX.out.one rfl))⟩) (fun hHeld => ?_)
        clear hK K
        refine wpAnyH_done (by kernel_rfl) ?_ _
        refine NoPanic.normal ?_
        clear hHeld hy4 hf4 HFK
        generalize hw5 : World.setCell w4 _ _ = w5
        have HFIN : Hid (RkAt w5 m (.slice a4 n4 c4) ⟨L', fuse, dark, ops⟩ ∧ Keep m w w5 ∧ Mvd w (.slice a z c) (.slice a4 n4 c4)) := by
          have hk : Keep m w4 w5 := by rw [← hw5]; exact (Keep.refl _ _).setCell _ _
          have hb5 : Blk w5 m [.slice a4 n4 c4, .int .i64 fuse, .bool dark, .int .i64 ops] := by rw [← hw5]; exact (HR1.out.blk.below HW4.out HR1.out.blk.lt).set 0 _
          have hm : m < w1.heap.size := HR1.out.blk.lt
          have hne : ∀ k, (Value.slice a4 n4 c4).ownBlock = some k → k ≠ m := fun k e => by have := (HO4.out.lt k e).1; omega
          have hs1 := HB1.out.size
          refine ⟨⟨hb5, ?_, hne⟩, (Keep.of_below (HB1.out.trans (HW4.out.mono hs1))).trans hk, fun k e => .inr (by have := (HO4.out.lt k e).1; omega)⟩
          show OwnF w5 0 _ L'
          rw [HLQ.out]
          exact OwnE.same (OwnE.less0 HO4.out) fun k e => hk.block k (HO4.out.lt k e).2 (hne k e)
        clear hw5 HO4 HW4
        go_wp2_with fail
        go_end0
        exact ⟨rfl, _, HFIN.out⟩
      · go_simp
        skip
        go_simp
        refine hK.out _ _ (⟨cell_below HW.out (HBX.out.one rfl), cell_below HW.out (HBX.out.one rfl), cell_below HW.out (HBX.out.one rfl)⟩) (fun hHeld => ?_)
        clear hK K
        refine wpAnyH_take (i := 7) (oi := { dst := some 35, op := .slice 48 (.tmp 33) none (some (.tmp 34)) none, type := 48, pos := "chain.go:75", after := #[{ on := 5, ground := .data }, { on := 6, ground := .data }], guard := none }) (v := .slice a P c) rfl (by kernel_rfl) (by kernel_rfl) (by kernel_rfl) (fun _ _ _ h => h) (Or.inl ⟨by rfl, ?_⟩) (by assumption) ?_
        · intro _ _; go_simp
        simp only [Act.put, List.setIfInBounds_toArray, List.set_cons_zero, List.set_cons_succ]
        refine wpAnyH_ready (rs := [1]) (by kernel_rfl) (by simp) ?_
        refine AllReadyH.cons (o := { dst := some 29, op := .buildSlice 48 0 #[], type := 48, pos := "chain.go:75", after := #[], guard := none }) rfl (fun K hK => ?_) AllReadyH.nil
        refine step_build_none elF rfl rfl w1.heap.size HW.out.size ?_; intro wn g1 HO1' HBn; (try replace HX : Hid _ := HX.out.below HBn.out); clear HO1; have HO1 := HO1'; clear HO1'; replace HW : Hid (Below w1.heap.size w1 wn) := HW.out.trans (HBn.out.mono HW.out.size); clear HBn; have hcn := cell_below HW.out HC1.out
        simp only [Act.put, List.setIfInBounds_toArray, List.set_cons_zero, List.set_cons_succ]
        refine hK.out _ _ (⟨cell_below HW.out (HBX.out.one rfl), cell_below HW.out (HBX.out.one rfl), cell_below HW.out (HBX.out.one rfl)⟩) (fun hHeld => ?_)
        clear hK K
        refine wpAnyH_ready (rs := [8]) (by kernel_rfl) (by simp) ?_
        refine AllReadyH.cons (o := { dst := some 36, op := .call { callee := .builtin Go.Builtin.append, args := #[.tmp 29, .tmp 35], argTypes := #[48, 48] }, type := 48, pos := "chain.go:75", after := #[{ on := 1, ground := .data }, { on := 7, ground := .data }], guard := none }) rfl (fun K hK => ?_) AllReadyH.nil
        refine step_append_e elF rfl _ _ rfl w1.heap.size _ [] rfl HO1.out a P c (L.take P) rfl (HCA.out _ HW.out) (by have := HLA.out; simp only [List.length_nil]; omega) HW.out.size ?_; intro v3 wn HO3' HG3 _; rw [List.nil_append] at HO3'; (try replace HX : Hid _ := HX.out.later fun b' o' _ e => HG3.out.5 b' (HX.out.lt1 e (by omega) (by decide)) fun e2 => own_ne HO1.out HX.out (by decide) (by injection e with e; injection e with e _ _; injection e2 with e2; rw [e]; exact e2)); replace HW : Hid (Below w1.heap.size w1 wn) := HW.out.grown HG3.out HW.out.size fun k e => (HO1.out.lt k e).1; clear HG3 HO3; have HO3 := HO3'; clear HO3'; have hcn := cell_below HW.out HC1.out; obtain ⟨a3, c3, hv3, _⟩ := HO3.out.els; obtain ⟨n3, hn3⟩ : ∃ n, n = (L.take P).length := ⟨_, rfl⟩; rw [← hn3] at hv3; clear hn3; subst hv3
        simp only [Act.put, List.setIfInBounds_toArray, List.set_cons_zero, List.set_cons_succ]
        refine hK.out _ _ (⟨cell_below HW.out (HBX.out.one rfl), cell_below HW.out (HBX.out.one rfl), cell_below HW.out (HBX.out.one rfl)⟩) (fun hHeld => ?_)
        clear hK K
        refine wpAnyH_ready (rs := [11]) (by kernel_rfl) (by simp) ?_
        refine AllReadyH.cons (o := { dst := some 39, op := .call { callee := .builtin Go.Builtin.append, args := #[.tmp 36, .tmp 38], argTypes := #[48, 48] }, type := 48, pos := "chain.go:75", after := #[{ on := 8, ground := .data }, { on := 10, ground := .data }, { on := 8, ground := .chain }], guard := none }) rfl (fun K hK => ?_) AllReadyH.nil
        refine step_append_e elF rfl _ _ rfl w1.heap.size _ (L.take P) rfl HO3.out _ 1 1 [(n, ⟨xb, xs⟩)] rfl HX.out (by have := HLA.out; omega) HW.out.size ?_; intro v5 wn HO5 HG5 _; replace HW : Hid (Below w1.heap.size w1 wn) := HW.out.grown HG5.out HW.out.size fun k e => (HO3.out.lt k e).1; clear HG5; have hcn := cell_below HW.out HC1.out; obtain ⟨a5, c5, hv5, _⟩ := HO5.out.els; obtain ⟨n5, hn5⟩ : ∃ n', n' = (L.take P ++ [(n, (⟨xb, xs⟩ : Fl))]).length := ⟨_, rfl⟩; rw [← hn5] at hv5; clear hn5; subst hv5
        simp only [Act.put, List.setIfInBounds_toArray, List.set_cons_zero, List.set_cons_succ]
        refine hK.out _ _ (⟨cell_below HW.out (HBX.out.one rfl), cell_below HW.out (HBX.out.one rfl), cell_below HW.out (HBX.out.one rfl)⟩) (fun hHeld => ?_)
        clear hK K
        refine wpAnyH_ready (rs := [13]) (by kernel_rfl) (by simp) ?_
        refine AllReadyH.cons (o := { dst := some 41, op := .call { callee := .builtin Go.Builtin.append, args := #[.tmp 39, .tmp 40], argTypes := #[48, 48] }, type := 48, pos := "chain.go:75", after := #[{ on := 11, ground := .data }, { on := 12, ground := .data }, { on := 11, ground := .chain }], guard := none }) rfl (fun K hK => ?_) AllReadyH.nil
        refine step_append_e elF rfl _ _ rfl w1.heap.size _ (L.take P ++ [(n, (⟨xb, xs⟩ : Fl))]) rfl HO5.out adr (z - (P + 1)) (c - (P + 1)) (L.drop (P + 1)) rfl (HCB.out _ HW.out) (by have := HLA.out; simp only [List.length_append, List.length_cons, List.length_nil]; omega) HW.out.size ?_; intro v4 w4 HO4 HG4 _; have HW4 : Hid (Below w1.heap.size w1 w4) := HW.out.grown HG4.out HW.out.size fun k e => (HO5.out.lt k e).1; clear HG4; have hy4 := cell_below HW4.out HC1.out; have hf4 := (HR1.out.blk.below HW4.out HR1.out.blk.lt).frozen 0; obtain ⟨a4, c4, hv4, _⟩ := HO4.out.els; obtain ⟨n4, hn4⟩ : ∃ n', n' = (L.take P ++ [(n, (⟨xb, xs⟩ : Fl))] ++ L.drop (P + 1)).length := ⟨_, rfl⟩; rw [← hn4] at hv4; clear hn4; subst hv4; have HFK : Hid (∀ {j : Nat} {u : Value}, w4.cell? ⟨B0, j, none⟩ = some u → (w4.setCell ⟨m, 0, none⟩ (.slice a4 n4 c4)).cell? ⟨B0, j, none⟩ = some u) := fun h => ((Keep.refl m w4).setCell 0 _).cell HBM.out h
        simp only [Act.put, List.setIfInBounds_toArray, List.set_cons_zero, List.set_cons_succ]
        refine hK.out _ _ (⟨cell_below HW4.out (HBX.out.one rfl), cell_below HW4.out (HBX.out.one rfl), cell_below HW4.out (HBX.out.one rfl)⟩) (fun hHeld => ?_)
        clear hK K
        refine wpAnyH_take (i := 14) (oi := { dst := some 42, op := .nilCheck (.tmp 28), type := 0, pos := "chain.go:75", after := #[{ on := 0, ground := .data }, { on := 0, ground := .phase }, { on := 1, ground := .phase }, { on := 2, ground := .phase }, { on := 3, ground := .phase }, { on := 4, ground := .phase }, { on := 5, ground := .phase }, { on := 6, ground := .phase }, { on := 7, ground := .phase }, { on := 8, ground := .phase }, { on := 9, ground := .phase }, { on := 10, ground := .phase }, { on := 11, ground := .phase }, { on := 12, ground := .phase }, { on := 13, ground := .phase }], guard := none }) (v := ?_) rfl (by kernel_rfl) (by kernel_rfl) (by kernel_rfl) (fun _ _ _ h => h) (Or.inl ⟨by rfl, ?_⟩) (by assumption) ?_
        rotate_left
        · intro _ _; go_simp; first | done | with_reducible rfl
        simp only [Act.put, List.setIfInBounds_toArray, List.set_cons_zero, List.set_cons_succ]
        refine wpAnyH_take (i := 15) (oi := { dst := some 43, op := .fieldAddr 50 (.tmp 42) 0, type := 0, pos := "chain.go:75", after := #[{ on := 14, ground := .data }, { on := 0, ground := .phase }, { on := 1, ground := .phase }, { on := 2, ground := .phase }, { on := 3, ground := .phase }, { on := 4, ground := .phase }, { on := 5, ground := .phase }, { on := 6, ground := .phase }, { on := 7, ground := .phase }, { on := 8, ground := .phase }, { on := 9, ground := .phase }, { on := 10, ground := .phase }, { on := 11, ground := .phase }, { on := 12, ground := .phase }, { on := 13, ground := .phase }], guard := none }) (v := ?_) rfl (by kernel_rfl) (by kernel_rfl) (by kernel_rfl) (fun _ _ _ h => h) (Or.inl ⟨by rfl, ?_⟩) (by assumption) ?_
        rotate_left
        · intro _ _; go_simp; first | done | with_reducible rfl
        simp only [Act.put, List.setIfInBounds_toArray, List.set_cons_zero, List.set_cons_succ]
        refine wpAnyH_ready (rs := [16]) (by kernel_rfl) (by simp) ?_
        refine AllReadyH.cons (o := { dst := none, op := .store 48 (.tmp 43) (.tmp 41), type := 0, pos := "chain.go:75", after := #[{ on := 15, ground := .data }, { on := 13, ground := .data }, { on := 13, ground := .chain }, { on := 0, ground := .phase }, { on := 1, ground := .phase }, { on := 2, ground := .phase }, { on := 3, ground := .phase }, { on := 4, ground := .phase }, { on := 5, ground := .phase }, { on := 6, ground := .phase }, { on := 7, ground := .phase }, { on := 8, ground := .phase }, { on := 9, ground := .phase }, { on := 10, ground := .phase }, { on := 11, ground := .phase }, { on := 12, ground := .phase }, { on := 13, ground := .phase }], guard := none }) rfl (fun K hK => ?_) AllReadyH.nil
        go_simp
        skip
        go_simp
        refine hK.out _ _ (⟨HFK.out (cell_below HW4.out (HBX.out.one rfl)), HFK.out (cell_below HW4.out (HBX.out.one rfl)), HFK.out (cell_below HW4.out (HBX.out.one rfl))⟩) (fun hHeld => ?_)
        clear hK K
        refine wpAnyH_done (by kernel_rfl) ?_ _
        refine NoPanic.normal ?_
        clear hHeld hy4 hf4 HFK
        generalize hw5 : World.setCell w4 _ _ = w5
        have HFIN : Hid (RkAt w5 m (.slice a4 n4 c4) ⟨L', fuse, dark, ops⟩ ∧ Keep m w w5 ∧ Mvd w (.slice a z c) (.slice a4 n4 c4)) := by
          have hk : Keep m w4 w5 := by rw [← hw5]; exact (Keep.refl _ _).setCell _ _
          have hb5 : Blk w5 m [.slice a4 n4 c4, .int .i64 fuse, .bool dark, .int .i64 ops] := by rw [← hw5]; exact (HR1.out.blk.below HW4.out HR1.out.blk.lt).set 0 _
          have hm : m < w1.heap.size := HR1.out.blk.lt
          have hne : ∀ k, (Value.slice a4 n4 c4).ownBlock = some k → k ≠ m := fun k e => by have := (HO4.out.lt k e).1; omega
          have hs1 := HB1.out.size
          refine ⟨⟨hb5, ?_, hne⟩, (Keep.of_below (HB1.out.trans (HW4.out.mono hs1))).trans hk, fun k e => .inr (by have := (HO4.out.lt k e).1; omega)⟩
          show OwnF w5 0 _ L'
          rw [HLQ.out]
          exact OwnE.same (OwnE.less0 HO4.out) fun k e => hk.block k (HO4.out.lt k e).2 (hne k e)
        clear hw5 HO4 HW4
        go_wp2_with fail
        go_end0
        exact ⟨rfl, _, HFIN.out⟩
  | false =>
    have HLQ : Hid (L' = L.take P ++ [(n, (⟨xb, xs⟩ : Fl))] ++ L.drop P) := HSD.out
    have HCB : Hid (∀ w', Below w1.heap.size w1 w' → Els w' adr0 (z - P) (c - P) (L.drop P)) := fun w' hb => by rw [← hadr0]; exact ((HE.out.below HB1.out).below hb).cutB P (by omega)
    clear hPlt HSD
    go_upto_region 5 with fail
    have HW : Hid (Below w1.heap.size w1 w1.drew) := (Below.refl _ _).drew
    have hcn : w1.drew.cell? ⟨m, 0, none⟩ = some (.slice a z c) := HC1.out
    have HX : Hid True := trivial
    have HO1 : Hid True := trivial
    have HO3 : Hid True := trivial
    refine wp_region_noPanic ?_
    refine wp_region_held_drew (S := fun w' => w'.cell? ⟨B0, 0, none⟩ = some (.string n) ∧ w'.cell? ⟨B0, 1, none⟩ = some (.string (ofB xb)) ∧ w'.cell? ⟨B0, 2, none⟩ = some (.int .i64 xs)) HMO.out (⟨cell_below HW.out (HBX.out.one rfl), cell_below HW.out (HBX.out.one rfl), cell_below HW.out (HBX.out.one rfl)⟩) (fun hHeld => ?_)
    refine wpAnyH_take (i := 0) (oi := { dst := some 28, op := .move (.tmp 0), type := 27, pos := "chain.go:75", after := #[], guard := none }) (v := ?_) rfl (by kernel_rfl) (by kernel_rfl) (by kernel_rfl) (fun _ _ _ h => h) (Or.inl ⟨by rfl, ?_⟩) (by assumption) ?_
    rotate_left
    · intro _ _; go_simp; first | done | with_reducible rfl
    simp only [Act.put, List.setIfInBounds_toArray, List.set_cons_zero, List.set_cons_succ]
    refine wpAnyH_take (i := 2) (oi := { dst := some 30, op := .move (.tmp 0), type := 27, pos := "chain.go:75", after := #[], guard := none }) (v := ?_) rfl (by kernel_rfl) (by kernel_rfl) (by kernel_rfl) (fun _ _ _ h => h) (Or.inl ⟨by rfl, ?_⟩) (by assumption) ?_
    rotate_left
    · intro _ _; go_simp; first | done | with_reducible rfl
    simp only [Act.put, List.setIfInBounds_toArray, List.set_cons_zero, List.set_cons_succ]
    refine wpAnyH_take (i := 3) (oi := { dst := some 31, op := .nilCheck (.tmp 30), type := 0, pos := "chain.go:75", after := #[{ on := 2, ground := .data }], guard := none }) (v := ?_) rfl (by kernel_rfl) (by kernel_rfl) (by kernel_rfl) (fun _ _ _ h => h) (Or.inl ⟨by rfl, ?_⟩) (by assumption) ?_
    rotate_left
    · intro _ _; go_simp; first | done | with_reducible rfl
    simp only [Act.put, List.setIfInBounds_toArray, List.set_cons_zero, List.set_cons_succ]
    refine wpAnyH_take (i := 4) (oi := { dst := some 32, op := .fieldAddr 50 (.tmp 31) 0, type := 0, pos := "chain.go:75", after := #[{ on := 3, ground := .data }], guard := none }) (v := ?_) rfl (by kernel_rfl) (by kernel_rfl) (by kernel_rfl) (fun _ _ _ h => h) (Or.inl ⟨by rfl, ?_⟩) (by assumption) ?_
    rotate_left
    · intro _ _; go_simp; first | done | with_reducible rfl
    simp only [Act.put, List.setIfInBounds_toArray, List.set_cons_zero, List.set_cons_succ]
    refine wpAnyH_take (i := 6) (oi := { dst := some 34, op := .move (.tmp 4), type := 3, pos := "chain.go:75", after := #[], guard := none }) (v := ?_) rfl (by kernel_rfl) (by kernel_rfl) (by kernel_rfl) (fun _ _ _ h => h) (Or.inl ⟨by rfl, ?_⟩) (by assumption) ?_
    rotate_left
    · intro _ _; go_simp; first | done | with_reducible rfl
    simp only [Act.put, List.setIfInBounds_toArray, List.set_cons_zero, List.set_cons_succ]
    refine wpAnyH_take (i := 9) (oi := { dst := some 37, op := .load 60 (.tmp 3), type := 60, pos := "chain.go:75", after := #[], guard := none }) (v := .agg #[.string n, .string (ofB xb), .int .i64 xs]) rfl (by kernel_rfl) (by kernel_rfl) (by kernel_rfl) (fun _ _ _ h => h) (Or.inl ⟨by rfl, ?_⟩) (by assumption) ?_
    · intro _ _; rename_i wz hz; obtain ⟨cz0, cz1, cz2⟩ := hz; go_simp
    simp only [Act.put, List.setIfInBounds_toArray, List.set_cons_zero, List.set_cons_succ]
    refine wpAnyH_take (i := 12) (oi := { dst := some 40, op := .move (.tmp 6), type := 48, pos := "chain.go:75", after := #[], guard := none }) (v := ?_) rfl (by kernel_rfl) (by kernel_rfl) (by kernel_rfl) (fun _ _ _ h => h) (Or.inl ⟨by rfl, ?_⟩) (by assumption) ?_
    rotate_left
    · intro _ _; go_simp; first | done | with_reducible rfl
    simp only [Act.put, List.setIfInBounds_toArray, List.set_cons_zero, List.set_cons_succ]
    refine wpAnyH_ready (rs := [1, 5, 10]) (by kernel_rfl) (by simp) ?_
    refine (AllReadyH.cons (o := { dst := some 29, op := .buildSlice 48 0 #[], type := 48, pos := "chain.go:75", after := #[], guard := none }) rfl (fun K hK => ?_) (AllReadyH.cons (o := { dst := some 33, op := .load 48 (.tmp 32), type := 48, pos := "chain.go:75", after := #[{ on := 4, ground := .data }], guard := none }) rfl (fun K hK => ?_) (AllReadyH.cons (o := { dst := some 38, op := .buildSlice 48 1 #[(0, .tmp 37)], type := 48, pos := "chain.go:75", after := #[{ on := 9, ground := .data }], guard := none }) rfl (fun K hK => ?_) AllReadyH.nil)))
    · refine step_build_none elF rfl rfl w1.heap.size HW.out.size ?_; intro wn g1 HO1' HBn; (try replace HX : Hid _ := HX.out.below HBn.out); clear HO1; have HO1 := HO1'; clear HO1'; replace HW : Hid (Below w1.heap.size w1 wn) := HW.out.trans (HBn.out.mono HW.out.size); clear HBn; have hcn := cell_below HW.out HC1.out
      simp only [Act.put, List.setIfInBounds_toArray, List.set_cons_zero, List.set_cons_succ]
      refine hK.out _ _ (⟨cell_below HW.out (HBX.out.one rfl), cell_below HW.out (HBX.out.one rfl), cell_below HW.out (HBX.out.one rfl)⟩) (fun hHeld => ?_)
      clear hK K
      refine wpAnyH_ready (rs := [5, 10]) (by kernel_rfl) (by simp) ?_
      refine (AllReadyH.cons (o := { dst := some 33, op := .load 48 (.tmp 32), type := 48, pos := "chain.go:75", after := #[{ on := 4, ground := .data }], guard := none }) rfl (fun K hK => ?_) (AllReadyH.cons (o := { dst := some 38, op := .buildSlice 48 1 #[(0, .tmp 37)], type := 48, pos := "chain.go:75", after := #[{ on := 9, ground := .data }], guard := none }) rfl (fun K hK => ?_) AllReadyH.nil))
      · go_simp
        skip
        go_simp
        refine hK.out _ _ (⟨cell_below HW.out (HBX.out.one rfl), cell_below HW.out (HBX.out.one rfl), cell_below HW.out (HBX.out.one rfl)⟩) (fun hHeld => ?_)
        clear hK K
        refine wpAnyH_take (i := 7) (oi := { dst := some 35, op := .slice 48 (.tmp 33) none (some (.tmp 34)) none, type := 48, pos := "chain.go:75", after := #[{ on := 5, ground := .data }, { on := 6, ground := .data }], guard := none }) (v := .slice a P c) rfl (by kernel_rfl) (by kernel_rfl) (by kernel_rfl) (fun _ _ _ h => h) (Or.inl ⟨by rfl, ?_⟩) (by assumption) ?_
        · intro _ _; go_simp
        simp only [Act.put, List.setIfInBounds_toArray, List.set_cons_zero, List.set_cons_succ]
        refine wpAnyH_ready (rs := [8, 10]) (by kernel_rfl) (by simp) ?_
        refine (AllReadyH.cons (o := { dst := some 36, op := .call { callee := .builtin Go.Builtin.append, args := #[.tmp 29, .tmp 35], argTypes := #[48, 48] }, type := 48, pos := "chain.go:75", after := #[{ on := 1, ground := .data }, { on := 7, ground := .data }], guard := none }) rfl (fun K hK => ?_) (AllReadyH.cons (o := { dst := some 38, op := .buildSlice 48 1 #[(0, .tmp 37)], type := 48, pos := "chain.go:75", after := #[{ on := 9, ground := .data }], guard := none }) rfl (fun K hK => ?_) AllReadyH.nil))
        · refine step_append_e elF rfl _ _ rfl w1.heap.size _ [] rfl HO1.out a P c (L.take P) rfl (HCA.out _ HW.out) (by have := HLA.out; simp only [List.length_nil]; omega) HW.out.size ?_; intro v3 wn HO3' HG3 _; rw [List.nil_append] at HO3'; (try replace HX : Hid _ := HX.out.later fun b' o' _ e => HG3.out.5 b' (HX.out.lt1 e (by omega) (by decide)) fun e2 => own_ne HO1.out HX.out (by decide) (by injection e with e; injection e with e _ _; injection e2 with e2; rw [e]; exact e2)); replace HW : Hid (Below w1.heap.size w1 wn) := HW.out.grown HG3.out HW.out.size fun k e => (HO1.out.lt k e).1; clear HG3 HO3; have HO3 := HO3'; clear HO3'; have hcn := cell_below HW.out HC1.out; obtain ⟨a3, c3, hv3, _⟩ := HO3.out.els; obtain ⟨n3, hn3⟩ : ∃ n, n = (L.take P).length := ⟨_, rfl⟩; rw [← hn3] at hv3; clear hn3; subst hv3
          simp only [Act.put, List.setIfInBounds_toArray, List.set_cons_zero, List.set_cons_succ]
          refine hK.out _ _ (⟨cell_below HW.out (HBX.out.one rfl), cell_below HW.out (HBX.out.one rfl), cell_below HW.out (HBX.out.one rfl)⟩) (fun hHeld => ?_)
          clear hK K
          refine wpAnyH_ready (rs := [10]) (by kernel_rfl) (by simp) ?_
          refine AllReadyH.cons (o := { dst := some 38, op := .buildSlice 48 1 #[(0, .tmp 37)], type := 48, pos := "chain.go:75", after := #[{ on := 9, ground := .data }], guard := none }) rfl (fun K hK => ?_) AllReadyH.nil
          refine step_build_own elF rfl _ rfl (n, ⟨xb, xs⟩) rfl ?_; intro wn g10 HX' HBn; (try replace HO1 : Hid _ := HO1.out.below HBn.out); (try replace HO3 : Hid _ := HO3.out.below HBn.out); clear HX; have HX := HX'; clear HX'; replace HW : Hid (Below w1.heap.size w1 wn) := HW.out.trans (HBn.out.mono HW.out.size); clear HBn; have hcn := cell_below HW.out HC1.out
          simp only [Act.put, List.setIfInBounds_toArray, List.set_cons_zero, List.set_cons_succ]
          refine hK.out _ _ (⟨cell_below HW.out (HBX.out.one rfl), cell_below HW.out (HBX.out.one rfl), cell_below HW.out (HBX.out.one rfl)⟩) (fun hHeld => ?_)
          clear hK K
          refine wpAnyH_ready (rs := [11]) (by kernel_rfl) (by simp) ?_
          refine AllReadyH.cons (o := { dst := some 39, op := .call { callee := .builtin Go.Builtin.append, args := #[.tmp 36, .tmp 38], argTypes := #[48, 48] }, type := 48, pos := "chain.go:75", after := #[{ on := 8, ground := .data }, { on := 10, ground := .data }, { on := 8, ground := .chain }], guard := none }) rfl (fun K hK => ?_) AllReadyH.nil
          refine step_append_e elF rfl _ _ rfl w1.heap.size _ (L.take P) rfl HO3.out _ 1 1 [(n, ⟨xb, xs⟩)] rfl HX.out (by have := HLA.out; omega) HW.out.size ?_; intro v5 wn HO5 HG5 _; replace HW : Hid (Below w1.heap.size w1 wn) := HW.out.grown HG5.out HW.out.size fun k e => (HO3.out.lt k e).1; clear HG5; have hcn := cell_below HW.out HC1.out; obtain ⟨a5, c5, hv5, _⟩ := HO5.out.els; obtain ⟨n5, hn5⟩ : ∃ n', n' = (L.take P ++ [(n, (⟨xb, xs⟩ : Fl))]).length := ⟨_, rfl⟩; rw [← hn5] at hv5; clear hn5; subst hv5
          simp only [Act.put, List.setIfInBounds_toArray, List.set_cons_zero, List.set_cons_succ]
          refine hK.out _ _ (⟨cell_below HW.out (HBX.out.one rfl), cell_below HW.out (HBX.out.one rfl), cell_below HW.out (HBX.out.one rfl)⟩) (fun hHeld => ?_)
          clear hK K
          refine wpAnyH_ready (rs := [13]) (by kernel_rfl) (by simp) ?_
          refine AllReadyH.cons (o := { dst := some 41, op := .call { callee := .builtin Go.Builtin.append, args := #[.tmp 39, .tmp 40], argTypes := #[48, 48] }, type := 48, pos := "chain.go:75", after := #[{ on := 11, ground := .data }, { on := 12, ground := .data }, { on := 11, ground := .chain }], guard := none }) rfl (fun K hK => ?_) AllReadyH.nil
          refine step_append_e elF rfl _ _ rfl w1.heap.size _ (L.take P ++ [(n, (⟨xb, xs⟩ : Fl))]) rfl HO5.out adr0 (z - (P)) (c - (P)) (L.drop (P)) rfl (HCB.out _ HW.out) (by have := HLA.out; simp only [List.length_append, List.length_cons, List.length_nil]; omega) HW.out.size ?_; intro v4 w4 HO4 HG4 _; have HW4 : Hid (Below w1.heap.size w1 w4) := HW.out.grown HG4.out HW.out.size fun k e => (HO5.out.lt k e).1; clear HG4; have hy4 := cell_below HW4.out HC1.out; have hf4 := (HR1.out.blk.below HW4.out HR1.out.blk.lt).frozen 0; obtain ⟨a4, c4, hv4, _⟩ := HO4.out.els; obtain ⟨n4, hn4⟩ : ∃ n', n' = (L.take P ++ [(n, (⟨xb, xs⟩ : Fl))] ++ L.drop (P)).length := ⟨_, rfl⟩; rw [← hn4] at hv4; clear hn4; subst hv4; have HFK : Hid (∀ {j : Nat} {u : Value}, w4.cell? ⟨B0, j, none⟩ = some u → (w4.setCell ⟨m, 0, none⟩ (.slice a4 n4 c4)).cell? ⟨B0, j, none⟩ = some u) := fun h => ((Keep.refl m w4).setCell 0 _).cell HBM.out h
          simp only [Act.put, List.setIfInBounds_toArray, List.set_cons_zero, List.set_cons_succ]
          refine hK.out _ _ (⟨cell_below HW4.out (HBX.out.one rfl), cell_below HW4.out (HBX.out.one rfl), cell_below HW4.out (HBX.out.one rfl)⟩) (fun hHeld => ?_)
          clear hK K
          refine wpAnyH_take (i := 14) (oi := { dst := some 42, op := .nilCheck (.tmp 28), type := 0, pos := "chain.go:75", after := #[{ on := 0, ground := .data }, { on := 0, ground := .phase }, { on := 1, ground := .phase }, { on := 2, ground := .phase }, { on := 3, ground := .phase }, { on := 4, ground := .phase }, { on := 5, ground := .phase }, { on := 6, ground := .phase }, { on := 7, ground := .phase }, { on := 8, ground := .phase }, { on := 9, ground := .phase }, { on := 10, ground := .phase }, { on := 11, ground := .phase }, { on := 12, ground := .phase }, { on := 13, ground := .phase }], guard := none }) (v := ?_) rfl (by kernel_rfl) (by kernel_rfl) (by kernel_rfl) (fun _ _ _ h => h) (Or.inl ⟨by rfl, ?_⟩) (by assumption) ?_
          rotate_left
          · intro _ _; go_simp; first | done | with_reducible rfl
          simp only [Act.put, List.setIfInBounds_toArray, List.set_cons_zero, List.set_cons_succ]
          refine wpAnyH_take (i := 15) (oi := { dst := some 43, op := .fieldAddr 50 (.tmp 42) 0, type := 0, pos := "chain.go:75", after := #[{ on := 14, ground := .data }, { on := 0, ground := .phase }, { on := 1, ground := .phase }, { on := 2, ground := .phase }, { on := 3, ground := .phase }, { on := 4, ground := .phase }, { on := 5, ground := .phase }, { on := 6, ground := .phase }, { on := 7, ground := .phase }, { on := 8, ground := .phase }, { on := 9, ground := .phase }, { on := 10, ground := .phase }, { on := 11, ground := .phase }, { on := 12, ground := .phase }, { on := 13, ground := .phase }], guard := none }) (v := ?_) rfl (by kernel_rfl) (by kernel_rfl) (by kernel_rfl) (fun _ _ _ h => h) (Or.inl ⟨by rfl, ?_⟩) (by assumption) ?_
          rotate_left
          · intro _ _; go_simp; first | done | with_reducible rfl
          simp only [Act.put, List.setIfInBounds_toArray, List.set_cons_zero, List.set_cons_succ]
          refine wpAnyH_ready (rs := [16]) (by kernel_rfl) (by simp) ?_
          refine AllReadyH.cons (o := { dst := none, op := .store 48 (.tmp 43) (.tmp 41), type := 0, pos := "chain.go:75", after := #[{ on := 15, ground := .data }, { on := 13, ground := .data }, { on := 13, ground := .chain }, { on := 0, ground := .phase }, { on := 1, ground := .phase }, { on := 2, ground := .phase }, { on := 3, ground := .phase }, { on := 4, ground := .phase }, { on := 5, ground := .phase }, { on := 6, ground := .phase }, { on := 7, ground := .phase }, { on := 8, ground := .phase }, { on := 9, ground := .phase }, { on := 10, ground := .phase }, { on := 11, ground := .phase }, { on := 12, ground := .phase }, { on := 13, ground := .phase }], guard := none }) rfl (fun K hK => ?_) AllReadyH.nil
          go_simp
          skip
          go_simp
          refine hK.out _ _ (⟨HFK.out (cell_below HW4.out (HBX.out.one rfl)), HFK.out (cell_below HW4.out (HBX.out.one rfl)), HFK.out (cell_below HW4.out (HBX.out.one rfl))⟩) (fun hHeld => ?_)
          clear hK K
          refine wpAnyH_done (by kernel_rfl) ?_ _
          refine NoPanic.normal ?_
          clear hHeld hy4 hf4 HFK
          generalize hw5 : World.setCell w4 _ _ = w5
          have HFIN : Hid (RkAt w5 m (.slice a4 n4 c4) ⟨L', fuse, dark, ops⟩ ∧ Keep m w w5 ∧ Mvd w (.slice a z c) (.slice a4 n4 c4)) := by
            have hk : Keep m w4 w5 := by rw [← hw5]; exact (Keep.refl _ _).setCell _ _
            have hb5 : Blk w5 m [.slice a4 n4 c4, .int .i64 fuse, .bool dark, .int .i64 ops] := by rw [← hw5]; exact (HR1.out.blk.below HW4.out HR1.out.blk.lt).set 0 _
            have hm : m < w1.heap.size := HR1.out.blk.lt
            have hne : ∀ k, (Value.slice a4 n4 c4).ownBlock = some k → k ≠ m := fun k e => by have := (HO4.out.lt k e).1; omega
            have hs1 := HB1.out.size
            refine ⟨⟨hb5, ?_, hne⟩, (Keep.of_below (HB1.out.trans (HW4.out.mono hs1))).trans hk, fun k e => .inr (by have := (HO4.out.lt k e).1; omega)⟩
            show OwnF w5 0 _ L'
            rw [HLQ.out]
            exact OwnE.same (OwnE.less0 HO4.out) fun k e => hk.block k (HO4.out.lt k e).2 (hne k e)
          clear hw5 HO4 HW4
          go_wp2_with fail
          go_end0
          exact ⟨rfl, _, HFIN.out⟩
        · refine step_build_own elF rfl _ rfl (n, ⟨xb, xs⟩) rfl ?_; intro wn g10 HX' HBn; (try replace HO1 : Hid _ := HO1.out.below HBn.out); (try replace HO3 : Hid _ := HO3.out.below HBn.out); clear HX; have HX := HX'; clear HX'; replace HW : Hid (Below w1.heap.size w1 wn) := HW.out.trans (HBn.out.mono HW.out.size); clear HBn; have hcn := cell_below HW.out HC1.out
          simp only [Act.put, List.setIfInBounds_toArray, List.set_cons_zero, List.set_cons_succ]
          refine hK.out _ _ (⟨cell_below HW.out (HBX.out.one rfl), cell_below HW.out (HBX.out.one rfl), cell_below HW.out (HBX.out.one rfl)⟩) (fun hHeld => ?_)
          clear hK K
          refine wpAnyH_ready (rs := [8]) (by kernel_rfl) (by simp) ?_
          refine AllReadyH.cons (o := { dst := some 36, op := .call { callee := .builtin Go.Builtin.append, args := #[.tmp 29, .tmp 35], argTypes := #[48, 48] }, type := 48, pos := "chain.go:75", after := #[{ on := 1, ground := .data }, { on := 7, ground := .data }], guard := none }) rfl (fun K hK => ?_) AllReadyH.nil
          refine step_append_e elF rfl _ _ rfl w1.heap.size _ [] rfl HO1.out a P c (L.take P) rfl (HCA.out _ HW.out) (by have := HLA.out; simp only [List.length_nil]; omega) HW.out.size ?_; intro v3 wn HO3' HG3 _; rw [List.nil_append] at HO3'; (try replace HX : Hid _ := HX.out.later fun b' o' _ e => HG3.out.5 b' (HX.out.lt1 e (by omega) (by decide)) fun e2 => own_ne HO1.out HX.out (by decide) (by injection e with e; injection e with e _ _; injection e2 with e2; rw [e]; exact e2)); replace HW : Hid (Below w1.heap.size w1 wn) := HW.out.grown HG3.out HW.out.size fun k e => (HO1.out.lt k e).1; clear HG3 HO3; have HO3 := HO3'; clear HO3'; have hcn := cell_below HW.out HC1.out; obtain ⟨a3, c3, hv3, _⟩ := HO3.out.els; obtain ⟨n3, hn3⟩ : ∃ n, n = (L.take P).length := ⟨_, rfl⟩; rw [← hn3] at hv3; clear hn3; subst hv3
          simp only [Act.put, List.setIfInBounds_toArray, List.set_cons_zero, List.set_cons_succ]
          refine hK.out _ _ (⟨cell_below HW.out (HBX.out.one rfl), cell_below HW.out (HBX.out.one rfl), cell_below HW.out (HBX.out.one rfl)⟩) (fun hHeld => ?_)
          clear hK K
          refine wpAnyH_ready (rs := [11]) (by kernel_rfl) (by simp) ?_
          refine AllReadyH.cons (o := { dst := some 39, op := .call { callee := .builtin Go.Builtin.append, args := #[.tmp 36, .tmp 38], argTypes := #[48, 48] }, type := 48, pos := "chain.go:75", after := #[{ on := 8, ground := .data }, { on := 10, ground := .data }, { on := 8, ground := .chain }], guard := none }) rfl (fun K hK => ?_) AllReadyH.nil
          refine step_append_e elF rfl _ _ rfl w1.heap.size _ (L.take P) rfl HO3.out _ 1 1 [(n, ⟨xb, xs⟩)] rfl HX.out (by have := HLA.out; omega) HW.out.size ?_; intro v5 wn HO5 HG5 _; replace HW : Hid (Below w1.heap.size w1 wn) := HW.out.grown HG5.out HW.out.size fun k e => (HO3.out.lt k e).1; clear HG5; have hcn := cell_below HW.out HC1.out; obtain ⟨a5, c5, hv5, _⟩ := HO5.out.els; obtain ⟨n5, hn5⟩ : ∃ n', n' = (L.take P ++ [(n, (⟨xb, xs⟩ : Fl))]).length := ⟨_, rfl⟩; rw [← hn5] at hv5; clear hn5; subst hv5
          simp only [Act.put, List.setIfInBounds_toArray, List.set_cons_zero, List.set_cons_succ]
          refine hK.out _ _ (⟨cell_below HW.out (HBX.out.one rfl), cell_below HW.out (HBX.out.one rfl), cell_below HW.out (HBX.out.one rfl)⟩) (fun hHeld => ?_)
          clear hK K
          refine wpAnyH_ready (rs := [13]) (by kernel_rfl) (by simp) ?_
          refine AllReadyH.cons (o := { dst := some 41, op := .call { callee := .builtin Go.Builtin.append, args := #[.tmp 39, .tmp 40], argTypes := #[48, 48] }, type := 48, pos := "chain.go:75", after := #[{ on := 11, ground := .data }, { on := 12, ground := .data }, { on := 11, ground := .chain }], guard := none }) rfl (fun K hK => ?_) AllReadyH.nil
          refine step_append_e elF rfl _ _ rfl w1.heap.size _ (L.take P ++ [(n, (⟨xb, xs⟩ : Fl))]) rfl HO5.out adr0 (z - (P)) (c - (P)) (L.drop (P)) rfl (HCB.out _ HW.out) (by have := HLA.out; simp only [List.length_append, List.length_cons, List.length_nil]; omega) HW.out.size ?_; intro v4 w4 HO4 HG4 _; have HW4 : Hid (Below w1.heap.size w1 w4) := HW.out.grown HG4.out HW.out.size fun k e => (HO5.out.lt k e).1; clear HG4; have hy4 := cell_below HW4.out HC1.out; have hf4 := (HR1.out.blk.below HW4.out HR1.out.blk.lt).frozen 0; obtain ⟨a4, c4, hv4, _⟩ := HO4.out.els; obtain ⟨n4, hn4⟩ : ∃ n', n' = (L.take P ++ [(n, (⟨xb, xs⟩ : Fl))] ++ L.drop (P)).length := ⟨_, rfl⟩; rw [← hn4] at hv4; clear hn4; subst hv4; have HFK : Hid (∀ {j : Nat} {u : Value}, w4.cell? ⟨B0, j, none⟩ = some u → (w4.setCell ⟨m, 0, none⟩ (.slice a4 n4 c4)).cell? ⟨B0, j, none⟩ = some u) := fun h => ((Keep.refl m w4).setCell 0 _).cell HBM.out h
          simp only [Act.put, List.setIfInBounds_toArray, List.set_cons_zero, List.set_cons_succ]
          refine hK.out _ _ (⟨cell_below HW4.out (HBX.out.one rfl), cell_below HW4.out (HBX.out.one rfl), cell_below HW4.out (HBX.out.one rfl)⟩) (fun hHeld => ?_)
          clear hK K
          refine wpAnyH_take (i := 14) (oi := { dst := some 42, op := .nilCheck (.tmp 28), type := 0, pos := "chain.go:75", after := #[{ on := 0, ground := .data }, { on := 0, ground := .phase }, { on := 1, ground := .phase }, { on := 2, ground := .phase }, { on := 3, ground := .phase }, { on := 4, ground := .phase }, { on := 5, ground := .phase }, { on := 6, ground := .phase }, { on := 7, ground := .phase }, { on := 8, ground := .phase }, { on := 9, ground := .phase }, { on := 10, ground := .phase }, { on := 11, ground := .phase }, { on := 12, ground := .phase }, { on := 13, ground := .phase }], guard := none }) (v := ?_) rfl (by kernel_rfl) (by kernel_rfl) (by kernel_rfl) (fun _ _ _ h => h) (Or.inl ⟨by rfl, ?_⟩) (by assumption) ?_
          rotate_left
          · intro _ _; go_simp; first | done | with_reducible rfl
          simp only [Act.put, List.setIfInBounds_toArray, List.set_cons_zero, List.set_cons_succ]
          refine wpAnyH_take (i := 15) (oi := { dst := some 43, op := .fieldAddr 50 (.tmp 42) 0, type := 0, pos := "chain.go:75", after := #[{ on := 14, ground := .data }, { on := 0, ground := .phase }, { on := 1, ground := .phase }, { on := 2, ground := .phase }, { on := 3, ground := .phase }, { on := 4, ground := .phase }, { on := 5, ground := .phase }, { on := 6, ground := .phase }, { on := 7, ground := .phase }, { on := 8, ground := .phase }, { on := 9, ground := .phase }, { on := 10, ground := .phase }, { on := 11, ground := .phase }, { on := 12, ground := .phase }, { on := 13, ground := .phase }], guard := none }) (v := ?_) rfl (by kernel_rfl) (by kernel_rfl) (by kernel_rfl) (fun _ _ _ h => h) (Or.inl ⟨by rfl, ?_⟩) (by assumption) ?_
          rotate_left
          · intro _ _; go_simp; first | done | with_reducible rfl
          simp only [Act.put, List.setIfInBounds_toArray, List.set_cons_zero, List.set_cons_succ]
          refine wpAnyH_ready (rs := [16]) (by kernel_rfl) (by simp) ?_
          refine AllReadyH.cons (o := { dst := none, op := .store 48 (.tmp 43) (.tmp 41), type := 0, pos := "chain.go:75", after := #[{ on := 15, ground := .data }, { on := 13, ground := .data }, { on := 13, ground := .chain }, { on := 0, ground := .phase }, { on := 1, ground := .phase }, { on := 2, ground := .phase }, { on := 3, ground := .phase }, { on := 4, ground := .phase }, { on := 5, ground := .phase }, { on := 6, ground := .phase }, { on := 7, ground := .phase }, { on := 8, ground := .phase }, { on := 9, ground := .phase }, { on := 10, ground := .phase }, { on := 11, ground := .phase }, { on := 12, ground := .phase }, { on := 13, ground := .phase }], guard := none }) rfl (fun K hK => ?_) AllReadyH.nil
          go_simp
          skip
          go_simp
          refine hK.out _ _ (⟨HFK.out (cell_below HW4.out (HBX.out.one rfl)), HFK.out (cell_below HW4.out (HBX.out.one rfl)), HFK.out (cell_below HW4.out (HBX.out.one rfl))⟩) (fun hHeld => ?_)
          clear hK K
          refine wpAnyH_done (by kernel_rfl) ?_ _
          refine NoPanic.normal ?_
          clear hHeld hy4 hf4 HFK
          generalize hw5 : World.setCell w4 _ _ = w5
          have HFIN : Hid (RkAt w5 m (.slice a4 n4 c4) ⟨L', fuse, dark, ops⟩ ∧ Keep m w w5 ∧ Mvd w (.slice a z c) (.slice a4 n4 c4)) := by
            have hk : Keep m w4 w5 := by rw [← hw5]; exact (Keep.refl _ _).setCell _ _
            have hb5 : Blk w5 m [.slice a4 n4 c4, .int .i64 fuse, .bool dark, .int .i64 ops] := by rw [← hw5]; exact (HR1.out.blk.below HW4.out HR1.out.blk.lt).set 0 _
            have hm : m < w1.heap.size := HR1.out.blk.lt
            have hne : ∀ k, (Value.slice a4 n4 c4).ownBlock = some k → k ≠ m := fun k e => by have := (HO4.out.lt k e).1; omega
            have hs1 := HB1.out.size
            refine ⟨⟨hb5, ?_, hne⟩, (Keep.of_below (HB1.out.trans (HW4.out.mono hs1))).trans hk, fun k e => .inr (by have := (HO4.out.lt k e).1; omega)⟩
            show OwnF w5 0 _ L'
            rw [HLQ.out]
            exact OwnE.same (OwnE.less0 HO4.out) fun k e => hk.block k (HO4.out.lt k e).2 (hne k e)
          clear hw5 HO4 HW4
          go_wp2_with fail
          go_end0
          exact ⟨rfl, _, HFIN.out⟩
      · refine step_build_own elF rfl _ rfl (n, ⟨xb, xs⟩) rfl ?_; intro wn g10 HX' HBn; (try replace HO1 : Hid _ := HO1.out.below HBn.out); (try replace HO3 : Hid _ := HO3.out.below HBn.out); clear HX; have HX := HX'; clear HX'; replace HW : Hid (Below w1.heap.size w1 wn) := HW.out.trans (HBn.out.mono HW.out.size); clear HBn; have hcn := cell_below HW.out HC1.out
        simp only [Act.put, List.setIfInBounds_toArray, List.set_cons_zero, List.set_cons_succ]
        refine hK.out _ _ (⟨cell_below HW.out (HBX.out.one rfl), cell_below HW.out (HBX.out.one rfl), cell_below HW.out (HBX.out.one rfl)⟩) (fun hHeld => ?_)
        clear hK K
        refine wpAnyH_ready (rs := [5]) (by kernel_rfl) (by simp) ?_
        refine AllReadyH.cons (o := { dst := some 33, op := .load 48 (.tmp 32), type := 48, pos := "chain.go:75", after := #[{ on := 4, ground := .data }], guard := none }) rfl (fun K hK => ?_) AllReadyH.nil
        go_simp
        skip
        go_simp
        refine hK.out _ _ (⟨cell_below HW.out (HBX.out.one rfl), cell_below HW.out (HBX.out.one rfl), cell_below HW.out (HBX.out.one rfl)⟩) (fun hHeld => ?_)
        clear hK K
        refine wpAnyH_take (i := 7) (oi := { dst := some 35, op := .slice 48 (.tmp 33) none (some (.tmp 34)) none, type := 48, pos := "chain.go:75", after := #[{ on := 5, ground := .data }, { on := 6, ground := .data }], guard := none }) (v := .slice a P c) rfl (by kernel_rfl) (by kernel_rfl) (by kernel_rfl) (fun _ _ _ h => h) (Or.inl ⟨by rfl, ?_⟩) (by assumption) ?_
        · intro _ _; go_simp
        simp only [Act.put, List.setIfInBounds_toArray, List.set_cons_zero, List.set_cons_succ]
        refine wpAnyH_ready (rs := [8]) (by kernel_rfl) (by simp) ?_
        refine AllReadyH.cons (o := { dst := some 36, op := .call { callee := .builtin Go.Builtin.append, args := #[.tmp 29, .tmp 35], argTypes := #[48, 48] }, type := 48, pos := "chain.go:75", after := #[{ on := 1, ground := .data }, { on := 7, ground := .data }], guard := none }) rfl (fun K hK => ?_) AllReadyH.nil
        refine step_append_e elF rfl _ _ rfl w1.heap.size _ [] rfl HO1.out a P c (L.take P) rfl (HCA.out _ HW.out) (by have := HLA.out; simp only [List.length_nil]; omega) HW.out.size ?_; intro v3 wn HO3' HG3 _; rw [List.nil_append] at HO3'; (try replace HX : Hid _ := HX.out.later fun b' o' _ e => HG3.out.5 b' (HX.out.lt1 e (by omega) (by decide)) fun e2 => own_ne HO1.out HX.out (by decide) (by injection e with e; injection e with e _ _; injection e2 with e2; rw [e]; exact e2)); replace HW : Hid (Below w1.heap.size w1 wn) := HW.out.grown HG3.out HW.out.size fun k e => (HO1.out.lt k e).1; clear HG3 HO3; have HO3 := HO3'; clear HO3'; have hcn := cell_below HW.out HC1.out; obtain ⟨a3, c3, hv3, _⟩ := HO3.out.els; obtain ⟨n3, hn3⟩ : ∃ n, n = (L.take P).length := ⟨_, rfl⟩; rw [← hn3] at hv3; clear hn3; subst hv3
        simp only [Act.put, List.setIfInBounds_toArray, List.set_cons_zero, List.set_cons_succ]
        refine hK.out _ _ (⟨cell_below HW.out (HBX.out.one rfl), cell_below HW.out (HBX.out.one rfl), cell_below HW.out (HBX.out.one rfl)⟩) (fun hHeld => ?_)
        clear hK K
        refine wpAnyH_ready (rs := [11]) (by kernel_rfl) (by simp) ?_
        refine AllReadyH.cons (o := { dst := some 39, op := .call { callee := .builtin Go.Builtin.append, args := #[.tmp 36, .tmp 38], argTypes := #[48, 48] }, type := 48, pos := "chain.go:75", after := #[{ on := 8, ground := .data }, { on := 10, ground := .data }, { on := 8, ground := .chain }], guard := none }) rfl (fun K hK => ?_) AllReadyH.nil
        refine step_append_e elF rfl _ _ rfl w1.heap.size _ (L.take P) rfl HO3.out _ 1 1 [(n, ⟨xb, xs⟩)] rfl HX.out (by have := HLA.out; omega) HW.out.size ?_; intro v5 wn HO5 HG5 _; replace HW : Hid (Below w1.heap.size w1 wn) := HW.out.grown HG5.out HW.out.size fun k e => (HO3.out.lt k e).1; clear HG5; have hcn := cell_below HW.out HC1.out; obtain ⟨a5, c5, hv5, _⟩ := HO5.out.els; obtain ⟨n5, hn5⟩ : ∃ n', n' = (L.take P ++ [(n, (⟨xb, xs⟩ : Fl))]).length := ⟨_, rfl⟩; rw [← hn5] at hv5; clear hn5; subst hv5
        simp only [Act.put, List.setIfInBounds_toArray, List.set_cons_zero, List.set_cons_succ]
        refine hK.out _ _ (⟨cell_below HW.out (HBX.out.one rfl), cell_below HW.out (HBX.out.one rfl), cell_below HW.out (HBX.out.one rfl)⟩) (fun hHeld => ?_)
        clear hK K
        refine wpAnyH_ready (rs := [13]) (by kernel_rfl) (by simp) ?_
        refine AllReadyH.cons (o := { dst := some 41, op := .call { callee := .builtin Go.Builtin.append, args := #[.tmp 39, .tmp 40], argTypes := #[48, 48] }, type := 48, pos := "chain.go:75", after := #[{ on := 11, ground := .data }, { on := 12, ground := .data }, { on := 11, ground := .chain }], guard := none }) rfl (fun K hK => ?_) AllReadyH.nil
        refine step_append_e elF rfl _ _ rfl w1.heap.size _ (L.take P ++ [(n, (⟨xb, xs⟩ : Fl))]) rfl HO5.out adr0 (z - (P)) (c - (P)) (L.drop (P)) rfl (HCB.out _ HW.out) (by have := HLA.out; simp only [List.length_append, List.length_cons, List.length_nil]; omega) HW.out.size ?_; intro v4 w4 HO4 HG4 _; have HW4 : Hid (Below w1.heap.size w1 w4) := HW.out.grown HG4.out HW.out.size fun k e => (HO5.out.lt k e).1; clear HG4; have hy4 := cell_below HW4.out HC1.out; have hf4 := (HR1.out.blk.below HW4.out HR1.out.blk.lt).frozen 0; obtain ⟨a4, c4, hv4, _⟩ := HO4.out.els; obtain ⟨n4, hn4⟩ : ∃ n', n' = (L.take P ++ [(n, (⟨xb, xs⟩ : Fl))] ++ L.drop (P)).length := ⟨_, rfl⟩; rw [← hn4] at hv4; clear hn4; subst hv4; have HFK : Hid (∀ {j : Nat} {u : Value}, w4.cell? ⟨B0, j, none⟩ = some u → (w4.setCell ⟨m, 0, none⟩ (.slice a4 n4 c4)).cell? ⟨B0, j, none⟩ = some u) := fun h => ((Keep.refl m w4).setCell 0 _).cell HBM.out h
        simp only [Act.put, List.setIfInBounds_toArray, List.set_cons_zero, List.set_cons_succ]
        refine hK.out _ _ (⟨cell_below HW4.out (HBX.out.one rfl), cell_below HW4.out (HBX.out.one rfl), cell_below HW4.out (HBX.out.one rfl)⟩) (fun hHeld => ?_)
        clear hK K
        refine wpAnyH_take (i := 14) (oi := { dst := some 42, op := .nilCheck (.tmp 28), type := 0, pos := "chain.go:75", after := #[{ on := 0, ground := .data }, { on := 0, ground := .phase }, { on := 1, ground := .phase }, { on := 2, ground := .phase }, { on := 3, ground := .phase }, { on := 4, ground := .phase }, { on := 5, ground := .phase }, { on := 6, ground := .phase }, { on := 7, ground := .phase }, { on := 8, ground := .phase }, { on := 9, ground := .phase }, { on := 10, ground := .phase }, { on := 11, ground := .phase }, { on := 12, ground := .phase }, { on := 13, ground := .phase }], guard := none }) (v := ?_) rfl (by kernel_rfl) (by kernel_rfl) (by kernel_rfl) (fun _ _ _ h => h) (Or.inl ⟨by rfl, ?_⟩) (by assumption) ?_
        rotate_left
        · intro _ _; go_simp; first | done | with_reducible rfl
        simp only [Act.put, List.setIfInBounds_toArray, List.set_cons_zero, List.set_cons_succ]
        refine wpAnyH_take (i := 15) (oi := { dst := some 43, op := .fieldAddr 50 (.tmp 42) 0, type := 0, pos := "chain.go:75", after := #[{ on := 14, ground := .data }, { on := 0, ground := .phase }, { on := 1, ground := .phase }, { on := 2, ground := .phase }, { on := 3, ground := .phase }, { on := 4, ground := .phase }, { on := 5, ground := .phase }, { on := 6, ground := .phase }, { on := 7, ground := .phase }, { on := 8, ground := .phase }, { on := 9, ground := .phase }, { on := 10, ground := .phase }, { on := 11, ground := .phase }, { on := 12, ground := .phase }, { on := 13, ground := .phase }], guard := none }) (v := ?_) rfl (by kernel_rfl) (by kernel_rfl) (by kernel_rfl) (fun _ _ _ h => h) (Or.inl ⟨by rfl, ?_⟩) (by assumption) ?_
        rotate_left
        · intro _ _; go_simp; first | done | with_reducible rfl
        simp only [Act.put, List.setIfInBounds_toArray, List.set_cons_zero, List.set_cons_succ]
        refine wpAnyH_ready (rs := [16]) (by kernel_rfl) (by simp) ?_
        refine AllReadyH.cons (o := { dst := none, op := .store 48 (.tmp 43) (.tmp 41), type := 0, pos := "chain.go:75", after := #[{ on := 15, ground := .data }, { on := 13, ground := .data }, { on := 13, ground := .chain }, { on := 0, ground := .phase }, { on := 1, ground := .phase }, { on := 2, ground := .phase }, { on := 3, ground := .phase }, { on := 4, ground := .phase }, { on := 5, ground := .phase }, { on := 6, ground := .phase }, { on := 7, ground := .phase }, { on := 8, ground := .phase }, { on := 9, ground := .phase }, { on := 10, ground := .phase }, { on := 11, ground := .phase }, { on := 12, ground := .phase }, { on := 13, ground := .phase }], guard := none }) rfl (fun K hK => ?_) AllReadyH.nil
        go_simp
        skip
        go_simp
        refine hK.out _ _ (⟨HFK.out (cell_below HW4.out (HBX.out.one rfl)), HFK.out (cell_below HW4.out (HBX.out.one rfl)), HFK.out (cell_below HW4.out (HBX.out.one rfl))⟩) (fun hHeld => ?_)
        clear hK K
        refine wpAnyH_done (by kernel_rfl) ?_ _
        refine NoPanic.normal ?_
        clear hHeld hy4 hf4 HFK
        generalize hw5 : World.setCell w4 _ _ = w5
        have HFIN : Hid (RkAt w5 m (.slice a4 n4 c4) ⟨L', fuse, dark, ops⟩ ∧ Keep m w w5 ∧ Mvd w (.slice a z c) (.slice a4 n4 c4)) := by
          have hk : Keep m w4 w5 := by rw [← hw5]; exact (Keep.refl _ _).setCell _ _
          have hb5 : Blk w5 m [.slice a4 n4 c4, .int .i64 fuse, .bool dark, .int .i64 ops] := by rw [← hw5]; exact (HR1.out.blk.below HW4.out HR1.out.blk.lt).set 0 _
          have hm : m < w1.heap.size := HR1.out.blk.lt
          have hne : ∀ k, (Value.slice a4 n4 c4).ownBlock = some k → k ≠ m := fun k e => by have := (HO4.out.lt k e).1; omega
          have hs1 := HB1.out.size
          refine ⟨⟨hb5, ?_, hne⟩, (Keep.of_below (HB1.out.trans (HW4.out.mono hs1))).trans hk, fun k e => .inr (by have := (HO4.out.lt k e).1; omega)⟩
          show OwnF w5 0 _ L'
          rw [HLQ.out]
          exact OwnE.same (OwnE.less0 HO4.out) fun k e => hk.block k (HO4.out.lt k e).2 (hne k e)
        clear hw5 HO4 HW4
        go_wp2_with fail
        go_end0
        exact ⟨rfl, _, HFIN.out⟩
    · go_simp
      skip
      go_simp
      refine hK.out _ _ (⟨cell_below HW.out (HBX.out.one rfl), cell_below HW.out (HBX.out.one rfl), cell_below HW.out (HBX.out.one rfl)⟩) (fun hHeld => ?_)
      clear hK K
      refine wpAnyH_take (i := 7) (oi := { dst := some 35, op := .slice 48 (.tmp 33) none (some (.tmp 34)) none, type := 48, pos := "chain.go:75", after := #[{ on := 5, ground := .data }, { on := 6, ground := .data }], guard := none }) (v := .slice a P c) rfl (by kernel_rfl) (by kernel_rfl) (by kernel_rfl) (fun _ _ _ h => h) (Or.inl ⟨by rfl, ?_⟩) (by assumption) ?_
      · intro _ _; go_simp
      simp only [Act.put, List.setIfInBounds_toArray, List.set_cons_zero, List.set_cons_succ]
      refine wpAnyH_ready (rs := [1, 10]) (by kernel_rfl) (by simp) ?_
      refine (AllReadyH.cons (o := { dst := some 29, op := .buildSlice 48 0 #[], type := 48, pos := "chain.go:75", after := #[], guard := none }) rfl (fun K hK => ?_) (AllReadyH.cons (o := { dst := some 38, op := .buildSlice 48 1 #[(0, .tmp 37)], type := 48, pos := "chain.go:75", after := #[{ on := 9, ground := .data }], guard := none }) rfl (fun K hK => ?_) AllReadyH.nil))
      · refine step_build_none elF rfl rfl w1.heap.size HW.out.size ?_; intro wn g1 HO1' HBn; (try replace HX : Hid _ := HX.out.below HBn.out); clear HO1; have HO1 := HO1'; clear HO1'; replace HW : Hid (Below w1.heap.size w1 wn) := HW.out.trans (HBn.out.mono HW.out.size); clear HBn; have hcn := cell_below HW.out HC1.out
        simp only [Act.put, List.setIfInBounds_toArray, List.set_cons_zero, List.set_cons_succ]
        refine hK.out _ _ (⟨cell_below HW.out (HBX.out.one rfl), cell_below HW.out (HBX.out.one rfl), cell_below HW.out (HBX.out.one rfl)⟩) (fun hHeld => ?_)
        clear hK K
        refine wpAnyH_ready (rs := [8, 10]) (by kernel_rfl) (by simp) ?_
        refine (AllReadyH.cons (o := { dst := some 36, op := .call { callee := .builtin Go.Builtin.append, args := #[.tmp 29, .tmp 35], argTypes := #[48, 48] }, type := 48, pos := "chain.go:75", after := #[{ on := 1, ground := .data }, { on := 7, ground := .data }], guard := none }) rfl (fun K hK => ?_) (AllReadyH.cons (o := { dst := some 38, op := .buildSlice 48 1 #[(0, .tmp 37)], type := 48, pos := "chain.go:75", after := #[{ on := 9, ground := .data }], guard := none }) rfl (fun K hK => ?_) AllReadyH.nil))
        · refine step_append_e elF rfl _ _ rfl w1.heap.size _ [] rfl HO1.out a P c (L.take P) rfl (HCA.out _ HW.out) (by have := HLA.out; simp only [List.length_nil]; omega) HW.out.size ?_; intro v3 wn HO3' HG3 _; rw [List.nil_append] at HO3'; (try replace HX : Hid _ := HX.out.later fun b' o' _ e => HG3.out.5 b' (HX.out.lt1 e (by omega) (by decide)) fun e2 => own_ne HO1.out HX.out (by decide) (by injection e with e; injection e with e _ _; injection e2 with e2; rw [e]; exact e2)); replace HW : Hid (Below w1.heap.size w1 wn) := HW.out.grown HG3.out HW.out.size fun k e => (HO1.out.lt k e).1; clear HG3 HO3; have HO3 := HO3'; clear HO3'; have hcn := cell_below HW.out HC1.out; obtain ⟨a3, c3, hv3, _⟩ := HO3.out.els; obtain ⟨n3, hn3⟩ : ∃ n, n = (L.take P).length := ⟨_, rfl⟩; rw [← hn3] at hv3; clear hn3; subst hv3
          simp only [Act.put, List.setIfInBounds_toArray, List.set_cons_zero, List.set_cons_succ]
          refine hK.out _ _ (⟨cell_below HW.out (HBX.out.one rfl), cell_below HW.out (HBX.out.one rfl), cell_below HW.out (HBX.out.one rfl)⟩) (fun hHeld => ?_)
          clear hK K
          refine wpAnyH_ready (rs := [10]) (by kernel_rfl) (by simp) ?_
          refine AllReadyH.cons (o := { dst := some 38, op := .buildSlice 48 1 #[(0, .tmp 37)], type := 48, pos := "chain.go:75", after := #[{ on := 9, ground := .data }], guard := none }) rfl (fun K hK => ?_) AllReadyH.nil
          refine step_build_own elF rfl _ rfl (n, ⟨xb, xs⟩) rfl ?_; intro wn g10 HX' HBn; (try replace HO1 : Hid _ := HO1.out.below HBn.out); (try replace HO3 : Hid _ := HO3.out.below HBn.out); clear HX; have HX := HX'; clear HX'; replace HW : Hid (Below w1.heap.size w1 wn) := HW.out.trans (HBn.out.mono HW.out.size); clear HBn; have hcn := cell_below HW.out HC1.out
          simp only [Act.put, List.setIfInBounds_toArray, List.set_cons_zero, List.set_cons_succ]
          refine hK.out _ _ (⟨cell_below HW.out (HBX.out.one rfl), cell_below HW.out (HBX.out.one rfl), cell_below HW.out (HBX.out.one rfl)⟩) (fun hHeld => ?_)
          clear hK K
          refine wpAnyH_ready (rs := [11]) (by kernel_rfl) (by simp) ?_
          refine AllReadyH.cons (o := { dst := some 39, op := .call { callee := .builtin Go.Builtin.append, args := #[.tmp 36, .tmp 38], argTypes := #[48, 48] }, type := 48, pos := "chain.go:75", after := #[{ on := 8, ground := .data }, { on := 10, ground := .data }, { on := 8, ground := .chain }], guard := none }) rfl (fun K hK => ?_) AllReadyH.nil
          refine step_append_e elF rfl _ _ rfl w1.heap.size _ (L.take P) rfl HO3.out _ 1 1 [(n, ⟨xb, xs⟩)] rfl HX.out (by have := HLA.out; omega) HW.out.size ?_; intro v5 wn HO5 HG5 _; replace HW : Hid (Below w1.heap.size w1 wn) := HW.out.grown HG5.out HW.out.size fun k e => (HO3.out.lt k e).1; clear HG5; have hcn := cell_below HW.out HC1.out; obtain ⟨a5, c5, hv5, _⟩ := HO5.out.els; obtain ⟨n5, hn5⟩ : ∃ n', n' = (L.take P ++ [(n, (⟨xb, xs⟩ : Fl))]).length := ⟨_, rfl⟩; rw [← hn5] at hv5; clear hn5; subst hv5
          simp only [Act.put, List.setIfInBounds_toArray, List.set_cons_zero, List.set_cons_succ]
          refine hK.out _ _ (⟨cell_below HW.out (HBX.out.one rfl), cell_below HW.out (HBX.out.one rfl), cell_below HW.out (HBX.out.one rfl)⟩) (fun hHeld => ?_)
          clear hK K
          refine wpAnyH_ready (rs := [13]) (by kernel_rfl) (by simp) ?_
          refine AllReadyH.cons (o := { dst := some 41, op := .call { callee := .builtin Go.Builtin.append, args := #[.tmp 39, .tmp 40], argTypes := #[48, 48] }, type := 48, pos := "chain.go:75", after := #[{ on := 11, ground := .data }, { on := 12, ground := .data }, { on := 11, ground := .chain }], guard := none }) rfl (fun K hK => ?_) AllReadyH.nil
          refine step_append_e elF rfl _ _ rfl w1.heap.size _ (L.take P ++ [(n, (⟨xb, xs⟩ : Fl))]) rfl HO5.out adr0 (z - (P)) (c - (P)) (L.drop (P)) rfl (HCB.out _ HW.out) (by have := HLA.out; simp only [List.length_append, List.length_cons, List.length_nil]; omega) HW.out.size ?_; intro v4 w4 HO4 HG4 _; have HW4 : Hid (Below w1.heap.size w1 w4) := HW.out.grown HG4.out HW.out.size fun k e => (HO5.out.lt k e).1; clear HG4; have hy4 := cell_below HW4.out HC1.out; have hf4 := (HR1.out.blk.below HW4.out HR1.out.blk.lt).frozen 0; obtain ⟨a4, c4, hv4, _⟩ := HO4.out.els; obtain ⟨n4, hn4⟩ : ∃ n', n' = (L.take P ++ [(n, (⟨xb, xs⟩ : Fl))] ++ L.drop (P)).length := ⟨_, rfl⟩; rw [← hn4] at hv4; clear hn4; subst hv4; have HFK : Hid (∀ {j : Nat} {u : Value}, w4.cell? ⟨B0, j, none⟩ = some u → (w4.setCell ⟨m, 0, none⟩ (.slice a4 n4 c4)).cell? ⟨B0, j, none⟩ = some u) := fun h => ((Keep.refl m w4).setCell 0 _).cell HBM.out h
          simp only [Act.put, List.setIfInBounds_toArray, List.set_cons_zero, List.set_cons_succ]
          refine hK.out _ _ (⟨cell_below HW4.out (HBX.out.one rfl), cell_below HW4.out (HBX.out.one rfl), cell_below HW4.out (HBX.out.one rfl)⟩) (fun hHeld => ?_)
          clear hK K
          refine wpAnyH_take (i := 14) (oi := { dst := some 42, op := .nilCheck (.tmp 28), type := 0, pos := "chain.go:75", after := #[{ on := 0, ground := .data }, { on := 0, ground := .phase }, { on := 1, ground := .phase }, { on := 2, ground := .phase }, { on := 3, ground := .phase }, { on := 4, ground := .phase }, { on := 5, ground := .phase }, { on := 6, ground := .phase }, { on := 7, ground := .phase }, { on := 8, ground := .phase }, { on := 9, ground := .phase }, { on := 10, ground := .phase }, { on := 11, ground := .phase }, { on := 12, ground := .phase }, { on := 13, ground := .phase }], guard := none }) (v := ?_) rfl (by kernel_rfl) (by kernel_rfl) (by kernel_rfl) (fun _ _ _ h => h) (Or.inl ⟨by rfl, ?_⟩) (by assumption) ?_
          rotate_left
          · intro _ _; go_simp; first | done | with_reducible rfl
          simp only [Act.put, List.setIfInBounds_toArray, List.set_cons_zero, List.set_cons_succ]
          refine wpAnyH_take (i := 15) (oi := { dst := some 43, op := .fieldAddr 50 (.tmp 42) 0, type := 0, pos := "chain.go:75", after := #[{ on := 14, ground := .data }, { on := 0, ground := .phase }, { on := 1, ground := .phase }, { on := 2, ground := .phase }, { on := 3, ground := .phase }, { on := 4, ground := .phase }, { on := 5, ground := .phase }, { on := 6, ground := .phase }, { on := 7, ground := .phase }, { on := 8, ground := .phase }, { on := 9, ground := .phase }, { on := 10, ground := .phase }, { on := 11, ground := .phase }, { on := 12, ground := .phase }, { on := 13, ground := .phase }], guard := none }) (v := ?_) rfl (by kernel_rfl) (by kernel_rfl) (by kernel_rfl) (fun _ _ _ h => h) (Or.inl ⟨by rfl, ?_⟩) (by assumption) ?_
          rotate_left
          · intro _ _; go_simp; first | done | with_reducible rfl
          simp only [Act.put, List.setIfInBounds_toArray, List.set_cons_zero, List.set_cons_succ]
          refine wpAnyH_ready (rs := [16]) (by kernel_rfl) (by simp) ?_
          refine AllReadyH.cons (o := { dst := none, op := .store 48 (.tmp 43) (.tmp 41), type := 0, pos := "chain.go:75", after := #[{ on := 15, ground := .data }, { on := 13, ground := .data }, { on := 13, ground := .chain }, { on := 0, ground := .phase }, { on := 1, ground := .phase }, { on := 2, ground := .phase }, { on := 3, ground := .phase }, { on := 4, ground := .phase }, { on := 5, ground := .phase }, { on := 6, ground := .phase }, { on := 7, ground := .phase }, { on := 8, ground := .phase }, { on := 9, ground := .phase }, { on := 10, ground := .phase }, { on := 11, ground := .phase }, { on := 12, ground := .phase }, { on := 13, ground := .phase }], guard := none }) rfl (fun K hK => ?_) AllReadyH.nil
          go_simp
          skip
          go_simp
          refine hK.out _ _ (⟨HFK.out (cell_below HW4.out (HBX.out.one rfl)), HFK.out (cell_below HW4.out (HBX.out.one rfl)), HFK.out (cell_below HW4.out (HBX.out.one rfl))⟩) (fun hHeld => ?_)
          clear hK K
          refine wpAnyH_done (by kernel_rfl) ?_ _
          refine NoPanic.normal ?_
          clear hHeld hy4 hf4 HFK
          generalize hw5 : World.setCell w4 _ _ = w5
          have HFIN : Hid (RkAt w5 m (.slice a4 n4 c4) ⟨L', fuse, dark, ops⟩ ∧ Keep m w w5 ∧ Mvd w (.slice a z c) (.slice a4 n4 c4)) := by
            have hk : Keep m w4 w5 := by rw [← hw5]; exact (Keep.refl _ _).setCell _ _
            have hb5 : Blk w5 m [.slice a4 n4 c4, .int .i64 fuse, .bool dark, .int .i64 ops] := by rw [← hw5]; exact (HR1.out.blk.below HW4.out HR1.out.blk.lt).set 0 _
            have hm : m < w1.heap.size := HR1.out.blk.lt
            have hne : ∀ k, (Value.slice a4 n4 c4).ownBlock = some k → k ≠ m := fun k e => by have := (HO4.out.lt k e).1; omega
            have hs1 := HB1.out.size
            refine ⟨⟨hb5, ?_, hne⟩, (Keep.of_below (HB1.out.trans (HW4.out.mono hs1))).trans hk, fun k e => .inr (by have := (HO4.out.lt k e).1; omega)⟩
            show OwnF w5 0 _ L'
            rw [HLQ.out]
            exact OwnE.same (OwnE.less0 HO4.out) fun k e => hk.block k (HO4.out.lt k e).2 (hne k e)
          clear hw5 HO4 HW4
          go_wp2_with fail
          go_end0
          exact ⟨rfl, _, HFIN.out⟩
        · refine step_build_own elF rfl _ rfl (n, ⟨xb, xs⟩) rfl ?_; intro wn g10 HX' HBn; (try replace HO1 : Hid _ := HO1.out.below HBn.out); (try replace HO3 : Hid _ := HO3.out.below HBn.out); clear HX; have HX := HX'; clear HX'; replace HW : Hid (Below w1.heap.size w1 wn) := HW.out.trans (HBn.out.mono HW.out.size); clear HBn; have hcn := cell_below HW.out HC1.out
          simp only [Act.put, List.setIfInBounds_toArray, List.set_cons_zero, List.set_cons_succ]
          refine hK.out _ _ (⟨cell_below HW.out (HBX.out.one rfl), cell_below HW.out (HBX.out.one rfl), cell_below HW.out (HBX.out.one rfl)⟩) (fun hHeld => ?_)
          clear hK K
          refine wpAnyH_ready (rs := [8]) (by kernel_rfl) (by simp) ?_
          refine AllReadyH.cons (o := { dst := some 36, op := .call { callee := .builtin Go.Builtin.append, args := #[.tmp 29, .tmp 35], argTypes := #[48, 48] }, type := 48, pos := "chain.go:75", after := #[{ on := 1, ground := .data }, { on := 7, ground := .data }], guard := none }) rfl (fun K hK => ?_) AllReadyH.nil
          refine step_append_e elF rfl _ _ rfl w1.heap.size _ [] rfl HO1.out a P c (L.take P) rfl (HCA.out _ HW.out) (by have := HLA.out; simp only [List.length_nil]; omega) HW.out.size ?_; intro v3 wn HO3' HG3 _; rw [List.nil_append] at HO3'; (try replace HX : Hid _ := HX.out.later fun b' o' _ e => HG3.out.5 b' (HX.out.lt1 e (by omega) (by decide)) fun e2 => own_ne HO1.out HX.out (by decide) (by injection e with e; injection e with e _ _; injection e2 with e2; rw [e]; exact e2)); replace HW : Hid (Below w1.heap.size w1 wn) := HW.out.grown HG3.out HW.out.size fun k e => (HO1.out.lt k e).1; clear HG3 HO3; have HO3 := HO3'; clear HO3'; have hcn := cell_below HW.out HC1.out; obtain ⟨a3, c3, hv3, _⟩ := HO3.out.els; obtain ⟨n3, hn3⟩ : ∃ n, n = (L.take P).length := ⟨_, rfl⟩; rw [← hn3] at hv3; clear hn3; subst hv3
          simp only [Act.put, List.setIfInBounds_toArray, List.set_cons_zero, List.set_cons_succ]
          refine hK.out _ _ (⟨cell_below HW.out (HBX.out.one rfl), cell_below HW.out (HBX.out.one rfl), cell_below HW.out (HBX.out.one rfl)⟩) (fun hHeld => ?_)
          clear hK K
          refine wpAnyH_ready (rs := [11]) (by kernel_rfl) (by simp) ?_
          refine AllReadyH.cons (o := { dst := some 39, op := .call { callee := .builtin Go.Builtin.append, args := #[.tmp 36, .tmp 38], argTypes := #[48, 48] }, type := 48, pos := "chain.go:75", after := #[{ on := 8, ground := .data }, { on := 10, ground := .data }, { on := 8, ground := .chain }], guard := none }) rfl (fun K hK => ?_) AllReadyH.nil
          refine step_append_e elF rfl _ _ rfl w1.heap.size _ (L.take P) rfl HO3.out _ 1 1 [(n, ⟨xb, xs⟩)] rfl HX.out (by have := HLA.out; omega) HW.out.size ?_; intro v5 wn HO5 HG5 _; replace HW : Hid (Below w1.heap.size w1 wn) := HW.out.grown HG5.out HW.out.size fun k e => (HO3.out.lt k e).1; clear HG5; have hcn := cell_below HW.out HC1.out; obtain ⟨a5, c5, hv5, _⟩ := HO5.out.els; obtain ⟨n5, hn5⟩ : ∃ n', n' = (L.take P ++ [(n, (⟨xb, xs⟩ : Fl))]).length := ⟨_, rfl⟩; rw [← hn5] at hv5; clear hn5; subst hv5
          simp only [Act.put, List.setIfInBounds_toArray, List.set_cons_zero, List.set_cons_succ]
          refine hK.out _ _ (⟨cell_below HW.out (HBX.out.one rfl), cell_below HW.out (HBX.out.one rfl), cell_below HW.out (HBX.out.one rfl)⟩) (fun hHeld => ?_)
          clear hK K
          refine wpAnyH_ready (rs := [13]) (by kernel_rfl) (by simp) ?_
          refine AllReadyH.cons (o := { dst := some 41, op := .call { callee := .builtin Go.Builtin.append, args := #[.tmp 39, .tmp 40], argTypes := #[48, 48] }, type := 48, pos := "chain.go:75", after := #[{ on := 11, ground := .data }, { on := 12, ground := .data }, { on := 11, ground := .chain }], guard := none }) rfl (fun K hK => ?_) AllReadyH.nil
          refine step_append_e elF rfl _ _ rfl w1.heap.size _ (L.take P ++ [(n, (⟨xb, xs⟩ : Fl))]) rfl HO5.out adr0 (z - (P)) (c - (P)) (L.drop (P)) rfl (HCB.out _ HW.out) (by have := HLA.out; simp only [List.length_append, List.length_cons, List.length_nil]; omega) HW.out.size ?_; intro v4 w4 HO4 HG4 _; have HW4 : Hid (Below w1.heap.size w1 w4) := HW.out.grown HG4.out HW.out.size fun k e => (HO5.out.lt k e).1; clear HG4; have hy4 := cell_below HW4.out HC1.out; have hf4 := (HR1.out.blk.below HW4.out HR1.out.blk.lt).frozen 0; obtain ⟨a4, c4, hv4, _⟩ := HO4.out.els; obtain ⟨n4, hn4⟩ : ∃ n', n' = (L.take P ++ [(n, (⟨xb, xs⟩ : Fl))] ++ L.drop (P)).length := ⟨_, rfl⟩; rw [← hn4] at hv4; clear hn4; subst hv4; have HFK : Hid (∀ {j : Nat} {u : Value}, w4.cell? ⟨B0, j, none⟩ = some u → (w4.setCell ⟨m, 0, none⟩ (.slice a4 n4 c4)).cell? ⟨B0, j, none⟩ = some u) := fun h => ((Keep.refl m w4).setCell 0 _).cell HBM.out h
          simp only [Act.put, List.setIfInBounds_toArray, List.set_cons_zero, List.set_cons_succ]
          refine hK.out _ _ (⟨cell_below HW4.out (HBX.out.one rfl), cell_below HW4.out (HBX.out.one rfl), cell_below HW4.out (HBX.out.one rfl)⟩) (fun hHeld => ?_)
          clear hK K
          refine wpAnyH_take (i := 14) (oi := { dst := some 42, op := .nilCheck (.tmp 28), type := 0, pos := "chain.go:75", after := #[{ on := 0, ground := .data }, { on := 0, ground := .phase }, { on := 1, ground := .phase }, { on := 2, ground := .phase }, { on := 3, ground := .phase }, { on := 4, ground := .phase }, { on := 5, ground := .phase }, { on := 6, ground := .phase }, { on := 7, ground := .phase }, { on := 8, ground := .phase }, { on := 9, ground := .phase }, { on := 10, ground := .phase }, { on := 11, ground := .phase }, { on := 12, ground := .phase }, { on := 13, ground := .phase }], guard := none }) (v := ?_) rfl (by kernel_rfl) (by kernel_rfl) (by kernel_rfl) (fun _ _ _ h => h) (Or.inl ⟨by rfl, ?_⟩) (by assumption) ?_
          rotate_left
          · intro _ _; go_simp; first | done | with_reducible rfl
          simp only [Act.put, List.setIfInBounds_toArray, List.set_cons_zero, List.set_cons_succ]
          refine wpAnyH_take (i := 15) (oi := { dst := some 43, op := .fieldAddr 50 (.tmp 42) 0, type := 0, pos := "chain.go:75", after := #[{ on := 14, ground := .data }, { on := 0, ground := .phase }, { on := 1, ground := .phase }, { on := 2, ground := .phase }, { on := 3, ground := .phase }, { on := 4, ground := .phase }, { on := 5, ground := .phase }, { on := 6, ground := .phase }, { on := 7, ground := .phase }, { on := 8, ground := .phase }, { on := 9, ground := .phase }, { on := 10, ground := .phase }, { on := 11, ground := .phase }, { on := 12, ground := .phase }, { on := 13, ground := .phase }], guard := none }) (v := ?_) rfl (by kernel_rfl) (by kernel_rfl) (by kernel_rfl) (fun _ _ _ h => h) (Or.inl ⟨by rfl, ?_⟩) (by assumption) ?_
          rotate_left
          · intro _ _; go_simp; first | done | with_reducible rfl
          simp only [Act.put, List.setIfInBounds_toArray, List.set_cons_zero, List.set_cons_succ]
          refine wpAnyH_ready (rs := [16]) (by kernel_rfl) (by simp) ?_
          refine AllReadyH.cons (o := { dst := none, op := .store 48 (.tmp 43) (.tmp 41), type := 0, pos := "chain.go:75", after := #[{ on := 15, ground := .data }, { on := 13, ground := .data }, { on := 13, ground := .chain }, { on := 0, ground := .phase }, { on := 1, ground := .phase }, { on := 2, ground := .phase }, { on := 3, ground := .phase }, { on := 4, ground := .phase }, { on := 5, ground := .phase }, { on := 6, ground := .phase }, { on := 7, ground := .phase }, { on := 8, ground := .phase }, { on := 9, ground := .phase }, { on := 10, ground := .phase }, { on := 11, ground := .phase }, { on := 12, ground := .phase }, { on := 13, ground := .phase }], guard := none }) rfl (fun K hK => ?_) AllReadyH.nil
          go_simp
          skip
          go_simp
          refine hK.out _ _ (⟨HFK.out (cell_below HW4.out (HBX.out.one rfl)), HFK.out (cell_below HW4.out (HBX.out.one rfl)), HFK.out (cell_below HW4.out (HBX.out.one rfl))⟩) (fun hHeld => ?_)
          clear hK K
          refine wpAnyH_done (by kernel_rfl) ?_ _
          refine NoPanic.normal ?_
          clear hHeld hy4 hf4 HFK
          generalize hw5 : World.setCell w4 _ _ = w5
          have HFIN : Hid (RkAt w5 m (.slice a4 n4 c4) ⟨L', fuse, dark, ops⟩ ∧ Keep m w w5 ∧ Mvd w (.slice a z c) (.slice a4 n4 c4)) := by
            have hk : Keep m w4 w5 := by rw [← hw5]; exact (Keep.refl _ _).setCell _ _
            have hb5 : Blk w5 m [.slice a4 n4 c4, .int .i64 fuse, .bool dark, .int .i64 ops] := by rw [← hw5]; exact (HR1.out.blk.below HW4.out HR1.out.blk.lt).set 0 _
            have hm : m < w1.heap.size := HR1.out.blk.lt
            have hne : ∀ k, (Value.slice a4 n4 c4).ownBlock = some k → k ≠ m := fun k e => by have := (HO4.out.lt k e).1; omega
            have hs1 := HB1.out.size
            refine ⟨⟨hb5, ?_, hne⟩, (Keep.of_below (HB1.out.trans (HW4.out.mono hs1))).trans hk, fun k e => .inr (by have := (HO4.out.lt k e).1; omega)⟩
            show OwnF w5 0 _ L'
            rw [HLQ.out]
            exact OwnE.same (OwnE.less0 HO4.out) fun k e => hk.block k (HO4.out.lt k e).2 (hne k e)
          clear hw5 HO4 HW4
          go_wp2_with fail
          go_end0
          exact ⟨rfl, _, HFIN.out⟩
      · refine step_build_own elF rfl _ rfl (n, ⟨xb, xs⟩) rfl ?_; intro wn g10 HX' HBn; (try replace HO1 : Hid _ := HO1.out.below HBn.out); (try replace HO3 : Hid _ := HO3.out.below HBn.out); clear HX; have HX := HX'; clear HX'; replace HW : Hid (Below w1.heap.size w1 wn) := HW.out.trans (HBn.out.mono HW.out.size); clear HBn; have hcn := cell_below HW.out HC1.out
        simp only [Act.put, List.setIfInBounds_toArray, List.set_cons_zero, List.set_cons_succ]
        refine hK.out _ _ (⟨cell_below HW.out (HBX.out.one rfl), cell_below HW.out (HBX.out.one rfl), cell_below HW.out (HBX.out.one rfl)⟩) (fun hHeld => ?_)
        clear hK K
        refine wpAnyH_ready (rs := [1]) (by kernel_rfl) (by simp) ?_
        refine AllReadyH.cons (o := { dst := some 29, op := .buildSlice 48 0 #[], type := 48, pos := "chain.go:75", after := #[], guard := none }) rfl (fun K hK => ?_) AllReadyH.nil
        refine step_build_none elF rfl rfl w1.heap.size HW.out.size ?_; intro wn g1 HO1' HBn; (try replace HX : Hid _ := HX.out.below HBn.out); clear HO1; have HO1 := HO1'; clear HO1'; replace HW : Hid (Below w1.heap.size w1 wn) := HW.out.trans (HBn.out.mono HW.out.size); clear HBn; have hcn := cell_below HW.out HC1.out
        simp only [Act.put, List.setIfInBounds_toArray, List.set_cons_zero, List.set_cons_succ]
        refine hK.out _ _ (⟨cell_below HW.out (HBX.out.one rfl), cell_below HW.out (HBX.out.one rfl), cell_below HW.out (HBX.out.one rfl)⟩) (fun hHeld => ?_)
        clear hK K
        refine wpAnyH_ready (rs := [8]) (by kernel_rfl) (by simp) ?_
        refine AllReadyH.cons (o := { dst := some 36, op := .call { callee := .builtin Go.Builtin.append, args := #[.tmp 29, .tmp 35], argTypes := #[48, 48] }, type := 48, pos := "chain.go:75", after := #[{ on := 1, ground := .data }, { on := 7, ground := .data }], guard := none }) rfl (fun K hK => ?_) AllReadyH.nil
        refine step_append_e elF rfl _ _ rfl w1.heap.size _ [] rfl HO1.out a P c (L.take P) rfl (HCA.out _ HW.out) (by have := HLA.out; simp only [List.length_nil]; omega) HW.out.size ?_; intro v3 wn HO3' HG3 _; rw [List.nil_append] at HO3'; (try replace HX : Hid _ := HX.out.later fun b' o' _ e => HG3.out.5 b' (HX.out.lt1 e (by omega) (by decide)) fun e2 => own_ne HO1.out HX.out (by decide) (by injection e with e; injection e with e _ _; injection e2 with e2; rw [e]; exact e2)); replace HW : Hid (Below w1.heap.size w1 wn) := HW.out.grown HG3.out HW.out.size fun k e => (HO1.out.lt k e).1; clear HG3 HO3; have HO3 := HO3'; clear HO3'; have hcn := cell_below HW.out HC1.out; obtain ⟨a3, c3, hv3, _⟩ := HO3.out.els; obtain ⟨n3, hn3⟩ : ∃ n, n = (L.take P).length := ⟨_, rfl⟩; rw [← hn3] at hv3; clear hn3; subst hv3
        simp only [Act.put, List.setIfInBounds_toArray, List.set_cons_zero, List.set_cons_succ]
        refine hK.out _ _ (⟨cell_below HW.out (HBX.out.one rfl), cell_below HW.out (HBX.out.one rfl), cell_below HW.out (HBX.out.one rfl)⟩) (fun hHeld => ?_)
        clear hK K
        refine wpAnyH_ready (rs := [11]) (by kernel_rfl) (by simp) ?_
        refine AllReadyH.cons (o := { dst := some 39, op := .call { callee := .builtin Go.Builtin.append, args := #[.tmp 36, .tmp 38], argTypes := #[48, 48] }, type := 48, pos := "chain.go:75", after := #[{ on := 8, ground := .data }, { on := 10, ground := .data }, { on := 8, ground := .chain }], guard := none }) rfl (fun K hK => ?_) AllReadyH.nil
        refine step_append_e elF rfl _ _ rfl w1.heap.size _ (L.take P) rfl HO3.out _ 1 1 [(n, ⟨xb, xs⟩)] rfl HX.out (by have := HLA.out; omega) HW.out.size ?_; intro v5 wn HO5 HG5 _; replace HW : Hid (Below w1.heap.size w1 wn) := HW.out.grown HG5.out HW.out.size fun k e => (HO3.out.lt k e).1; clear HG5; have hcn := cell_below HW.out HC1.out; obtain ⟨a5, c5, hv5, _⟩ := HO5.out.els; obtain ⟨n5, hn5⟩ : ∃ n', n' = (L.take P ++ [(n, (⟨xb, xs⟩ : Fl))]).length := ⟨_, rfl⟩; rw [← hn5] at hv5; clear hn5; subst hv5
        simp only [Act.put, List.setIfInBounds_toArray, List.set_cons_zero, List.set_cons_succ]
        refine hK.out _ _ (⟨cell_below HW.out (HBX.out.one rfl), cell_below HW.out (HBX.out.one rfl), cell_below HW.out (HBX.out.one rfl)⟩) (fun hHeld => ?_)
        clear hK K
        refine wpAnyH_ready (rs := [13]) (by kernel_rfl) (by simp) ?_
        refine AllReadyH.cons (o := { dst := some 41, op := .call { callee := .builtin Go.Builtin.append, args := #[.tmp 39, .tmp 40], argTypes := #[48, 48] }, type := 48, pos := "chain.go:75", after := #[{ on := 11, ground := .data }, { on := 12, ground := .data }, { on := 11, ground := .chain }], guard := none }) rfl (fun K hK => ?_) AllReadyH.nil
        refine step_append_e elF rfl _ _ rfl w1.heap.size _ (L.take P ++ [(n, (⟨xb, xs⟩ : Fl))]) rfl HO5.out adr0 (z - (P)) (c - (P)) (L.drop (P)) rfl (HCB.out _ HW.out) (by have := HLA.out; simp only [List.length_append, List.length_cons, List.length_nil]; omega) HW.out.size ?_; intro v4 w4 HO4 HG4 _; have HW4 : Hid (Below w1.heap.size w1 w4) := HW.out.grown HG4.out HW.out.size fun k e => (HO5.out.lt k e).1; clear HG4; have hy4 := cell_below HW4.out HC1.out; have hf4 := (HR1.out.blk.below HW4.out HR1.out.blk.lt).frozen 0; obtain ⟨a4, c4, hv4, _⟩ := HO4.out.els; obtain ⟨n4, hn4⟩ : ∃ n', n' = (L.take P ++ [(n, (⟨xb, xs⟩ : Fl))] ++ L.drop (P)).length := ⟨_, rfl⟩; rw [← hn4] at hv4; clear hn4; subst hv4; have HFK : Hid (∀ {j : Nat} {u : Value}, w4.cell? ⟨B0, j, none⟩ = some u → (w4.setCell ⟨m, 0, none⟩ (.slice a4 n4 c4)).cell? ⟨B0, j, none⟩ = some u) := fun h => ((Keep.refl m w4).setCell 0 _).cell HBM.out h
        simp only [Act.put, List.setIfInBounds_toArray, List.set_cons_zero, List.set_cons_succ]
        refine hK.out _ _ (⟨cell_below HW4.out (HBX.out.one rfl), cell_below HW4.out (HBX.out.one rfl), cell_below HW4.out (HBX.out.one rfl)⟩) (fun hHeld => ?_)
        clear hK K
        refine wpAnyH_take (i := 14) (oi := { dst := some 42, op := .nilCheck (.tmp 28), type := 0, pos := "chain.go:75", after := #[{ on := 0, ground := .data }, { on := 0, ground := .phase }, { on := 1, ground := .phase }, { on := 2, ground := .phase }, { on := 3, ground := .phase }, { on := 4, ground := .phase }, { on := 5, ground := .phase }, { on := 6, ground := .phase }, { on := 7, ground := .phase }, { on := 8, ground := .phase }, { on := 9, ground := .phase }, { on := 10, ground := .phase }, { on := 11, ground := .phase }, { on := 12, ground := .phase }, { on := 13, ground := .phase }], guard := none }) (v := ?_) rfl (by kernel_rfl) (by kernel_rfl) (by kernel_rfl) (fun _ _ _ h => h) (Or.inl ⟨by rfl, ?_⟩) (by assumption) ?_
        rotate_left
        · intro _ _; go_simp; first | done | with_reducible rfl
        simp only [Act.put, List.setIfInBounds_toArray, List.set_cons_zero, List.set_cons_succ]
        refine wpAnyH_take (i := 15) (oi := { dst := some 43, op := .fieldAddr 50 (.tmp 42) 0, type := 0, pos := "chain.go:75", after := #[{ on := 14, ground := .data }, { on := 0, ground := .phase }, { on := 1, ground := .phase }, { on := 2, ground := .phase }, { on := 3, ground := .phase }, { on := 4, ground := .phase }, { on := 5, ground := .phase }, { on := 6, ground := .phase }, { on := 7, ground := .phase }, { on := 8, ground := .phase }, { on := 9, ground := .phase }, { on := 10, ground := .phase }, { on := 11, ground := .phase }, { on := 12, ground := .phase }, { on := 13, ground := .phase }], guard := none }) (v := ?_) rfl (by kernel_rfl) (by kernel_rfl) (by kernel_rfl) (fun _ _ _ h => h) (Or.inl ⟨by rfl, ?_⟩) (by assumption) ?_
        rotate_left
        · intro _ _; go_simp; first | done | with_reducible rfl
        simp only [Act.put, List.setIfInBounds_toArray, List.set_cons_zero, List.set_cons_succ]
        refine wpAnyH_ready (rs := [16]) (by kernel_rfl) (by simp) ?_
        refine AllReadyH.cons (o := { dst := none, op := .store 48 (.tmp 43) (.tmp 41), type := 0, pos := "chain.go:75", after := #[{ on := 15, ground := .data }, { on := 13, ground := .data }, { on := 13, ground := .chain }, { on := 0, ground := .phase }, { on := 1, ground := .phase }, { on := 2, ground := .phase }, { on := 3, ground := .phase }, { on := 4, ground := .phase }, { on := 5, ground := .phase }, { on := 6, ground := .phase }, { on := 7, ground := .phase }, { on := 8, ground := .phase }, { on := 9, ground := .phase }, { on := 10, ground := .phase }, { on := 11, ground := .phase }, { on := 12, ground := .phase }, { on := 13, ground := .phase }], guard := none }) rfl (fun K hK => ?_) AllReadyH.nil
        go_simp
        skip
        go_simp
        refine hK.out _ _ (⟨HFK.out (cell_below HW4.out (HBX.out.one rfl)), HFK.out (cell_below HW4.out (HBX.out.one rfl)), HFK.out (cell_below HW4.out (HBX.out.one rfl))⟩) (fun hHeld => ?_)
        clear hK K
        refine wpAnyH_done (by kernel_rfl) ?_ _
        refine NoPanic.normal ?_
        clear hHeld hy4 hf4 HFK
        generalize hw5 : World.setCell w4 _ _ = w5
        have HFIN : Hid (RkAt w5 m (.slice a4 n4 c4) ⟨L', fuse, dark, ops⟩ ∧ Keep m w w5 ∧ Mvd w (.slice a z c) (.slice a4 n4 c4)) := by
          have hk : Keep m w4 w5 := by rw [← hw5]; exact (Keep.refl _ _).setCell _ _
          have hb5 : Blk w5 m [.slice a4 n4 c4, .int .i64 fuse, .bool dark, .int .i64 ops] := by rw [← hw5]; exact (HR1.out.blk.below HW4.out HR1.out.blk.lt).set 0 _
          have hm : m < w1.heap.size := HR1.out.blk.lt
          have hne : ∀ k, (Value.slice a4 n4 c4).ownBlock = some k → k ≠ m := fun k e => by have := (HO4.out.lt k e).1; omega
          have hs1 := HB1.out.size
          refine ⟨⟨hb5, ?_, hne⟩, (Keep.of_below (HB1.out.trans (HW4.out.mono hs1))).trans hk, fun k e => .inr (by have := (HO4.out.lt k e).1; omega)⟩
          show OwnF w5 0 _ L'
          rw [HLQ.out]
          exact OwnE.same (OwnE.less0 HO4.out) fun k e => hk.block k (HO4.out.lt k e).2 (hne k e)
        clear hw5 HO4 HW4
        go_wp2_with fail
        go_end0
        exact ⟨rfl, _, HFIN.out⟩
    · refine step_build_own elF rfl _ rfl (n, ⟨xb, xs⟩) rfl ?_; intro wn g10 HX' HBn; (try replace HO1 : Hid _ := HO1.out.below HBn.out); (try replace HO3 : Hid _ := HO3.out.below HBn.out); clear HX; have HX := HX'; clear HX'; replace HW : Hid (Below w1.heap.size w1 wn) := HW.out.trans (HBn.out.mono HW.out.size); clear HBn; have hcn := cell_below HW.out HC1.out
      simp only [Act.put, List.setIfInBounds_toArray, List.set_cons_zero, List.set_cons_succ]
      refine hK.out _ _ (⟨cell_below HW.out (HBX.out.one rfl), cell_below HW.out (HBX.out.one rfl), cell_below HW.out (HBX.out.one rfl)⟩) (fun hHeld => ?_)
      clear hK K
      refine wpAnyH_ready (rs := [1, 5]) (by kernel_rfl) (by simp) ?_
      refine (AllReadyH.cons (o := { dst := some 29, op := .buildSlice 48 0 #[], type := 48, pos := "chain.go:75", after := #[], guard := none }) rfl (fun K hK => ?_) (AllReadyH.cons (o := { dst := some 33, op := .load 48 (.tmp 32), type := 48, pos := "chain.go:75", after := #[{ on := 4, ground := .data }], guard := none }) rfl (fun K hK => ?_) AllReadyH.nil))
      · refine step_build_none elF rfl rfl w1.heap.size HW.out.size ?_; intro wn g1 HO1' HBn; (try replace HX : Hid _ := HX.out.below HBn.out); clear HO1; have HO1 := HO1'; clear HO1'; replace HW : Hid (Below w1.heap.size w1 wn) := HW.out.trans (HBn.out.mono HW.out.size); clear HBn; have hcn := cell_below HW.out HC1.out
        simp only [Act.put, List.setIfInBounds_toArray, List.set_cons_zero, List.set_cons_succ]
        refine hK.out _ _ (⟨cell_below HW.out (HBX.out.one rfl), cell_below HW.out (HBX.out.one rfl), cell_below HW.out (HBX.out.one rfl)⟩) (fun hHeld => ?_)
        clear hK K
        refine wpAnyH_ready (rs := [5]) (by kernel_rfl) (by simp) ?_
        refine AllReadyH.cons (o := { dst := some 33, op := .load 48 (.tmp 32), type := 48, pos := "chain.go:75", after := #[{ on := 4, ground := .data }], guard := none }) rfl (fun K hK => ?_) AllReadyH.nil
        go_simp
        skip
        go_simp
        refine hK.out _ _ (⟨cell_below HW.out (HBX.out.one rfl), cell_below HW.out (HBX.out.one rfl), cell_below HW.out (HBX.out.one rfl)⟩) (fun hHeld => ?_)
        clear hK K
        refine wpAnyH_take (i := 7) (oi := { dst := some 35, op := .slice 48 (.tmp 33) none (some (.tmp 34)) none, type := 48, pos := "chain.go:75", after := #[{ on := 5, ground := .data }, { on := 6, ground := .data }], guard := none }) (v := .slice a P c) rfl (by kernel_rfl) (by kernel_rfl) (by kernel_rfl) (fun _ _ _ h => h) (Or.inl ⟨by rfl, ?_⟩) (by assumption) ?_
        · intro _ _; go_simp
        simp only [Act.put, List.setIfInBounds_toArray, List.set_cons_zero, List.set_cons_succ]
        refine wpAnyH_ready (rs := [8]) (by kernel_rfl) (by simp) ?_
        refine AllReadyH.cons (o := { dst := some 36, op := .call { callee := .builtin Go.Builtin.append, args := #[.tmp 29, .tmp 35], argTypes := #[48, 48] }, type := 48, pos := "chain.go:75", after := #[{ on := 1, ground := .data }, { on := 7, ground := .data }], guard := none }) rfl (fun K hK => ?_) AllReadyH.nil
        refine step_append_e elF rfl _ _ rfl w1.heap.size _ [] rfl HO1.out a P c (L.take P) rfl (HCA.out _ HW.out) (by have := HLA.out; simp only [List.length_nil]; omega) HW.out.size ?_; intro v3 wn HO3' HG3 _; rw [List.nil_append] at HO3'; (try replace HX : Hid _ := HX.out.later fun b' o' _ e => HG3.out.5 b' (HX.out.lt1 e (by omega) (by decide)) fun e2 => own_ne HO1.out HX.out (by decide) (by injection e with e; injection e with e _ _; injection e2 with e2; rw [e]; exact e2)); replace HW : Hid (Below w1.heap.size w1 wn) := HW.out.grown HG3.out HW.out.size fun k e => (HO1.out.lt k e).1; clear HG3 HO3; have HO3 := HO3'; clear HO3'; have hcn := cell_below HW.out HC1.out; obtain ⟨a3, c3, hv3, _⟩ := HO3.out.els; obtain ⟨n3, hn3⟩ : ∃ n, n = (L.take P).length := ⟨_, rfl⟩; rw [← hn3] at hv3; clear hn3; subst hv3
        simp only [Act.put, List.setIfInBounds_toArray, List.set_cons_zero, List.set_cons_succ]
        refine hK.out _ _ (⟨cell_below HW.out (HBX.out.one rfl), cell_below HW.out (HBX.out.one rfl), cell_below HW.out (HBX.out.one rfl)⟩) (fun hHeld => ?_)
        clear hK K
        refine wpAnyH_ready (rs := [11]) (by kernel_rfl) (by simp) ?_
        refine AllReadyH.cons (o := { dst := some 39, op := .call { callee := .builtin Go.Builtin.append, args := #[.tmp 36, .tmp 38], argTypes := #[48, 48] }, type := 48, pos := "chain.go:75", after := #[{ on := 8, ground := .data }, { on := 10, ground := .data }, { on := 8, ground := .chain }], guard := none }) rfl (fun K hK => ?_) AllReadyH.nil
        refine step_append_e elF rfl _ _ rfl w1.heap.size _ (L.take P) rfl HO3.out _ 1 1 [(n, ⟨xb, xs⟩)] rfl HX.out (by have := HLA.out; omega) HW.out.size ?_; intro v5 wn HO5 HG5 _; replace HW : Hid (Below w1.heap.size w1 wn) := HW.out.grown HG5.out HW.out.size fun k e => (HO3.out.lt k e).1; clear HG5; have hcn := cell_below HW.out HC1.out; obtain ⟨a5, c5, hv5, _⟩ := HO5.out.els; obtain ⟨n5, hn5⟩ : ∃ n', n' = (L.take P ++ [(n, (⟨xb, xs⟩ : Fl))]).length := ⟨_, rfl⟩; rw [← hn5] at hv5; clear hn5; subst hv5
        simp only [Act.put, List.setIfInBounds_toArray, List.set_cons_zero, List.set_cons_succ]
        refine hK.out _ _ (⟨cell_below HW.out (HBX.out.one rfl), cell_below HW.out (HBX.out.one rfl), cell_below HW.out (HBX.out.one rfl)⟩) (fun hHeld => ?_)
        clear hK K
        refine wpAnyH_ready (rs := [13]) (by kernel_rfl) (by simp) ?_
        refine AllReadyH.cons (o := { dst := some 41, op := .call { callee := .builtin Go.Builtin.append, args := #[.tmp 39, .tmp 40], argTypes := #[48, 48] }, type := 48, pos := "chain.go:75", after := #[{ on := 11, ground := .data }, { on := 12, ground := .data }, { on := 11, ground := .chain }], guard := none }) rfl (fun K hK => ?_) AllReadyH.nil
        refine step_append_e elF rfl _ _ rfl w1.heap.size _ (L.take P ++ [(n, (⟨xb, xs⟩ : Fl))]) rfl HO5.out adr0 (z - (P)) (c - (P)) (L.drop (P)) rfl (HCB.out _ HW.out) (by have := HLA.out; simp only [List.length_append, List.length_cons, List.length_nil]; omega) HW.out.size ?_; intro v4 w4 HO4 HG4 _; have HW4 : Hid (Below w1.heap.size w1 w4) := HW.out.grown HG4.out HW.out.size fun k e => (HO5.out.lt k e).1; clear HG4; have hy4 := cell_below HW4.out HC1.out; have hf4 := (HR1.out.blk.below HW4.out HR1.out.blk.lt).frozen 0; obtain ⟨a4, c4, hv4, _⟩ := HO4.out.els; obtain ⟨n4, hn4⟩ : ∃ n', n' = (L.take P ++ [(n, (⟨xb, xs⟩ : Fl))] ++ L.drop (P)).length := ⟨_, rfl⟩; rw [← hn4] at hv4; clear hn4; subst hv4; have HFK : Hid (∀ {j : Nat} {u : Value}, w4.cell? ⟨B0, j, none⟩ = some u → (w4.setCell ⟨m, 0, none⟩ (.slice a4 n4 c4)).cell? ⟨B0, j, none⟩ = some u) := fun h => ((Keep.refl m w4).setCell 0 _).cell HBM.out h
        simp only [Act.put, List.setIfInBounds_toArray, List.set_cons_zero, List.set_cons_succ]
        refine hK.out _ _ (⟨cell_below HW4.out (HBX.out.one rfl), cell_below HW4.out (HBX.out.one rfl), cell_below HW4.out (HBX.out.one rfl)⟩) (fun hHeld => ?_)
        clear hK K
        refine wpAnyH_take (i := 14) (oi := { dst := some 42, op := .nilCheck (.tmp 28), type := 0, pos := "chain.go:75", after := #[{ on := 0, ground := .data }, { on := 0, ground := .phase }, { on := 1, ground := .phase }, { on := 2, ground := .phase }, { on := 3, ground := .phase }, { on := 4, ground := .phase }, { on := 5, ground := .phase }, { on := 6, ground := .phase }, { on := 7, ground := .phase }, { on := 8, ground := .phase }, { on := 9, ground := .phase }, { on := 10, ground := .phase }, { on := 11, ground := .phase }, { on := 12, ground := .phase }, { on := 13, ground := .phase }], guard := none }) (v := ?_) rfl (by kernel_rfl) (by kernel_rfl) (by kernel_rfl) (fun _ _ _ h => h) (Or.inl ⟨by rfl, ?_⟩) (by assumption) ?_
        rotate_left
        · intro _ _; go_simp; first | done | with_reducible rfl
        simp only [Act.put, List.setIfInBounds_toArray, List.set_cons_zero, List.set_cons_succ]
        refine wpAnyH_take (i := 15) (oi := { dst := some 43, op := .fieldAddr 50 (.tmp 42) 0, type := 0, pos := "chain.go:75", after := #[{ on := 14, ground := .data }, { on := 0, ground := .phase }, { on := 1, ground := .phase }, { on := 2, ground := .phase }, { on := 3, ground := .phase }, { on := 4, ground := .phase }, { on := 5, ground := .phase }, { on := 6, ground := .phase }, { on := 7, ground := .phase }, { on := 8, ground := .phase }, { on := 9, ground := .phase }, { on := 10, ground := .phase }, { on := 11, ground := .phase }, { on := 12, ground := .phase }, { on := 13, ground := .phase }], guard := none }) (v := ?_) rfl (by kernel_rfl) (by kernel_rfl) (by kernel_rfl) (fun _ _ _ h => h) (Or.inl ⟨by rfl, ?_⟩) (by assumption) ?_
        rotate_left
        · intro _ _; go_simp; first | done | with_reducible rfl
        simp only [Act.put, List.setIfInBounds_toArray, List.set_cons_zero, List.set_cons_succ]
        refine wpAnyH_ready (rs := [16]) (by kernel_rfl) (by simp) ?_
        refine AllReadyH.cons (o := { dst := none, op := .store 48 (.tmp 43) (.tmp 41), type := 0, pos := "chain.go:75", after := #[{ on := 15, ground := .data }, { on := 13, ground := .data }, { on := 13, ground := .chain }, { on := 0, ground := .phase }, { on := 1, ground := .phase }, { on := 2, ground := .phase }, { on := 3, ground := .phase }, { on := 4, ground := .phase }, { on := 5, ground := .phase }, { on := 6, ground := .phase }, { on := 7, ground := .phase }, { on := 8, ground := .phase }, { on := 9, ground := .phase }, { on := 10, ground := .phase }, { on := 11, ground := .phase }, { on := 12, ground := .phase }, { on := 13, ground := .phase }], guard := none }) rfl (fun K hK => ?_) AllReadyH.nil
        go_simp
        skip
        go_simp
        refine hK.out _ _ (⟨HFK.out (cell_below HW4.out (HBX.out.one rfl)), HFK.out (cell_below HW4.out (HBX.out.one rfl)), HFK.out (cell_below HW4.out (HBX.out.one rfl))⟩) (fun hHeld => ?_)
        clear hK K
        refine wpAnyH_done (by kernel_rfl) ?_ _
        refine NoPanic.normal ?_
        clear hHeld hy4 hf4 HFK
        generalize hw5 : World.setCell w4 _ _ = w5
        have HFIN : Hid (RkAt w5 m (.slice a4 n4 c4) ⟨L', fuse, dark, ops⟩ ∧ Keep m w w5 ∧ Mvd w (.slice a z c) (.slice a4 n4 c4)) := by
          have hk : Keep m w4 w5 := by rw [← hw5]; exact (Keep.refl _ _).setCell _ _
          have hb5 : Blk w5 m [.slice a4 n4 c4, .int .i64 fuse, .bool dark, .int .i64 ops] := by rw [← hw5]; exact (HR1.out.blk.below HW4.out HR1.out.blk.lt).set 0 _
          have hm : m < w1.heap.size := HR1.out.blk.lt
          have hne : ∀ k, (Value.slice a4 n4 c4).ownBlock = some k → k ≠ m := fun k e => by have := (HO4.out.lt k e).1; omega
          have hs1 := HB1.out.size
          refine ⟨⟨hb5, ?_, hne⟩, (Keep.of_below (HB1.out.trans (HW4.out.mono hs1))).trans hk, fun k e => .inr (by have := (HO4.out.lt k e).1; omega)⟩
          show OwnF w5 0 _ L'
          rw [HLQ.out]
          exact OwnE.same (OwnE.less0 HO4.out) fun k e => hk.block k (HO4.out.lt k e).2 (hne k e)
        clear hw5 HO4 HW4
        go_wp2_with fail
        go_end0
        exact ⟨rfl, _, HFIN.out⟩
      · go_simp
        skip
        go_simp
        refine hK.out _ _ (⟨cell_below HW.out (HBX.out.one rfl), cell_below HW.out (HBX.out.one rfl), cell_below HW.out (HBX.out.one rfl)⟩) (fun hHeld => ?_)
        clear hK K
        refine wpAnyH_take (i := 7) (oi := { dst := some 35, op := .slice 48 (.tmp 33) none (some (.tmp 34)) none, type := 48, pos := "chain.go:75", after := #[{ on := 5, ground := .data }, { on := 6, ground := .data }], guard := none }) (v := .slice a P c) rfl (by kernel_rfl) (by kernel_rfl) (by kernel_rfl) (fun _ _ _ h => h) (Or.inl ⟨by rfl, ?_⟩) (by assumption) ?_
        · intro _ _; go_simp
        simp only [Act.put, List.setIfInBounds_toArray, List.set_cons_zero, List.set_cons_succ]
        refine wpAnyH_ready (rs := [1]) (by kernel_rfl) (by simp) ?_
        refine AllReadyH.cons (o := { dst := some 29, op := .buildSlice 48 0 #[], type := 48, pos := "chain.go:75", after := #[], guard := none }) rfl (fun K hK => ?_) AllReadyH.nil
        refine step_build_none elF rfl rfl w1.heap.size HW.out.size ?_; intro wn g1 HO1' HBn; (try replace HX : Hid _ := HX.out.below HBn.out); clear HO1; have HO1 := HO1'; clear HO1'; replace HW : Hid (Below w1.heap.size w1 wn) := HW.out.trans (HBn.out.mono HW.out.size); clear HBn; have hcn := cell_below HW.out HC1.out
        simp only [Act.put, List.setIfInBounds_toArray, List.set_cons_zero, List.set_cons_succ]
        refine hK.out _ _ (⟨cell_below HW.out (HBX.out.one rfl), cell_below HW.out (HBX.out.one rfl), cell_below HW.out (HBX.out.one rfl)⟩) (fun hHeld => ?_)
        clear hK K
        refine wpAnyH_ready (rs := [8]) (by kernel_rfl) (by simp) ?_
        refine AllReadyH.cons (o := { dst := some 36, op := .call { callee := .builtin Go.Builtin.append, args := #[.tmp 29, .tmp 35], argTypes := #[48, 48] }, type := 48, pos := "chain.go:75", after := #[{ on := 1, ground := .data }, { on := 7, ground := .data }], guard := none }) rfl (fun K hK => ?_) AllReadyH.nil
        refine step_append_e elF rfl _ _ rfl w1.heap.size _ [] rfl HO1.out a P c (L.take P) rfl (HCA.out _ HW.out) (by have := HLA.out; simp only [List.length_nil]; omega) HW.out.size ?_; intro v3 wn HO3' HG3 _; rw [List.nil_append] at HO3'; (try replace HX : Hid _ := HX.out.later fun b' o' _ e => HG3.out.5 b' (HX.out.lt1 e (by omega) (by decide)) fun e2 => own_ne HO1.out HX.out (by decide) (by injection e with e; injection e with e _ _; injection e2 with e2; rw [e]; exact e2)); replace HW : Hid (Below w1.heap.size w1 wn) := HW.out.grown HG3.out HW.out.size fun k e => (HO1.out.lt k e).1; clear HG3 HO3; have HO3 := HO3'; clear HO3'; have hcn := cell_below HW.out HC1.out; obtain ⟨a3, c3, hv3, _⟩ := HO3.out.els; obtain ⟨n3, hn3⟩ : ∃ n, n = (L.take P).length := ⟨_, rfl⟩; rw [← hn3] at hv3; clear hn3; subst hv3
        simp only [Act.put, List.setIfInBounds_toArray, List.set_cons_zero, List.set_cons_succ]
        refine hK.out _ _ (⟨cell_below HW.out (HBX.out.one rfl), cell_below HW.out (HBX.out.one rfl), cell_below HW.out (HBX.out.one rfl)⟩) (fun hHeld => ?_)
        clear hK K
        refine wpAnyH_ready (rs := [11]) (by kernel_rfl) (by simp) ?_
        refine AllReadyH.cons (o := { dst := some 39, op := .call { callee := .builtin Go.Builtin.append, args := #[.tmp 36, .tmp 38], argTypes := #[48, 48] }, type := 48, pos := "chain.go:75", after := #[{ on := 8, ground := .data }, { on := 10, ground := .data }, { on := 8, ground := .chain }], guard := none }) rfl (fun K hK => ?_) AllReadyH.nil
        refine step_append_e elF rfl _ _ rfl w1.heap.size _ (L.take P) rfl HO3.out _ 1 1 [(n, ⟨xb, xs⟩)] rfl HX.out (by have := HLA.out; omega) HW.out.size ?_; intro v5 wn HO5 HG5 _; replace HW : Hid (Below w1.heap.size w1 wn) := HW.out.grown HG5.out HW.out.size fun k e => (HO3.out.lt k e).1; clear HG5; have hcn := cell_below HW.out HC1.out; obtain ⟨a5, c5, hv5, _⟩ := HO5.out.els; obtain ⟨n5, hn5⟩ : ∃ n', n' = (L.take P ++ [(n, (⟨xb, xs⟩ : Fl))]).length := ⟨_, rfl⟩; rw [← hn5] at hv5; clear hn5; subst hv5
        simp only [Act.put, List.setIfInBounds_toArray, List.set_cons_zero, List.set_cons_succ]
        refine hK.out _ _ (⟨cell_below HW.out (HBX.out.one rfl), cell_below HW.out (HBX.out.one rfl), cell_below HW.out (HBX.out.one rfl)⟩) (fun hHeld => ?_)
        clear hK K
        refine wpAnyH_ready (rs := [13]) (by kernel_rfl) (by simp) ?_
        refine AllReadyH.cons (o := { dst := some 41, op := .call { callee := .builtin Go.Builtin.append, args := #[.tmp 39, .tmp 40], argTypes := #[48, 48] }, type := 48, pos := "chain.go:75", after := #[{ on := 11, ground := .data }, { on := 12, ground := .data }, { on := 11, ground := .chain }], guard := none }) rfl (fun K hK => ?_) AllReadyH.nil
        refine step_append_e elF rfl _ _ rfl w1.heap.size _ (L.take P ++ [(n, (⟨xb, xs⟩ : Fl))]) rfl HO5.out adr0 (z - (P)) (c - (P)) (L.drop (P)) rfl (HCB.out _ HW.out) (by have := HLA.out; simp only [List.length_append, List.length_cons, List.length_nil]; omega) HW.out.size ?_; intro v4 w4 HO4 HG4 _; have HW4 : Hid (Below w1.heap.size w1 w4) := HW.out.grown HG4.out HW.out.size fun k e => (HO5.out.lt k e).1; clear HG4; have hy4 := cell_below HW4.out HC1.out; have hf4 := (HR1.out.blk.below HW4.out HR1.out.blk.lt).frozen 0; obtain ⟨a4, c4, hv4, _⟩ := HO4.out.els; obtain ⟨n4, hn4⟩ : ∃ n', n' = (L.take P ++ [(n, (⟨xb, xs⟩ : Fl))] ++ L.drop (P)).length := ⟨_, rfl⟩; rw [← hn4] at hv4; clear hn4; subst hv4; have HFK : Hid (∀ {j : Nat} {u : Value}, w4.cell? ⟨B0, j, none⟩ = some u → (w4.setCell ⟨m, 0, none⟩ (.slice a4 n4 c4)).cell? ⟨B0, j, none⟩ = some u) := fun h => ((Keep.refl m w4).setCell 0 _).cell HBM.out h
        simp only [Act.put, List.setIfInBounds_toArray, List.set_cons_zero, List.set_cons_succ]
        refine hK.out _ _ (⟨cell_below HW4.out (HBX.out.one rfl), cell_below HW4.out (HBX.out.one rfl), cell_below HW4.out (HBX.out.one rfl)⟩) (fun hHeld => ?_)
        clear hK K
        refine wpAnyH_take (i := 14) (oi := { dst := some 42, op := .nilCheck (.tmp 28), type := 0, pos := "chain.go:75", after := #[{ on := 0, ground := .data }, { on := 0, ground := .phase }, { on := 1, ground := .phase }, { on := 2, ground := .phase }, { on := 3, ground := .phase }, { on := 4, ground := .phase }, { on := 5, ground := .phase }, { on := 6, ground := .phase }, { on := 7, ground := .phase }, { on := 8, ground := .phase }, { on := 9, ground := .phase }, { on := 10, ground := .phase }, { on := 11, ground := .phase }, { on := 12, ground := .phase }, { on := 13, ground := .phase }], guard := none }) (v := ?_) rfl (by kernel_rfl) (by kernel_rfl) (by kernel_rfl) (fun _ _ _ h => h) (Or.inl ⟨by rfl, ?_⟩) (by assumption) ?_
        rotate_left
        · intro _ _; go_simp; first | done | with_reducible rfl
        simp only [Act.put, List.setIfInBounds_toArray, List.set_cons_zero, List.set_cons_succ]
        refine wpAnyH_take (i := 15) (oi := { dst := some 43, op := .fieldAddr 50 (.tmp 42) 0, type := 0, pos := "chain.go:75", after := #[{ on := 14, ground := .data }, { on := 0, ground := .phase }, { on := 1, ground := .phase }, { on := 2, ground := .phase }, { on := 3, ground := .phase }, { on := 4, ground := .phase }, { on := 5, ground := .phase }, { on := 6, ground := .phase }, { on := 7, ground := .phase }, { on := 8, ground := .phase }, { on := 9, ground := .phase }, { on := 10, ground := .phase }, { on := 11, ground := .phase }, { on := 12, ground := .phase }, { on := 13, ground := .phase }], guard := none }) (v := ?_) rfl (by kernel_rfl) (by kernel_rfl) (by kernel_rfl) (fun _ _ _ h => h) (Or.inl ⟨by rfl, ?_⟩) (by assumption) ?_
        rotate_left
        · intro _ _; go_simp; first | done | with_reducible rfl
        simp only [Act.put, List.setIfInBounds_toArray, List.set_cons_zero, List.set_cons_succ]
        refine wpAnyH_ready (rs := [16]) (by kernel_rfl) (by simp) ?_
        refine AllReadyH.cons (o := { dst := none, op := .store 48 (.tmp 43) (.tmp 41), type := 0, pos := "chain.go:75", after := #[{ on := 15, ground := .data }, { on := 13, ground := .data }, { on := 13, ground := .chain }, { on := 0, ground := .phase }, { on := 1, ground := .phase }, { on := 2, ground := .phase }, { on := 3, ground := .phase }, { on := 4, ground := .phase }, { on := 5, ground := .phase }, { on := 6, ground := .phase }, { on := 7, ground := .phase }, { on := 8, ground := .phase }, { on := 9, ground := .phase }, { on := 10, ground := .phase }, { on := 11, ground := .phase }, { on := 12, ground := .phase }, { on := 13, ground := .phase }], guard := none }) rfl (fun K hK => ?_) AllReadyH.nil
        go_simp
        skip
        go_simp
        refine hK.out _ _ (⟨HFK.out (cell_below HW4.out (HBX.out.one rfl)), HFK.out (cell_below HW4.out (HBX.out.one rfl)), HFK.out (cell_below HW4.out (HBX.out.one rfl))⟩) (fun hHeld => ?_)
        clear hK K
        refine wpAnyH_done (by kernel_rfl) ?_ _
        refine NoPanic.normal ?_
        clear hHeld hy4 hf4 HFK
        generalize hw5 : World.setCell w4 _ _ = w5
        have HFIN : Hid (RkAt w5 m (.slice a4 n4 c4) ⟨L', fuse, dark, ops⟩ ∧ Keep m w w5 ∧ Mvd w (.slice a z c) (.slice a4 n4 c4)) := by
          have hk : Keep m w4 w5 := by rw [← hw5]; exact (Keep.refl _ _).setCell _ _
          have hb5 : Blk w5 m [.slice a4 n4 c4, .int .i64 fuse, .bool dark, .int .i64 ops] := by rw [← hw5]; exact (HR1.out.blk.below HW4.out HR1.out.blk.lt).set 0 _
          have hm : m < w1.heap.size := HR1.out.blk.lt
          have hne : ∀ k, (Value.slice a4 n4 c4).ownBlock = some k → k ≠ m := fun k e => by have := (HO4.out.lt k e).1; omega
          have hs1 := HB1.out.size
          refine ⟨⟨hb5, ?_, hne⟩, (Keep.of_below (HB1.out.trans (HW4.out.mono hs1))).trans hk, fun k e => .inr (by have := (HO4.out.lt k e).1; omega)⟩
          show OwnF w5 0 _ L'
          rw [HLQ.out]
          exact OwnE.same (OwnE.less0 HO4.out) fun k e => hk.block k (HO4.out.lt k e).2 (hne k e)
        clear hw5 HO4 HW4
        go_wp2_with fail
        go_end0
        exact ⟨rfl, _, HFIN.out⟩
end Go.Proofs.Ytlapnnkahijikaa
