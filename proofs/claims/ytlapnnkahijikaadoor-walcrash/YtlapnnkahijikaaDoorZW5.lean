/- Law 8's texts: coraclealike.Letters, word for word; said. Law 8: then. Law 8: then in one; has. Law 8: now. -/
import Derived.Test.YtlapnnkahijikaaDoorZW4
namespace Go.Proofs.YtlapnnkahijikaaDoor
open Go.ChangeShapes Go.WideShapes Go.ChangeAt Go.RowKit Go.Lib

/-- Which letter stands at a place. -/
def letN (n : Int) (k : Nat) : Nat := 97 + remF (wrap64 (wrap64 (3 * n) + 5 * (k : Int))) 25
def letB (size : Nat) (n : Int) : List (BitVec 8) := (List.range size).map fun k => BitVec.ofNat 8 (letN n k)
theorem letB_length (size : Nat) (n : Int) : (letB size n).length = size := by unfold letB; simp
theorem letB_next (k : Nat) (n : Int) : letB (k + 1) n = letB k n ++ [BitVec.ofNat 8 (letN n k)] := by unfold letB; rw [List.range_succ, List.map_append]; rfl
theorem Y_ofNat (i : Nat) (h : i < 256) : Y (BitVec.ofNat 8 i) = i := by
  unfold Y
  rw [BitVec.toNat_ofNat, Nat.mod_eq_of_lt (by omega)]
theorem made_u8s (n : Nat) : (madeCells #[Value.int .u8 0] n).toList = u8s (List.replicate n 0) := by
  unfold madeCells u8s
  rw [List.map_replicate]
  apply List.ext_getElem?
  intro t
  by_cases ht : t < n
  · simp [ht, Nat.mod_one]; rfl
  · simp [ht]
theorem Blk.madeR {w : World} {B e g m : Nat} {xs : List Value} (h : w.ownsRow B e 1 (.slice (some ⟨g, 0, none⟩) m m) m xs) : Blk w g xs := by
  obtain ⟨_, (⟨h1, _⟩ | ⟨g', cap, cur, hv, _, hh, _, _, hc, hx⟩)⟩ := h
  · cases h1
  · injection hv with hv1 hv2 hv3
    injection hv1 with hv1
    injection hv1 with hv1
    subst hv1; subst hv3
    rw [List.take_of_length_le (by simpa using Nat.le_of_eq hc)] at hx
    refine ⟨e, ?_⟩
    rw [hh, ← hx]
set_option maxRecDepth 100000 in
set_option maxHeartbeats 4000000 in
theorem letters_is (size : Nat) (n : Int) (w : World) (hs : size ≤ 1000) :
    Calls Tryd.prog 38 #[.int .i64 size, .int .i64 n] w fun e w' => e = .returned (.string (ofB (letB size n))) ∧ Below w.heap.size w w' := by
  obtain ⟨i0, hi0, hi1, hi2, hi3⟩ := info_parts Tryd.info8
  have HRd : Hid (∀ (z : Int) w', Calls Tryd.prog 20 #[.int .i64 z, .int .i64 26] w' fun e w'' => e = .returned (.int .i64 (remF z 25)) ∧ w'' = w') := fun z w' => lround_any z 25 w' (by omega)
  go_enter Tryd.func38, Tryd.ntmps38
  go_upto_region 3 with (at_make; refine wpList_make_full _ rfl _ _ 40 rfl w.heap.size 5 i0 (.int .u8 0) 1 Tryd.underlying40 hi0 hi1 hi2 .i64 .i64 _ _ size rfl rfl rfl rfl (by rw [hi3]; omega) (by unfold maxLen; omega) (Nat.le_refl _) ?_; intro w1 hown hgrow)
  have hb1 : Below w.heap.size w w1 := (Below.refl _ w).grown hgrow (Nat.le_refl _) (by simp)
  have hg1 : Blk w1 w.heap.size (u8s (List.replicate size 0)) := by
    rw [← made_u8s]
    rw [Nat.mul_one] at hown
    exact Blk.madeR hown
  clear hown hgrow hi0 hi1 hi2 hi3
  generalize hN : w.heap.size = T at *
  go_loopw [6] (fun j wr => ∃ (k : Nat) (M : List (BitVec 8)), k ≤ size ∧ j = .int .i64 k ∧ M.length = size ∧ Hid (M.take k = letB k n) ∧ Hid (Blk wr T (u8s M)) ∧ Hid (Below T w wr)) (fun j _ => size - (intOf j).toNat)
  case atStart => exact ⟨0, List.replicate size 0, by omega, rfl, List.length_replicate .., by rw [List.take_zero]; rfl, hg1, hb1⟩
  case round =>
    obtain ⟨k, M, hk, rfl, hM, HT, HG, HB⟩ := hrel
    clear hg1 hb1
    by_cases hlt : k < size
    · have e0 : (0 : Int) ≤ (k : Int) := by omega
      have e1 : (k : Int) < (size : Int) := by omega
      have c1 : wr.cell? ⟨T, k, none⟩ = some (.int .u8 (Y (M.getD k 0))) := HG.out.one (u8s_get M k (by omega))
      have f1 : wr.frozen? ⟨T, k, none⟩ = false := HG.out.frozen k
      generalize Y (M.getD k 0) = y0 at *
      go_wp2_with fail
      refine Calls.mono (HRd.out _ _) ?_
      rintro e w2 ⟨rfl, rfl⟩
      obtain ⟨r, hr⟩ : ∃ r : Nat, r = remF (wrap64 (wrap64 (3 * n) + 5 * (k : Int))) 25 := ⟨_, rfl⟩
      have hr25 : r ≤ 25 := by rw [hr]; exact remF_le _ 25
      have HR : Hid (letN n k = 97 + r) := show _ = _ by unfold letN; rw [hr]
      rw [← hr]
      clear hr
      go_wp2_with fail
      go_roundw
      case rel =>
        have hl := HR.out
        refine ⟨k + 1, M.set k (BitVec.ofNat 8 (97 + r)), by omega, by go_num, by rw [List.length_set]; exact hM, ?_, ?_, HB.out.setCell (Nat.le_refl _) _⟩
        · show _ = _
          rw [letB_next, ← HT.out, hl, List.take_succ_eq_append_getElem (by rw [List.length_set]; omega), List.take_set_of_le (Nat.le_refl _)]
          simp
        · have := HG.out.set k (.int .u8 (97 + r : Int))
          have e : u8s (M.set k (BitVec.ofNat 8 (97 + r))) = (u8s M).set k (.int .u8 (97 + r : Int)) := by
            rw [← u8s_set, Y_ofNat _ (by omega)]; congr 1
          show Blk _ _ _
          rw [e]; exact this
      case measure => simp [intOf]; omega
    · obtain rfl : k = size := by omega
      have hMl : M = letB k n := by have := HT.out; rwa [← hM, List.take_length, hM] at this
      subst hMl
      have HR : Hid ((convert 40 9 (.slice (some ⟨T, 0, none⟩) k k)).run Tryd.prog wr = .ok (.string (ofB (letB k n))) wr) := by
        have := (SrcB.str (w := wr) (v := .slice (some ⟨T, 0, none⟩) (letB k n).length k) (bs := letB k n) (.inr ⟨T, 0, k, rfl, fun j u hu => by rw [Nat.zero_add, HG.out.cell]; exact hu⟩))
        rw [letB_length] at this
        exact this
      have hr := HR.out
      obtain ⟨sb, hsb⟩ : ∃ sb, sb = ofB (letB k n) := ⟨_, rfl⟩
      rw [← hsb] at hr
      have HSB : Hid (sb = ofB (letB k n)) := hsb
      clear hsb HR
      go_wp2_with fail
      go_ret
      subst hN
      exact ⟨by rw [← HSB.out]; rfl, HB.out⟩
/-- A record of the law. -/
def saidB (n m : Int) : List (BitVec 8) := letB (remF m 399) n
theorem saidB_length (n m : Int) : (saidB n m).length ≤ 399 := by unfold saidB; rw [letB_length]; exact remF_le _ _
theorem wpList_toBs {ops : Array Oper} {rest : List Oper} {o : Oper} {a : Act} {w : World} {Q : Exit → Act → World → Prop} (hw : Region.wanted o (yielded ops a.tmps) = true) (x : Operand) (ho : o.op = .convert 9 40 x) (s : ByteArray) (hx : a.eval x = .string s) (hs : s.size ≤ 1000000)
    (hK : ∀ c w', Hid (Bs w' (.slice (some ⟨w.heap.size, 0, none⟩) s.size c) (strB s)) → Hid (Below w.heap.size w w') → Hid (w'.heap.size = w.heap.size + 1) → wpList Tryd.prog ops Q rest (a.put o.dst (.slice (some ⟨w.heap.size, 0, none⟩) s.size c)) w') : wpList Tryd.prog ops Q (o :: rest) a w := by
  refine wpList_step fun K hK' => ?_
  rw [if_pos hw]
  unfold Oper.wp execOp
  simp only [ho, hx, Sem.run_bind, Sem.run_pure, Go.Lib.run_convert_string_bytes w 9 40 5 s Tryd.underlying9 Tryd.underlying40 Tryd.underlying5, Result.andThen_ok]
  refine hK' _ _ (hK _ _ ?_ ?_ ?_)
  · show Bs _ _ _
    refine ⟨some ⟨w.heap.size, 0, none⟩, grownCap w s.size 0 5, by rw [strB_length], by rw [strB_length]; exact grownCap_ge w s.size 0 _, grownCap_le_maxLen w s.size 0 5 (by unfold maxLen; omega), .inr ⟨w.heap.size, 0, rfl, fun j hj => ?_⟩⟩
    have hj' : j < s.size := by rwa [strB_length] at hj
    rw [Nat.zero_add, Go.Lib.bytesWorld_cell w 5 s j hj']
    have hd : j < s.data.toList.length := by simpa using hj'
    unfold strB Y
    rw [List.getD_eq_getElem?_getD, List.getD_eq_getElem?_getD, List.getElem?_map, List.getElem?_eq_getElem hd]
    rfl
  · show Below _ _ _
    exact ⟨rfl, rfl, rfl, by rw [Go.Lib.bytesWorld_size]; omega, fun k hk => Go.Lib.bytesWorld_at_old w _ s k hk⟩
  · show _ = _
    rw [Go.Lib.bytesWorld_size]
set_option maxRecDepth 100000 in
set_option maxHeartbeats 4000000 in
theorem said_any (n m : Int) (w : World) :
    Calls Tryd.prog 19 #[.int .i64 n, .int .i64 m] w fun e w' => ∃ g c, e = .returned (.slice (some ⟨g, 0, none⟩) (saidB n m).length c) ∧ Bs w' (.slice (some ⟨g, 0, none⟩) (saidB n m).length c) (saidB n m) ∧ w.heap.size ≤ g ∧ g < w'.heap.size ∧ Below w.heap.size w w' := by
  have HRd : Hid (∀ w', Calls Tryd.prog 20 #[.int .i64 m, .int .i64 400] w' fun e w'' => e = .returned (.int .i64 (remF m 399)) ∧ w'' = w') := fun w' => lround_any m 399 w' (by omega)
  have HLt : Hid (Calls Tryd.prog 38 #[.int .i64 (remF m 399), .int .i64 n] w fun e w' => e = .returned (.string (ofB (saidB n m))) ∧ Below w.heap.size w w') := letters_is _ n w (by have := remF_le m 399; omega)
  have hsl := saidB_length n m
  generalize saidB n m = b at *
  obtain ⟨s, hs⟩ : ∃ s, s = ofB b := ⟨_, rfl⟩
  have HS : Hid (strB s = b ∧ s.size = b.length) := ⟨by rw [hs, strB_ofB], by rw [hs, ofB_size]⟩
  have hss : s.size ≤ 1000000 := by rw [HS.out.2]; omega
  rw [← hs] at HLt
  clear hs
  go_enter Tryd.func19, Tryd.ntmps19
  go_wp2_with fail
  refine Calls.mono (HRd.out _) ?_
  rintro e w1 ⟨rfl, rfl⟩
  go_wp2_with fail
  refine Calls.mono HLt.out ?_
  rintro e w2 ⟨rfl, hb2⟩
  have HB2 : Hid (Below w1.heap.size w1 w2) := hb2
  clear hb2
  go_wp2_with (refine wpList_toBs (by rfl) _ rfl s rfl hss ?_; intro c w3 HB HW HZ)
  go_ret
  refine ⟨w2.heap.size, c, by rw [← HS.out.2]; rfl, by rw [← HS.out.2, ← HS.out.1]; exact HB.out, HB2.out.size, by rw [HZ.out]; omega, HB2.out.trans (HW.out.mono HB2.out.size)⟩
end Go.Proofs.YtlapnnkahijikaaDoor
namespace Go.Proofs.YtlapnnkahijikaaDoor
open Go.ChangeShapes Go.WideShapes Go.ChangeAt Go.RowKit Go.Lib

/-- Slices of bytes that can be read, in blocks of which P holds. -/
def RowsP (P : Nat → Prop) (w : World) (v : Value) (rs : List (List (BitVec 8))) : Prop := ∃ xs, SrcX w v xs ∧ All2 w xs rs ∧ (∀ k, v.ownBlock = some k → P k) ∧ ∀ x ∈ xs, ∀ k, x.ownBlock = some k → P k
theorem RowsP.rows {P : Nat → Prop} {w : World} {v : Value} {rs : List (List (BitVec 8))} (h : RowsP P w v rs) : RowsB w v rs := by
  obtain ⟨xs, h1, h2, _⟩ := h
  exact ⟨xs, h1, h2.weak⟩
theorem RowsP.mono {P P' : Nat → Prop} {w : World} {v : Value} {rs : List (List (BitVec 8))} (h : RowsP P w v rs) (hp : ∀ k, P k → P' k) : RowsP P' w v rs := by
  obtain ⟨xs, h1, h2, h3, h4⟩ := h
  exact ⟨xs, h1, h2, fun k hk => hp k (h3 k hk), fun x hx k hk => hp k (h4 x hx k hk)⟩
theorem RowsP.below {P : Nat → Prop} {w w' : World} {v : Value} {rs : List (List (BitVec 8))} (h : RowsP P w v rs) (hb : Below w.heap.size w w') : RowsP P w' v rs := by
  obtain ⟨xs, h1, h2, h3, h4⟩ := h
  exact ⟨xs, h1.below hb, h2.below hb, h3, h4⟩
theorem RowsP.nil (P : Nat → Prop) (w : World) : RowsP P w (.slice none 0 0) [] := ⟨[], .inl ⟨rfl, rfl⟩, All2.nil w, (fun k hk => by cases hk), (fun x hx => by cases hx)⟩
theorem All2.same {w w' : World} {xs : List Value} {rs : List (List (BitVec 8))} (h : All2 w xs rs) (hb : ∀ x ∈ xs, ∀ k, x.ownBlock = some k → w'.heap[k]? = w.heap[k]?) : All2 w' xs rs :=
  ⟨h.1, fun i x hx => (h.2 i x hx).same fun k hk => hb x (List.mem_of_getElem? hx) k hk⟩
theorem OwnX.lit0 (w : World) : OwnX (w.alloc (.cells #[] 40)) w.heap.size (.slice (some ⟨w.heap.size, 0, none⟩) 0 0) [] :=
  ⟨rfl, .inr ⟨w.heap.size, 0, #[], rfl, Nat.le_refl _, heap_alloc_new _ _, Nat.le_refl _, by unfold maxLen; omega, rfl, rfl⟩⟩
theorem OwnX.drew {w : World} {B : Nat} {v : Value} {xs : List Value} (h : OwnX w B v xs) : OwnX w.drew B v xs := h
/-- Records behind a turn. -/
def thenR (rs : List (List (BitVec 8))) (kind n m : Int) : List (List (BitVec 8)) :=
  if kind = 1 then rs ++ [saidB n m] else if kind = 2 then (List.range (remF n 4)).map fun (i : Nat) => saidB i (wrap64 (m + (i : Int))) else rs
def turnV (kind n m : Int) : Value := .agg #[.int .i64 kind, .int .i64 n, .int .i64 m]
set_option maxRecDepth 100000 in
set_option maxHeartbeats 4000000 in
theorem then_other (P : Nat → Prop) (v : Value) (rs : List (List (BitVec 8))) (kind n m : Int) (w : World) (h : RowsP P w v rs) (h1 : kind ≠ 1) (h2 : kind ≠ 2) :
    Calls Tryd.prog 10 #[v, turnV kind n m] w fun e w' => ∃ v', e = .returned v' ∧ RowsP (fun k => P k ∨ (w.heap.size ≤ k ∧ k < w'.heap.size)) w' v' (thenR rs kind n m) ∧ Below w.heap.size w w' := by
  have H : Hid (RowsP P w v rs) := h
  have h1' : (kind == 1) = false := beq_eq_false_iff_ne.2 h1
  have h2' : (kind == 2) = false := beq_eq_false_iff_ne.2 h2
  have HR : Hid (thenR rs kind n m = rs) := show _ = _ by unfold thenR; rw [if_neg h1, if_neg h2]
  rw [HR.out]
  unfold turnV
  clear h
  go_enter Tryd.func10, Tryd.ntmps10
  go_wp2_with fail
  go_ret
  have hb : Below w.heap.size w (w.alloc (.cells #[.int .i64 kind, .int .i64 n, .int .i64 m] 35)) := (Below.refl _ _).alloc (Nat.le_refl _) _
  exact ⟨v, rfl, (H.out.below hb).mono fun k hk => .inl hk, hb⟩
set_option maxRecDepth 100000 in
set_option maxHeartbeats 4000000 in
theorem then_one (P : Nat → Prop) (v : Value) (rs : List (List (BitVec 8))) (n m : Int) (w : World) (h : RowsP P w v rs) (hl : rs.length ≤ 1000000) :
    Calls Tryd.prog 10 #[v, turnV 1 n m] w fun e w' => ∃ v', e = .returned v' ∧ RowsP (fun k => P k ∨ (w.heap.size ≤ k ∧ k < w'.heap.size)) w' v' (thenR rs 1 n m) ∧ Below w.heap.size w w' := by
  obtain ⟨xs, hx, ha, hpv, hpx⟩ := h
  have HX : Hid (SrcX w v xs) := hx
  have HA : Hid (All2 w xs rs) := ha
  have HP : Hid ((∀ k, v.ownBlock = some k → P k) ∧ ∀ x ∈ xs, ∀ k, x.ownBlock = some k → P k) := ⟨hpv, hpx⟩
  have HR : Hid (thenR rs 1 n m = rs ++ [saidB n m]) := show _ = _ from rfl
  have hxl : xs.length ≤ 1000000 := by rw [ha.1]; exact hl
  have HOC : Hid (∀ u ∈ xs, u.oneCell' = true) := ha.cells
  rw [HR.out]
  obtain ⟨av, cv, hv⟩ := hx.shape
  have hvs : v.oneCell' = true := by rw [hv]; rfl
  obtain ⟨V, hV⟩ : ∃ V, V = Value.slice av xs.length cv := ⟨_, rfl⟩
  rw [hv] at HX HP ⊢
  obtain ⟨xn, hxn⟩ : ∃ n, n = xs.length := ⟨_, rfl⟩
  rw [← hxn] at HX HP hxl ⊢
  have HXN : Hid (xn = xs.length) := hxn
  unfold turnV
  have HMO : Hid (Tryd.prog.follows .mixedOrders = true) := show _ = _ by kernel_rfl
  clear hx ha hpv hpx hv hvs hV hxn hl
  go_enter Tryd.func10, Tryd.ntmps10
  go_upto_region 3 with fail
  generalize hw1 : World.alloc w _ = w1
  have HT1 : Hid (Blk w1 w.heap.size [.int .i64 1, .int .i64 n, .int .i64 m]) := by rw [← hw1]; exact Blk.mk w _ _ rfl rfl
  have HB1 : Hid (Below w.heap.size w w1) := by rw [← hw1]; exact (Below.refl _ _).alloc (Nat.le_refl _) _
  clear hw1
  refine wp_region_noPanic ?_
  refine wp_region_held_drew (S := fun w' => w'.cell? ⟨w.heap.size, 1, none⟩ = some (.int .i64 n) ∧ w'.cell? ⟨w.heap.size, 2, none⟩ = some (.int .i64 m)) HMO.out (⟨HT1.out.drew.one rfl, HT1.out.drew.one rfl⟩) (fun hHeld => ?_)
  refine wpAnyH_take (i := 1) (oi := { dst := some 12, op := .move (.tmp 0), type := 32, pos := "law.go:25", after := #[], guard := none }) (v := ?_) rfl (by kernel_rfl) (by kernel_rfl) (by kernel_rfl) (fun _ _ _ h => h) (Or.inl ⟨by rfl, ?_⟩) (by assumption) ?_
  rotate_left
  · intro _ _; go_simp; first | done | with_reducible rfl
  simp only [Act.put, List.setIfInBounds_toArray, List.set_cons_zero, List.set_cons_succ]
  refine wpAnyH_take (i := 3) (oi := { dst := some 14, op := .fieldAddr 35 (.tmp 3) 1, type := 0, pos := "law.go:25", after := #[], guard := none }) (v := ?_) rfl (by kernel_rfl) (by kernel_rfl) (by kernel_rfl) (fun _ _ _ h => h) (Or.inl ⟨by rfl, ?_⟩) (by assumption) ?_
  rotate_left
  · intro _ _; go_simp; first | done | with_reducible rfl
  simp only [Act.put, List.setIfInBounds_toArray, List.set_cons_zero, List.set_cons_succ]
  refine wpAnyH_take (i := 4) (oi := { dst := some 15, op := .load 3 (.tmp 14), type := 3, pos := "law.go:25", after := #[{ on := 3, ground := .data }], guard := none }) (v := .int .i64 n) rfl (by kernel_rfl) (by kernel_rfl) (by kernel_rfl) (fun _ _ _ h => h) (Or.inl ⟨by rfl, ?_⟩) (by assumption) ?_
  · intro _ _; rename_i wz hz; have cz := hz.1; go_simp
  simp only [Act.put, List.setIfInBounds_toArray, List.set_cons_zero, List.set_cons_succ]
  refine wpAnyH_take (i := 5) (oi := { dst := some 16, op := .fieldAddr 35 (.tmp 3) 2, type := 0, pos := "law.go:25", after := #[], guard := none }) (v := ?_) rfl (by kernel_rfl) (by kernel_rfl) (by kernel_rfl) (fun _ _ _ h => h) (Or.inl ⟨by rfl, ?_⟩) (by assumption) ?_
  rotate_left
  · intro _ _; go_simp; first | done | with_reducible rfl
  simp only [Act.put, List.setIfInBounds_toArray, List.set_cons_zero, List.set_cons_succ]
  refine wpAnyH_take (i := 6) (oi := { dst := some 17, op := .load 3 (.tmp 16), type := 3, pos := "law.go:25", after := #[{ on := 5, ground := .data }], guard := none }) (v := .int .i64 m) rfl (by kernel_rfl) (by kernel_rfl) (by kernel_rfl) (fun _ _ _ h => h) (Or.inl ⟨by rfl, ?_⟩) (by assumption) ?_
  · intro _ _; rename_i wz hz; have cz := hz.2; go_simp
  simp only [Act.put, List.setIfInBounds_toArray, List.set_cons_zero, List.set_cons_succ]
  refine wpAnyH_ready (rs := [0]) (by kernel_rfl) (by simp) ?_
  refine AllReadyH.cons (o := { dst := some 11, op := .buildSlice 32 0 #[], type := 32, pos := "law.go:25", after := #[], guard := none }) rfl (fun K hK => ?_) AllReadyH.nil
  go_simp
  generalize hw2 : World.alloc w1 _ = w2; have HX2 : Hid (OwnX w2 w1.heap.size (.slice (some ⟨w1.heap.size, 0, none⟩) 0 0) []) := by { rw [← hw2]; exact OwnX.lit0 w1 }; have HT2 : Hid (Blk w2 w.heap.size [.int .i64 1, .int .i64 n, .int .i64 m]) := by { rw [← hw2]; exact HT1.out.alloc _ }; have HB2 : Hid (Below w.heap.size w w2) := by { rw [← hw2]; exact HB1.out.alloc HB1.out.size _ }; have HZ2 : Hid (w2.heap.size = w1.heap.size + 1) := show _ = _ by { rw [← hw2]; simp }; clear hw2
  go_simp
  refine hK.out _ _ (⟨HT2.out.drew.one rfl, HT2.out.drew.one rfl⟩) (fun hHeld => ?_)
  clear hK K
  refine wpAnyH_ready (rs := [2]) (by kernel_rfl) (by simp) ?_
  refine AllReadyH.cons (o := { dst := some 13, op := .call { callee := .builtin Go.Builtin.append, args := #[.tmp 11, .tmp 12], argTypes := #[32, 32] }, type := 32, pos := "law.go:25", after := #[{ on := 0, ground := .data }, { on := 1, ground := .data }], guard := none }) rfl (fun K hK => ?_) AllReadyH.nil
  refine step_append_x rfl _ _ rfl w1.heap.size _ [] rfl HX2.out.drew _ xs rfl (HX.out.below HB2.out.drew) HOC.out (by rw [← HXN.out]; simp; omega) (by have := HZ2.out; show w1.heap.size ≤ w2.heap.size; omega) ?_; intro v3 w3 HX3 HG3 _; rw [List.nil_append] at HX3; obtain ⟨a3, c3, hv3⟩ := HX3.out.shape; rw [← HXN.out] at hv3; subst hv3; have HT3 : Hid (Blk w3 w.heap.size [.int .i64 1, .int .i64 n, .int .i64 m]) := HT2.out.drew.grownBy HG3.out (fun e => by { have h1 := (HX2.out.lt _ e).1; have := HT1.out.lt; omega }); have HB3 : Hid (Below w.heap.size w w3) := HB2.out.drew.grown HG3.out HB2.out.size (fun k hk => by { have h1 := (HX2.out.lt _ hk).1; have := HB1.out.size; omega })
  simp only [Act.put, List.setIfInBounds_toArray, List.set_cons_zero, List.set_cons_succ]
  refine hK.out _ _ (⟨HT3.out.one rfl, HT3.out.one rfl⟩) (fun hHeld => ?_)
  clear hK K
  refine wpAnyH_ready (rs := [7]) (by kernel_rfl) (by simp) ?_
  refine AllReadyH.cons (o := { dst := some 18, op := .call { callee := .value (.func 19), args := #[.tmp 15, .tmp 17], argTypes := #[3, 3] }, type := 40, pos := "law.go:25", after := #[{ on := 4, ground := .data }, { on := 6, ground := .data }, { on := 2, ground := .chain }], guard := none }) rfl (fun K hK => ?_) AllReadyH.nil
  go_simp
  refine (said_any n m w3).mono ?_; rintro e w4 ⟨g, c, rfl, hb4, hg, hg4, hbw4⟩; have HSD4 : Hid (Bs w4 (.slice (some ⟨g, 0, none⟩) (saidB n m).length c) (saidB n m)) := hb4; have HGG : Hid (w3.heap.size ≤ g ∧ g < w4.heap.size) := ⟨hg, hg4⟩; have HX4 : Hid (OwnX w4 w1.heap.size (.slice a3 xn c3) xs) := HX3.out.below hbw4; have HT4 : Hid (Blk w4 w.heap.size [.int .i64 1, .int .i64 n, .int .i64 m]) := HT3.out.below hbw4 HT3.out.lt; have HB4 : Hid (Below w.heap.size w w4) := HB3.out.trans (hbw4.mono HB3.out.size); clear hb4 hg hg4 hbw4; generalize (saidB n m).length = sl at *
  go_simp
  refine hK.out _ _ (⟨HT4.out.one rfl, HT4.out.one rfl⟩) (fun hHeld => ?_)
  clear hK K
  refine wpAnyH_ready (rs := [8]) (by kernel_rfl) (by simp) ?_
  refine AllReadyH.cons (o := { dst := some 19, op := .buildSlice 32 1 #[(0, .tmp 18)], type := 32, pos := "law.go:25", after := #[{ on := 7, ground := .data }], guard := none }) rfl (fun K hK => ?_) AllReadyH.nil
  go_simp
  generalize hw5 : World.alloc w4 _ = w5; have HSX : Hid (SrcX w5 (.slice (some ⟨w4.heap.size, 0, none⟩) 1 1) [.slice (some ⟨g, 0, none⟩) sl c]) := .inr ⟨w4.heap.size, 0, 1, rfl, Nat.le_refl _, by { unfold maxLen; omega }, fun j x hx => by { rw [← hw5, Nat.zero_add]; exact (Blk.mk (b := w4.heap.size) w4 #[.slice (some ⟨g, 0, none⟩) sl c] _ rfl rfl).one hx }⟩; have HB45 : Hid (Below w4.heap.size w4 w5) := by { rw [← hw5]; exact (Below.refl _ _).alloc (Nat.le_refl _) _ }; have HX5 : Hid (OwnX w5 w1.heap.size (.slice a3 xn c3) xs) := HX4.out.below HB45.out; have HT5 : Hid (Blk w5 w.heap.size [.int .i64 1, .int .i64 n, .int .i64 m]) := HT4.out.below HB45.out HT4.out.lt; have HB5 : Hid (Below w.heap.size w w5) := HB4.out.trans (HB45.out.mono HB4.out.size); clear hw5
  go_simp
  refine hK.out _ _ (⟨HT5.out.one rfl, HT5.out.one rfl⟩) (fun hHeld => ?_)
  clear hK K
  refine wpAnyH_ready (rs := [9]) (by kernel_rfl) (by simp) ?_
  refine AllReadyH.cons (o := { dst := some 20, op := .call { callee := .builtin Go.Builtin.append, args := #[.tmp 13, .tmp 19], argTypes := #[32, 32] }, type := 32, pos := "law.go:25", after := #[{ on := 2, ground := .data }, { on := 8, ground := .data }, { on := 7, ground := .chain }], guard := none }) rfl (fun K hK => ?_) AllReadyH.nil
  refine step_append_x rfl _ _ rfl w1.heap.size _ xs rfl HX5.out _ [.slice (some ⟨g, 0, none⟩) sl c] rfl HSX.out (by simp [Value.oneCell']) (by rw [← HXN.out]; simp; omega) (by have h4 := HB45.out.size; have h5 := HGG.out; have h6 := HZ2.out; have h7 := HX3.out.lt; have h8 := HG3.out.size; have h9 : w2.drew.heap.size = w2.heap.size := rfl; omega) ?_; intro v6 w6 HX6 HG6 _; obtain ⟨a6, c6, hv6⟩ := HX6.out.shape; subst hv6; have HT6 : Hid (Blk w6 w.heap.size [.int .i64 1, .int .i64 n, .int .i64 m]) := HT5.out.grownBy HG6.out (fun e => by { have h1 := (HX5.out.lt _ e).1; have := HT1.out.lt; omega })
  simp only [Act.put, List.setIfInBounds_toArray, List.set_cons_zero, List.set_cons_succ]
  refine hK.out _ _ (⟨HT6.out.one rfl, HT6.out.one rfl⟩) (fun hHeld => ?_)
  clear hK K
  refine wpAnyH_take (i := 10) (oi := { dst := some 4, op := .assign (.tmp 20), type := 32, pos := "law.go:25", after := #[{ on := 9, ground := .data }, { on := 9, ground := .chain }, { on := 0, ground := .phase }, { on := 1, ground := .phase }, { on := 2, ground := .phase }, { on := 3, ground := .phase }, { on := 4, ground := .phase }, { on := 5, ground := .phase }, { on := 6, ground := .phase }, { on := 7, ground := .phase }, { on := 8, ground := .phase }, { on := 9, ground := .phase }], guard := none }) (v := ?_) rfl (by kernel_rfl) (by kernel_rfl) (by kernel_rfl) (fun _ _ _ h => h) (Or.inl ⟨by rfl, ?_⟩) (by assumption) ?_
  rotate_left
  · intro _ _; go_simp; first | done | with_reducible rfl
  simp only [Act.put, List.setIfInBounds_toArray, List.set_cons_zero, List.set_cons_succ]
  refine wpAnyH_done (by kernel_rfl) ?_ _
  refine NoPanic.normal ?_
  clear hHeld
  have HB6 : Hid (Below w.heap.size w w6) := HB5.out.grown HG6.out HB5.out.size (fun k hk => by have h1 := (HX5.out.lt _ hk).1; have := HB1.out.size; omega)
  have HSD6 : Hid (Bs w6 (.slice (some ⟨g, 0, none⟩) sl c) (saidB n m)) := (HSD4.out.below HB45.out).same fun k hk => by
    injection hk with hk
    simp only at hk
    subst hk
    have h1 := HGG.out
    have h2 := HB45.out.size
    refine HG6.out.block _ (by omega) fun e => ?_
    have h3 := HX3.out.lt _ e.symm
    omega
  go_wp2_with fail
  go_ret
  have h1 := HGG.out
  have h2 := HB45.out.size
  have h3 := HG6.out.size
  have h4 := HB3.out.size
  have hx6 : OwnX w6 w1.heap.size (.slice a6 (xs.length + 1) c6) (xs ++ [.slice (some ⟨g, 0, none⟩) sl c]) := by have h := HX6.out; rw [List.length_append] at h; exact h
  refine ⟨.slice a6 (xs.length + 1) c6, rfl, ⟨xs ++ [.slice (some ⟨g, 0, none⟩) sl c], hx6.src, (HA.out.below HB6.out).append (All2.one HSD6.out), fun k hk => ?_, fun x hx k hk => ?_⟩, HB6.out⟩
  · have h5 := hx6.lt k hk
    have h6 := HB1.out.size
    exact .inr ⟨by omega, h5.2⟩
  · rcases List.mem_append.1 hx with hx | hx
    · exact .inl (HP.out.2 x hx k hk)
    · rw [List.mem_singleton] at hx
      subst hx
      injection hk with hk
      simp only at hk
      exact .inr ⟨by omega, by omega⟩
theorem range_next (f : Nat → List (BitVec 8)) (k : Nat) : (List.range (k + 1)).map f = (List.range k).map f ++ [f k] := by rw [List.range_succ, List.map_append]; rfl
set_option maxRecDepth 100000 in
set_option maxHeartbeats 4000000 in
theorem then_two (P : Nat → Prop) (v : Value) (rs : List (List (BitVec 8))) (n m : Int) (w : World) (hv : ∃ a l c, v = .slice a l c) :
    Calls Tryd.prog 10 #[v, turnV 2 n m] w fun e w' => ∃ v', e = .returned v' ∧ RowsP (fun k => P k ∨ (w.heap.size ≤ k ∧ k < w'.heap.size)) w' v' (thenR rs 2 n m) ∧ Below w.heap.size w w' := by
  obtain ⟨av, lv, cv, rfl⟩ := hv
  have HR : Hid (thenR rs 2 n m = (List.range (remF n 4)).map fun (i : Nat) => saidB i (wrap64 (m + (i : Int)))) := show _ = _ from rfl
  rw [HR.out]
  have HRd : Hid (∀ w', Calls Tryd.prog 20 #[.int .i64 n, .int .i64 5] w' fun e w'' => e = .returned (.int .i64 (remF n 4)) ∧ w'' = w') := fun w' => lround_any n 4 w' (by omega)
  have hq4 : remF n 4 ≤ 4 := remF_le n 4
  unfold turnV
  generalize remF n 4 = q at *
  go_enter Tryd.func10, Tryd.ntmps10
  go_upto_region 6 with fail
  generalize hw1 : World.alloc w _ = w1
  have HT1 : Hid (Blk w1 w.heap.size [.int .i64 2, .int .i64 n, .int .i64 m]) := by rw [← hw1]; exact Blk.mk w _ _ rfl rfl
  have HB1 : Hid (Below w.heap.size w w1) := by rw [← hw1]; exact (Below.refl _ _).alloc (Nat.le_refl _) _
  have hz1 : w.heap.size < w1.heap.size := HT1.out.lt
  clear hw1 HR
  go_wp2_with fail
  go_loopw [5, 6] (fun rv i wr => ∃ (k : Nat) (xs : List Value), k ≤ q ∧ i = .int .i64 k ∧ xs.length = k ∧ Hid (OwnX wr w1.heap.size rv xs) ∧ Hid (All2 wr xs ((List.range k).map fun (i : Nat) => saidB i (wrap64 (m + (i : Int))))) ∧ Hid (∀ x ∈ xs, ∀ j, x.ownBlock = some j → w1.heap.size ≤ j ∧ j < wr.heap.size ∧ rv.ownBlock ≠ some j) ∧ Hid (Below w1.heap.size w1 wr)) (fun _ i _ => q - (intOf i).toNat)
  case atStart => exact ⟨0, [], Nat.zero_le _, rfl, rfl, OwnX.nil _ _, All2.nil _, (fun x hx => by cases hx), Below.refl _ _⟩
  case round =>
    obtain ⟨k, xs, hk, rfl, hxk, HO, HA, HD, HB⟩ := hrel
    obtain ⟨ra, rc, hrv⟩ := HO.out.shape
    rw [hxk] at hrv
    subst hrv
    have HTr : Hid (Blk wr w.heap.size [.int .i64 2, .int .i64 n, .int .i64 m]) := HT1.out.below HB.out hz1
    have c1 : wr.cell? ⟨w.heap.size, 1, none⟩ = some (.int .i64 n) := HTr.out.one rfl
    have c2 : wr.cell? ⟨w.heap.size, 2, none⟩ = some (.int .i64 m) := HTr.out.one rfl
    by_cases hlt : k < q
    · have e0 : (0 : Int) ≤ (k : Int) := by omega
      have e1 : (k : Int) < (q : Int) := by omega
      go_wp2_with fail
      refine Calls.mono (HRd.out _) ?_
      rintro e w2 ⟨rfl, rfl⟩
      go_wp2_with fail
      refine Calls.mono (said_any (k : Int) (wrap64 (m + (k : Int))) w2) ?_
      rintro e w3 ⟨g, c, rfl, hb3, hg, hg3, hbw⟩
      obtain ⟨sd, hsd⟩ : ∃ s, s = saidB (k : Int) (wrap64 (m + (k : Int))) := ⟨_, rfl⟩
      rw [← hsd] at hb3 ⊢
      have HSDq : Hid (sd = saidB (k : Int) (wrap64 (m + (k : Int)))) := hsd
      have HSD : Hid (Bs w3 (.slice (some ⟨g, 0, none⟩) sd.length c) sd) := hb3
      have HG : Hid (w2.heap.size ≤ g ∧ g < w3.heap.size) := ⟨hg, hg3⟩
      have HX3 : Hid (OwnX w3 w1.heap.size (.slice ra k rc) xs) := HO.out.below hbw
      have HA3 : Hid (All2 w3 xs ((List.range k).map fun (i : Nat) => saidB i (wrap64 (m + (i : Int))))) := HA.out.below hbw
      have HB3 : Hid (Below w1.heap.size w1 w3) := HB.out.trans (hbw.mono HB.out.size)
      have HRO : Hid (∀ j, (Value.slice ra k rc).ownBlock = some j → j < w2.heap.size) := fun j hj => (HO.out.lt j hj).2
      have HW23 : Hid (w2.heap.size ≤ w3.heap.size) := hbw.size
      clear hb3 hg hg3 hbw hsd HO HA c1 c2
      have hxl : xs.length ≤ 4 := by omega
      generalize hsl : sd.length = sl at *
      have HAL : Hid (∀ o, OwnX (w3.alloc o) w1.heap.size (.slice ra k rc) xs) := fun o => HX3.out.below ((Below.refl _ _).alloc (Nat.le_refl _) _)
      have HSX : Hid (∀ ty, SrcX (w3.alloc (.cells #[.slice (some ⟨g, 0, none⟩) sl c] ty)) (.slice (some ⟨w3.heap.size, 0, none⟩) 1 1) [.slice (some ⟨g, 0, none⟩) sl c]) := fun ty => .inr ⟨w3.heap.size, 0, 1, rfl, Nat.le_refl _, by unfold maxLen; omega, fun j x hx => by
        rw [Nat.zero_add]
        exact (Blk.mk (b := w3.heap.size) w3 #[.slice (some ⟨g, 0, none⟩) sl c] ty rfl rfl).one hx⟩
      have hs13 := HB3.out.size
      clear hsl
      go_wp2_with (at_builtin; refine wpList_append_x rfl _ _ rfl w1.heap.size _ xs rfl (HAL.out _) _ [.slice (some ⟨g, 0, none⟩) sl c] rfl (HSX.out _) (by simp [Value.oneCell']) (by simp; omega) (by simp; omega) ?_; intro v4 w4 HO4 HG4 HM4; obtain ⟨a4, c4, hv4⟩ := HO4.out.shape; rw [List.length_append, hxk] at hv4; subst hv4)
      have HB4 : Hid (Below w1.heap.size w1 w4) := (HB3.out.alloc HB3.out.size _).grown HG4.out (by simp; have := HB3.out.size; omega) fun k hk => (HX3.out.lt k hk).1
      have hsz4 : w3.heap.size < w4.heap.size := by have := HG4.out.size; simp at this; omega
      go_roundw
      case rel =>
        have hsame : ∀ j, j < w3.heap.size → (Value.slice ra k rc).ownBlock ≠ some j → w4.heap[j]? = w3.heap[j]? := fun j hj hne => by
          rw [HG4.out.block j (by simp; omega) fun e => hne e.symm]
          exact heap_alloc_old w3 _ hj
        have hown4 : ∀ j, j < w3.heap.size → (Value.slice ra k rc).ownBlock ≠ some j → (Value.slice a4 (k + 1) c4).ownBlock ≠ some j := fun j hj hne e => by
          rcases HM4.out with h | ⟨g', hg', h⟩
          · exact hne (h.symm.trans e)
          · have e2 : some g' = some j := h.symm.trans e
            injection e2 with e2
            simp at hg'
            omega
        have hgne : (Value.slice ra k rc).ownBlock ≠ some g := fun e => by have := HRO.out g e; have := HG.out.1; omega
        have HO5 : OwnX w4 w1.heap.size (.slice a4 (k + 1) c4) (xs ++ [Value.slice (some ⟨g, 0, none⟩) sl c]) := HO4.out
        refine ⟨k + 1, xs ++ [Value.slice (some ⟨g, 0, none⟩) sl c], by omega, by go_num, by rw [List.length_append, hxk]; rfl, HO5, ?_, ?_, HB4.out⟩
        · rw [range_next]
          refine All2.append (HA3.out.same fun x hx j hj => ?_) (All2.one ?_)
          · obtain ⟨h1, h2, h3⟩ := HD.out x hx j hj
            have := HW23.out
            exact hsame j (by omega) h3
          · rw [← HSDq.out]
            refine HSD.out.same fun j hj => ?_
            injection hj with hj
            simp only at hj
            subst hj
            exact hsame _ HG.out.2 hgne
        · intro x hx j hj
          rcases List.mem_append.1 hx with hx | hx
          · obtain ⟨h1, h2, h3⟩ := HD.out x hx j hj
            have := HW23.out
            exact ⟨h1, by omega, hown4 j (by omega) h3⟩
          · rw [List.mem_singleton] at hx
            subst hx
            injection hj with hj
            simp only at hj
            subst hj
            have h1 := HG.out
            have h2 := HB.out.size
            exact ⟨by omega, by omega, hown4 _ h1.2 hgne⟩
      case measure => simp [intOf]; omega
    · obtain rfl : k = q := by omega
      have e1 : ¬ (k : Int) < (k : Int) := by omega
      go_wp2_with fail
      refine Calls.mono (HRd.out _) ?_
      rintro e w2 ⟨rfl, rfl⟩
      go_wp2_with fail
      go_ret
      refine ⟨.slice ra k rc, rfl, ⟨xs, HO.out.src, HA.out, fun j hj => ?_, fun x hx j hj => ?_⟩, HB1.out.trans (HB.out.mono HB1.out.size)⟩
      · have := HO.out.lt j hj
        exact .inr ⟨by omega, this.2⟩
      · have := HD.out x hx j hj
        exact .inr ⟨by omega, this.2.1⟩
end Go.Proofs.YtlapnnkahijikaaDoor
namespace Go.Proofs.YtlapnnkahijikaaDoor
open Go.ChangeShapes Go.WideShapes Go.ChangeAt Go.RowKit Go.Lib

theorem RowsP.shape {P : Nat → Prop} {w : World} {v : Value} {rs : List (List (BitVec 8))} (h : RowsP P w v rs) : ∃ a c, v = .slice a rs.length c := h.rows.shape
theorem then_any (P : Nat → Prop) (v : Value) (rs : List (List (BitVec 8))) (kind n m : Int) (w : World) (h : RowsP P w v rs) (hl : rs.length ≤ 1000000) :
    Calls Tryd.prog 10 #[v, turnV kind n m] w fun e w' => ∃ v', e = .returned v' ∧ RowsP (fun k => P k ∨ (w.heap.size ≤ k ∧ k < w'.heap.size)) w' v' (thenR rs kind n m) ∧ Below w.heap.size w w' := by
  by_cases h1 : kind = 1
  · subst h1; exact then_one P v rs n m w h hl
  · by_cases h2 : kind = 2
    · subst h2
      obtain ⟨a, c, hv⟩ := h.shape
      exact then_two P v rs n m w ⟨a, _, c, hv⟩
    · exact then_other P v rs kind n m w h h1 h2
theorem wp_region_reads {P : Program} {id : Nat} {Q : Exit → Act → World → Prop} {a : Act} {w : World} {l : List Oper} (hm : P.follows .mixedOrders = true) (hB : Region.lexB .any l.toArray = true)
    (h : wpStill P l.toArray w.drew (fun a' => Q .normal a' w.drew) l a) : (Code.region id l.toArray true).wp P Q a w :=
  wp_region_still_lit hm hB h
set_option maxRecDepth 100000 in
set_option maxHeartbeats 4000000 in
theorem has_nil (v : Value) (w : World) :
    Calls Tryd.prog 13 #[.pointer none, v] w fun e w' => e = .returned (.bool false) ∧ w' = w := by
  go_enter Tryd.func13, Tryd.ntmps13
  go_wp2_with fail
  go_ret
  exact ⟨rfl, rfl⟩
set_option maxRecDepth 100000 in
set_option maxHeartbeats 4000000 in
theorem has_any {w wi : World} {f : Nat} {S : FS} {Bl : List (Nat × List Value)} (hK : Kw w) (l : Nat) (nm : ByteArray) (size : Nat) (dead : Bool) (h : Sys w wi f S ((l, lgC f nm size dead) :: Bl)) (v : Value) (rs : List (List (BitVec 8))) (hv : RowsB wi v rs) (hn : rs.length ≤ 1000000) :
    Calls Tryd.prog 13 #[.pointer (some ⟨l, 0, none⟩), v] wi fun e w' => e = .returned (.bool (decide (recR S.abs nm size = rs))) ∧ Below wi.heap.size wi w' := by
  obtain ⟨av, cv, rfl⟩ := hv.shape
  obtain ⟨n, hnn⟩ : ∃ n, n = rs.length := ⟨_, rfl⟩
  rw [← hnn] at hv hn ⊢
  have HV : Hid (RowsB wi (.slice av n cv) rs) := hv
  have HN : Hid (n = rs.length) := hnn
  have HRC := records_any hK l nm size dead h
  generalize hR : recR S.abs nm size = R at *
  have HRC2 : Hid (Calls Tryd.prog 16 #[.pointer (some ⟨l, 0, none⟩)] wi fun e w' => ∃ v xs, e = .returned v ∧ OwnX w' wi.heap.size v xs ∧ Cloned w' wi.heap.size xs R ∧ Below wi.heap.size wi w') := HRC
  have HMO : Hid (Tryd.prog.follows .mixedOrders = true) := show _ = _ by kernel_rfl
  clear HRC h hv hnn hK hR
  obtain ⟨D, hD⟩ : ∃ D, D = decide (R = rs) := ⟨_, rfl⟩
  rw [← hD]
  have HDD : Hid (D = decide (R = rs)) := hD
  clear hD
  go_enter Tryd.func13, Tryd.ntmps13
  go_wp2_with fail
  refine Calls.mono HRC2.out ?_
  rintro e w1 ⟨v1, xs, rfl, hx1, hc1, hb1⟩
  obtain ⟨a1, c1, rfl⟩ := hx1.shape
  obtain ⟨q, hq⟩ : ∃ q, q = xs.length := ⟨_, rfl⟩
  rw [← hq] at hx1 ⊢
  have HQ : Hid (q = R.length) := show _ = _ by rw [hq]; exact hc1.all.1
  have HRW : Hid (RowsB w1 (.slice a1 q c1) R) := ⟨xs, hx1.src, hc1.all.weak⟩
  have HB1 : Hid (Below wi.heap.size wi w1) := hb1
  have HV1 : Hid (RowsB w1 (.slice av n cv) rs) := HV.out.below hb1
  clear hx1 hc1 hb1 hq HRC2
  by_cases hqn : q = n
  · subst hqn
    have HNO : Hid (∀ k, k < q → R.getD k [] ≠ rs.getD k [] → D = false) := fun k hk hne => HDD.out.trans <| decide_eq_false fun e => hne (by rw [e])
    have HYE : Hid ((∀ k, k < q → R.getD k [] = rs.getD k []) → D = true) := fun h => HDD.out.trans <| decide_eq_true (by
      refine List.ext_getElem (by rw [← HQ.out, ← HN.out]) fun i h1 h2 => ?_
      have := h i (by rw [HQ.out]; exact h1)
      rwa [List.getD_eq_getElem?_getD, List.getD_eq_getElem?_getD, List.getElem?_eq_getElem h1, List.getElem?_eq_getElem h2] at this)
    go_wp2_with fail
    go_loopw [6] (fun i wr => ∃ k : Nat, k ≤ q ∧ i = .int .i64 k ∧ Hid (Below w1.heap.size w1 wr) ∧ Hid (∀ j, j < k → R.getD j [] = rs.getD j [])) (fun i _ => q - (intOf i).toNat)
    case atStart => exact ⟨0, Nat.zero_le _, rfl, Below.refl _ _, fun j hj => absurd hj (Nat.not_lt_zero _)⟩
    case round =>
      obtain ⟨k, hk, rfl, HB, HALL⟩ := hrel
      by_cases hlt : k < q
      · have e0 : (0 : Int) ≤ (k : Int) := by omega
        have e1 : (k : Int) < (q : Int) := by omega
        obtain ⟨b2, o2, x2, e2, hc2, hb2⟩ := (HRW.out.below HB.out).at (k := k) (by rw [← HQ.out]; exact hlt)
        obtain ⟨b3, o3, x3, e3, hc3, hb3⟩ := (HV1.out.below HB.out).at (k := k) (by rw [← HN.out]; exact hlt)
        subst e2
        subst e3
        have q1 := (hb2.below (Below.refl _ _).drew).str
        have q2 := (hb3.below (Below.refl _ _).drew).str
        obtain ⟨ax, cx, rfl, _⟩ := hb2.shape
        obtain ⟨ay, cy, rfl, _⟩ := hb3.shape
        obtain ⟨s1, hs1⟩ : ∃ s, s = ofB (R.getD k []) := ⟨_, rfl⟩
        obtain ⟨s2, hs2⟩ : ∃ s, s = ofB (rs.getD k []) := ⟨_, rfl⟩
        rw [← hs1] at q1
        rw [← hs2] at q2
        have HS : Hid (s1 = ofB (R.getD k []) ∧ s2 = ofB (rs.getD k [])) := ⟨hs1, hs2⟩
        clear hs1 hs2 hb2 hb3
        generalize (R.getD k []).length = m1 at *
        generalize (rs.getD k []).length = m2 at *
        go_upto_region 9 with fail
        refine wp_region_reads HMO.out (by kernel_rfl) ?_
        iterate 11 still_step
        refine wpStill_nil ?_
        clear q1 q2 hc2 hc3
        by_cases hs : s1 = s2
        · have HEQ : Hid (R.getD k [] = rs.getD k []) := ofB_inj (by rw [← HS.out.1, ← HS.out.2, hs])
          subst hs
          have hself : (s1.toList == s1.toList) = true := by simp
          rw [hself]
          simp only [Bool.not_true]
          go_wp2_with fail
          go_roundw
          case rel =>
            refine ⟨k + 1, by omega, by go_num, HB.out.drew, fun j hj => ?_⟩
            by_cases e : j = k
            · rw [e]; exact HEQ.out
            · exact HALL.out j (by omega)
          case measure => simp [intOf]; omega
        · have HD : Hid (D = false) := HNO.out k hlt fun e => hs (by rw [HS.out.1, HS.out.2, e])
          have hs' : (s1.toList == s2.toList) = false := beq_eq_false_iff_ne.2 fun e => hs (ByteArray.ext (Array.toList_inj.1 (by rwa [ByteArray.toList_eq, ByteArray.toList_eq] at e)))
          rw [hs']
          simp only [Bool.not_false]
          go_wp2_with fail
          go_ret
          exact ⟨by rw [HD.out]; rfl, HB1.out.trans (HB.out.drew.mono HB1.out.size)⟩
      · obtain rfl : k = q := by omega
        have e1 : ¬ (k : Int) < (k : Int) := by omega
        have HD : Hid (D = true) := HYE.out HALL.out
        go_wp2_with fail
        go_ret
        exact ⟨by rw [HD.out]; rfl, HB1.out.trans (HB.out.mono HB1.out.size)⟩
  · have hqn' : ((q : Int) != (n : Int)) = true := bne_iff_ne.2 (by omega)
    have HD : Hid (D = false) := HDD.out.trans <| decide_eq_false fun e => hqn (by rw [HQ.out, HN.out, e])
    go_wp2_with fail
    go_ret
    exact ⟨by rw [HD.out]; rfl, HB1.out⟩
end Go.Proofs.YtlapnnkahijikaaDoor
namespace Go.Proofs.YtlapnnkahijikaaDoor
open Go.ChangeShapes Go.WideShapes Go.ChangeAt Go.RowKit Go.Lib

/-- What a turn tells, and leaves. -/
def nowE (A : Abs) (dead : Bool) (nm : ByteArray) (kind n m : Int) : Int := if kind = 1 then apE A dead nm (saidB n m) else if kind = 2 then rsE A dead nm (thenR [] 2 n m) else 0
def nowA (A : Abs) (dead : Bool) (nm : ByteArray) (kind n m : Int) : Abs := if kind = 1 then apA A dead nm (saidB n m) else if kind = 2 then rsA A dead nm (thenR [] 2 n m) else A
def nowZ (A : Abs) (size : Nat) (dead : Bool) (nm : ByteArray) (kind n m : Int) : Nat := if kind = 1 then apZ A size dead nm (saidB n m) else if kind = 2 then rsZ A size dead nm (thenR [] 2 n m) else size
def nowD (A : Abs) (dead : Bool) (nm : ByteArray) (kind n m : Int) : Bool := if kind = 1 then apD A dead nm (saidB n m) else if kind = 2 then rsD A dead nm (thenR [] 2 n m) else dead
theorem then2_small (n m : Int) : (thenR [] 2 n m).length ≤ 4 ∧ (frs (thenR [] 2 n m)).length ≤ 2000 ∧ ∀ r ∈ thenR [] 2 n m, r.length ≤ 399 := by
  have hq := remF_le n 4
  have e : thenR [] 2 n m = (List.range (remF n 4)).map fun (i : Nat) => saidB i (wrap64 (m + (i : Int))) := rfl
  rw [e]
  have key : ∀ k, (frs ((List.range k).map fun (i : Nat) => saidB i (wrap64 (m + (i : Int))))).length ≤ 440 * k := fun k => by
    induction k with
    | zero => simp [frs]
    | succ k ih =>
      rw [range_next, frs_append, List.length_append, frs_one]
      have h1 := frB_le (saidB (k : Int) (wrap64 (m + (k : Int))))
      have h2 := saidB_length (k : Int) (wrap64 (m + (k : Int)))
      omega
  refine ⟨by simp; exact hq, by have := key (remF n 4); omega, fun r hr => ?_⟩
  obtain ⟨i, _, rfl⟩ := List.mem_map.1 hr
  exact saidB_length _ _
set_option maxRecDepth 100000 in
set_option maxHeartbeats 4000000 in
theorem now_any {w wi : World} {f : Nat} {S : FS} {Bl : List (Nat × List Value)} {m : Nat} (hK : Kw w) (l : Nat) (nm : ByteArray) (size : Nat) (dead : Bool) (h : Sys w wi f S ((l, lgC f nm size dead) :: Bl)) (hOK : S.abs.OK m) (hm : m ≤ 4611686018427387000) (hnm : nm.size ≤ 40) (hz : size ≤ 1000000000000) (kind n z : Int) :
    Calls Tryd.prog 9 #[.pointer (some ⟨l, 0, none⟩), turnV kind n z] wi fun e w' => e = .returned (.int .i64 (nowE S.abs dead nm kind n z)) ∧ Step w wi f S (((l, lgC f nm size dead) :: Bl).map Prod.fst) (nowA S.abs dead nm kind n z) ((l, lgC f nm (nowZ S.abs size dead nm kind n z) (nowD S.abs dead nm kind n z)) :: Bl) w' := by
  have HK : Hid (Kw w) := hK
  have H : Hid (Sys w wi f S ((l, lgC f nm size dead) :: Bl)) := h
  have HOK : Hid (S.abs.OK m) := hOK
  clear hK h hOK
  unfold turnV
  by_cases h1 : kind = 1
  · subst h1
    have HE : Hid (nowE S.abs dead nm 1 n z = apE S.abs dead nm (saidB n z) ∧ nowA S.abs dead nm 1 n z = apA S.abs dead nm (saidB n z) ∧ nowZ S.abs size dead nm 1 n z = apZ S.abs size dead nm (saidB n z) ∧ nowD S.abs dead nm 1 n z = apD S.abs dead nm (saidB n z)) := ⟨rfl, rfl, rfl, rfl⟩
    rw [HE.out.1, HE.out.2.1, HE.out.2.2.1, HE.out.2.2.2]
    clear HE
    have hsl := saidB_length n z
    go_enter Tryd.func9, Tryd.ntmps9
    go_wp2_with fail
    generalize hw1 : World.alloc wi _ = w1
    have HB1 : Hid (Below wi.heap.size wi w1) := by rw [← hw1]; exact (Below.refl _ _).alloc (Nat.le_refl _) _
    clear hw1
    refine Calls.mono (said_any n z w1) ?_
    rintro e w2 ⟨g, c, rfl, hb2, _, _, hbw⟩
    have HS2 : Hid (Sys w w2 f S ((l, lgC f nm size dead) :: Bl)) := (H.out.below HB1.out).below hbw
    have HAP := lappend_any HK.out l nm size dead HS2.out HOK.out hm hz _ _ (.inl hb2) (by omega)
    have HGB : Hid (GrB f (((l, lgC f nm size dead) :: Bl).map Prod.fst) S S wi w2) := (GrB.of_below HB1.out).trans (GrB.of_below hbw)
    have HAP2 : Hid (Calls Tryd.prog 11 #[.pointer (some ⟨l, 0, none⟩), .slice (some ⟨g, 0, none⟩) (saidB n z).length c] w2 fun e w' => e = .returned (.int .i64 (apE S.abs dead nm (saidB n z))) ∧ Step w w2 f S (((l, lgC f nm size dead) :: Bl).map Prod.fst) (apA S.abs dead nm (saidB n z)) ((l, lgC f nm (apZ S.abs size dead nm (saidB n z)) (apD S.abs dead nm (saidB n z))) :: Bl) w') := HAP
    clear HAP hb2 hbw
    generalize (saidB n z).length = sl at *
    go_wp2_with fail
    refine Calls.mono HAP2.out ?_
    rintro e w3 ⟨rfl, S3, hS3, hs3, hg3⟩
    have HS3 : Hid (S3.abs = apA S.abs dead nm (saidB n z) ∧ Sys w w3 f S3 ((l, lgC f nm (apZ S.abs size dead nm (saidB n z)) (apD S.abs dead nm (saidB n z))) :: Bl) ∧ GrB f (((l, lgC f nm size dead) :: Bl).map Prod.fst) S S3 wi w3) := ⟨hS3, hs3, HGB.out.trans hg3⟩
    clear hS3 hs3 hg3 HAP2
    go_wp2_with fail
    go_ret
    exact ⟨rfl, S3, HS3.out⟩
  · have h1' : (kind == 1) = false := beq_eq_false_iff_ne.2 h1
    by_cases h2 : kind = 2
    · subst h2
      have HE : Hid (nowE S.abs dead nm 2 n z = rsE S.abs dead nm (thenR [] 2 n z) ∧ nowA S.abs dead nm 2 n z = rsA S.abs dead nm (thenR [] 2 n z) ∧ nowZ S.abs size dead nm 2 n z = rsZ S.abs size dead nm (thenR [] 2 n z) ∧ nowD S.abs dead nm 2 n z = rsD S.abs dead nm (thenR [] 2 n z)) := ⟨rfl, rfl, rfl, rfl⟩
      rw [HE.out.1, HE.out.2.1, HE.out.2.2.1, HE.out.2.2.2]
      clear HE
      have hsm := then2_small n z
      have HTH : Hid (∀ w', Calls Tryd.prog 10 #[.slice none 0 0, .agg #[.int .i64 2, .int .i64 n, .int .i64 z]] w' fun e w'' => ∃ v', e = .returned v' ∧ RowsP (fun k => False ∨ (w'.heap.size ≤ k ∧ k < w''.heap.size)) w'' v' (thenR [] 2 n z) ∧ Below w'.heap.size w' w'') := fun w' => then_any (fun _ => False) _ [] 2 n z w' (RowsP.nil _ _) (by simp)
      have HSM : Hid ((thenR [] 2 n z).length ≤ 4 ∧ (frs (thenR [] 2 n z)).length ≤ 2000) := ⟨hsm.1, hsm.2.1⟩
      clear hsm
      generalize thenR [] 2 n z = T at *
      go_enter Tryd.func9, Tryd.ntmps9
      go_wp2_with fail
      generalize hw1 : World.alloc wi _ = w1
      have HB1 : Hid (Below wi.heap.size wi w1) := by rw [← hw1]; exact (Below.refl _ _).alloc (Nat.le_refl _) _
      clear hw1
      refine Calls.mono (HTH.out w1) ?_
      rintro e w2 ⟨v2, rfl, hr2, hbw⟩
      obtain ⟨a2, c2, rfl⟩ := hr2.shape
      have HS2 : Hid (Sys w w2 f S ((l, lgC f nm size dead) :: Bl)) := (H.out.below HB1.out).below hbw
      have HAP := lreset_any HK.out l nm size dead HS2.out HOK.out hm hnm _ T hr2.rows (by have := HSM.out.1; omega) (by have := HSM.out.2; omega)
      have HGB : Hid (GrB f (((l, lgC f nm size dead) :: Bl).map Prod.fst) S S wi w2) := (GrB.of_below HB1.out).trans (GrB.of_below hbw)
      have HAP2 : Hid (Calls Tryd.prog 15 #[.pointer (some ⟨l, 0, none⟩), .slice a2 T.length c2] w2 fun e w' => e = .returned (.int .i64 (rsE S.abs dead nm T)) ∧ Step w w2 f S (((l, lgC f nm size dead) :: Bl).map Prod.fst) (rsA S.abs dead nm T) ((l, lgC f nm (rsZ S.abs size dead nm T) (rsD S.abs dead nm T)) :: Bl) w') := HAP
      clear HAP hr2 hbw
      generalize T.length = tl at *
      go_wp2_with fail
      refine Calls.mono HAP2.out ?_
      rintro e w3 ⟨rfl, S3, hS3, hs3, hg3⟩
      have HS3 : Hid (S3.abs = rsA S.abs dead nm T ∧ Sys w w3 f S3 ((l, lgC f nm (rsZ S.abs size dead nm T) (rsD S.abs dead nm T)) :: Bl) ∧ GrB f (((l, lgC f nm size dead) :: Bl).map Prod.fst) S S3 wi w3) := ⟨hS3, hs3, HGB.out.trans hg3⟩
      clear hS3 hs3 hg3 HAP2
      go_wp2_with fail
      go_ret
      exact ⟨rfl, S3, HS3.out⟩
    · have h2' : (kind == 2) = false := beq_eq_false_iff_ne.2 h2
      have HE : Hid (nowE S.abs dead nm kind n z = 0 ∧ nowA S.abs dead nm kind n z = S.abs ∧ nowZ S.abs size dead nm kind n z = size ∧ nowD S.abs dead nm kind n z = dead) := by
        refine ⟨?_, ?_, ?_, ?_⟩
        · unfold nowE; rw [if_neg h1, if_neg h2]
        · unfold nowA; rw [if_neg h1, if_neg h2]
        · unfold nowZ; rw [if_neg h1, if_neg h2]
        · unfold nowD; rw [if_neg h1, if_neg h2]
      rw [HE.out.1, HE.out.2.1, HE.out.2.2.1, HE.out.2.2.2]
      clear HE
      go_enter Tryd.func9, Tryd.ntmps9
      go_wp2_with fail
      go_ret
      have hb : Below wi.heap.size wi (wi.alloc (.cells #[.int .i64 kind, .int .i64 n, .int .i64 z] 35)) := (Below.refl _ _).alloc (Nat.le_refl _) _
      exact ⟨rfl, S, rfl, H.out.below hb, GrB.of_below hb⟩
end Go.Proofs.YtlapnnkahijikaaDoor
