/- Law 8's texts: coraclealike.Letters, word for word; said. Law 8: then. Law 8: then in one; has. Law 8: now. -/
import Derived.Test.YtlapnnkahijikaaGreatDoorZW4
namespace Go.Proofs.YtlapnnkahijikaaGreatDoor
open Go.ChangeShapes Go.WideShapes Go.ChangeAt Go.RowKit Go.Lib

/-- Which letter stands at a place. -/
def letN (n : Int) (k : Nat) : Nat := 97 + remF (wrap64 (wrap64 (3 * n) + 5 * (k : Int))) 25
def letB (size : Nat) (n : Int) : List (BitVec 8) := (List.range size).map fun k => BitVec.ofNat 8 (letN n k)
theorem letB_length (size : Nat) (n : Int) : (letB size n).length = size := by unfold letB; simp
theorem letB_next (k : Nat) (n : Int) : letB (k + 1) n = letB k n ++ [BitVec.ofNat 8 (letN n k)] := by unfold letB; rw [List.range_succ, List.map_append]; rfl
theorem Y_ofNat (i : Nat) (h : i < 256) : Y (BitVec.ofNat 8 i) = i := by
  unfold Y
  rw [BitVec.toNat_ofNat, Nat.mod_eq_of_lt (by omega)]
theorem made_u8s (n : Nat) : (madeCells #[Value.int .u8 0] n).toList = u8s (List.replicate n 0) := by
  unfold madeCells u8s
  rw [List.map_replicate]
  apply List.ext_getElem?
  intro t
  by_cases ht : t < n
  · simp [ht, Nat.mod_one]; rfl
  · simp [ht]
theorem Blk.madeR {w : World} {B e g m : Nat} {xs : List Value} (h : w.ownsRow B e 1 (.slice (some ⟨g, 0, none⟩) m m) m xs) : Blk w g xs := by
  obtain ⟨_, (⟨h1, _⟩ | ⟨g', cap, cur, hv, _, hh, _, _, hc, hx⟩)⟩ := h
  · cases h1
  · injection hv with hv1 hv2 hv3
    injection hv1 with hv1
    injection hv1 with hv1
    subst hv1; subst hv3
    rw [List.take_of_length_le (by simpa using Nat.le_of_eq hc)] at hx
    refine ⟨e, ?_⟩
    rw [hh, ← hx]
set_option maxRecDepth 100000 in
set_option maxHeartbeats 4000000 in
theorem letters_is (size : Nat) (n : Int) (w : World) (hs : size ≤ 1000) :
    Calls Tryz.prog 23 #[.int .i64 size, .int .i64 n] w fun e w' => e = .returned (.string (ofB (letB size n))) ∧ Below w.heap.size w w' := by
  obtain ⟨i0, hi0, hi1, hi2, hi3⟩ := info_parts Tryz.info8
  have HRd : Hid (∀ (z : Int) w', Calls Tryz.prog 14 #[.int .i64 z, .int .i64 26] w' fun e w'' => e = .returned (.int .i64 (remF z 25)) ∧ w'' = w') := fun z w' => lround_any z 25 w' (by omega)
  go_enter Tryz.func23, Tryz.ntmps23
  go_upto_region 3 with (at_make; refine wpList_make_full _ rfl _ _ 67 rfl w.heap.size 5 i0 (.int .u8 0) 1 Tryz.underlying67 hi0 hi1 hi2 .i64 .i64 _ _ size rfl rfl rfl rfl (by rw [hi3]; omega) (by unfold maxLen; omega) (Nat.le_refl _) ?_; intro w1 hown hgrow)
  have hb1 : Below w.heap.size w w1 := (Below.refl _ w).grown hgrow (Nat.le_refl _) (by simp)
  have hg1 : Blk w1 w.heap.size (u8s (List.replicate size 0)) := by
    rw [← made_u8s]
    rw [Nat.mul_one] at hown
    exact Blk.madeR hown
  clear hown hgrow hi0 hi1 hi2 hi3
  generalize hN : w.heap.size = T at *
  go_loopw [6] (fun j wr => ∃ (k : Nat) (M : List (BitVec 8)), k ≤ size ∧ j = .int .i64 k ∧ M.length = size ∧ Hid (M.take k = letB k n) ∧ Hid (Blk wr T (u8s M)) ∧ Hid (Below T w wr)) (fun j _ => size - (intOf j).toNat)
  case atStart => exact ⟨0, List.replicate size 0, by omega, rfl, List.length_replicate .., by rw [List.take_zero]; rfl, hg1, hb1⟩
  case round =>
    obtain ⟨k, M, hk, rfl, hM, HT, HG, HB⟩ := hrel
    clear hg1 hb1
    by_cases hlt : k < size
    · have e0 : (0 : Int) ≤ (k : Int) := by omega
      have e1 : (k : Int) < (size : Int) := by omega
      have c1 : wr.cell? ⟨T, k, none⟩ = some (.int .u8 (Y (M.getD k 0))) := HG.out.one (u8s_get M k (by omega))
      have f1 : wr.frozen? ⟨T, k, none⟩ = false := HG.out.frozen k
      generalize Y (M.getD k 0) = y0 at *
      go_wp2_with fail
      refine Calls.mono (HRd.out _ _) ?_
      rintro e w2 ⟨rfl, rfl⟩
      obtain ⟨r, hr⟩ : ∃ r : Nat, r = remF (wrap64 (wrap64 (3 * n) + 5 * (k : Int))) 25 := ⟨_, rfl⟩
      have hr25 : r ≤ 25 := by rw [hr]; exact remF_le _ 25
      have HR : Hid (letN n k = 97 + r) := show _ = _ by unfold letN; rw [hr]
      rw [← hr]
      clear hr
      go_wp2_with fail
      go_roundw
      case rel =>
        have hl := HR.out
        refine ⟨k + 1, M.set k (BitVec.ofNat 8 (97 + r)), by omega, by go_num, by rw [List.length_set]; exact hM, ?_, ?_, HB.out.setCell (Nat.le_refl _) _⟩
        · show _ = _
          rw [letB_next, ← HT.out, hl, List.take_succ_eq_append_getElem (by rw [List.length_set]; omega), List.take_set_of_le (Nat.le_refl _)]
          simp
        · have := HG.out.set k (.int .u8 (97 + r : Int))
          have e : u8s (M.set k (BitVec.ofNat 8 (97 + r))) = (u8s M).set k (.int .u8 (97 + r : Int)) := by
            rw [← u8s_set, Y_ofNat _ (by omega)]; congr 1
          show Blk _ _ _
          rw [e]; exact this
      case measure => simp [intOf]; omega
    · obtain rfl : k = size := by omega
      have hMl : M = letB k n := by have := HT.out; rwa [← hM, List.take_length, hM] at this
      subst hMl
      have HR : Hid ((convert 67 9 (.slice (some ⟨T, 0, none⟩) k k)).run Tryz.prog wr = .ok (.string (ofB (letB k n))) wr) := by
        have := (SrcB.str (w := wr) (v := .slice (some ⟨T, 0, none⟩) (letB k n).length k) (bs := letB k n) (.inr ⟨T, 0, k, rfl, fun j u hu => by rw [Nat.zero_add, HG.out.cell]; exact hu⟩))
        rw [letB_length] at this
        exact this
      have hr := HR.out
      obtain ⟨sb, hsb⟩ : ∃ sb, sb = ofB (letB k n) := ⟨_, rfl⟩
      rw [← hsb] at hr
      have HSB : Hid (sb = ofB (letB k n)) := hsb
      clear hsb HR
      go_wp2_with fail
      go_ret
      subst hN
      exact ⟨by rw [← HSB.out]; rfl, HB.out⟩
/-- A record of the law. -/
def saidB (n m : Int) : List (BitVec 8) := letB (remF m 399) n
theorem saidB_length (n m : Int) : (saidB n m).length ≤ 399 := by unfold saidB; rw [letB_length]; exact remF_le _ _
theorem wpList_toBs {ops : Array Oper} {rest : List Oper} {o : Oper} {a : Act} {w : World} {Q : Exit → Act → World → Prop} (hw : Region.wanted o (yielded ops a.tmps) = true) (x : Operand) (ho : o.op = .convert 9 67 x) (s : ByteArray) (hx : a.eval x = .string s) (hs : s.size ≤ 1000000)
    (hK : ∀ c w', Hid (Bs w' (.slice (some ⟨w.heap.size, 0, none⟩) s.size c) (strB s)) → Hid (Below w.heap.size w w') → Hid (w'.heap.size = w.heap.size + 1) → wpList Tryz.prog ops Q rest (a.put o.dst (.slice (some ⟨w.heap.size, 0, none⟩) s.size c)) w') : wpList Tryz.prog ops Q (o :: rest) a w := by
  refine wpList_step fun K hK' => ?_
  rw [if_pos hw]
  unfold Oper.wp execOp
  simp only [ho, hx, Sem.run_bind, Sem.run_pure, Go.Lib.run_convert_string_bytes w 9 67 5 s Tryz.underlying9 Tryz.underlying67 Tryz.underlying5, Result.andThen_ok]
  refine hK' _ _ (hK _ _ ?_ ?_ ?_)
  · show Bs _ _ _
    refine ⟨some ⟨w.heap.size, 0, none⟩, grownCap w s.size 0 5, by rw [strB_length], by rw [strB_length]; exact grownCap_ge w s.size 0 _, grownCap_le_maxLen w s.size 0 5 (by unfold maxLen; omega), .inr ⟨w.heap.size, 0, rfl, fun j hj => ?_⟩⟩
    have hj' : j < s.size := by rwa [strB_length] at hj
    rw [Nat.zero_add, Go.Lib.bytesWorld_cell w 5 s j hj']
    have hd : j < s.data.toList.length := by simpa using hj'
    unfold strB Y
    rw [List.getD_eq_getElem?_getD, List.getD_eq_getElem?_getD, List.getElem?_map, List.getElem?_eq_getElem hd]
    rfl
  · show Below _ _ _
    exact ⟨rfl, rfl, rfl, by rw [Go.Lib.bytesWorld_size]; omega, fun k hk => Go.Lib.bytesWorld_at_old w _ s k hk⟩
  · show _ = _
    rw [Go.Lib.bytesWorld_size]
end Go.Proofs.YtlapnnkahijikaaGreatDoor
namespace Go.Proofs.YtlapnnkahijikaaGreatDoor
open Go.ChangeShapes Go.WideShapes Go.ChangeAt Go.RowKit Go.Lib

/-- Slices of bytes that can be read, in blocks of which P holds. -/
def RowsP (P : Nat → Prop) (w : World) (v : Value) (rs : List (List (BitVec 8))) : Prop := ∃ xs, SrcX w v xs ∧ All2 w xs rs ∧ (∀ k, v.ownBlock = some k → P k) ∧ ∀ x ∈ xs, ∀ k, x.ownBlock = some k → P k
theorem RowsP.rows {P : Nat → Prop} {w : World} {v : Value} {rs : List (List (BitVec 8))} (h : RowsP P w v rs) : RowsB w v rs := by
  obtain ⟨xs, h1, h2, _⟩ := h
  exact ⟨xs, h1, h2.weak⟩
theorem RowsP.mono {P P' : Nat → Prop} {w : World} {v : Value} {rs : List (List (BitVec 8))} (h : RowsP P w v rs) (hp : ∀ k, P k → P' k) : RowsP P' w v rs := by
  obtain ⟨xs, h1, h2, h3, h4⟩ := h
  exact ⟨xs, h1, h2, fun k hk => hp k (h3 k hk), fun x hx k hk => hp k (h4 x hx k hk)⟩
theorem RowsP.below {P : Nat → Prop} {w w' : World} {v : Value} {rs : List (List (BitVec 8))} (h : RowsP P w v rs) (hb : Below w.heap.size w w') : RowsP P w' v rs := by
  obtain ⟨xs, h1, h2, h3, h4⟩ := h
  exact ⟨xs, h1.below hb, h2.below hb, h3, h4⟩
theorem RowsP.nil (P : Nat → Prop) (w : World) : RowsP P w (.slice none 0 0) [] := ⟨[], .inl ⟨rfl, rfl⟩, All2.nil w, (fun k hk => by cases hk), (fun x hx => by cases hx)⟩
theorem All2.same {w w' : World} {xs : List Value} {rs : List (List (BitVec 8))} (h : All2 w xs rs) (hb : ∀ x ∈ xs, ∀ k, x.ownBlock = some k → w'.heap[k]? = w.heap[k]?) : All2 w' xs rs :=
  ⟨h.1, fun i x hx => (h.2 i x hx).same fun k hk => hb x (List.mem_of_getElem? hx) k hk⟩
theorem OwnX.lit0 (w : World) : OwnX (w.alloc (.cells #[] 67)) w.heap.size (.slice (some ⟨w.heap.size, 0, none⟩) 0 0) [] :=
  ⟨rfl, .inr ⟨w.heap.size, 0, #[], rfl, Nat.le_refl _, heap_alloc_new _ _, Nat.le_refl _, by unfold maxLen; omega, rfl, rfl⟩⟩
theorem OwnX.drew {w : World} {B : Nat} {v : Value} {xs : List Value} (h : OwnX w B v xs) : OwnX w.drew B v xs := h
/-- Records behind a turn. -/
def thenR (rs : List (List (BitVec 8))) (kind n m : Int) : List (List (BitVec 8)) :=
  if kind = 1 then rs ++ [saidB n m] else if kind = 2 then (List.range (remF n 4)).map fun (i : Nat) => saidB i (wrap64 (m + (i : Int))) else rs
def turnV (kind n m : Int) : Value := .agg #[.int .i64 kind, .int .i64 n, .int .i64 m]
theorem range_next (f : Nat → List (BitVec 8)) (k : Nat) : (List.range (k + 1)).map f = (List.range k).map f ++ [f k] := by rw [List.range_succ, List.map_append]; rfl
end Go.Proofs.YtlapnnkahijikaaGreatDoor
namespace Go.Proofs.YtlapnnkahijikaaGreatDoor
open Go.ChangeShapes Go.WideShapes Go.ChangeAt Go.RowKit Go.Lib

theorem RowsP.shape {P : Nat → Prop} {w : World} {v : Value} {rs : List (List (BitVec 8))} (h : RowsP P w v rs) : ∃ a c, v = .slice a rs.length c := h.rows.shape
theorem wp_region_reads {P : Program} {id : Nat} {Q : Exit → Act → World → Prop} {a : Act} {w : World} {l : List Oper} (hm : P.follows .mixedOrders = true) (hB : Region.lexB .any l.toArray = true)
    (h : wpStill P l.toArray w.drew (fun a' => Q .normal a' w.drew) l a) : (Code.region id l.toArray true).wp P Q a w :=
  wp_region_still_lit hm hB h
end Go.Proofs.YtlapnnkahijikaaGreatDoor
namespace Go.Proofs.YtlapnnkahijikaaGreatDoor
open Go.ChangeShapes Go.WideShapes Go.ChangeAt Go.RowKit Go.Lib

/-- What a turn tells, and leaves. -/
def nowE (A : Abs) (dead : Bool) (nm : ByteArray) (kind n m : Int) : Int := if kind = 1 then apE A dead nm (saidB n m) else if kind = 2 then rsE A dead nm (thenR [] 2 n m) else 0
def nowA (A : Abs) (dead : Bool) (nm : ByteArray) (kind n m : Int) : Abs := if kind = 1 then apA A dead nm (saidB n m) else if kind = 2 then rsA A dead nm (thenR [] 2 n m) else A
def nowZ (A : Abs) (size : Nat) (dead : Bool) (nm : ByteArray) (kind n m : Int) : Nat := if kind = 1 then apZ A size dead nm (saidB n m) else if kind = 2 then rsZ A size dead nm (thenR [] 2 n m) else size
def nowD (A : Abs) (dead : Bool) (nm : ByteArray) (kind n m : Int) : Bool := if kind = 1 then apD A dead nm (saidB n m) else if kind = 2 then rsD A dead nm (thenR [] 2 n m) else dead
theorem then2_small (n m : Int) : (thenR [] 2 n m).length ≤ 4 ∧ (frs (thenR [] 2 n m)).length ≤ 2000 ∧ ∀ r ∈ thenR [] 2 n m, r.length ≤ 399 := by
  have hq := remF_le n 4
  have e : thenR [] 2 n m = (List.range (remF n 4)).map fun (i : Nat) => saidB i (wrap64 (m + (i : Int))) := rfl
  rw [e]
  have key : ∀ k, (frs ((List.range k).map fun (i : Nat) => saidB i (wrap64 (m + (i : Int))))).length ≤ 440 * k := fun k => by
    induction k with
    | zero => simp [frs]
    | succ k ih =>
      rw [range_next, frs_append, List.length_append, frs_one]
      have h1 := frB_le (saidB (k : Int) (wrap64 (m + (k : Int))))
      have h2 := saidB_length (k : Int) (wrap64 (m + (k : Int)))
      omega
  refine ⟨by simp; exact hq, by have := key (remF n 4); omega, fun r hr => ?_⟩
  obtain ⟨i, _, rfl⟩ := List.mem_map.1 hr
  exact saidB_length _ _
end Go.Proofs.YtlapnnkahijikaaGreatDoor
