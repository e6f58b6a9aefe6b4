/- block.headFits, block.together. -/
import Derived.Test.YtlaifphedhaemaaGreatDoorCBkF
namespace Go.Proofs.YtlaifphedhaemaaGreatDoor
open Go.ChangeShapes Go.WideShapes Go.ChangeAt Go.RowKit

/-- A header. -/
structure Hd where
  prev : H32
  root : H32
  work : Int
  nonce : Int
def Hd.cs (h : Hd) : List Value := h.prev.cs ++ (h.root.cs ++ [.int .i64 h.work, .int .i64 h.nonce])
theorem Hd.cs_length (h : Hd) : h.cs.length = 66 := by simp [Hd.cs, H32.cs_length]
theorem Hd.cs_mem (h : Hd) : ∀ v ∈ h.cs, v.oneCell' = true := fun v hv => by
  rcases List.mem_append.1 hv with h | h
  · exact H32.cs_mem _ v h
  · rcases List.mem_append.1 h with h | h
    · exact H32.cs_mem _ v h
    · simp only [List.mem_cons, List.not_mem_nil, or_false] at h
      rcases h with rfl | rfl <;> rfl
theorem Hd.cs_all (h : Hd) : h.cs.toArray.all (·.oneCell') = true := all_oneCell_toArray h.cs_mem
theorem Hd.work_at (h : Hd) : h.cs[64]? = some (.int .i64 h.work) := by
  unfold Hd.cs; rw [List.getElem?_append_right (by rw [H32.cs_length]; omega), H32.cs_length, List.getElem?_append_right (by rw [H32.cs_length]; omega), H32.cs_length]; rfl
theorem Hd.nonce_at (h : Hd) : h.cs[65]? = some (.int .i64 h.nonce) := by
  unfold Hd.cs; rw [List.getElem?_append_right (by rw [H32.cs_length]; omega), H32.cs_length, List.getElem?_append_right (by rw [H32.cs_length]; omega), H32.cs_length]; rfl
theorem sizeHd (h : Hd) : (Tryz.prog.info? 25).map (·.size) = some h.cs.length := by rw [h.cs_length]; kernel_rfl
theorem sizeHda (h : Hd) : (Tryz.prog.info? 25).map (·.size) = some h.cs.toArray.size := by rw [List.size_toArray, h.cs_length]; kernel_rfl
theorem undHd : ∃ d, Hid (Tryz.prog.underlying 25 = some d) ∧ Hid (d.isRow = true) := ⟨_, Tryz.underlying25, rfl⟩
def headOK (h : Hd) : Bool := decide (1 ≤ h.work) && decide (h.work ≤ 1099511627776) && decide (0 ≤ h.nonce) && decide (h.nonce ≤ 1099511627776)
set_option maxRecDepth 100000 in
set_option maxHeartbeats 4000000 in
theorem headFits_any (h : Hd) (w : World) :
    Calls Tryz.prog 75 #[.agg h.cs.toArray] w fun e w' => e = .returned (.bool (headOK h)) ∧ Below w.heap.size w w' := by
  have HW : Hid (h.cs[64]? = some (.int .i64 h.work)) := h.work_at
  have HNo : Hid (h.cs[65]? = some (.int .i64 h.nonce)) := h.nonce_at
  have HOK : Hid (headOK h = (decide (1 ≤ h.work) && decide (h.work ≤ 1099511627776) && decide (0 ≤ h.nonce) && decide (h.nonce ≤ 1099511627776))) := show _ = _ from rfl
  obtain ⟨Z, hZ⟩ : ∃ Z, Z = h.cs := ⟨_, rfl⟩
  rw [← hZ] at HW HNo ⊢
  clear hZ
  generalize h.work = u at *
  generalize h.nonce = v at *
  generalize headOK h = q at *
  go_enter Tryz.func75, Tryz.ntmps75
  go_upto_region 1 with fail
  generalize hw1 : World.alloc w _ = w1
  have HB0 : Hid (Blk w1 w.heap.size Z) := by rw [← hw1]; exact Blk.mk _ _ _ rfl rfl
  have HB : Hid (Below w.heap.size w w1) := by rw [← hw1]; exact (Below.refl _ _).alloc (Nat.le_refl _) _
  have c4 : w1.cell? ⟨w.heap.size, 64, none⟩ = some (.int .i64 u) := HB0.out.one HW.out
  have c5 : w1.cell? ⟨w.heap.size, 65, none⟩ = some (.int .i64 v) := HB0.out.one HNo.out
  clear hw1 HB0
  by_cases h1 : 1 ≤ u
  · by_cases h2 : u ≤ 1099511627776
    · by_cases h3 : 0 ≤ v
      · by_cases h4 : v ≤ 1099511627776
        · have HQ : Hid (q = true) := show _ = _ by rw [HOK.out]; simp [h1, h2, h3, h4]
          go_wp2_with fail
          go_ret
          exact ⟨ret_bool HQ.out.symm, HB.out⟩
        · have HQ : Hid (q = false) := show _ = _ by rw [HOK.out]; simp [h4]
          go_wp2_with fail
          go_ret
          exact ⟨ret_bool HQ.out.symm, HB.out⟩
      · have HQ : Hid (q = false) := show _ = _ by rw [HOK.out]; simp [h3]
        go_wp2_with fail
        go_ret
        exact ⟨ret_bool HQ.out.symm, HB.out⟩
    · have HQ : Hid (q = false) := show _ = _ by rw [HOK.out]; simp [h2]
      go_wp2_with fail
      go_ret
      exact ⟨ret_bool HQ.out.symm, HB.out⟩
  · have HQ : Hid (q = false) := show _ = _ by rw [HOK.out]; simp [h1]
    go_wp2_with fail
    go_ret
    exact ⟨ret_bool HQ.out.symm, HB.out⟩

section
variable {α : Type} {P : Program} {mt k et : TypeId} {val : α → Value} {w : World} {r : Nat}
theorem wpList_lenMap {ops : Array Oper} {rest : List Oper} {o : Oper} {a : Act} {Q : Exit → Act → World → Prop} (hg : o.guard = none) (m : Operand) (hop : o.op = .call { callee := .builtin .len, args := #[m], argTypes := #[mt] })
    (ht : P.underlying mt = some (.map k et)) (l : List (α × Int)) (h : MapAt val w r l) (hm : a.eval m = .map (some r))
    (hK : wpList P ops Q rest (a.put o.dst (.int .i64 (l.length : Int))) w) : wpList P ops Q (o :: rest) a w := by
  refine wpList_plain hg fun K' hK' => ?_
  unfold MapAt at h
  unfold Oper.wp
  simp [execOp, hop, hm, resolve, invoke, builtin, Builtin.len_, MapKept.run_getObj_map h, run_underlying ht, Result.andThen, ents_size]
  exact hK' _ _ hK
end
def togB (ts : List TxD) (row : List H32) : Bool := decide ((placesM row row.length).length = row.length) && !conL ts && !ahL ts (placesM row row.length)
set_option maxRecDepth 100000 in
set_option maxHeartbeats 4000000 in
theorem together_any (a : Option Addr) (n cap : Nat) (l : List TxR) (b : Option Addr) (m c2 : Nat) (row : List H32) (w : World) (hp : TxL w a n cap l) (hq : Els w b m c2 row) (hn : n ≤ 100000) (hm : m ≤ 100000) (hi : ∀ r ∈ l, r.v.n ≤ 100000) :
    Calls Tryz.prog 76 #[.slice a n cap, .slice b m c2] w fun e w' => e = .returned (.bool (togB (l.map TxR.t) row)) ∧ Below w.heap.size w w' := by
  have HP : Hid (TxL w a n cap l) := hp
  have HI : Hid (∀ r ∈ l, r.v.n ≤ 100000) := hi
  have HR : Hid (Els w b m c2 row) := hq
  have HT : Hid (togB (l.map TxR.t) row = (decide ((placesM row m).length = m) && !conL (l.map TxR.t) && !ahL (l.map TxR.t) (placesM row m))) := show _ = _ by unfold togB; rw [hq.len]
  clear hp hq hi
  generalize togB (l.map TxR.t) row = q at *
  go_enter Tryz.func76, Tryz.ntmps76
  go_wp2_with fail
  refine (places_any b m c2 row w HR.out hm).mono ?_
  rintro e w1 ⟨r, rfl, hm1, hr1, hb1⟩
  obtain ⟨M, hM⟩ : ∃ M, M = placesM row m := ⟨_, rfl⟩
  rw [← hM] at hm1 HT
  have HM1 : Hid (MapAt H32.val w1 r M) := hm1
  have HB1 : Hid (Below w.heap.size w w1) := hb1
  have HP1 : Hid (TxL w1 a n cap l) := HP.out.below hb1
  obtain ⟨L, hL⟩ : ∃ L, L = M.length := ⟨_, rfl⟩
  rw [← hL] at HT
  have HL : Hid (L = M.length) := hL
  have hLm : L ≤ m := by rw [hL, hM]; exact placesM_le _ _
  clear hm1 hb1 hM hL
  by_cases h1 : L = m
  · subst h1
    by_cases h2 : conL (l.map TxR.t) = true
    · have HQ : Hid (q = false) := show _ = _ by rw [HT.out, h2]; simp
      have HCON : Hid (Calls Tryz.prog 104 #[.slice a n cap] w1 fun e w' => e = .returned (.bool true) ∧ Below w1.heap.size w1 w') := h2 ▸ bconflict_any a n cap l w1 HP1.out hn HI.out
      clear h2
      go_wp2_with (refine wpList_lenMap rfl _ rfl Tryz.underlying147 M HM1.out rfl ?_; rw [← HL.out])
      refine Calls.mono HCON.out ?_
      rintro e w2 ⟨rfl, hb2⟩
      have HB2 : Hid (Below w.heap.size w w2) := HB1.out.trans (hb2.mono HB1.out.size)
      clear hb2
      go_wp2_with fail
      go_ret
      exact ⟨ret_bool HQ.out.symm, HB2.out⟩
    · have h2' : conL (l.map TxR.t) = false := by simpa using h2
      have HCON : Hid (Calls Tryz.prog 104 #[.slice a n cap] w1 fun e w' => e = .returned (.bool false) ∧ Below w1.heap.size w1 w') := h2' ▸ bconflict_any a n cap l w1 HP1.out hn HI.out
      have HQ : Hid (q = !ahL (l.map TxR.t) M) := show _ = _ by rw [HT.out, h2']; simp
      clear h2 h2'
      go_wp2_with (refine wpList_lenMap rfl _ rfl Tryz.underlying147 M HM1.out rfl ?_; rw [← HL.out])
      refine Calls.mono HCON.out ?_
      rintro e w2 ⟨rfl, hb2⟩
      have HB2 : Hid (Below w.heap.size w w2) := HB1.out.trans (hb2.mono HB1.out.size)
      have HAH : Hid (Calls Tryz.prog 105 #[.slice a n cap, .map (some r)] w2 fun e w' => e = .returned (.bool (ahL (l.map TxR.t) M)) ∧ Below w2.heap.size w2 w') := ahead_any a n cap l r M w2 (HP1.out.below hb2) (HM1.out.below hb2 HM1.out.lt) hn HI.out
      clear hb2
      generalize ahL (l.map TxR.t) M = g at *
      go_wp2_with fail
      refine Calls.mono HAH.out ?_
      rintro e w3 ⟨rfl, hb3⟩
      have HB3 : Hid (Below w.heap.size w w3) := HB2.out.trans (hb3.mono HB2.out.size)
      clear hb3
      go_wp2_with fail
      go_ret
      exact ⟨ret_bool HQ.out.symm, HB3.out⟩
  · have HQ : Hid (q = false) := show _ = _ by rw [HT.out, decide_eq_false h1]; simp
    have h1' : ¬ ((L : Int) = (m : Int)) := by omega
    go_wp2_with (refine wpList_lenMap rfl _ rfl Tryz.underlying147 M HM1.out rfl ?_; rw [← HL.out])
    go_ret
    exact ⟨ret_bool HQ.out.symm, HB1.out⟩
end Go.Proofs.YtlaifphedhaemaaGreatDoor
