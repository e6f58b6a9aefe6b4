/- wire.Reader: Text, Hash. -/
import Derived.Test.YtlaifphedhaemaaGreatDoorCD2
namespace Go.Proofs.YtlaifphedhaemaaGreatDoor
open Go.ChangeShapes Go.WideShapes Go.ChangeAt Go.RowKit

/-- A text of bytes. -/
def ofB (bs : List (BitVec 8)) : ByteArray := strOfNums (bs.map Y)
theorem ofB_size (bs : List (BitVec 8)) : (ofB bs).size = bs.length := by unfold ofB; rw [strOfNums_size, List.length_map]
theorem strB_ofB (bs : List (BitVec 8)) : strB (ofB bs) = bs := by
  unfold strB ofB
  rw [strOfNums_data, List.map_map, List.map_map]
  conv => rhs; rw [← List.map_id bs]
  refine List.map_congr_left fun x _ => ?_
  have hx := x.isLt
  show (UInt8.ofNat (Y x).toNat).toBitVec = x
  unfold Y
  apply BitVec.eq_of_toNat_eq
  simp
theorem strB_inj {a b : ByteArray} (h : strB a = strB b) : a = b := by
  obtain ⟨⟨a⟩⟩ := a
  obtain ⟨⟨b⟩⟩ := b
  have : a = b := by
    unfold strB at h
    exact (List.map_inj_right fun x y e => UInt8.eq_of_toBitVec_eq e).1 h
  rw [this]
theorem ofB_strB (s : ByteArray) : ofB (strB s) = s := strB_inj (strB_ofB _)
theorem Bytes.str {w : World} {a : Option Addr} {cap : Nat} {bs : List (BitVec 8)} (h : Bytes w a cap bs) : (convert 29 9 (.slice a bs.length cap)).run Tryz.prog w = .ok (.string (ofB bs)) w := by
  by_cases hne : bs = []
  · subst hne
    cases a with
    | none => exact run_convert_bytes_nil w 29 5 Tryz.underlying29 Tryz.underlying5 0 cap 9 Tryz.underlying9
    | some x =>
      rw [run_convert_bytes_string w _ _ _ _ _ _ Tryz.underlying29 Tryz.underlying5 Tryz.underlying9]
      exact run_bytesToString w x 0 cap [] (run_loadCells_list (P := Tryz.prog) w x [] fun j v hv => by simp at hv)
  · obtain ⟨b, off, rfl, hc⟩ := h.lie hne
    exact run_convert_bytes_arg w 29 5 Tryz.underlying29 Tryz.underlying5 b off bs.length cap (bs.map Y) (by rw [List.length_map]) (fun i hi => by
      rw [hc i hi]
      congr 2
      rw [List.getD_eq_getElem?_getD, List.getD_eq_getElem?_getD, List.getElem?_map, List.getElem?_eq_getElem hi]; rfl) 9 Tryz.underlying9

theorem ret_str {a b : ByteArray} (h : a = b) : Ending.returned (.string a) = .returned (.string b) := by rw [h]
/-- The next text, and what is left behind it. -/
def rX (s : RS) : ByteArray × RS := (ofB (rT (rN s).2 (rN s).1).1, (rT (rN s).2 (rN s).1).2)
set_option maxRecDepth 100000 in
set_option maxHeartbeats 2000000 in
theorem rtext_any (R N : Nat) (s : RS) (w : World) (h : Rd w R N s) :
    Calls Tryz.prog 40 #[.pointer (some ⟨R, 0, none⟩)] w fun e w' => e = .returned (.string (rX s).1) ∧ Rd w' R N (rX s).2 ∧ Keep R w w' := by
  have H : Hid (Rd w R N s) := h
  have HNUM : Hid (∀ w, Rd w R N s → Calls Tryz.prog 68 #[.pointer (some ⟨R, 0, none⟩)] w fun e w' => e = .returned (.int .i64 (rN s).1) ∧ Rd w' R N (rN s).2 ∧ Keep R w w') := fun w h => rnum_any R N s w h
  clear h
  have HX : Hid (rX s = (ofB (rT (rN s).2 (rN s).1).1, (rT (rN s).2 (rN s).1).2)) := rfl
  obtain ⟨n0, n1⟩ := rN_range s
  generalize (rN s).2 = s1 at *
  generalize (rN s).1 = n at *
  have HTAKE : Hid (∀ w, Rd w R N s1 → Calls Tryz.prog 71 #[.pointer (some ⟨R, 0, none⟩), .int .i64 n] w fun e w' => ∃ a cap, e = .returned (.slice a (rT s1 n).1.length cap) ∧ Bytes w' a cap (rT s1 n).1 ∧ (∀ x : Addr, a = some x → x.block ≠ R ∧ x.block < N) ∧ Rd w' R N (rT s1 n).2 ∧ Keep R w w') := fun w h => take_any R N s1 n w h n0 n1
  rw [HX.out]
  clear HX n0 n1
  generalize (rT s1 n).2 = s2 at *
  generalize (rT s1 n).1 = bs at *
  go_enter Tryz.func40, Tryz.ntmps40
  go_wp2_with fail
  refine Calls.mono (HNUM.out w H.out) ?_
  rintro e w1 ⟨rfl, hR1, hK1⟩
  have HR1 : Hid (Rd w1 R N s1) := hR1
  clear hR1
  go_wp2_with fail
  refine Calls.mono (HTAKE.out w1 HR1.out) ?_
  rintro e w2 ⟨a, cap, rfl, hby, _, hR2, hK2⟩
  have c1 := hby.str
  obtain ⟨sb, hsb⟩ : ∃ x, ofB bs = x := ⟨_, rfl⟩
  rw [hsb] at c1
  have HSB : Hid (ofB bs = sb) := hsb
  clear hsb
  generalize bs.length = ln at *
  go_wp2_with fail
  go_ret
  exact ⟨ret_str HSB.out.symm, hR2, hK1.trans hK2⟩

/-- copy of some bytes, or of none, as one step of a region that draws its order. -/
theorem step_copy_none {P : Program} {ops : Array Oper} {o : Oper} {a : Act} {w : World} {K : Act → World → Prop} {Q : Exit → Act → World → Prop} {E : Prop} (hgd : o.guard = none) (d s : Operand) (dT sT : TypeId)
    (ho : o.op = .call { callee := .builtin .copy, args := #[d, s], argTypes := #[dT, sT] }) (elem : TypeId) (hu : P.underlying dT = some (.slice elem)) (hsz : ∀ w, (sizeOf elem).run P w = .ok 1 w)
    (g dLen dCap : Nat) (ad : Option Addr) (sCap : Nat) (hd : a.eval d = .slice (some ⟨g, 0, none⟩) dLen dCap) (hs : a.eval s = .slice ad 0 sCap)
    (h : K (a.put o.dst (goInt 0)) w) :
    if Region.wanted o (yielded ops a.tmps) = true then Oper.wp P o a w K Q else E := by
  have hw : Region.wanted o (yielded ops a.tmps) = true := by simp [Region.wanted, hgd]
  rw [if_pos hw]
  have hl : ∀ (x : Addr), (loadCells x 0).run P w = .ok #[] w := fun x => by simpa using run_loadCells_list (P := P) w x [] (by simp)
  have hst : ∀ (x : Addr), (storeCells x []).run P w = .ok () w := fun x => by simp [storeCells]
  have hrun : (Builtin.copy_ #[dT, sT] o.type #[.slice (some ⟨g, 0, none⟩) dLen dCap, .slice ad 0 sCap]).run P w = .ok (goInt 0) w := by
    cases ad <;> simp [Builtin.copy_, run_underlying hu, Builtin.lenOf, Builtin.firstCells, hsz, hl, hst]
  unfold Oper.wp
  simp [execOp, ho, resolve, invoke, builtin, hd, hs, hrun, Result.andThen]
  exact h
theorem splice_whole (cur cs : List Value) (h : cs.length = cur.length) : splice cur 0 cs = cs := by
  unfold splice
  rw [List.take_zero, List.nil_append, Nat.zero_add, h, List.drop_length, List.append_nil]
theorem size_u8 : ∀ w, (sizeOf 5).run Tryz.prog w = .ok 1 w := Tryz.sizeOf5
/-- The next hash, and what is left behind it. -/
def rH (s : RS) : List (BitVec 8) × RS := (if 32 ≤ s.1.length then s.1.take 32 else zeros32, (rT s 32).2)
theorem rH_length (s : RS) : (rH s).1.length = 32 := by
  unfold rH
  split
  · rw [List.length_take]; omega
  · rfl
theorem rT_some (s : RS) (h : 32 ≤ s.1.length) : (rT s 32).1 = (rH s).1 := by
  unfold rT rH; rw [if_pos (by omega), if_pos h]; rfl
theorem rT_none (s : RS) (h : ¬ 32 ≤ s.1.length) : (rT s 32).1 = [] ∧ (rH s).1 = zeros32 := by
  unfold rT rH; rw [if_neg (by omega), if_neg h]; exact ⟨rfl, rfl⟩
set_option maxRecDepth 100000 in
set_option maxHeartbeats 2000000 in
theorem rhash_any (R N : Nat) (s : RS) (w : World) (h : Rd w R N s) :
    Calls Tryz.prog 67 #[.pointer (some ⟨R, 0, none⟩)] w fun e w' => e = .returned (.agg (u8s (rH s).1).toArray) ∧ Rd w' R N (rH s).2 ∧ Keep R w w' := by
  have hmo : Tryz.prog.follows .mixedOrders = true := by kernel_rfl
  have HMO : Hid (_ = true) := hmo
  have HUH : Hid (_ = _) := Tryz.underlying23
  have hRT := h.lt
  have hbs := h.base
  have H : Hid (Rd w R N s) := h
  have HTAKE : Hid (∀ w, Rd w R N s → Calls Tryz.prog 71 #[.pointer (some ⟨R, 0, none⟩), .int .i64 32] w fun e w' => ∃ a cap, e = .returned (.slice a (rT s 32).1.length cap) ∧ Bytes w' a cap (rT s 32).1 ∧ (∀ x : Addr, a = some x → x.block ≠ R ∧ x.block < N) ∧ Rd w' R N (rT s 32).2 ∧ Keep R w w') := fun w h => take_any R N s 32 w h (by omega) (by omega)
  clear h hmo
  go_enter Tryz.func67, Tryz.ntmps67
  go_upto_region 2 with fail
  generalize hwv : World.alloc (World.alloc w _) _ = w1
  have HB0 : Hid (Blk w1 w.heap.size (u8s zeros32)) := by rw [← hwv]; exact (Blk.mk _ _ _ rfl rfl).alloc _
  have HB1 : Hid (Blk w1 (w.heap.size + 1) (u8s zeros32)) := by rw [← hwv]; exact Blk.mk _ _ _ (by simp) rfl
  have HBL : Hid (Below w.heap.size w w1) := by rw [← hwv]; exact ((Below.refl _ _).alloc (Nat.le_refl _) _).alloc (by simp) _
  clear hwv
  have HR1 : Hid (Rd w1.drew R N s) := (H.out.below HBL.out).below (Below.refl _ _).drew
  have hT1 := HB1.out.lt
  generalize hN : w.heap.size = T at *
  by_cases h32 : 32 ≤ s.1.length
  · obtain ⟨h, hh⟩ : ∃ x, (rH s).1 = x := ⟨_, rfl⟩
    have HE : Hid ((rH s).1 = h) := hh
    have HH : Hid (h.length = 32) := show _ = _ by rw [← hh]; exact rH_length s
    have HT2 : Hid (∀ w, Rd w R N s → Calls Tryz.prog 71 #[.pointer (some ⟨R, 0, none⟩), .int .i64 32] w fun e w' => ∃ b o cap, e = .returned (.slice (some ⟨b, o, none⟩) 32 cap) ∧ (∀ j v, (u8s h)[j]? = some v → w'.cell? ((⟨b, o, none⟩ : Addr).add j) = some v) ∧ Rd w' R N (rT s 32).2 ∧ Keep R w w') := fun w hr => (HTAKE.out w hr).mono fun e w' hp => by
      obtain ⟨a, cap, rfl, hby, _, h2, h3⟩ := hp
      rw [rT_some s h32, hh] at hby ⊢
      obtain ⟨b, o, rfl, hc⟩ := hby.lie (by intro e; have := HH.out; rw [e] at this; simp at this)
      refine ⟨b, o, cap, by rw [HH.out], fun j v hv => ?_, h2, h3⟩
      have hj : j < h.length := by
        rcases Nat.lt_or_ge j h.length with hl | hl
        · exact hl
        · rw [List.getElem?_eq_none (by rw [u8s_length]; exact hl)] at hv; cases hv
      rw [Addr.add_mid, hc j hj, ← hv, u8s_get h j hj]
    clear hh h32 HTAKE
    refine wp_region_noPanic ?_
    refine wp_region_held_drew (S := fun _ => True) HMO.out (trivial) (fun hHeld => ?_)
    refine wpAnyH_take (i := 0) (oi := { dst := some 4, op := .slice 23 (.tmp 3) none none none, type := 29, pos := "wire.go:100", after := #[], guard := none }) (v := ?_) rfl (by kernel_rfl) (by kernel_rfl) (by kernel_rfl) (fun _ _ _ h => h) (Or.inl ⟨by rfl, ?_⟩) (by assumption) ?_
    rotate_left
    · intro _ _; go_simp; first | done | with_reducible rfl
    simp only [Act.put, List.setIfInBounds_toArray, List.set_cons_zero, List.set_cons_succ]
    refine wpAnyH_take (i := 1) (oi := { dst := some 5, op := .move (.tmp 0), type := 82, pos := "wire.go:100", after := #[], guard := none }) (v := ?_) rfl (by kernel_rfl) (by kernel_rfl) (by kernel_rfl) (fun _ _ _ h => h) (Or.inl ⟨by rfl, ?_⟩) (by assumption) ?_
    rotate_left
    · intro _ _; go_simp; first | done | with_reducible rfl
    simp only [Act.put, List.setIfInBounds_toArray, List.set_cons_zero, List.set_cons_succ]
    refine wpAnyH_ready (rs := [2]) (by kernel_rfl) (by simp) ?_
    refine AllReadyH.cons (o := { dst := some 6, op := .call { callee := .value (.func 71), args := #[.tmp 5, .const (.int .i64 32)], argTypes := #[82, 3] }, type := 29, pos := "wire.go:100", after := #[{ on := 1, ground := .data }], guard := none }) rfl (fun K hK => ?_) AllReadyH.nil
    go_simp
    refine Calls.mono (HT2.out _ HR1.out) ?_; rintro e w2 ⟨b, o, cap, rfl, hsrc, hR2, hK2⟩; have HB12 : Hid (Blk w2 (T + 1) (u8s zeros32)) := HB1.out.drew.keep hK2 (by omega); have HSRC : Hid (∀ j v, (u8s h)[j]? = some v → w2.cell? ((⟨b, o, none⟩ : Addr).add j) = some v) := hsrc; have HR2 : Hid (Rd w2 R N _) := hR2; have HK2 : Hid (Keep R w1.drew w2) := hK2; clear hsrc hR2 hK2; obtain ⟨t1, hg1⟩ := HB12.out; have HG1 : Hid (w2.heap[T + 1]? = _) := hg1; clear hg1
    go_simp
    refine hK.out _ _ (trivial) (fun hHeld => ?_)
    clear hK K
    refine wpAnyH_ready (rs := [3]) (by kernel_rfl) (by simp) ?_
    refine AllReadyH.cons (o := { dst := some 7, op := .call { callee := .builtin Go.Builtin.copy, args := #[.tmp 4, .tmp 6], argTypes := #[29, 29] }, type := 3, pos := "wire.go:100", after := #[{ on := 0, ground := .data }, { on := 2, ground := .data }, { on := 2, ground := .chain }], guard := none }) rfl (fun K hK => ?_) AllReadyH.nil
    refine step_copy_pos rfl (.tmp 4) (.tmp 6) 29 29 rfl 5 Tryz.underlying29 (by kernel_rfl) (T + 1) 0 32 32 ⟨b, o, none⟩ 32 cap rfl rfl (u8s zeros32) t1 HG1.out (u8s h) (by rw [u8s_length, HH.out]; rfl) HSRC.out (by rw [u8s_length, HH.out]; simp [zeros32]) (u8s_mem h) ?_
    simp only [Act.put, List.setIfInBounds_toArray, List.set_cons_zero, List.set_cons_succ]
    refine hK.out _ _ (trivial) (fun hHeld => ?_)
    clear hK K
    refine wpAnyH_done (by kernel_rfl) ?_ _
    refine NoPanic.normal ?_
    rw [splice_whole (u8s zeros32) (u8s h) (by rw [u8s_length, u8s_length, HH.out]; rfl)] at *
    generalize hw3 : World.setRow w2 _ _ = w3
    have HR4 : Hid (Rd w3 R N (rT s 32).2) := by rw [← hw3]; exact HR2.out.kept (by simp [World.setRow]) (heap_setRow w2 (T + 1) R _ (by omega)) fun b hb _ => heap_setRow w2 (T + 1) b _ (by omega)
    have HK4 : Hid (Keep R w w3) := by rw [← hw3]; exact ((Keep.of_below (hN ▸ HBL.out.drew)).trans HK2.out).other ((Keep.refl _ _).setRow _) (by omega)
    have HB04 : Hid (Blk w3 T (u8s zeros32)) := by rw [← hw3]; exact (HB0.out.drew.keep HK2.out (by omega)).otherRow (by omega) _
    have HB14 : Hid (Blk w3 (T + 1) (u8s h)) := by rw [← hw3]; exact HB12.out.row
    clear hw3 HB12 HR2 HK2 HSRC HG1
    obtain ⟨t4, hg4⟩ := HB04.out
    have HG4 : Hid (w3.heap[T]? = _) := hg4
    clear hg4 hHeld
    go_wp2_with (first
      | (refine wpList_load_mid rfl 23 _ rfl (T + 1) 0 rfl (u8s h) _ HB14.out.whole HUH.out rfl (size_hashL h HH.out) ?_)
      | (refine wpList_store_row rfl 23 _ _ rfl T (u8s h).toArray rfl rfl t4 _ HG4.out (size_h h HH.out) (zh_size h HH.out) (u8s_one _) ?_))
    refine bodyPost_ret (v := .agg (u8s h).toArray) ?_ rfl ⟨by rw [HE.out], ?_, ?_⟩
    · obtain ⟨tt, hb⟩ := Blk.row (ds := u8s h) ⟨t4, HG4.out⟩
      exact results_cell_row Tryz.results67 _ _ T tt _ _ _ rfl hb Tryz.underlying23 rfl (size_h h HH.out)
    · exact HR4.out.kept (by simp [World.setRow]) (heap_setRow w3 T R _ (by omega)) fun b hb _ => heap_setRow w3 T b _ (by omega)
    · exact HK4.out.other ((Keep.refl _ _).setRow _) (by omega)
  · obtain ⟨h, hh⟩ : ∃ x, x = zeros32 := ⟨_, rfl⟩
    have HE : Hid ((rH s).1 = h) := show _ = _ by rw [hh]; exact (rT_none s h32).2
    have HH : Hid (h.length = 32) := show _ = _ by rw [hh]; rfl
    have HHZ : Hid (h = zeros32) := hh
    have HT2 : Hid (∀ w, Rd w R N s → Calls Tryz.prog 71 #[.pointer (some ⟨R, 0, none⟩), .int .i64 32] w fun e w' => ∃ a cap, e = .returned (.slice a 0 cap) ∧ Rd w' R N (rT s 32).2 ∧ Keep R w w') := fun w hr => (HTAKE.out w hr).mono fun e w' hp => by
      obtain ⟨a, cap, rfl, _, _, h2, h3⟩ := hp
      rw [(rT_none s h32).1]
      exact ⟨a, cap, rfl, h2, h3⟩
    clear hh h32 HTAKE
    refine wp_region_noPanic ?_
    refine wp_region_held_drew (S := fun _ => True) HMO.out (trivial) (fun hHeld => ?_)
    refine wpAnyH_take (i := 0) (oi := { dst := some 4, op := .slice 23 (.tmp 3) none none none, type := 29, pos := "wire.go:100", after := #[], guard := none }) (v := ?_) rfl (by kernel_rfl) (by kernel_rfl) (by kernel_rfl) (fun _ _ _ h => h) (Or.inl ⟨by rfl, ?_⟩) (by assumption) ?_
    rotate_left
    · intro _ _; go_simp; first | done | with_reducible rfl
    simp only [Act.put, List.setIfInBounds_toArray, List.set_cons_zero, List.set_cons_succ]
    refine wpAnyH_take (i := 1) (oi := { dst := some 5, op := .move (.tmp 0), type := 82, pos := "wire.go:100", after := #[], guard := none }) (v := ?_) rfl (by kernel_rfl) (by kernel_rfl) (by kernel_rfl) (fun _ _ _ h => h) (Or.inl ⟨by rfl, ?_⟩) (by assumption) ?_
    rotate_left
    · intro _ _; go_simp; first | done | with_reducible rfl
    simp only [Act.put, List.setIfInBounds_toArray, List.set_cons_zero, List.set_cons_succ]
    refine wpAnyH_ready (rs := [2]) (by kernel_rfl) (by simp) ?_
    refine AllReadyH.cons (o := { dst := some 6, op := .call { callee := .value (.func 71), args := #[.tmp 5, .const (.int .i64 32)], argTypes := #[82, 3] }, type := 29, pos := "wire.go:100", after := #[{ on := 1, ground := .data }], guard := none }) rfl (fun K hK => ?_) AllReadyH.nil
    go_simp
    refine Calls.mono (HT2.out _ HR1.out) ?_; rintro e w3 ⟨a, cap, rfl, hR2, hK2⟩; have HR2 : Hid (Rd w3 R N _) := hR2; have HK2 : Hid (Keep R w1.drew w3) := hK2; clear hR2 hK2
    go_simp
    refine hK.out _ _ (trivial) (fun hHeld => ?_)
    clear hK K
    refine wpAnyH_ready (rs := [3]) (by kernel_rfl) (by simp) ?_
    refine AllReadyH.cons (o := { dst := some 7, op := .call { callee := .builtin Go.Builtin.copy, args := #[.tmp 4, .tmp 6], argTypes := #[29, 29] }, type := 3, pos := "wire.go:100", after := #[{ on := 0, ground := .data }, { on := 2, ground := .data }, { on := 2, ground := .chain }], guard := none }) rfl (fun K hK => ?_) AllReadyH.nil
    refine step_copy_none rfl (.tmp 4) (.tmp 6) 29 29 rfl 5 Tryz.underlying29 size_u8 (T + 1) 32 32 a cap rfl rfl ?_
    simp only [Act.put, List.setIfInBounds_toArray, List.set_cons_zero, List.set_cons_succ]
    refine hK.out _ _ (trivial) (fun hHeld => ?_)
    clear hK K
    refine wpAnyH_done (by kernel_rfl) ?_ _
    refine NoPanic.normal ?_
    have HR4 : Hid (Rd w3 R N (rT s 32).2) := HR2.out
    have HK4 : Hid (Keep R w w3) := (Keep.of_below (hN ▸ HBL.out.drew)).trans HK2.out
    have HB04 : Hid (Blk w3 T (u8s zeros32)) := HB0.out.drew.keep HK2.out (by omega)
    have HB14 : Hid (Blk w3 (T + 1) (u8s h)) := show Blk _ _ _ by rw [HHZ.out]; exact HB1.out.drew.keep HK2.out (by omega)
    clear HR2 HK2
    obtain ⟨t4, hg4⟩ := HB04.out
    have HG4 : Hid (w3.heap[T]? = _) := hg4
    clear hg4 hHeld
    go_wp2_with (first
      | (refine wpList_load_mid rfl 23 _ rfl (T + 1) 0 rfl (u8s h) _ HB14.out.whole HUH.out rfl (size_hashL h HH.out) ?_)
      | (refine wpList_store_row rfl 23 _ _ rfl T (u8s h).toArray rfl rfl t4 _ HG4.out (size_h h HH.out) (zh_size h HH.out) (u8s_one _) ?_))
    refine bodyPost_ret (v := .agg (u8s h).toArray) ?_ rfl ⟨by rw [HE.out], ?_, ?_⟩
    · obtain ⟨tt, hb⟩ := Blk.row (ds := u8s h) ⟨t4, HG4.out⟩
      exact results_cell_row Tryz.results67 _ _ T tt _ _ _ rfl hb Tryz.underlying23 rfl (size_h h HH.out)
    · exact HR4.out.kept (by simp [World.setRow]) (heap_setRow w3 T R _ (by omega)) fun b hb _ => heap_setRow w3 T b _ (by omega)
    · exact HK4.out.other ((Keep.refl _ _).setRow _) (by omega)
end Go.Proofs.YtlaifphedhaemaaGreatDoor
