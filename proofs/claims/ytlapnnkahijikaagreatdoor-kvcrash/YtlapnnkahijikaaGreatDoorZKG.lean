/- coraclelaw9.shows: a store against a table. -/
import Derived.Test.YtlapnnkahijikaaGreatDoorZKE
import Derived.Test.YtlapnnkahijikaaGreatDoorZKF
import Derived.Test.YtlapnnkahijikaaGreatDoorZK8
import Derived.Test.YtlapnnkahijikaaGreatDoorZK5
import Derived.Laws.StructEq
namespace Go.Proofs.YtlapnnkahijikaaGreatDoor
open Go.ChangeShapes Go.WideShapes Go.ChangeAt Go.RowKit Go.Lib

theorem equalIn_pr (p q : Pr) (w : World) :
    (Op.equalIn 10000 48 (.agg p.cs.toArray) (.agg q.cs.toArray)).run Tryz.prog w = .ok (decide (p.k = q.k) && (decide (p.v = q.v) && (p.g == q.g))) w := by
  have hS : Tryz.prog.underlying 48 = some (.struct (Tryz.prog.fieldsOf 48)) := by kernel_rfl
  have hp : Tryz.prog.stoodInHeld 48 = false := by kernel_rfl
  have e1 : ∀ w, (part 9 p.cs.toArray 0).run Tryz.prog w = .ok (.string p.k) w := fun w => by
    have g := Tryz.isAgg9
    simp only [part, Sem.run_bind, g, Result.andThen_ok]; rfl
  have e2 : ∀ w, (part 9 p.cs.toArray 1).run Tryz.prog w = .ok (.string p.v) w := fun w => by
    have g := Tryz.isAgg9
    simp only [part, Sem.run_bind, g, Result.andThen_ok]; rfl
  have e3 : ∀ w, (part 4 p.cs.toArray 2).run Tryz.prog w = .ok (.bool p.g) w := fun w => by
    have g := Tryz.isAgg4
    simp only [part, Sem.run_bind, g, Result.andThen_ok]; rfl
  have f1 : ∀ w, (part 9 q.cs.toArray 0).run Tryz.prog w = .ok (.string q.k) w := fun w => by
    have g := Tryz.isAgg9
    simp only [part, Sem.run_bind, g, Result.andThen_ok]; rfl
  have f2 : ∀ w, (part 9 q.cs.toArray 1).run Tryz.prog w = .ok (.string q.v) w := fun w => by
    have g := Tryz.isAgg9
    simp only [part, Sem.run_bind, g, Result.andThen_ok]; rfl
  have f3 : ∀ w, (part 4 q.cs.toArray 2).run Tryz.prog w = .ok (.bool q.g) w := fun w => by
    have g := Tryz.isAgg4
    simp only [part, Sem.run_bind, g, Result.andThen_ok]; rfl
  have c1 : ∀ w, (Op.equalIn 9999 9 (.string p.k) (.string q.k)).run Tryz.prog w = .ok (decide (p.k = q.k)) w := fun w => by rw [run_equalIn_string (P := Tryz.prog) w 9998 9 p.k q.k Tryz.underlying9, eq_str]
  have c2 : ∀ w, (Op.equalIn 9999 9 (.string p.v) (.string q.v)).run Tryz.prog w = .ok (decide (p.v = q.v)) w := fun w => by rw [run_equalIn_string (P := Tryz.prog) w 9998 9 p.v q.v Tryz.underlying9, eq_str]
  have c3 : ∀ w, (Op.equalIn 9999 4 (.bool p.g) (.bool q.g)).run Tryz.prog w = .ok (p.g == q.g) w := fun w => run_equalIn_bool (P := Tryz.prog) w 9998 4 p.g q.g Tryz.underlying4
  rw [show (10000 : Nat) = 9999 + 1 from rfl, run_equalIn_agg w 9999 48 _ _ hS hp]
  simp only [Program.fieldsOf, Tryz.underlying48, Op.eqFields]
  simp only [Sem.run_bind, Sem.run_ite, e1, e2, e3, f1, f2, f3, Result.andThen_ok, c1, c2, c3]
  cases decide (p.k = q.k) <;> cases decide (p.v = q.v) <;> cases p.g == q.g <;> simp
theorem neq_pr (p q : Pr) (w : World) :
    (binOp .neq 48 (.agg p.cs.toArray) (.agg q.cs.toArray)).run Tryz.prog w = .ok (.bool (!(decide (p.k = q.k) && (decide (p.v = q.v) && (p.g == q.g))))) w := by
  rw [run_neq_struct, equalIn_pr]; rfl
instance : DecidableEq Pr := fun p q => if h : p.k = q.k ∧ p.v = q.v ∧ p.g = q.g then .isTrue (by cases p; cases q; obtain ⟨h1, h2, h3⟩ := h; simp only at h1 h2 h3; rw [h1, h2, h3]) else .isFalse fun e => h (by rw [e]; exact ⟨rfl, rfl, rfl⟩)
theorem sizePr : (Tryz.prog.info? 48).map (·.size) = some 3 := by kernel_rfl
theorem lookOf {A : List (ByteArray × Pr)} {T : List Pr} (h : Shows A T) (hn : (A.map Prod.fst).Nodup) {k : Nat} (hk : k < T.length) : alook (T.getD k default).k A = some (T.getD k default) := by
  have hm : T.getD k default ∈ T := by rw [List.getD_eq_getElem?_getD, List.getElem?_eq_getElem hk]; exact List.getElem_mem hk
  have h1 := h.perm.mem_iff.1 hm
  obtain ⟨q, hq, e⟩ := List.mem_map.1 h1
  have := h.key q hq
  refine alook_of_mem hn ?_
  rw [← e, this]
  exact hq
theorem Shows.length {A : List (ByteArray × Pr)} {T : List Pr} (h : Shows A T) : T.length = A.length := by rw [h.perm.length_eq, List.length_map]
theorem filt_all (T : List Pr) : (T.filter fun p => preB ⟨#[]⟩ p.k) = T := List.filter_eq_self.2 fun p _ => by unfold preB; rfl
theorem SrcS.of_own {w : World} {N : Nat} {v : Value} {ss : List ByteArray} (h : OwnS w N v ss) : SrcS w v ss := h.src
set_option maxRecDepth 100000 in
set_option maxHeartbeats 8000000 in
theorem shows_any (s r : Nat) (la : Option Addr) (m : Int) (A : List (ByteArray × Pr)) (T U : List Pr) (kv vv : Value) (N : Nat) (w : World) (h : Blk w s (stC la r m)) (hM : MapP w r A) (hT : Shows A T) (hs : ∀ p ∈ A, p.1.size ≤ 1000000) (hl : A.length ≤ 1000000) (hU : TabAt w N kv vv U) (hg : ∀ p ∈ U, p.g = false) (hul : U.length ≤ 1000000) :
    Calls Tryz.prog 16 #[.pointer (some ⟨s, 0, none⟩), .agg #[kv, vv]] w fun e w' => e = .returned (.bool (decide (T = U))) ∧ Below w.heap.size w w' := by
  have HMO : Hid (Tryz.prog.follows .mixedOrders = true) := show _ = _ by kernel_rfl
  have htl : T.length ≤ 1000000 := by rw [hT.length]; exact hl
  obtain ⟨a1, c1, hv1, h11, h12, _⟩ := hU.keys.facts
  obtain ⟨a2, c2, hv2, _⟩ := hU.vals.facts
  rw [List.length_map] at hv1 hv2 h11
  subst hv1
  subst hv2
  obtain ⟨n, hn⟩ : ∃ n, n = U.length := ⟨_, rfl⟩
  rw [← hn] at hU ⊢
  have HN : Hid (n = U.length) := hn
  have HL : Hid (T.length ≤ 1000000 ∧ U.length ≤ 1000000) := ⟨htl, hul⟩
  have hn6 : n ≤ 1000000 := by omega
  have HT : Hid (Shows A T) := hT
  have HG : Hid (∀ p ∈ U, p.g = false) := hg
  have HAS : Hid ((∀ p ∈ A, p.1.size ≤ 1000000) ∧ A.length ≤ 1000000) := ⟨hs, hl⟩
  have HND : Hid ((A.map Prod.fst).Nodup) := hM.nodup
  have HS0 : Hid (Blk w s (stC la r m) ∧ MapP w r A ∧ TabAt w N (.slice a1 n c1) (.slice a2 n c2) U) := ⟨h, hM, hU⟩
  clear h hM hT hs hl hU hg htl hul hn h11 h12
  go_enter Tryz.func16, Tryz.ntmps16
  go_upto_region 1 with fail
  generalize hw1 : World.alloc w _ = w1
  have HB1 : Hid (Below w.heap.size w w1) := by rw [← hw1]; exact (Below.refl _ _).alloc (Nat.le_refl _) _
  have HX1 : Hid (Blk w1 w.heap.size [.slice a1 n c1, .slice a2 n c2]) := by rw [← hw1]; exact Blk.mk _ _ _ rfl rfl
  have HS1 : Hid (Blk w1 s (stC la r m) ∧ MapP w1 r A ∧ TabAt w1 N (.slice a1 n c1) (.slice a2 n c2) U) := ⟨HS0.out.1.below HB1.out HS0.out.1.lt, HS0.out.2.1.below HB1.out, HS0.out.2.2.below HB1.out⟩
  clear hw1 HS0
  have HK : Hid (Calls Tryz.prog 20 #[.pointer (some ⟨s, 0, none⟩), .string ⟨#[]⟩] w1.drew fun e w' => ∃ v, e = .returned v ∧ OwnS w' w1.drew.heap.size v ((T.filter fun p => preB ⟨#[]⟩ p.k).map Pr.k) ∧ Below w1.drew.heap.size w1.drew w') := keys_any s r la m A T _ w1.drew HS1.out.1.drew HS1.out.2.1 HT.out HAS.out.1 HAS.out.2
  generalize hX : w.heap.size = X at *
  refine wp_region_noPanic ?_
  refine wp_region_held_drew (S := fun w' => w'.cell? ⟨X, 0, none⟩ = some (.slice a1 n c1)) HMO.out (HX1.out.drew.one rfl) (fun hHeld => ?_)
  refine wpAnyH_take (i := 0) (oi := { dst := some 9, op := .move (.tmp 0), type := 28, pos := "law.go:79", after := #[], guard := none }) (v := ?_) rfl (by kernel_rfl) (by kernel_rfl) (by kernel_rfl) (fun _ _ _ h => h) (Or.inl ⟨by rfl, ?_⟩) (by assumption) ?_
  rotate_left
  · intro _ _; go_simp; first | done | with_reducible rfl
  simp only [Act.put, List.setIfInBounds_toArray, List.set_cons_zero, List.set_cons_succ]
  refine wpAnyH_take (i := 1) (oi := { dst := some 10, op := .binOp Go.BinOp.eql 28 (.tmp 9) (.const (.pointer none)) 28, type := 4, pos := "law.go:79", after := #[{ on := 0, ground := .data }], guard := none }) (v := .bool false) rfl (by kernel_rfl) (by kernel_rfl) (by kernel_rfl) (fun _ _ _ h => h) (Or.inl ⟨by rfl, ?_⟩) (by assumption) ?_
  · intro _ _; go_simp
  simp only [Act.put, List.setIfInBounds_toArray, List.set_cons_zero, List.set_cons_succ]
  refine wpAnyH_take (i := 2) (oi := { dst := some 11, op := .move (.tmp 10), type := 4, pos := "law.go:79", after := #[{ on := 1, ground := .data }], guard := none }) (v := ?_) rfl (by kernel_rfl) (by kernel_rfl) (by kernel_rfl) (fun _ _ _ h => h) (Or.inl ⟨by rfl, ?_⟩) (by assumption) ?_
  rotate_left
  · intro _ _; go_simp; first | done | with_reducible rfl
  simp only [Act.put, List.setIfInBounds_toArray, List.set_cons_zero, List.set_cons_succ]
  refine wpAnyH_take (i := 3) (oi := { dst := some 12, op := .move (.tmp 0), type := 28, pos := "law.go:79", after := #[{ on := 2, ground := .guard }], guard := some (2, false) }) (v := ?_) rfl (by kernel_rfl) (by kernel_rfl) (by kernel_rfl) (fun _ _ _ h => h) (Or.inl ⟨by rfl, ?_⟩) (by assumption) ?_
  rotate_left
  · intro _ _; go_simp; first | done | with_reducible rfl
  simp only [Act.put, List.setIfInBounds_toArray, List.set_cons_zero, List.set_cons_succ]
  refine wpAnyH_take (i := 5) (oi := { dst := some 14, op := .fieldAddr 34 (.tmp 3) 0, type := 0, pos := "law.go:79", after := #[{ on := 2, ground := .guard }], guard := some (2, false) }) (v := ?_) rfl (by kernel_rfl) (by kernel_rfl) (by kernel_rfl) (fun _ _ _ h => h) (Or.inl ⟨by rfl, ?_⟩) (by assumption) ?_
  rotate_left
  · intro _ _; go_simp; first | done | with_reducible rfl
  simp only [Act.put, List.setIfInBounds_toArray, List.set_cons_zero, List.set_cons_succ]
  refine wpAnyH_take (i := 6) (oi := { dst := some 15, op := .load 32 (.tmp 14), type := 32, pos := "law.go:79", after := #[{ on := 5, ground := .data }, { on := 2, ground := .guard }], guard := some (2, false) }) (v := .slice a1 n c1) rfl (by kernel_rfl) (by kernel_rfl) (by kernel_rfl) (fun _ _ _ h => h) (Or.inl ⟨by rfl, ?_⟩) (by assumption) ?_
  · intro _ _; rename_i wz hz; have cz := hz; go_simp
  simp only [Act.put, List.setIfInBounds_toArray, List.set_cons_zero, List.set_cons_succ]
  refine wpAnyH_ready (rs := [4]) (by kernel_rfl) (by simp) ?_
  refine AllReadyH.cons (o := { dst := some 13, op := .call { callee := .value (.func 20), args := #[.tmp 12, .const (.string { data := #[] })], argTypes := #[28, 9] }, type := 32, pos := "law.go:79", after := #[{ on := 3, ground := .data }, { on := 2, ground := .chain }, { on := 2, ground := .guard }], guard := some (2, false) }) rfl (fun K hK => ?_) AllReadyH.nil
  go_simp
  refine HK.out.mono ?_; rintro e w2 ⟨v, rfl, ho2, hb2⟩; have HO2 : Hid (OwnS w2 w1.heap.size v (T.map Pr.k)) := by { rw [filt_all] at ho2; exact ho2 }; have HB2 : Hid (Below w1.heap.size w1 w2) := below_undrew hb2; have HX2 : Hid (Blk w2 X [.slice a1 n c1, .slice a2 n c2]) := HX1.out.below HB2.out HX1.out.lt; clear ho2 hb2
  go_simp
  refine hK.out _ _ (HX2.out.one rfl) (fun hHeld => ?_)
  clear hK K
  refine wpAnyH_ready (rs := [7]) (by kernel_rfl) (by simp) ?_
  refine AllReadyH.cons (o := { dst := some 16, op := .call { callee := .value (.func 19), args := #[.tmp 13, .tmp 15], argTypes := #[32, 32] }, type := 4, pos := "law.go:79", after := #[{ on := 4, ground := .data }, { on := 6, ground := .data }, { on := 4, ground := .chain }, { on := 2, ground := .guard }], guard := some (2, false) }) rfl (fun K hK => ?_) AllReadyH.nil
  go_simp
  refine (strings_any v (.slice a1 n c1) (T.map Pr.k) (U.map Pr.k) w2 HO2.out.src (HS1.out.2.2.keys.below HB2.out).src (by rw [List.length_map]; exact HL.out.1) (by rw [List.length_map]; exact HL.out.2)).mono ?_; rintro e w3 ⟨rfl, hb3⟩; have HB3 : Hid (Below w1.heap.size w1 w3) := HB2.out.trans (hb3.mono HB2.out.size); have HX3 : Hid (Blk w3 X [.slice a1 n c1, .slice a2 n c2]) := HX1.out.below HB3.out HX1.out.lt; clear hb3
  go_simp
  refine hK.out _ _ (HX3.out.one rfl) (fun hHeld => ?_)
  clear hK K
  refine wpAnyH_take (i := 8) (oi := { dst := some 17, op := .unOp Go.UnOp.not 4 (.tmp 16), type := 4, pos := "law.go:79", after := #[{ on := 7, ground := .data }, { on := 2, ground := .guard }], guard := some (2, false) }) (v := ?_) rfl (by kernel_rfl) (by kernel_rfl) (by kernel_rfl) (fun _ _ _ h => h) (Or.inl ⟨by rfl, ?_⟩) (by assumption) ?_
  rotate_left
  · intro _ _; go_simp; first | done | with_reducible rfl
  simp only [Act.put, List.setIfInBounds_toArray, List.set_cons_zero, List.set_cons_succ]
  refine wpAnyH_take (i := 9) (oi := { dst := some 18, op := .pick (.tmp 11) (.const (.bool true)) (.tmp 17), type := 4, pos := "law.go:79", after := #[{ on := 2, ground := .data }, { on := 8, ground := .data }], guard := none }) (v := ?_) rfl (by kernel_rfl) (by kernel_rfl) (by kernel_rfl) (fun _ _ _ h => h) (Or.inl ⟨by rfl, ?_⟩) (by assumption) ?_
  rotate_left
  · intro _ _; go_simp; first | done | with_reducible rfl
  simp only [Act.put, List.setIfInBounds_toArray, List.set_cons_zero, List.set_cons_succ]
  refine wpAnyH_done (by kernel_rfl) ?_ _
  refine NoPanic.normal ?_
  clear hHeld HX2 HB2 HO2
  have HBW : Hid (Below X w w3) := HB1.out.trans (HB3.out.mono (by have := HB1.out.size; rw [hX] at this; exact this))
  have HS3 : Hid (Blk w3 s (stC la r m) ∧ MapP w3 r A ∧ TabAt w3 N (.slice a1 n c1) (.slice a2 n c2) U) := ⟨HS1.out.1.below HB3.out HS1.out.1.lt, HS1.out.2.1.below HB3.out, HS1.out.2.2.below HB3.out⟩
  clear HB3 HB1 HS1 HX1 HK
  have HXW : Hid (X ≤ w3.heap.size) := show _ ≤ _ by have := HBW.out.size; rw [hX] at this; exact this
  by_cases hk : T.map Pr.k = U.map Pr.k
  · have HTN : Hid (T.length = n) := show _ = _ by have := congrArg List.length hk; simpa [← HN.out] using this
    have HKE : Hid (∀ k, k < n → (T.getD k default).k = (U.getD k default).k) := fun k hk2 => by rw [← getD_mapK T (by rw [HTN.out]; exact hk2), ← getD_mapK U (by rw [← HN.out]; exact hk2), hk]
    rw [decide_eq_true hk]
    clear hk
    have HALL : Hid (Calls Tryz.prog 25 #[.pointer (some ⟨s, 0, none⟩)] w3 fun e w' => ∃ v, e = .returned v ∧ OwnP w' w3.heap.size v T ∧ Below w3.heap.size w3 w') := all_any s r la m A T w3 HS3.out.1 HS3.out.2.1 HT.out HAS.out.1 HAS.out.2
    have x3 : w3.cell? ⟨X, 0, none⟩ = some (.slice a1 n c1) := HX3.out.one rfl
    go_wp2_with fail
    refine Calls.mono HALL.out ?_
    rintro e w4 ⟨va, rfl, ho4, hb4⟩
    obtain ⟨a4, c4, rfl, he4⟩ := ho4.els
    rw [HTN.out] at he4
    have HE4 : Hid (Els w4 a4 n c4 T) := he4
    have HB4 : Hid (Below X w w4) := HBW.out.trans (hb4.mono HXW.out)
    have HX4 : Hid (Blk w4 X [.slice a1 n c1, .slice a2 n c2]) := HX3.out.below hb4 HX3.out.lt
    have HS4 : Hid (Blk w4 s (stC la r m) ∧ MapP w4 r A ∧ TabAt w4 N (.slice a1 n c1) (.slice a2 n c2) U) := ⟨HS3.out.1.below hb4 HS3.out.1.lt, HS3.out.2.1.below hb4, HS3.out.2.2.below hb4⟩
    have HXL : Hid (X < w4.heap.size) := HX4.out.lt
    rw [HTN.out]
    clear ho4 hb4 he4 HS3 HX3 HBW HALL x3
    have x4 : w4.cell? ⟨X, 0, none⟩ = some (.slice a1 n c1) := HX4.out.one rfl
    go_wp2_with fail
    go_loopw [6] (fun i wr => ∃ k : Nat, k ≤ n ∧ i = .int .i64 k ∧ Hid (Below w4.heap.size w4 wr) ∧ Hid (∀ j, j < k → (T.getD j default).v = (U.getD j default).v)) (fun i _ => n - (intOf i).toNat)
    case atStart => exact ⟨0, Nat.zero_le _, rfl, Below.refl _ _, fun j hj => absurd hj (Nat.not_lt_zero _)⟩
    case round =>
      obtain ⟨k, hk, rfl, HB, HEQ⟩ := hrel
      clear x4
      by_cases hlt : k < n
      · have e0 : (0 : Int) ≤ (k : Int) := by omega
        have e1 : (k : Int) < (n : Int) := by omega
        have HXR : Hid (Blk wr X [.slice a1 n c1, .slice a2 n c2]) := HX4.out.below HB.out HXL.out
        have HSR : Hid (Blk wr s (stC la r m) ∧ MapP wr r A ∧ TabAt wr N (.slice a1 n c1) (.slice a2 n c2) U) := ⟨HS4.out.1.below HB.out HS4.out.1.lt, HS4.out.2.1.below HB.out, HS4.out.2.2.below HB.out⟩
        obtain ⟨g1, rfl, hg1⟩ := HSR.out.2.2.keys.cell (k := k) (by rw [List.length_map, ← HN.out]; exact hlt)
        obtain ⟨g2, rfl, hg2⟩ := HSR.out.2.2.vals.cell (k := k) (by rw [List.length_map, ← HN.out]; exact hlt)
        rw [getD_mapK U (by rw [← HN.out]; exact hlt), ← HKE.out k hlt] at hg1
        rw [getD_mapV U (by rw [← HN.out]; exact hlt)] at hg2
        have hlk := lookOf HT.out HND.out (k := k) (by rw [HTN.out]; exact hlt)
        have hp := HT.out.up.2 (T.getD k default) (by rw [List.getD_eq_getElem?_getD, List.getElem?_eq_getElem (by rw [HTN.out]; exact hlt)]; exact List.getElem_mem _)
        obtain ⟨b4, o4, rfl, hr4⟩ := HE4.out.at k hlt
        have HC4 : Hid (wr.rangeAt b4 (o4 + k * 3) (T.getD k default).cs) := rangeAt_below hr4 HB.out (Nat.le_refl _)
        have HW : Hid ((T.getD k default).v ≠ (U.getD k default).v → decide (T = U) = false) := fun hne => decide_eq_false fun e => hne (by rw [e])
        obtain ⟨p, hpp⟩ : ∃ p, p = T.getD k default := ⟨_, rfl⟩
        obtain ⟨z, hzz⟩ : ∃ z, z = (U.getD k default).v := ⟨_, rfl⟩
        rw [← hpp] at hg1 hlk hp HC4 HW
        rw [← hzz] at hg2 HW
        have HPZ : Hid (p = T.getD k default ∧ z = (U.getD k default).v) := ⟨hpp, hzz⟩
        clear hpp hzz hr4
        obtain ⟨pk, pv, pg⟩ := p
        simp only at hp hlk hg1
        subst hp
        have HGET : Hid (Calls Tryz.prog 26 #[.pointer (some ⟨s, 0, none⟩), .string pk] wr fun e w' => e = .returned (.tuple #[.string pv, .bool true]) ∧ Below wr.heap.size wr w') := get_some s r la m A pk ⟨pk, pv, false⟩ wr HSR.out.1 HSR.out.2.1 hlk
        have x4 : wr.cell? ⟨X, 0, none⟩ = some (.slice (some ⟨g1, 0, none⟩) n c1) := HXR.out.one rfl
        go_wp2_with fail
        refine Calls.mono HGET.out ?_
        rintro e w5 ⟨rfl, hb5⟩
        have HB5 : Hid (Below w4.heap.size w4 w5) := HB.out.trans (hb5.mono HB.out.size)
        have HX5 : Hid ((w5.cell? ⟨X, 0, none⟩ = some (.slice (some ⟨g1, 0, none⟩) n c1) ∧ w5.cell? ⟨X, 1, none⟩ = some (.slice (some ⟨g2, 0, none⟩) n c2)) ∧ (w5.cell? ⟨g1, k, none⟩ = some (.string pk) ∧ w5.cell? ⟨g2, k, none⟩ = some (.string z)) ∧ w5.rangeAt b4 (o4 + k * 3) [.string pk, .string pv, .bool false] ∧ Below w4.heap.size w4 w5) := ⟨⟨cell_below' hb5 (HXR.out.one rfl), cell_below' hb5 (HXR.out.one rfl)⟩, ⟨cell_below' hb5 hg1, cell_below' hb5 hg2⟩, rangeAt_below HC4.out hb5 (Nat.le_refl _), HB5.out⟩
        have hneq : ∀ w', (binOp .neq 48 (.agg #[.string pk, .string pv, .bool false]) (.agg #[.string pk, .string z, .bool false])).run Tryz.prog w' = .ok (.bool (!(decide (pk = pk) && (decide (pv = z) && (false == false))))) w' := neq_pr ⟨pk, pv, false⟩ ⟨pk, z, false⟩
        clear hb5 HGET HXR HSR x4 hg1 hg2 hlk HC4
        by_cases hpz : pv = z
        · subst hpz
          have hneq' : ∀ w', (binOp .neq 48 (.agg #[.string pk, .string pv, .bool false]) (.agg #[.string pk, .string pv, .bool false])).run Tryz.prog w' = .ok (.bool false) w' := fun w' => by rw [hneq w']; simp
          clear hneq
          go_upto_region 10 with fail
          refine wp_region_noPanic ?_
          refine wp_region_held_drew (S := fun w' => (w'.cell? ⟨X, 0, none⟩ = some (.slice (some ⟨g1, 0, none⟩) n c1) ∧ w'.cell? ⟨X, 1, none⟩ = some (.slice (some ⟨g2, 0, none⟩) n c2)) ∧ (w'.cell? ⟨g1, k, none⟩ = some (.string pk) ∧ w'.cell? ⟨g2, k, none⟩ = some (.string pv)) ∧ w'.rangeAt b4 (o4 + k * 3) [.string pk, .string pv, .bool false] ∧ Below w4.heap.size w4 w') HMO.out (⟨HX5.out.1, HX5.out.2.1, HX5.out.2.2.1, HX5.out.2.2.2.drew⟩) (fun hHeld => ?_)
          refine wpAnyH_take (i := 0) (oi := { dst := some 43, op := .move (.tmp 5), type := 36, pos := "law.go:88", after := #[], guard := none }) (v := ?_) rfl (by kernel_rfl) (by kernel_rfl) (by kernel_rfl) (fun _ _ _ h => h) (Or.inl ⟨by rfl, ?_⟩) (by assumption) ?_
          rotate_left
          · intro _ _; go_simp; first | done | with_reducible rfl
          simp only [Act.put, List.setIfInBounds_toArray, List.set_cons_zero, List.set_cons_succ]
          refine wpAnyH_take (i := 1) (oi := { dst := some 44, op := .move (.tmp 6), type := 3, pos := "law.go:88", after := #[], guard := none }) (v := ?_) rfl (by kernel_rfl) (by kernel_rfl) (by kernel_rfl) (fun _ _ _ h => h) (Or.inl ⟨by rfl, ?_⟩) (by assumption) ?_
          rotate_left
          · intro _ _; go_simp; first | done | with_reducible rfl
          simp only [Act.put, List.setIfInBounds_toArray, List.set_cons_zero, List.set_cons_succ]
          refine wpAnyH_take (i := 2) (oi := { dst := some 45, op := .indexAddr 36 (.tmp 43) (.tmp 44), type := 0, pos := "law.go:88", after := #[{ on := 0, ground := .data }, { on := 1, ground := .data }], guard := none }) (v := ?_) rfl (by kernel_rfl) (by kernel_rfl) (by kernel_rfl) (fun _ _ _ h => h) (Or.inl ⟨by rfl, ?_⟩) (by assumption) ?_
          rotate_left
          · intro _ _; go_simp; first | done | with_reducible rfl
          simp only [Act.put, List.setIfInBounds_toArray, List.set_cons_zero, List.set_cons_succ]
          refine wpAnyH_take (i := 3) (oi := { dst := some 46, op := .load 48 (.tmp 45), type := 48, pos := "law.go:88", after := #[{ on := 2, ground := .data }], guard := none }) (v := _) rfl (by kernel_rfl) (by kernel_rfl) (by kernel_rfl) (fun _ _ _ h => h) (yieldsIf_load_mid (by rfl) _ _ rfl (b4) (o4 + k * 3) rfl ([.string pk, .string pv, .bool false]) _ (fun _ h => h.2.2.1) (Tryz.underlying48) rfl (sizePr)) (by assumption) ?_
          simp only [Act.put, List.setIfInBounds_toArray, List.set_cons_zero, List.set_cons_succ]
          refine wpAnyH_take (i := 4) (oi := { dst := some 47, op := .fieldAddr 34 (.tmp 3) 0, type := 0, pos := "law.go:88", after := #[], guard := none }) (v := ?_) rfl (by kernel_rfl) (by kernel_rfl) (by kernel_rfl) (fun _ _ _ h => h) (Or.inl ⟨by rfl, ?_⟩) (by assumption) ?_
          rotate_left
          · intro _ _; go_simp; first | done | with_reducible rfl
          simp only [Act.put, List.setIfInBounds_toArray, List.set_cons_zero, List.set_cons_succ]
          refine wpAnyH_take (i := 5) (oi := { dst := some 48, op := .load 32 (.tmp 47), type := 32, pos := "law.go:88", after := #[{ on := 4, ground := .data }], guard := none }) (v := .slice (some ⟨g1, 0, none⟩) n c1) rfl (by kernel_rfl) (by kernel_rfl) (by kernel_rfl) (fun _ _ _ h => h) (Or.inl ⟨by rfl, ?_⟩) (by assumption) ?_
          · intro _ _; rename_i wz hz; have cz := hz.1.1; go_simp
          simp only [Act.put, List.setIfInBounds_toArray, List.set_cons_zero, List.set_cons_succ]
          refine wpAnyH_take (i := 6) (oi := { dst := some 49, op := .move (.tmp 6), type := 3, pos := "law.go:88", after := #[], guard := none }) (v := ?_) rfl (by kernel_rfl) (by kernel_rfl) (by kernel_rfl) (fun _ _ _ h => h) (Or.inl ⟨by rfl, ?_⟩) (by assumption) ?_
          rotate_left
          · intro _ _; go_simp; first | done | with_reducible rfl
          simp only [Act.put, List.setIfInBounds_toArray, List.set_cons_zero, List.set_cons_succ]
          refine wpAnyH_take (i := 7) (oi := { dst := some 50, op := .indexAddr 32 (.tmp 48) (.tmp 49), type := 0, pos := "law.go:88", after := #[{ on := 5, ground := .data }, { on := 6, ground := .data }], guard := none }) (v := ?_) rfl (by kernel_rfl) (by kernel_rfl) (by kernel_rfl) (fun _ _ _ h => h) (Or.inl ⟨by rfl, ?_⟩) (by assumption) ?_
          rotate_left
          · intro _ _; go_simp; first | done | with_reducible rfl
          simp only [Act.put, List.setIfInBounds_toArray, List.set_cons_zero, List.set_cons_succ]
          refine wpAnyH_take (i := 8) (oi := { dst := some 51, op := .load 9 (.tmp 50), type := 9, pos := "law.go:88", after := #[{ on := 7, ground := .data }], guard := none }) (v := .string pk) rfl (by kernel_rfl) (by kernel_rfl) (by kernel_rfl) (fun _ _ _ h => h) (Or.inl ⟨by rfl, ?_⟩) (by assumption) ?_
          · intro _ _; rename_i wz hz; have cz := hz.2.1.1; go_simp
          simp only [Act.put, List.setIfInBounds_toArray, List.set_cons_zero, List.set_cons_succ]
          refine wpAnyH_take (i := 9) (oi := { dst := some 52, op := .fieldAddr 34 (.tmp 3) 1, type := 0, pos := "law.go:88", after := #[], guard := none }) (v := ?_) rfl (by kernel_rfl) (by kernel_rfl) (by kernel_rfl) (fun _ _ _ h => h) (Or.inl ⟨by rfl, ?_⟩) (by assumption) ?_
          rotate_left
          · intro _ _; go_simp; first | done | with_reducible rfl
          simp only [Act.put, List.setIfInBounds_toArray, List.set_cons_zero, List.set_cons_succ]
          refine wpAnyH_take (i := 10) (oi := { dst := some 53, op := .load 32 (.tmp 52), type := 32, pos := "law.go:88", after := #[{ on := 9, ground := .data }], guard := none }) (v := .slice (some ⟨g2, 0, none⟩) n c2) rfl (by kernel_rfl) (by kernel_rfl) (by kernel_rfl) (fun _ _ _ h => h) (Or.inl ⟨by rfl, ?_⟩) (by assumption) ?_
          · intro _ _; rename_i wz hz; have cz := hz.1.2; go_simp
          simp only [Act.put, List.setIfInBounds_toArray, List.set_cons_zero, List.set_cons_succ]
          refine wpAnyH_take (i := 11) (oi := { dst := some 54, op := .move (.tmp 6), type := 3, pos := "law.go:88", after := #[], guard := none }) (v := ?_) rfl (by kernel_rfl) (by kernel_rfl) (by kernel_rfl) (fun _ _ _ h => h) (Or.inl ⟨by rfl, ?_⟩) (by assumption) ?_
          rotate_left
          · intro _ _; go_simp; first | done | with_reducible rfl
          simp only [Act.put, List.setIfInBounds_toArray, List.set_cons_zero, List.set_cons_succ]
          refine wpAnyH_take (i := 12) (oi := { dst := some 55, op := .indexAddr 32 (.tmp 53) (.tmp 54), type := 0, pos := "law.go:88", after := #[{ on := 10, ground := .data }, { on := 11, ground := .data }], guard := none }) (v := ?_) rfl (by kernel_rfl) (by kernel_rfl) (by kernel_rfl) (fun _ _ _ h => h) (Or.inl ⟨by rfl, ?_⟩) (by assumption) ?_
          rotate_left
          · intro _ _; go_simp; first | done | with_reducible rfl
          simp only [Act.put, List.setIfInBounds_toArray, List.set_cons_zero, List.set_cons_succ]
          refine wpAnyH_take (i := 13) (oi := { dst := some 56, op := .load 9 (.tmp 55), type := 9, pos := "law.go:88", after := #[{ on := 12, ground := .data }], guard := none }) (v := .string pv) rfl (by kernel_rfl) (by kernel_rfl) (by kernel_rfl) (fun _ _ _ h => h) (Or.inl ⟨by rfl, ?_⟩) (by assumption) ?_
          · intro _ _; rename_i wz hz; have cz := hz.2.1.2; go_simp
          simp only [Act.put, List.setIfInBounds_toArray, List.set_cons_zero, List.set_cons_succ]
          refine wpAnyH_take (i := 14) (oi := { dst := some 57, op := .build 48 #[(0, .tmp 51), (1, .tmp 56)], type := 48, pos := "law.go:88", after := #[{ on := 8, ground := .data }, { on := 13, ground := .data }], guard := none }) (v := .agg #[.string pk, .string pv, .bool false]) rfl (by kernel_rfl) (by kernel_rfl) (by kernel_rfl) (fun _ _ _ h => h) (Or.inl ⟨by rfl, ?_⟩) (by assumption) ?_
          · intro _ _; go_simp
          simp only [Act.put, List.setIfInBounds_toArray, List.set_cons_zero, List.set_cons_succ]
          refine wpAnyH_take (i := 15) (oi := { dst := some 58, op := .binOp Go.BinOp.neq 48 (.tmp 46) (.tmp 57) 48, type := 4, pos := "law.go:88", after := #[{ on := 3, ground := .data }, { on := 14, ground := .data }], guard := none }) (v := .bool false) rfl (by kernel_rfl) (by kernel_rfl) (by kernel_rfl) (fun _ _ _ h => h) (Or.inl ⟨by rfl, ?_⟩) (by assumption) ?_
          · intro _ _; go_simp
          simp only [Act.put, List.setIfInBounds_toArray, List.set_cons_zero, List.set_cons_succ]
          refine wpAnyH_take (i := 16) (oi := { dst := some 59, op := .move (.tmp 58), type := 4, pos := "law.go:88", after := #[{ on := 15, ground := .data }], guard := none }) (v := ?_) rfl (by kernel_rfl) (by kernel_rfl) (by kernel_rfl) (fun _ _ _ h => h) (Or.inl ⟨by rfl, ?_⟩) (by assumption) ?_
          rotate_left
          · intro _ _; go_simp; first | done | with_reducible rfl
          simp only [Act.put, List.setIfInBounds_toArray, List.set_cons_zero, List.set_cons_succ]
          refine wpAnyH_take (i := 17) (oi := { dst := some 60, op := .move (.tmp 7), type := 9, pos := "law.go:88", after := #[{ on := 16, ground := .guard }], guard := some (16, false) }) (v := ?_) rfl (by kernel_rfl) (by kernel_rfl) (by kernel_rfl) (fun _ _ _ h => h) (Or.inl ⟨by rfl, ?_⟩) (by assumption) ?_
          rotate_left
          · intro _ _; go_simp; first | done | with_reducible rfl
          simp only [Act.put, List.setIfInBounds_toArray, List.set_cons_zero, List.set_cons_succ]
          refine wpAnyH_take (i := 18) (oi := { dst := some 61, op := .fieldAddr 34 (.tmp 3) 1, type := 0, pos := "law.go:88", after := #[{ on := 16, ground := .guard }], guard := some (16, false) }) (v := ?_) rfl (by kernel_rfl) (by kernel_rfl) (by kernel_rfl) (fun _ _ _ h => h) (Or.inl ⟨by rfl, ?_⟩) (by assumption) ?_
          rotate_left
          · intro _ _; go_simp; first | done | with_reducible rfl
          simp only [Act.put, List.setIfInBounds_toArray, List.set_cons_zero, List.set_cons_succ]
          refine wpAnyH_take (i := 19) (oi := { dst := some 62, op := .load 32 (.tmp 61), type := 32, pos := "law.go:88", after := #[{ on := 18, ground := .data }, { on := 16, ground := .guard }], guard := some (16, false) }) (v := .slice (some ⟨g2, 0, none⟩) n c2) rfl (by kernel_rfl) (by kernel_rfl) (by kernel_rfl) (fun _ _ _ h => h) (Or.inl ⟨by rfl, ?_⟩) (by assumption) ?_
          · intro _ _; rename_i wz hz; have cz := hz.1.2; go_simp
          simp only [Act.put, List.setIfInBounds_toArray, List.set_cons_zero, List.set_cons_succ]
          refine wpAnyH_take (i := 20) (oi := { dst := some 63, op := .move (.tmp 6), type := 3, pos := "law.go:88", after := #[{ on := 16, ground := .guard }], guard := some (16, false) }) (v := ?_) rfl (by kernel_rfl) (by kernel_rfl) (by kernel_rfl) (fun _ _ _ h => h) (Or.inl ⟨by rfl, ?_⟩) (by assumption) ?_
          rotate_left
          · intro _ _; go_simp; first | done | with_reducible rfl
          simp only [Act.put, List.setIfInBounds_toArray, List.set_cons_zero, List.set_cons_succ]
          refine wpAnyH_take (i := 21) (oi := { dst := some 64, op := .indexAddr 32 (.tmp 62) (.tmp 63), type := 0, pos := "law.go:88", after := #[{ on := 19, ground := .data }, { on := 20, ground := .data }, { on := 16, ground := .guard }], guard := some (16, false) }) (v := ?_) rfl (by kernel_rfl) (by kernel_rfl) (by kernel_rfl) (fun _ _ _ h => h) (Or.inl ⟨by rfl, ?_⟩) (by assumption) ?_
          rotate_left
          · intro _ _; go_simp; first | done | with_reducible rfl
          simp only [Act.put, List.setIfInBounds_toArray, List.set_cons_zero, List.set_cons_succ]
          refine wpAnyH_take (i := 22) (oi := { dst := some 65, op := .load 9 (.tmp 64), type := 9, pos := "law.go:88", after := #[{ on := 21, ground := .data }, { on := 16, ground := .guard }], guard := some (16, false) }) (v := .string pv) rfl (by kernel_rfl) (by kernel_rfl) (by kernel_rfl) (fun _ _ _ h => h) (Or.inl ⟨by rfl, ?_⟩) (by assumption) ?_
          · intro _ _; rename_i wz hz; have cz := hz.2.1.2; go_simp
          simp only [Act.put, List.setIfInBounds_toArray, List.set_cons_zero, List.set_cons_succ]
          refine wpAnyH_take (i := 23) (oi := { dst := some 66, op := .binOp Go.BinOp.neq 9 (.tmp 60) (.tmp 65) 9, type := 4, pos := "law.go:88", after := #[{ on := 17, ground := .data }, { on := 22, ground := .data }, { on := 16, ground := .guard }], guard := some (16, false) }) (v := .bool false) rfl (by kernel_rfl) (by kernel_rfl) (by kernel_rfl) (fun _ _ _ h => h) (Or.inl ⟨by rfl, ?_⟩) (by assumption) ?_
          · intro _ _; go_simp
          simp only [Act.put, List.setIfInBounds_toArray, List.set_cons_zero, List.set_cons_succ]
          refine wpAnyH_take (i := 24) (oi := { dst := some 67, op := .pick (.tmp 59) (.const (.bool true)) (.tmp 66), type := 4, pos := "law.go:88", after := #[{ on := 16, ground := .data }, { on := 23, ground := .data }], guard := none }) (v := ?_) rfl (by kernel_rfl) (by kernel_rfl) (by kernel_rfl) (fun _ _ _ h => h) (Or.inl ⟨by rfl, ?_⟩) (by assumption) ?_
          rotate_left
          · intro _ _; go_simp; first | done | with_reducible rfl
          simp only [Act.put, List.setIfInBounds_toArray, List.set_cons_zero, List.set_cons_succ]
          refine wpAnyH_take (i := 25) (oi := { dst := some 68, op := .move (.tmp 67), type := 4, pos := "law.go:88", after := #[{ on := 24, ground := .data }, { on := 16, ground := .chain }], guard := none }) (v := ?_) rfl (by kernel_rfl) (by kernel_rfl) (by kernel_rfl) (fun _ _ _ h => h) (Or.inl ⟨by rfl, ?_⟩) (by assumption) ?_
          rotate_left
          · intro _ _; go_simp; first | done | with_reducible rfl
          simp only [Act.put, List.setIfInBounds_toArray, List.set_cons_zero, List.set_cons_succ]
          refine wpAnyH_take (i := 26) (oi := { dst := some 69, op := .move (.tmp 8), type := 4, pos := "law.go:88", after := #[{ on := 25, ground := .guard }], guard := some (25, false) }) (v := ?_) rfl (by kernel_rfl) (by kernel_rfl) (by kernel_rfl) (fun _ _ _ h => h) (Or.inl ⟨by rfl, ?_⟩) (by assumption) ?_
          rotate_left
          · intro _ _; go_simp; first | done | with_reducible rfl
          simp only [Act.put, List.setIfInBounds_toArray, List.set_cons_zero, List.set_cons_succ]
          refine wpAnyH_take (i := 27) (oi := { dst := some 70, op := .unOp Go.UnOp.not 4 (.tmp 69), type := 4, pos := "law.go:88", after := #[{ on := 26, ground := .data }, { on := 25, ground := .guard }], guard := some (25, false) }) (v := ?_) rfl (by kernel_rfl) (by kernel_rfl) (by kernel_rfl) (fun _ _ _ h => h) (Or.inl ⟨by rfl, ?_⟩) (by assumption) ?_
          rotate_left
          · intro _ _; go_simp; first | done | with_reducible rfl
          simp only [Act.put, List.setIfInBounds_toArray, List.set_cons_zero, List.set_cons_succ]
          refine wpAnyH_take (i := 28) (oi := { dst := some 71, op := .pick (.tmp 68) (.const (.bool true)) (.tmp 70), type := 4, pos := "law.go:88", after := #[{ on := 25, ground := .data }, { on := 27, ground := .data }], guard := none }) (v := ?_) rfl (by kernel_rfl) (by kernel_rfl) (by kernel_rfl) (fun _ _ _ h => h) (Or.inl ⟨by rfl, ?_⟩) (by assumption) ?_
          rotate_left
          · intro _ _; go_simp; first | done | with_reducible rfl
          simp only [Act.put, List.setIfInBounds_toArray, List.set_cons_zero, List.set_cons_succ]
          refine wpAnyH_done (by kernel_rfl) ?_ _
          refine NoPanic.normal ?_
          go_wp2_with fail
          go_roundw
          case rel =>
            refine ⟨k + 1, by omega, by go_num, hHeld.2.2.2, fun j hj => ?_⟩
            by_cases e : j = k
            · rw [e, ← HPZ.out.1, ← HPZ.out.2]
            · exact HEQ.out j (by omega)
          case measure => simp [intOf]; omega
        · have HW' : Hid (decide (T = U) = false) := HW.out hpz
          have hneq' : ∀ w', (binOp .neq 48 (.agg #[.string pk, .string pv, .bool false]) (.agg #[.string pk, .string z, .bool false])).run Tryz.prog w' = .ok (.bool true) w' := fun w' => by rw [hneq w']; simp [hpz]
          clear hneq
          go_upto_region 10 with fail
          refine wp_region_noPanic ?_
          refine wp_region_held_drew (S := fun w' => (w'.cell? ⟨X, 0, none⟩ = some (.slice (some ⟨g1, 0, none⟩) n c1) ∧ w'.cell? ⟨X, 1, none⟩ = some (.slice (some ⟨g2, 0, none⟩) n c2)) ∧ (w'.cell? ⟨g1, k, none⟩ = some (.string pk) ∧ w'.cell? ⟨g2, k, none⟩ = some (.string z)) ∧ w'.rangeAt b4 (o4 + k * 3) [.string pk, .string pv, .bool false] ∧ Below w4.heap.size w4 w') HMO.out (⟨HX5.out.1, HX5.out.2.1, HX5.out.2.2.1, HX5.out.2.2.2.drew⟩) (fun hHeld => ?_)
          refine wpAnyH_take (i := 0) (oi := { dst := some 43, op := .move (.tmp 5), type := 36, pos := "law.go:88", after := #[], guard := none }) (v := ?_) rfl (by kernel_rfl) (by kernel_rfl) (by kernel_rfl) (fun _ _ _ h => h) (Or.inl ⟨by rfl, ?_⟩) (by assumption) ?_
          rotate_left
          · intro _ _; go_simp; first | done | with_reducible rfl
          simp only [Act.put, List.setIfInBounds_toArray, List.set_cons_zero, List.set_cons_succ]
          refine wpAnyH_take (i := 1) (oi := { dst := some 44, op := .move (.tmp 6), type := 3, pos := "law.go:88", after := #[], guard := none }) (v := ?_) rfl (by kernel_rfl) (by kernel_rfl) (by kernel_rfl) (fun _ _ _ h => h) (Or.inl ⟨by rfl, ?_⟩) (by assumption) ?_
          rotate_left
          · intro _ _; go_simp; first | done | with_reducible rfl
          simp only [Act.put, List.setIfInBounds_toArray, List.set_cons_zero, List.set_cons_succ]
          refine wpAnyH_take (i := 2) (oi := { dst := some 45, op := .indexAddr 36 (.tmp 43) (.tmp 44), type := 0, pos := "law.go:88", after := #[{ on := 0, ground := .data }, { on := 1, ground := .data }], guard := none }) (v := ?_) rfl (by kernel_rfl) (by kernel_rfl) (by kernel_rfl) (fun _ _ _ h => h) (Or.inl ⟨by rfl, ?_⟩) (by assumption) ?_
          rotate_left
          · intro _ _; go_simp; first | done | with_reducible rfl
          simp only [Act.put, List.setIfInBounds_toArray, List.set_cons_zero, List.set_cons_succ]
          refine wpAnyH_take (i := 3) (oi := { dst := some 46, op := .load 48 (.tmp 45), type := 48, pos := "law.go:88", after := #[{ on := 2, ground := .data }], guard := none }) (v := _) rfl (by kernel_rfl) (by kernel_rfl) (by kernel_rfl) (fun _ _ _ h => h) (yieldsIf_load_mid (by rfl) _ _ rfl (b4) (o4 + k * 3) rfl ([.string pk, .string pv, .bool false]) _ (fun _ h => h.2.2.1) (Tryz.underlying48) rfl (sizePr)) (by assumption) ?_
          simp only [Act.put, List.setIfInBounds_toArray, List.set_cons_zero, List.set_cons_succ]
          refine wpAnyH_take (i := 4) (oi := { dst := some 47, op := .fieldAddr 34 (.tmp 3) 0, type := 0, pos := "law.go:88", after := #[], guard := none }) (v := ?_) rfl (by kernel_rfl) (by kernel_rfl) (by kernel_rfl) (fun _ _ _ h => h) (Or.inl ⟨by rfl, ?_⟩) (by assumption) ?_
          rotate_left
          · intro _ _; go_simp; first | done | with_reducible rfl
          simp only [Act.put, List.setIfInBounds_toArray, List.set_cons_zero, List.set_cons_succ]
          refine wpAnyH_take (i := 5) (oi := { dst := some 48, op := .load 32 (.tmp 47), type := 32, pos := "law.go:88", after := #[{ on := 4, ground := .data }], guard := none }) (v := .slice (some ⟨g1, 0, none⟩) n c1) rfl (by kernel_rfl) (by kernel_rfl) (by kernel_rfl) (fun _ _ _ h => h) (Or.inl ⟨by rfl, ?_⟩) (by assumption) ?_
          · intro _ _; rename_i wz hz; have cz := hz.1.1; go_simp
          simp only [Act.put, List.setIfInBounds_toArray, List.set_cons_zero, List.set_cons_succ]
          refine wpAnyH_take (i := 6) (oi := { dst := some 49, op := .move (.tmp 6), type := 3, pos := "law.go:88", after := #[], guard := none }) (v := ?_) rfl (by kernel_rfl) (by kernel_rfl) (by kernel_rfl) (fun _ _ _ h => h) (Or.inl ⟨by rfl, ?_⟩) (by assumption) ?_
          rotate_left
          · intro _ _; go_simp; first | done | with_reducible rfl
          simp only [Act.put, List.setIfInBounds_toArray, List.set_cons_zero, List.set_cons_succ]
          refine wpAnyH_take (i := 7) (oi := { dst := some 50, op := .indexAddr 32 (.tmp 48) (.tmp 49), type := 0, pos := "law.go:88", after := #[{ on := 5, ground := .data }, { on := 6, ground := .data }], guard := none }) (v := ?_) rfl (by kernel_rfl) (by kernel_rfl) (by kernel_rfl) (fun _ _ _ h => h) (Or.inl ⟨by rfl, ?_⟩) (by assumption) ?_
          rotate_left
          · intro _ _; go_simp; first | done | with_reducible rfl
          simp only [Act.put, List.setIfInBounds_toArray, List.set_cons_zero, List.set_cons_succ]
          refine wpAnyH_take (i := 8) (oi := { dst := some 51, op := .load 9 (.tmp 50), type := 9, pos := "law.go:88", after := #[{ on := 7, ground := .data }], guard := none }) (v := .string pk) rfl (by kernel_rfl) (by kernel_rfl) (by kernel_rfl) (fun _ _ _ h => h) (Or.inl ⟨by rfl, ?_⟩) (by assumption) ?_
          · intro _ _; rename_i wz hz; have cz := hz.2.1.1; go_simp
          simp only [Act.put, List.setIfInBounds_toArray, List.set_cons_zero, List.set_cons_succ]
          refine wpAnyH_take (i := 9) (oi := { dst := some 52, op := .fieldAddr 34 (.tmp 3) 1, type := 0, pos := "law.go:88", after := #[], guard := none }) (v := ?_) rfl (by kernel_rfl) (by kernel_rfl) (by kernel_rfl) (fun _ _ _ h => h) (Or.inl ⟨by rfl, ?_⟩) (by assumption) ?_
          rotate_left
          · intro _ _; go_simp; first | done | with_reducible rfl
          simp only [Act.put, List.setIfInBounds_toArray, List.set_cons_zero, List.set_cons_succ]
          refine wpAnyH_take (i := 10) (oi := { dst := some 53, op := .load 32 (.tmp 52), type := 32, pos := "law.go:88", after := #[{ on := 9, ground := .data }], guard := none }) (v := .slice (some ⟨g2, 0, none⟩) n c2) rfl (by kernel_rfl) (by kernel_rfl) (by kernel_rfl) (fun _ _ _ h => h) (Or.inl ⟨by rfl, ?_⟩) (by assumption) ?_
          · intro _ _; rename_i wz hz; have cz := hz.1.2; go_simp
          simp only [Act.put, List.setIfInBounds_toArray, List.set_cons_zero, List.set_cons_succ]
          refine wpAnyH_take (i := 11) (oi := { dst := some 54, op := .move (.tmp 6), type := 3, pos := "law.go:88", after := #[], guard := none }) (v := ?_) rfl (by kernel_rfl) (by kernel_rfl) (by kernel_rfl) (fun _ _ _ h => h) (Or.inl ⟨by rfl, ?_⟩) (by assumption) ?_
          rotate_left
          · intro _ _; go_simp; first | done | with_reducible rfl
          simp only [Act.put, List.setIfInBounds_toArray, List.set_cons_zero, List.set_cons_succ]
          refine wpAnyH_take (i := 12) (oi := { dst := some 55, op := .indexAddr 32 (.tmp 53) (.tmp 54), type := 0, pos := "law.go:88", after := #[{ on := 10, ground := .data }, { on := 11, ground := .data }], guard := none }) (v := ?_) rfl (by kernel_rfl) (by kernel_rfl) (by kernel_rfl) (fun _ _ _ h => h) (Or.inl ⟨by rfl, ?_⟩) (by assumption) ?_
          rotate_left
          · intro _ _; go_simp; first | done | with_reducible rfl
          simp only [Act.put, List.setIfInBounds_toArray, List.set_cons_zero, List.set_cons_succ]
          refine wpAnyH_take (i := 13) (oi := { dst := some 56, op := .load 9 (.tmp 55), type := 9, pos := "law.go:88", after := #[{ on := 12, ground := .data }], guard := none }) (v := .string z) rfl (by kernel_rfl) (by kernel_rfl) (by kernel_rfl) (fun _ _ _ h => h) (Or.inl ⟨by rfl, ?_⟩) (by assumption) ?_
          · intro _ _; rename_i wz hz; have cz := hz.2.1.2; go_simp
          simp only [Act.put, List.setIfInBounds_toArray, List.set_cons_zero, List.set_cons_succ]
          refine wpAnyH_take (i := 14) (oi := { dst := some 57, op := .build 48 #[(0, .tmp 51), (1, .tmp 56)], type := 48, pos := "law.go:88", after := #[{ on := 8, ground := .data }, { on := 13, ground := .data }], guard := none }) (v := .agg #[.string pk, .string z, .bool false]) rfl (by kernel_rfl) (by kernel_rfl) (by kernel_rfl) (fun _ _ _ h => h) (Or.inl ⟨by rfl, ?_⟩) (by assumption) ?_
          · intro _ _; go_simp
          simp only [Act.put, List.setIfInBounds_toArray, List.set_cons_zero, List.set_cons_succ]
          refine wpAnyH_take (i := 15) (oi := { dst := some 58, op := .binOp Go.BinOp.neq 48 (.tmp 46) (.tmp 57) 48, type := 4, pos := "law.go:88", after := #[{ on := 3, ground := .data }, { on := 14, ground := .data }], guard := none }) (v := .bool true) rfl (by kernel_rfl) (by kernel_rfl) (by kernel_rfl) (fun _ _ _ h => h) (Or.inl ⟨by rfl, ?_⟩) (by assumption) ?_
          · intro _ _; go_simp
          simp only [Act.put, List.setIfInBounds_toArray, List.set_cons_zero, List.set_cons_succ]
          refine wpAnyH_take (i := 16) (oi := { dst := some 59, op := .move (.tmp 58), type := 4, pos := "law.go:88", after := #[{ on := 15, ground := .data }], guard := none }) (v := ?_) rfl (by kernel_rfl) (by kernel_rfl) (by kernel_rfl) (fun _ _ _ h => h) (Or.inl ⟨by rfl, ?_⟩) (by assumption) ?_
          rotate_left
          · intro _ _; go_simp; first | done | with_reducible rfl
          simp only [Act.put, List.setIfInBounds_toArray, List.set_cons_zero, List.set_cons_succ]
          refine wpAnyH_take (i := 17) (oi := { dst := some 60, op := .move (.tmp 7), type := 9, pos := "law.go:88", after := #[{ on := 16, ground := .guard }], guard := some (16, false) }) (v := undef) rfl (by kernel_rfl) (by kernel_rfl) (by kernel_rfl) (fun _ _ _ h => h) (Or.inr ⟨by rfl, rfl⟩) (by assumption) ?_
          simp only [Act.put, List.setIfInBounds_toArray, List.set_cons_zero, List.set_cons_succ]
          refine wpAnyH_take (i := 18) (oi := { dst := some 61, op := .fieldAddr 34 (.tmp 3) 1, type := 0, pos := "law.go:88", after := #[{ on := 16, ground := .guard }], guard := some (16, false) }) (v := undef) rfl (by kernel_rfl) (by kernel_rfl) (by kernel_rfl) (fun _ _ _ h => h) (Or.inr ⟨by rfl, rfl⟩) (by assumption) ?_
          simp only [Act.put, List.setIfInBounds_toArray, List.set_cons_zero, List.set_cons_succ]
          refine wpAnyH_take (i := 19) (oi := { dst := some 62, op := .load 32 (.tmp 61), type := 32, pos := "law.go:88", after := #[{ on := 18, ground := .data }, { on := 16, ground := .guard }], guard := some (16, false) }) (v := undef) rfl (by kernel_rfl) (by kernel_rfl) (by kernel_rfl) (fun _ _ _ h => h) (Or.inr ⟨by rfl, rfl⟩) (by assumption) ?_
          simp only [Act.put, List.setIfInBounds_toArray, List.set_cons_zero, List.set_cons_succ]
          refine wpAnyH_take (i := 20) (oi := { dst := some 63, op := .move (.tmp 6), type := 3, pos := "law.go:88", after := #[{ on := 16, ground := .guard }], guard := some (16, false) }) (v := undef) rfl (by kernel_rfl) (by kernel_rfl) (by kernel_rfl) (fun _ _ _ h => h) (Or.inr ⟨by rfl, rfl⟩) (by assumption) ?_
          simp only [Act.put, List.setIfInBounds_toArray, List.set_cons_zero, List.set_cons_succ]
          refine wpAnyH_take (i := 21) (oi := { dst := some 64, op := .indexAddr 32 (.tmp 62) (.tmp 63), type := 0, pos := "law.go:88", after := #[{ on := 19, ground := .data }, { on := 20, ground := .data }, { on := 16, ground := .guard }], guard := some (16, false) }) (v := undef) rfl (by kernel_rfl) (by kernel_rfl) (by kernel_rfl) (fun _ _ _ h => h) (Or.inr ⟨by rfl, rfl⟩) (by assumption) ?_
          simp only [Act.put, List.setIfInBounds_toArray, List.set_cons_zero, List.set_cons_succ]
          refine wpAnyH_take (i := 22) (oi := { dst := some 65, op := .load 9 (.tmp 64), type := 9, pos := "law.go:88", after := #[{ on := 21, ground := .data }, { on := 16, ground := .guard }], guard := some (16, false) }) (v := undef) rfl (by kernel_rfl) (by kernel_rfl) (by kernel_rfl) (fun _ _ _ h => h) (Or.inr ⟨by rfl, rfl⟩) (by assumption) ?_
          simp only [Act.put, List.setIfInBounds_toArray, List.set_cons_zero, List.set_cons_succ]
          refine wpAnyH_take (i := 23) (oi := { dst := some 66, op := .binOp Go.BinOp.neq 9 (.tmp 60) (.tmp 65) 9, type := 4, pos := "law.go:88", after := #[{ on := 17, ground := .data }, { on := 22, ground := .data }, { on := 16, ground := .guard }], guard := some (16, false) }) (v := undef) rfl (by kernel_rfl) (by kernel_rfl) (by kernel_rfl) (fun _ _ _ h => h) (Or.inr ⟨by rfl, rfl⟩) (by assumption) ?_
          simp only [Act.put, List.setIfInBounds_toArray, List.set_cons_zero, List.set_cons_succ]
          refine wpAnyH_take (i := 24) (oi := { dst := some 67, op := .pick (.tmp 59) (.const (.bool true)) (.tmp 66), type := 4, pos := "law.go:88", after := #[{ on := 16, ground := .data }, { on := 23, ground := .data }], guard := none }) (v := ?_) rfl (by kernel_rfl) (by kernel_rfl) (by kernel_rfl) (fun _ _ _ h => h) (Or.inl ⟨by rfl, ?_⟩) (by assumption) ?_
          rotate_left
          · intro _ _; go_simp; first | done | with_reducible rfl
          simp only [Act.put, List.setIfInBounds_toArray, List.set_cons_zero, List.set_cons_succ]
          refine wpAnyH_take (i := 25) (oi := { dst := some 68, op := .move (.tmp 67), type := 4, pos := "law.go:88", after := #[{ on := 24, ground := .data }, { on := 16, ground := .chain }], guard := none }) (v := ?_) rfl (by kernel_rfl) (by kernel_rfl) (by kernel_rfl) (fun _ _ _ h => h) (Or.inl ⟨by rfl, ?_⟩) (by assumption) ?_
          rotate_left
          · intro _ _; go_simp; first | done | with_reducible rfl
          simp only [Act.put, List.setIfInBounds_toArray, List.set_cons_zero, List.set_cons_succ]
          refine wpAnyH_take (i := 26) (oi := { dst := some 69, op := .move (.tmp 8), type := 4, pos := "law.go:88", after := #[{ on := 25, ground := .guard }], guard := some (25, false) }) (v := undef) rfl (by kernel_rfl) (by kernel_rfl) (by kernel_rfl) (fun _ _ _ h => h) (Or.inr ⟨by rfl, rfl⟩) (by assumption) ?_
          simp only [Act.put, List.setIfInBounds_toArray, List.set_cons_zero, List.set_cons_succ]
          refine wpAnyH_take (i := 27) (oi := { dst := some 70, op := .unOp Go.UnOp.not 4 (.tmp 69), type := 4, pos := "law.go:88", after := #[{ on := 26, ground := .data }, { on := 25, ground := .guard }], guard := some (25, false) }) (v := undef) rfl (by kernel_rfl) (by kernel_rfl) (by kernel_rfl) (fun _ _ _ h => h) (Or.inr ⟨by rfl, rfl⟩) (by assumption) ?_
          simp only [Act.put, List.setIfInBounds_toArray, List.set_cons_zero, List.set_cons_succ]
          refine wpAnyH_take (i := 28) (oi := { dst := some 71, op := .pick (.tmp 68) (.const (.bool true)) (.tmp 70), type := 4, pos := "law.go:88", after := #[{ on := 25, ground := .data }, { on := 27, ground := .data }], guard := none }) (v := ?_) rfl (by kernel_rfl) (by kernel_rfl) (by kernel_rfl) (fun _ _ _ h => h) (Or.inl ⟨by rfl, ?_⟩) (by assumption) ?_
          rotate_left
          · intro _ _; go_simp; first | done | with_reducible rfl
          simp only [Act.put, List.setIfInBounds_toArray, List.set_cons_zero, List.set_cons_succ]
          refine wpAnyH_done (by kernel_rfl) ?_ _
          refine NoPanic.normal ?_
          go_wp2_with fail
          go_ret
          subst hX
          exact ⟨ret_bool HW'.out.symm, HB4.out.trans (hHeld.2.2.2.mono HB4.out.size)⟩
      · obtain rfl : k = n := by omega
        have e1 : ¬ (k : Int) < (k : Int) := by omega
        have HD : Hid (decide (T = U) = true) := decide_eq_true (by
          refine List.ext_getElem (by rw [HTN.out, ← HN.out]) fun j h1 h2 => ?_
          have hj : j < k := by rw [← HTN.out]; exact h1
          have q1 := HKE.out j hj
          have q2 := HEQ.out j hj
          have q3 := HT.out.up.2 _ (List.getElem_mem h1)
          have q4 := HG.out _ (List.getElem_mem h2)
          rw [List.getD_eq_getElem?_getD, List.getD_eq_getElem?_getD, List.getElem?_eq_getElem h1, List.getElem?_eq_getElem h2] at q1 q2
          simp only [Option.getD_some] at q1 q2
          generalize T[j] = p at *
          generalize U[j] = q at *
          cases p; cases q
          simp only at q1 q2 q3 q4
          rw [q1, q2, q3, q4])
        go_wp2_with fail
        go_ret
        subst hX
        exact ⟨ret_bool HD.out.symm, HB4.out.trans (HB.out.mono HB4.out.size)⟩
  · have HD : Hid (decide (T = U) = false) := decide_eq_false fun e => hk (by rw [e])
    rw [decide_eq_false hk]
    go_wp2_with fail
    go_ret
    subst hX
    exact ⟨ret_bool HD.out.symm, HBW.out⟩
end Go.Proofs.YtlapnnkahijikaaGreatDoor
