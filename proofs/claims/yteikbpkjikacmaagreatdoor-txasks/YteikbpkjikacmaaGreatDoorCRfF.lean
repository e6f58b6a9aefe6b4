/- The document's own forms: text, point, scripted. -/
import Derived.Test.YteikbpkjikacmaaGreatDoorZN2
import Derived.Test.YteikbpkjikacmaaGreatDoorCE1
namespace Go.Proofs.YteikbpkjikacmaaGreatDoor
open Go.ChangeShapes Go.WideShapes Go.ChangeAt Go.RowKit

theorem undrewR {B : Nat} {w w' : World} (h : Below B w.drew w') : Below B w w' := ⟨h.os, h.tape, h.output, h.size, h.block⟩
theorem rputb_any (n : Int) (w : World) :
    Calls Tryz.prog 29 #[.int .i64 n] w fun e w' => ∃ v, e = .returned v ∧ OwnB w' w.heap.size v (numB n) ∧ Below w.heap.size w w' :=
  (rput_any n w).mono fun _ _ ⟨v, h1, h2, h3⟩ => ⟨v, h1, OwnB.put h2, h3⟩
set_option maxRecDepth 100000 in
set_option maxHeartbeats 2000000 in
theorem rtextb_any (s : ByteArray) (w : World) (hs : s.size ≤ 100000) :
    Calls Tryz.prog 30 #[.string s] w fun e w' => ∃ v, e = .returned v ∧ OwnB w' w.heap.size v (numB s.size ++ strB s) ∧ Below w.heap.size w w' := by
  go_enter Tryz.func30, Tryz.ntmps30
  go_wp2_with fail
  refine (rputb_any _ _).mono ?_
  rintro e w2 ⟨v, rfl, hO, hb⟩
  have HO : Hid (OwnB w2 w.heap.size v (numB s.size)) := hO
  have HB : Hid (Below w.heap.size w w2) := hb
  obtain ⟨a2, n2, c2, rfl⟩ := hO.any
  have hsz := hb.size
  have hln := numB_length s.size
  clear hO hb
  go_wp2_with (at_builtin; refine wpList_append_s rfl _ _ rfl w.heap.size _ _ rfl HO.out s rfl (by omega) hsz ?_; intro v3 w3 HO3 HG3 HM3; obtain ⟨a3, n3, c3, rfl⟩ := HO3.out.any)
  have HB3 : Hid (Below w.heap.size w w3) := HB.out.grown HG3.out hsz fun k hk => (HO.out.lt k hk).1
  go_ret
  exact ⟨_, rfl, HO3.out, HB3.out⟩
set_option maxRecDepth 100000 in
set_option maxHeartbeats 4000000 in
theorem rpointb_any (p : Pt) (w : World) :
    Calls Tryz.prog 57 #[.agg p.cs.toArray] w fun e w' => ∃ v, e = .returned v ∧ OwnB w' w.heap.size v (ptB p) ∧ Below w.heap.size w w' := by
  have HMO := follows_mixed
  go_enter Tryz.func57, Tryz.ntmps57
  go_upto_region 1 with fail
  generalize hw1 : World.alloc w _ = w1
  have HB1 : Hid (Below w.heap.size w w1) := by rw [← hw1]; exact (Below.refl _ _).alloc (Nat.le_refl _) _
  have HA1 : Hid (Blk w1 w.heap.size p.cs) := by rw [← hw1]; exact Blk.new _ _ _
  clear hw1
  generalize hN : w.heap.size = N at *
  have hs1 := HA1.out.lt
  have HS : Hid (∀ w', Below w1.heap.size w1 w' → w'.cell? ⟨N, 32, none⟩ = some (.int .i64 p.n)) := fun w' h => Pt.whole_n (HA1.out.below h hs1)
  have HSRC : Hid (∀ w', Below w1.heap.size w1 w' → SrcB w' (.slice (some ⟨N, 0, none⟩) 32 32) p.tx) := fun w' h => .inr ⟨N, 0, 32, by rw [p.len], (HA1.out.below h hs1).tx⟩
  clear HA1
  refine wp_region_noPanic ?_
  refine wp_region_held_drew (S := fun w' => w'.cell? ⟨N, 32, none⟩ = some (.int .i64 p.n)) HMO.out (HS.out _ (Below.refl _ _).drew) (fun hHeld => ?_)
  refine wpAnyH_take (i := 1) (oi := { dst := some 4, op := .fieldAddr 30 (.tmp 1) 0, type := 0, pos := "forms.go:216", after := #[], guard := none }) (v := ?_) rfl (by kernel_rfl) (by kernel_rfl) (by kernel_rfl) (fun _ _ _ h => h) (Or.inl ⟨by rfl, ?_⟩) (by assumption) ?_
  rotate_left
  · intro _ _; go_simp; first | done | with_reducible rfl
  simp only [Act.put, List.setIfInBounds_toArray, List.set_cons_zero, List.set_cons_succ]
  refine wpAnyH_take (i := 2) (oi := { dst := some 5, op := .slice 28 (.tmp 4) none none none, type := 26, pos := "forms.go:216", after := #[{ on := 1, ground := .data }], guard := none }) (v := ?_) rfl (by kernel_rfl) (by kernel_rfl) (by kernel_rfl) (fun _ _ _ h => h) (Or.inl ⟨by rfl, ?_⟩) (by assumption) ?_
  rotate_left
  · intro _ _; go_simp; first | done | with_reducible rfl
  simp only [Act.put, List.setIfInBounds_toArray, List.set_cons_zero, List.set_cons_succ]
  refine wpAnyH_take (i := 4) (oi := { dst := some 7, op := .fieldAddr 30 (.tmp 1) 1, type := 0, pos := "forms.go:216", after := #[], guard := none }) (v := ?_) rfl (by kernel_rfl) (by kernel_rfl) (by kernel_rfl) (fun _ _ _ h => h) (Or.inl ⟨by rfl, ?_⟩) (by assumption) ?_
  rotate_left
  · intro _ _; go_simp; first | done | with_reducible rfl
  simp only [Act.put, List.setIfInBounds_toArray, List.set_cons_zero, List.set_cons_succ]
  refine wpAnyH_take (i := 5) (oi := { dst := some 8, op := .load 3 (.tmp 7), type := 3, pos := "forms.go:216", after := #[{ on := 4, ground := .data }], guard := none }) (v := ?_) rfl (by kernel_rfl) (by kernel_rfl) (by kernel_rfl) (fun _ _ _ h => h) (Or.inl ⟨by rfl, ?_⟩) (by assumption) ?_
  rotate_left
  · intro _ _; go_simp; first | done | with_reducible rfl
  simp only [Act.put, List.setIfInBounds_toArray, List.set_cons_zero, List.set_cons_succ]
  refine wpAnyH_ready (rs := [0]) (by kernel_rfl) (by simp) ?_
  refine AllReadyH.cons (o := { dst := some 3, op := .buildSlice 26 0 #[], type := 26, pos := "forms.go:216", after := #[], guard := none }) rfl (fun K hK => ?_) AllReadyH.nil
  go_simp
  have h2 : Below w1.heap.size w1 (w1.drew.alloc (.cells #[] 5)) := (Below.refl _ w1).drew.alloc (Nat.le_refl _) _; have HO2 : Hid (OwnB (w1.drew.alloc (.cells #[] 5)) w1.heap.size (.slice (some ⟨w1.heap.size, 0, none⟩) 0 0) []) := OwnB.lit w1.drew [] (by simp)
  go_simp
  refine hK.out _ _ (HS.out _ h2) (fun hHeld => ?_)
  clear hK K
  refine wpAnyH_ready (rs := [3]) (by kernel_rfl) (by simp) ?_
  refine AllReadyH.cons (o := { dst := some 6, op := .call { callee := .builtin Go.Builtin.append, args := #[.tmp 3, .tmp 5], argTypes := #[26, 26] }, type := 26, pos := "forms.go:216", after := #[{ on := 0, ground := .data }, { on := 2, ground := .data }], guard := none }) rfl (fun K hK => ?_) AllReadyH.nil
  refine step_append_b rfl _ _ rfl w1.heap.size _ [] rfl HO2.out _ p.tx rfl (HSRC.out _ h2) (by rw [p.len]; simp) h2.size ?_; intro v3 w3 HO3 HG3 HM3; obtain ⟨a3, n3, cap3, rfl⟩ := HO3.out.any; have h3 : Below w1.heap.size w1 w3 := h2.grown HG3.out h2.size fun k hk => (HO2.out.lt k hk).1
  simp only [Act.put, List.setIfInBounds_toArray, List.set_cons_zero, List.set_cons_succ]
  refine hK.out _ _ (HS.out _ h3) (fun hHeld => ?_)
  clear hK K
  refine wpAnyH_ready (rs := [6]) (by kernel_rfl) (by simp) ?_
  refine AllReadyH.cons (o := { dst := some 9, op := .call { callee := .value (.func 29), args := #[.tmp 8], argTypes := #[3] }, type := 26, pos := "forms.go:216", after := #[{ on := 5, ground := .data }, { on := 3, ground := .chain }], guard := none }) rfl (fun K hK => ?_) AllReadyH.nil
  go_simp
  refine (rputb_any p.n _).mono ?_; rintro e w4 ⟨pv, rfl, ho4, hb4⟩; have HO4 : Hid (OwnB w4 w3.heap.size pv (numB p.n)) := ho4; have HO34 : Hid (OwnB w4 w1.heap.size (.slice a3 n3 cap3) ([] ++ p.tx)) := HO3.out.below hb4; have h4 : Below w1.heap.size w1 w4 := h3.trans (hb4.mono h3.size); clear ho4 hb4
  go_simp
  refine hK.out _ _ (HS.out _ h4) (fun hHeld => ?_)
  clear hK K
  refine wpAnyH_ready (rs := [7]) (by kernel_rfl) (by simp) ?_
  refine AllReadyH.cons (o := { dst := some 10, op := .call { callee := .builtin Go.Builtin.append, args := #[.tmp 6, .tmp 9], argTypes := #[26, 26] }, type := 26, pos := "forms.go:216", after := #[{ on := 3, ground := .data }, { on := 6, ground := .data }, { on := 6, ground := .chain }], guard := none }) rfl (fun K hK => ?_) AllReadyH.nil
  refine step_append_b rfl _ _ rfl w1.heap.size _ ([] ++ p.tx) rfl HO34.out pv (numB p.n) rfl HO4.out.src (by have := numB_length p.n; rw [List.nil_append, p.len]; omega) h4.size ?_; intro v5 w5 HO5 HG5 HM5; obtain ⟨a5, n5, cap5, rfl⟩ := HO5.out.any; have h5 : Below w1.heap.size w1 w5 := h4.grown HG5.out h4.size fun k hk => (HO34.out.lt k hk).1
  simp only [Act.put, List.setIfInBounds_toArray, List.set_cons_zero, List.set_cons_succ]
  refine hK.out _ _ (HS.out _ h5) (fun hHeld => ?_)
  clear hK K
  refine wpAnyH_take (i := 8) (oi := { dst := some 2, op := .assign (.tmp 10), type := 26, pos := "forms.go:216", after := #[{ on := 7, ground := .data }, { on := 7, ground := .chain }, { on := 0, ground := .phase }, { on := 1, ground := .phase }, { on := 2, ground := .phase }, { on := 3, ground := .phase }, { on := 4, ground := .phase }, { on := 5, ground := .phase }, { on := 6, ground := .phase }, { on := 7, ground := .phase }], guard := none }) (v := ?_) rfl (by kernel_rfl) (by kernel_rfl) (by kernel_rfl) (fun _ _ _ h => h) (Or.inl ⟨by rfl, ?_⟩) (by assumption) ?_
  rotate_left
  · intro _ _; go_simp; first | done | with_reducible rfl
  simp only [Act.put, List.setIfInBounds_toArray, List.set_cons_zero, List.set_cons_succ]
  refine wpAnyH_done (by kernel_rfl) ?_ _
  refine NoPanic.normal ?_
  clear hHeld
  go_wp2_with fail
  go_ret
  subst hN
  refine ⟨_, rfl, ?_, HB1.out.trans (h5.mono (by omega))⟩
  have := HO5.out
  rw [List.nil_append] at this
  exact this.less (by omega)
theorem six_at (s : Scr) (k : Nat) (h : k < 6) : ([.int .i64 s.kind, .int .i64 s.key, .int .i64 s.other, .int .i64 s.rev, .int .i64 s.delay, .int .i64 s.expiry] : List Value)[k]? = some (.int .i64 ([s.kind, s.key, s.other, s.rev, s.delay, s.expiry].getD k 0)) := by
  rcases (show k = 0 ∨ k = 1 ∨ k = 2 ∨ k = 3 ∨ k = 4 ∨ k = 5 by omega) with rfl | rfl | rfl | rfl | rfl | rfl <;> rfl
set_option maxRecDepth 100000 in
set_option maxHeartbeats 4000000 in
theorem rscriptb_any (s : Scr) (w : World) :
    Calls Tryz.prog 58 #[.agg s.cs.toArray] w fun e w' => ∃ v, e = .returned v ∧ OwnB w' w.heap.size v (scrB s) ∧ Below w.heap.size w w' := by
  go_enter Tryz.func58, Tryz.ntmps58
  go_upto_region 1 with fail
  generalize hw1 : World.alloc w _ = w1
  have HB1 : Hid (Below w.heap.size w w1) := by rw [← hw1]; exact (Below.refl _ _).alloc (Nat.le_refl _) _
  have HA1 : Hid (Blk w1 w.heap.size s.cs) := by rw [← hw1]; exact Blk.new _ _ _
  clear hw1
  generalize hN : w.heap.size = N at *
  have c0 : w1.cell? ⟨N, 0, none⟩ = some (.int .i64 s.kind) := HA1.out.one rfl
  have c1 : w1.cell? ⟨N, 1, none⟩ = some (.int .i64 s.key) := HA1.out.one rfl
  have c2 : w1.cell? ⟨N, 2, none⟩ = some (.int .i64 s.other) := HA1.out.one rfl
  have c3 : w1.cell? ⟨N, 3, none⟩ = some (.int .i64 s.rev) := HA1.out.one rfl
  have c4 : w1.cell? ⟨N, 4, none⟩ = some (.int .i64 s.delay) := HA1.out.one rfl
  have c5 : w1.cell? ⟨N, 5, none⟩ = some (.int .i64 s.expiry) := HA1.out.one rfl
  go_upto_region 2 with fail
  generalize hw2 : World.alloc w1 _ = w2
  have HA2 : Hid (Blk w2 N s.cs) := by rw [← hw2]; exact HA1.out.alloc _
  have HL2 : Hid (Blk w2 w1.heap.size [.int .i64 s.kind, .int .i64 s.key, .int .i64 s.other, .int .i64 s.rev, .int .i64 s.delay, .int .i64 s.expiry]) := by rw [← hw2]; exact Blk.mk _ _ _ rfl rfl
  have hs1 := HB1.out.size
  have HB2 : Hid (Below N w w2) := by rw [← hw2]; exact HB1.out.alloc (hN ▸ hs1) _
  clear hw2 c0 c1 c2 c3 c4 c5 HA1 HB1
  generalize hM : w1.heap.size = M at *
  have hs2 := HL2.out.lt
  have hs3 := HA2.out.lt
  go_wp2_with fail
  go_loopw [4, 5] (fun v i wr => ∃ k : Nat, k ≤ 6 ∧ i = .int .i64 k ∧ Hid (OwnB wr w2.heap.size v (nums ([s.kind, s.key, s.other, s.rev, s.delay, s.expiry].take k))) ∧ Hid (Below w2.heap.size w2 wr)) (fun _ i _ => 6 - (intOf i).toNat)
  case atStart => exact ⟨0, by omega, rfl, OwnB.nil _ _, Below.refl _ _⟩
  case round =>
    obtain ⟨k, hk, rfl, HOW, HBR⟩ := hrel
    have hszr := HBR.out.size
    obtain ⟨va, vn, vc, rfl⟩ := HOW.out.any
    by_cases hlt : k < 6
    · have e0 : (0 : Int) ≤ (k : Int) := by omega
      have e1 : (k : Int) < 6 := by omega
      have d0 : wr.cell? ⟨M, k, none⟩ = some (.int .i64 ([s.kind, s.key, s.other, s.rev, s.delay, s.expiry].getD k 0)) := (HL2.out.below HBR.out hs2).one (six_at s k hlt)
      have HNX : Hid (nums ([s.kind, s.key, s.other, s.rev, s.delay, s.expiry].take (k + 1)) = nums ([s.kind, s.key, s.other, s.rev, s.delay, s.expiry].take k) ++ numB ([s.kind, s.key, s.other, s.rev, s.delay, s.expiry].getD k 0)) := nums_next _ k hlt
      have hlen : (nums ([s.kind, s.key, s.other, s.rev, s.delay, s.expiry].take k)).length ≤ 54 := by
        have := nums_length ([s.kind, s.key, s.other, s.rev, s.delay, s.expiry].take k)
        rw [List.length_take] at this
        simp only [List.length_cons, List.length_nil] at this
        omega
      generalize [s.kind, s.key, s.other, s.rev, s.delay, s.expiry].getD k 0 = z at *
      generalize nums ([s.kind, s.key, s.other, s.rev, s.delay, s.expiry].take k) = bk at *
      go_wp2_with fail
      refine (rputb_any z wr).mono ?_
      rintro e w3 ⟨pv, rfl, ho3, hb3⟩
      have HO3 : Hid (OwnB w3 wr.heap.size pv (numB z)) := ho3
      have HOW3 : Hid (OwnB w3 w2.heap.size (.slice va vn vc) bk) := HOW.out.below hb3
      have HB3 : Hid (Below w2.heap.size w2 w3) := HBR.out.trans (hb3.mono hszr)
      have hs4 := HB3.out.size
      have hlz := numB_length z
      obtain ⟨pa, pn, pc, rfl⟩ := ho3.any
      clear ho3 hb3 d0 HOW HBR
      go_wp2_with (at_builtin; refine wpList_append_b rfl _ _ rfl w2.heap.size _ bk rfl HOW3.out _ (numB z) rfl HO3.out.src (by omega) hs4 ?_; intro v4 w4 HO4 HG4 HM4; obtain ⟨a4, n4, cap4, rfl⟩ := HO4.out.any)
      have HB4 : Hid (Below w2.heap.size w2 w4) := HB3.out.grown HG4.out hs4 fun k hk => (HOW3.out.lt k hk).1
      rw [← HNX.out] at HO4
      clear HG4 HM4 HOW3 HO3 HB3
      go_roundw
      case rel => exact ⟨k + 1, by omega, by go_num, HO4.out, HB4.out⟩
      case measure => simp [intOf]; omega
    · obtain rfl : k = 6 := by omega
      have HSRC : Hid (SrcB wr (.slice (some ⟨N, 6, none⟩) 32 32) s.hash) := .inr ⟨N, 6, 32, by rw [s.len], Scr.hash_at (HA2.out.below HBR.out hs3).whole⟩
      have hlen : (nums ([s.kind, s.key, s.other, s.rev, s.delay, s.expiry].take 6)).length ≤ 54 := by
        have := nums_length [s.kind, s.key, s.other, s.rev, s.delay, s.expiry]
        simpa using this
      have HOW' : Hid (OwnB wr w2.heap.size (.slice va vn vc) (nums [s.kind, s.key, s.other, s.rev, s.delay, s.expiry])) := HOW.out
      have HSB : Hid (nums [s.kind, s.key, s.other, s.rev, s.delay, s.expiry] ++ s.hash = scrB s) := show _ = _ from rfl
      have hlen' : (nums [s.kind, s.key, s.other, s.rev, s.delay, s.expiry]).length ≤ 54 := hlen
      clear HOW hlen
      generalize nums [s.kind, s.key, s.other, s.rev, s.delay, s.expiry] = bk at *
      go_wp2_with (at_builtin; refine wpList_append_b rfl _ _ rfl w2.heap.size _ bk rfl HOW'.out _ s.hash rfl HSRC.out (by rw [s.len]; omega) hszr ?_; intro v4 w4 HO4 HG4 HM4; obtain ⟨a4, n4, cap4, rfl⟩ := HO4.out.any)
      have HB4 : Hid (Below w2.heap.size w2 w4) := HBR.out.grown HG4.out hszr fun k hk => (HOW'.out.lt k hk).1
      rw [HSB.out] at HO4
      go_ret
      subst hN
      exact ⟨_, rfl, HO4.out.less (by omega), HB2.out.trans (HB4.out.mono (by omega))⟩
end Go.Proofs.YteikbpkjikacmaaGreatDoor
