/- TxLimits where the numbers are small: the walk. -/
import Derived.Test.YteikbpkjikacmaaDoorCLLim
namespace Go.Proofs.YteikbpkjikacmaaDoor
open Go.ChangeShapes Go.WideShapes Go.ChangeAt Go.RowKit

theorem wit_splice (x : In) (k key : Int) (pre : ByteArray) : In.cs ⟨x.prev, x.seq, k, key, pre⟩ = splice x.cs 34 [.int .i64 k, .int .i64 key, .string pre] := by
  unfold splice In.cs
  rw [List.take_append, List.drop_append, List.take_of_length_le (by rw [Pt.cs_length]; omega), List.drop_of_length_le (by rw [Pt.cs_length]; simp), Pt.cs_length]
  simp
theorem set_last {α : Type} (L : List α) (x y : α) : (L ++ [x]).set L.length y = L ++ [y] := by simp
theorem getD_last {α : Type} (L : List α) (x d : α) : (L ++ [x]).getD L.length d = x := by simp

theorem lim_cases (k j pr : Nat) (pl sq lk : Int) : (100 < k) ∨ (k ≤ 100 ∧ 100 < j) ∨ (k ≤ 100 ∧ j ≤ 100 ∧ k = 0) ∨ (k ≤ 100 ∧ j ≤ 100 ∧ 0 < k ∧ pl < 0) ∨ (k ≤ 100 ∧ j ≤ 100 ∧ 0 < k ∧ 0 ≤ pl ∧ 99 < pl) ∨ (k ≤ 100 ∧ j ≤ 100 ∧ 0 < k ∧ 0 ≤ pl ∧ pl ≤ 99 ∧ sq < 0) ∨ (k ≤ 100 ∧ j ≤ 100 ∧ 0 < k ∧ 0 ≤ pl ∧ pl ≤ 99 ∧ 0 ≤ sq ∧ 65535 < sq) ∨ (k ≤ 100 ∧ j ≤ 100 ∧ 0 < k ∧ 0 ≤ pl ∧ pl ≤ 99 ∧ 0 ≤ sq ∧ sq ≤ 65535 ∧ 64 < pr) ∨ (k ≤ 100 ∧ j ≤ 100 ∧ 0 < k ∧ 0 ≤ pl ∧ pl ≤ 99 ∧ 0 ≤ sq ∧ sq ≤ 65535 ∧ pr ≤ 64 ∧ lk < 0) ∨ (k ≤ 100 ∧ j ≤ 100 ∧ 0 < k ∧ 0 ≤ pl ∧ pl ≤ 99 ∧ 0 ≤ sq ∧ sq ≤ 65535 ∧ pr ≤ 64 ∧ 0 ≤ lk ∧ 1000000 < lk) ∨ (k = 100 ∧ j ≤ 100 ∧ 0 < k ∧ 0 ≤ pl ∧ pl ≤ 99 ∧ 0 ≤ sq ∧ sq ≤ 65535 ∧ pr ≤ 64 ∧ 0 ≤ lk ∧ lk ≤ 1000000) ∨ (k < 100 ∧ j ≤ 100 ∧ 0 < k ∧ 0 ≤ pl ∧ pl ≤ 99 ∧ 0 ≤ sq ∧ sq ≤ 65535 ∧ pr ≤ 64 ∧ 0 ≤ lk ∧ lk ≤ 1000000) := by
  by_cases c0 : 100 < k
  · exact .inl (by omega)
  by_cases c1 : 100 < j
  · exact .inr (.inl ⟨by omega, by omega⟩)
  by_cases c2 : k = 0
  · exact .inr (.inr (.inl ⟨by omega, by omega, by omega⟩))
  by_cases c3 : pl < 0
  · exact .inr (.inr (.inr (.inl ⟨by omega, by omega, by omega, by omega⟩)))
  by_cases c4 : 99 < pl
  · exact .inr (.inr (.inr (.inr (.inl ⟨by omega, by omega, by omega, by omega, by omega⟩))))
  by_cases c5 : sq < 0
  · exact .inr (.inr (.inr (.inr (.inr (.inl ⟨by omega, by omega, by omega, by omega, by omega, by omega⟩)))))
  by_cases c6 : 65535 < sq
  · exact .inr (.inr (.inr (.inr (.inr (.inr (.inl ⟨by omega, by omega, by omega, by omega, by omega, by omega, by omega⟩))))))
  by_cases c7 : 64 < pr
  · exact .inr (.inr (.inr (.inr (.inr (.inr (.inr (.inl ⟨by omega, by omega, by omega, by omega, by omega, by omega, by omega, by omega⟩)))))))
  by_cases c8 : lk < 0
  · exact .inr (.inr (.inr (.inr (.inr (.inr (.inr (.inr (.inl ⟨by omega, by omega, by omega, by omega, by omega, by omega, by omega, by omega, by omega⟩))))))))
  by_cases c9 : 1000000 < lk
  · exact .inr (.inr (.inr (.inr (.inr (.inr (.inr (.inr (.inr (.inl ⟨by omega, by omega, by omega, by omega, by omega, by omega, by omega, by omega, by omega, by omega⟩)))))))))
  by_cases c10 : k = 100
  · exact .inr (.inr (.inr (.inr (.inr (.inr (.inr (.inr (.inr (.inr (.inl ⟨by omega, by omega, by omega, by omega, by omega, by omega, by omega, by omega, by omega, by omega⟩))))))))))
  exact .inr (.inr (.inr (.inr (.inr (.inr (.inr (.inr (.inr (.inr (.inr ⟨by omega, by omega, by omega, by omega, by omega, by omega, by omega, by omega, by omega, by omega⟩))))))))))

set_option maxRecDepth 100000 in
set_option maxHeartbeats 8000000 in
theorem limits_in (n m pr : Nat) (sq pl lk : Int) (w : World) (hK : Kw w) (hn : n ≤ 102) (hm : m ≤ 102) (hpr : pr ≤ 70) :
    Calls Tryd.prog 6 #[.int .i64 n, .int .i64 m, .int .i64 sq, .int .i64 pl, .int .i64 lk, .int .i64 pr] w fun e w' => e = .returned (.bool true) ∧ Below w.heap.size w w' := by
  have HK : Hid (Kw w) := hK
  have hpos := hK.pos
  have HMO := follows_mixed
  obtain ⟨dI, HDI, HRI⟩ := und_in
  clear hK
  go_enter Tryd.func6, Tryd.ntmps6
  go_upto_region 5 with fail
  generalize hwv : World.alloc w _ = w1
  have HB1 : Hid (Blk w1 w.heap.size [.slice none 0 0, .slice none 0 0, .int .i64 0]) := by rw [← hwv]; exact Blk.mk _ _ _ rfl rfl
  have HBL : Hid (Below w.heap.size w w1) := by rw [← hwv]; exact (Below.refl _ _).alloc (Nat.le_refl _) _
  have hs1 : w.heap.size + 1 ≤ w1.heap.size := by rw [← hwv]; simp
  clear hwv
  generalize hN : w.heap.size = T at *
  go_loopw [14] (fun i wr => ∃ (k : Nat) (L : List In) (v : Value), k ≤ n ∧ i = .int .i64 k ∧ L.length = k ∧ Hid (Fits pl sq pr L) ∧ Hid (Blk wr T [v, .slice none 0 0, .int .i64 0]) ∧ Hid (OwnE 46 wr (T + 1) v L) ∧ Hid (KeepN T (T + 1) w1 wr)) (fun i _ => n - (intOf i).toNat)
  case atStart => exact ⟨0, [], .slice none 0 0, by omega, rfl, rfl, fun j hj => absurd hj (Nat.not_lt_zero _), HB1.out, OwnE.nil _ _, KeepN.refl _ _ _⟩
  case round =>
    obtain ⟨k, L, v, hk, rfl, hL, HF, HB, HO, HKP⟩ := hrel
    clear HB1
    by_cases hlt : k < n
    · have e1 : (k : Int) < (n : Int) := by omega
      have hsr := HKP.out.size
      go_upto_region 7 with fail
      have hc0 : wr.cell? ⟨T, 0, none⟩ = some v := HB.out.one rfl
      have HBd : Hid (Blk wr.drew T [v, .slice none 0 0, .int .i64 0]) := HB.out.drew
      have HOd : Hid (OwnE 46 wr.drew (T + 1) v L) := HO.out.below (Below.refl _ _).drew
      have hb5 := built_ptK k pl
      have hb8 := built_inK k pl sq
      obtain ⟨p, hp⟩ : ∃ p, ptK k pl = p := ⟨_, rfl⟩
      rw [hp] at hb5 hb8
      obtain ⟨x, hx⟩ : ∃ x : In, ⟨p, sq, 1, 0, ByteArray.empty⟩ = x := ⟨_, rfl⟩
      rw [hx] at hb8
      have HX : Hid (x.prev = ⟨nameB k, pl, nameB_length k⟩ ∧ x.seq = sq ∧ x.kind = 1 ∧ x.key = 0 ∧ x.pre = ByteArray.empty) := by
        subst hx; subst hp; exact ⟨rfl, rfl, rfl, rfl, rfl⟩
      clear hp hx
      refine wp_region_noPanic ?_
      refine wp_region_held_drew (S := fun _ => True) HMO.out (trivial) (fun hHeld => ?_)
      refine wpAnyH_take (i := 0) (oi := { dst := some 45, op := .fieldAddr 25 (.tmp 13) 0, type := 0, pos := "law.go:93", after := #[], guard := none }) (v := ?_) rfl (by kernel_rfl) (by kernel_rfl) (by kernel_rfl) (fun _ _ _ h => h) (Or.inl ⟨by rfl, ?_⟩) (by assumption) ?_
      rotate_left
      · intro _ _; go_simp; first | done | with_reducible rfl
      simp only [Act.put, List.setIfInBounds_toArray, List.set_cons_zero, List.set_cons_succ]
      refine wpAnyH_take (i := 2) (oi := { dst := some 47, op := .move (.tmp 14), type := 3, pos := "law.go:93", after := #[], guard := none }) (v := ?_) rfl (by kernel_rfl) (by kernel_rfl) (by kernel_rfl) (fun _ _ _ h => h) (Or.inl ⟨by rfl, ?_⟩) (by assumption) ?_
      rotate_left
      · intro _ _; go_simp; first | done | with_reducible rfl
      simp only [Act.put, List.setIfInBounds_toArray, List.set_cons_zero, List.set_cons_succ]
      refine wpAnyH_take (i := 4) (oi := { dst := some 49, op := .move (.tmp 3), type := 3, pos := "law.go:93", after := #[], guard := none }) (v := ?_) rfl (by kernel_rfl) (by kernel_rfl) (by kernel_rfl) (fun _ _ _ h => h) (Or.inl ⟨by rfl, ?_⟩) (by assumption) ?_
      rotate_left
      · intro _ _; go_simp; first | done | with_reducible rfl
      simp only [Act.put, List.setIfInBounds_toArray, List.set_cons_zero, List.set_cons_succ]
      refine wpAnyH_take (i := 6) (oi := { dst := some 51, op := .move (.tmp 2), type := 3, pos := "law.go:93", after := #[], guard := none }) (v := ?_) rfl (by kernel_rfl) (by kernel_rfl) (by kernel_rfl) (fun _ _ _ h => h) (Or.inl ⟨by rfl, ?_⟩) (by assumption) ?_
      rotate_left
      · intro _ _; go_simp; first | done | with_reducible rfl
      simp only [Act.put, List.setIfInBounds_toArray, List.set_cons_zero, List.set_cons_succ]
      refine wpAnyH_take (i := 7) (oi := { dst := some 52, op := .build 42 #[(0, .const (.int .i64 1))], type := 42, pos := "law.go:93", after := #[], guard := none }) (v := ?_) rfl (by kernel_rfl) (by kernel_rfl) (by kernel_rfl) (fun _ _ _ h => h) (Or.inl ⟨by rfl, ?_⟩) (by assumption) ?_
      rotate_left
      · intro _ _; go_simp; first | done | with_reducible rfl
      simp only [Act.put, List.setIfInBounds_toArray, List.set_cons_zero, List.set_cons_succ]
      refine wpAnyH_ready (rs := [1, 3]) (by kernel_rfl) (by simp) ?_
      refine (AllReadyH.cons (o := { dst := some 46, op := .load 22 (.tmp 45), type := 22, pos := "law.go:93", after := #[{ on := 0, ground := .data }], guard := none }) rfl (fun K hK => ?_) (AllReadyH.cons (o := { dst := some 48, op := .call { callee := .value (.func 19), args := #[.tmp 47], argTypes := #[3] }, type := 34, pos := "law.go:93", after := #[{ on := 2, ground := .data }], guard := none }) rfl (fun K hK => ?_) AllReadyH.nil))
      · go_simp
        skip
        go_simp
        refine hK.out _ _ (trivial) (fun hHeld => ?_)
        clear hK K
        refine wpAnyH_ready (rs := [3]) (by kernel_rfl) (by simp) ?_
        refine AllReadyH.cons (o := { dst := some 48, op := .call { callee := .value (.func 19), args := #[.tmp 47], argTypes := #[3] }, type := 34, pos := "law.go:93", after := #[{ on := 2, ground := .data }], guard := none }) rfl (fun K hK => ?_) AllReadyH.nil
        go_simp
        refine (name_any k _ (by omega)).mono ?_; rintro e w2 ⟨rfl, hb2⟩; have HB2 : Hid (Blk w2 T [v, .slice none 0 0, .int .i64 0]) := HBd.out.below hb2 HBd.out.lt; have HO2 : Hid (OwnE 46 w2 (T + 1) v L) := HOd.out.below hb2; have HKP2 : Hid (KeepN T (T + 1) w1 w2) := HKP.out.trans (KeepN.of_below (((Below.refl _ wr).drew.trans hb2).mono (by show T + 1 ≤ wr.heap.size; omega))); have hs2 := HKP2.out.size; clear hb2
        go_simp
        refine hK.out _ _ (trivial) (fun hHeld => ?_)
        clear hK K
        refine wpAnyH_take (i := 5) (oi := { dst := some 50, op := .build 44 #[(0, .tmp 48), (1, .tmp 49)], type := 44, pos := "law.go:93", after := #[{ on := 3, ground := .data }, { on := 4, ground := .data }], guard := none }) (v := .agg p.cs.toArray) rfl (by kernel_rfl) (by kernel_rfl) (by kernel_rfl) (fun _ _ _ h => h) (Or.inl ⟨by rfl, ?_⟩) (by assumption) ?_
        · intro _ _; exact exec_build 44 _ rfl _ _ hb5 (by rw [Array.toList_map]; rfl) _
        simp only [Act.put, List.setIfInBounds_toArray, List.set_cons_zero, List.set_cons_succ]
        refine wpAnyH_take (i := 8) (oi := { dst := some 53, op := .build 46 #[(0, .tmp 50), (1, .tmp 51), (2, .tmp 52)], type := 46, pos := "law.go:93", after := #[{ on := 5, ground := .data }, { on := 6, ground := .data }, { on := 7, ground := .data }], guard := none }) (v := .agg x.cs.toArray) rfl (by kernel_rfl) (by kernel_rfl) (by kernel_rfl) (fun _ _ _ h => h) (Or.inl ⟨by rfl, ?_⟩) (by assumption) ?_
        · intro _ _; exact exec_build 46 _ rfl _ _ hb8 (by rw [Array.toList_map]; rfl) _
        simp only [Act.put, List.setIfInBounds_toArray, List.set_cons_zero, List.set_cons_succ]
        refine wpAnyH_ready (rs := [9]) (by kernel_rfl) (by simp) ?_
        refine AllReadyH.cons (o := { dst := some 54, op := .buildSlice 22 1 #[(0, .tmp 53)], type := 22, pos := "law.go:93", after := #[{ on := 8, ground := .data }], guard := none }) rfl (fun K hK => ?_) AllReadyH.nil
        refine step_build_one elIn rfl _ rfl x rfl ?_; intro w3 HE3 Hb3; have HB3 : Hid (Blk w3 T [v, .slice none 0 0, .int .i64 0]) := HB2.out.below Hb3.out HB2.out.lt; have HO3 : Hid (OwnE 46 w3 (T + 1) v L) := HO2.out.below Hb3.out; have hs3 := Hb3.out.size; have HKP3 : Hid (KeepN T (T + 1) w1 w3) := HKP2.out.trans (KeepN.of_below (Hb3.out.mono (by omega)))
        simp only [Act.put, List.setIfInBounds_toArray, List.set_cons_zero, List.set_cons_succ]
        refine hK.out _ _ (trivial) (fun hHeld => ?_)
        clear hK K
        refine wpAnyH_ready (rs := [10]) (by kernel_rfl) (by simp) ?_
        refine AllReadyH.cons (o := { dst := some 55, op := .call { callee := .builtin Go.Builtin.append, args := #[.tmp 46, .tmp 54], argTypes := #[22, 22] }, type := 22, pos := "law.go:93", after := #[{ on := 1, ground := .data }, { on := 9, ground := .data }, { on := 3, ground := .chain }], guard := none }) rfl (fun K hK => ?_) AllReadyH.nil
        refine step_append_e elIn rfl _ _ rfl (T + 1) v L rfl HO3.out _ 1 1 [x] rfl HE3.out (by omega) (by omega) ?_; intro v4 w4 HO4 HG4 HM4; obtain ⟨g4, n4, cap4, rfl, hn4, hg4⟩ := HO4.out.led (by simp); obtain rfl : n4 = k + 1 := (by rw [hn4]; simp [hL]); clear hn4; obtain ⟨hc4, hf4⟩ := hold_cell (i := 0) HB3.out (fun k hk => (HO3.out.lt k hk).1) (by omega) HG4.out rfl
        simp only [Act.put, List.setIfInBounds_toArray, List.set_cons_zero, List.set_cons_succ]
        refine hK.out _ _ (trivial) (fun hHeld => ?_)
        clear hK K
        refine wpAnyH_take (i := 11) (oi := { dst := some 56, op := .fieldAddr 25 (.tmp 13) 0, type := 0, pos := "law.go:93", after := #[{ on := 0, ground := .phase }, { on := 1, ground := .phase }, { on := 2, ground := .phase }, { on := 3, ground := .phase }, { on := 4, ground := .phase }, { on := 5, ground := .phase }, { on := 6, ground := .phase }, { on := 7, ground := .phase }, { on := 8, ground := .phase }, { on := 9, ground := .phase }, { on := 10, ground := .phase }], guard := none }) (v := ?_) rfl (by kernel_rfl) (by kernel_rfl) (by kernel_rfl) (fun _ _ _ h => h) (Or.inl ⟨by rfl, ?_⟩) (by assumption) ?_
        rotate_left
        · intro _ _; go_simp; first | done | with_reducible rfl
        simp only [Act.put, List.setIfInBounds_toArray, List.set_cons_zero, List.set_cons_succ]
        refine wpAnyH_ready (rs := [12]) (by kernel_rfl) (by simp) ?_
        refine AllReadyH.cons (o := { dst := none, op := .store 22 (.tmp 56) (.tmp 55), type := 0, pos := "law.go:93", after := #[{ on := 11, ground := .data }, { on := 10, ground := .data }, { on := 10, ground := .chain }, { on := 0, ground := .phase }, { on := 1, ground := .phase }, { on := 2, ground := .phase }, { on := 3, ground := .phase }, { on := 4, ground := .phase }, { on := 5, ground := .phase }, { on := 6, ground := .phase }, { on := 7, ground := .phase }, { on := 8, ground := .phase }, { on := 9, ground := .phase }, { on := 10, ground := .phase }], guard := none }) rfl (fun K hK => ?_) AllReadyH.nil
        go_simp
        skip
        go_simp
        refine hK.out _ _ (trivial) (fun hHeld => ?_)
        clear hK K
        refine wpAnyH_done (by kernel_rfl) ?_ _
        refine NoPanic.normal ?_
        obtain ⟨HB5, HO5, HK5⟩ := hold_store (i := 0) HB3.out (fun k hk => (HO3.out.lt k hk).1) (show T < T + 1 by omega) (by omega) HO4.out HG4.out
        have HB6 : Hid (Blk _ T [.slice (some ⟨g4, 0, none⟩) (k + 1) cap4, .slice none 0 0, .int .i64 0]) := HB5
        have HO6 : Hid (OwnE 46 _ (T + 1) (.slice (some ⟨g4, 0, none⟩) (k + 1) cap4) (L ++ [x])) := HO5
        have HKP6 : Hid (KeepN T (T + 1) w1 _) := HKP3.out.trans HK5
        clear HB5 HO5 HK5 hHeld hc4 hf4 HB3 HO3 HKP3 HE3 Hb3 HB2 HO2 HKP2 HBd HOd HG4 HM4 HO4 hb5 hb8 hc0
        generalize World.setCell w4 _ _ = w5 at *
        by_cases hp0 : 0 < pr
        · have hs5 := HKP6.out.size
          have hpi : (0 : Int) < (pr : Int) := by omega
          go_upto_region 9 with fail
          have hc0 : w5.cell? ⟨T, 0, none⟩ = some (.slice (some ⟨g4, 0, none⟩) (k + 1) cap4) := HB6.out.one rfl
          have e0 : (0 : Int) ≤ (k : Int) := by omega
          have e2 : (k : Int) < ((k + 1 : Nat) : Int) := by omega
          have e3 : (k : Int) < (k : Int) + 1 := by omega
          refine wp_region_noPanic ?_
          refine wp_region_held_drew (S := fun _ => True) HMO.out (trivial) (fun hHeld => ?_)
          refine wpAnyH_take (i := 0) (oi := { dst := some 59, op := .fieldAddr 25 (.tmp 13) 0, type := 0, pos := "law.go:95", after := #[], guard := none }) (v := ?_) rfl (by kernel_rfl) (by kernel_rfl) (by kernel_rfl) (fun _ _ _ h => h) (Or.inl ⟨by rfl, ?_⟩) (by assumption) ?_
          rotate_left
          · intro _ _; go_simp; first | done | with_reducible rfl
          simp only [Act.put, List.setIfInBounds_toArray, List.set_cons_zero, List.set_cons_succ]
          refine wpAnyH_take (i := 2) (oi := { dst := some 61, op := .move (.tmp 14), type := 3, pos := "law.go:95", after := #[], guard := none }) (v := ?_) rfl (by kernel_rfl) (by kernel_rfl) (by kernel_rfl) (fun _ _ _ h => h) (Or.inl ⟨by rfl, ?_⟩) (by assumption) ?_
          rotate_left
          · intro _ _; go_simp; first | done | with_reducible rfl
          simp only [Act.put, List.setIfInBounds_toArray, List.set_cons_zero, List.set_cons_succ]
          refine wpAnyH_take (i := 3) (oi := { dst := some 62, op := .move (.tmp 5), type := 3, pos := "law.go:95", after := #[], guard := none }) (v := ?_) rfl (by kernel_rfl) (by kernel_rfl) (by kernel_rfl) (fun _ _ _ h => h) (Or.inl ⟨by rfl, ?_⟩) (by assumption) ?_
          rotate_left
          · intro _ _; go_simp; first | done | with_reducible rfl
          simp only [Act.put, List.setIfInBounds_toArray, List.set_cons_zero, List.set_cons_succ]
          refine wpAnyH_take (i := 4) (oi := { dst := some 63, op := .move (.tmp 14), type := 3, pos := "law.go:95", after := #[], guard := none }) (v := ?_) rfl (by kernel_rfl) (by kernel_rfl) (by kernel_rfl) (fun _ _ _ h => h) (Or.inl ⟨by rfl, ?_⟩) (by assumption) ?_
          rotate_left
          · intro _ _; go_simp; first | done | with_reducible rfl
          simp only [Act.put, List.setIfInBounds_toArray, List.set_cons_zero, List.set_cons_succ]
          refine wpAnyH_ready (rs := [1, 5]) (by kernel_rfl) (by simp) ?_
          refine (AllReadyH.cons (o := { dst := some 60, op := .load 22 (.tmp 59), type := 22, pos := "law.go:95", after := #[{ on := 0, ground := .data }], guard := none }) rfl (fun K hK => ?_) (AllReadyH.cons (o := { dst := some 64, op := .call { callee := .value (.func 20), args := #[.tmp 62, .tmp 63], argTypes := #[3, 3] }, type := 9, pos := "law.go:95", after := #[{ on := 3, ground := .data }, { on := 4, ground := .data }], guard := none }) rfl (fun K hK => ?_) AllReadyH.nil))
          · go_simp
            skip
            go_simp
            refine hK.out _ _ (trivial) (fun hHeld => ?_)
            clear hK K
            refine wpAnyH_ready (rs := [5]) (by kernel_rfl) (by simp) ?_
            refine AllReadyH.cons (o := { dst := some 64, op := .call { callee := .value (.func 20), args := #[.tmp 62, .tmp 63], argTypes := #[3, 3] }, type := 9, pos := "law.go:95", after := #[{ on := 3, ground := .data }, { on := 4, ground := .data }], guard := none }) rfl (fun K hK => ?_) AllReadyH.nil
            go_simp
            refine (letters_any pr k _ (by omega) (by omega)).mono ?_; rintro e w6 ⟨⟨ls, rfl, hls⟩, hb6⟩; have HB7 : Hid (Blk w6 T _) := HB6.out.drew.below hb6 HB6.out.lt; have HO7 : Hid (OwnE 46 w6 (T + 1) (.slice (some ⟨g4, 0, none⟩) (k + 1) cap4) (L ++ [x])) := (HO6.out.below (Below.refl _ _).drew).below hb6; have HKP7 : Hid (KeepN T (T + 1) w1 w6) := HKP6.out.trans (KeepN.of_below (((Below.refl _ w5).drew.trans hb6).mono (by show T + 1 ≤ w5.heap.size; omega))); have hxk : (L ++ [x]).getD k El.dflt = x := (by rw [← hL]; exact getD_last L x _); have hkl : k < (L ++ [x]).length := (by rw [List.length_append, hL]; simp); have HTH : Hid (w6.there g4 (k * 37 + 34) 3) := HO7.out.thereAt hkl 34 3 (by show 34 + 3 ≤ 37; omega); have HLS : Hid (ls.size = pr) := hls; have HXK : Hid _ := hxk; have HKL : Hid _ := hkl; clear hb6 hls hxk hkl
            go_simp
            refine hK.out _ _ (trivial) (fun hHeld => ?_)
            clear hK K
            refine wpAnyH_take (i := 6) (oi := { dst := some 65, op := .build 42 #[(0, .const (.int .i64 2)), (2, .tmp 64)], type := 42, pos := "law.go:95", after := #[{ on := 5, ground := .data }], guard := none }) (v := ?_) rfl (by kernel_rfl) (by kernel_rfl) (by kernel_rfl) (fun _ _ _ h => h) (Or.inl ⟨by rfl, ?_⟩) (by assumption) ?_
            rotate_left
            · intro _ _; go_simp; first | done | with_reducible rfl
            simp only [Act.put, List.setIfInBounds_toArray, List.set_cons_zero, List.set_cons_succ]
            refine wpAnyH_take (i := 7) (oi := { dst := some 66, op := .indexAddr 22 (.tmp 60) (.tmp 61), type := 0, pos := "law.go:95", after := #[{ on := 1, ground := .data }, { on := 2, ground := .data }, { on := 0, ground := .phase }, { on := 1, ground := .phase }, { on := 2, ground := .phase }, { on := 3, ground := .phase }, { on := 4, ground := .phase }, { on := 5, ground := .phase }, { on := 6, ground := .phase }], guard := none }) (v := ?_) rfl (by kernel_rfl) (by kernel_rfl) (by kernel_rfl) (fun _ _ _ h => h) (Or.inl ⟨by rfl, ?_⟩) (by assumption) ?_
            rotate_left
            · intro _ _; go_simp; first | done | with_reducible rfl
            simp only [Act.put, List.setIfInBounds_toArray, List.set_cons_zero, List.set_cons_succ]
            refine wpAnyH_take (i := 8) (oi := { dst := some 67, op := .fieldAddr 46 (.tmp 66) 2, type := 0, pos := "law.go:95", after := #[{ on := 7, ground := .data }, { on := 0, ground := .phase }, { on := 1, ground := .phase }, { on := 2, ground := .phase }, { on := 3, ground := .phase }, { on := 4, ground := .phase }, { on := 5, ground := .phase }, { on := 6, ground := .phase }], guard := none }) (v := ?_) rfl (by kernel_rfl) (by kernel_rfl) (by kernel_rfl) (fun _ _ _ h => h) (Or.inl ⟨by rfl, ?_⟩) (by assumption) ?_
            rotate_left
            · intro _ _; go_simp; first | done | with_reducible rfl
            simp only [Act.put, List.setIfInBounds_toArray, List.set_cons_zero, List.set_cons_succ]
            refine wpAnyH_ready (rs := [9]) (by kernel_rfl) (by simp) ?_
            refine AllReadyH.cons (o := { dst := none, op := .store 42 (.tmp 67) (.tmp 65), type := 0, pos := "law.go:95", after := #[{ on := 8, ground := .data }, { on := 6, ground := .data }, { on := 5, ground := .chain }, { on := 0, ground := .phase }, { on := 1, ground := .phase }, { on := 2, ground := .phase }, { on := 3, ground := .phase }, { on := 4, ground := .phase }, { on := 5, ground := .phase }, { on := 6, ground := .phase }], guard := none }) rfl (fun K hK => ?_) AllReadyH.nil
            refine step_store_mid rfl 42 _ _ rfl g4 (k * 37 + 34) [.int .i64 2, .int .i64 0, .string ls] rfl rfl HTH.out (by kernel_rfl) (by intro v hv; simp only [List.mem_cons, List.not_mem_nil, or_false] at hv; rcases hv with rfl | rfl | rfl <;> rfl) ?_
            simp only [Act.put]
            refine hK.out _ _ (trivial) (fun hHeld => ?_)
            clear hK K
            refine wpAnyH_done (by kernel_rfl) ?_ _
            refine NoPanic.normal ?_
            have HO8 : Hid (OwnE 46 (w6.setCells g4 (k * 37 + 34) [.int .i64 2, .int .i64 0, .string ls]) (T + 1) (.slice (some ⟨g4, 0, none⟩) (k + 1) cap4) ((L ++ [x]).set k ⟨x.prev, x.seq, 2, 0, ls⟩)) := HO7.out.setPart k 34 _ _ HKL.out (by show 34 + 3 ≤ 37; omega) (by rw [HXK.out]; exact wit_splice x 2 0 ls)
            have HBW : Hid (Below (T + 1) w6 (w6.setCells g4 (k * 37 + 34) [.int .i64 2, .int .i64 0, .string ls])) := below_setCells hg4 _ (Below.refl _ _) _
            have HB8 : Hid (Blk (w6.setCells g4 (k * 37 + 34) [.int .i64 2, .int .i64 0, .string ls]) T _) := HB7.out.below HBW.out (by omega)
            have HKP8 : Hid (KeepN T (T + 1) w1 (w6.setCells g4 (k * 37 + 34) [.int .i64 2, .int .i64 0, .string ls])) := HKP7.out.trans (KeepN.of_below HBW.out)
            have HF8 : Hid (Fits pl sq pr (L ++ [⟨x.prev, x.seq, 2, 0, ls⟩])) := HF.out.next (by obtain ⟨h1, h2, h3, h4, h5⟩ := HX.out; exact ⟨by rw [hL]; exact h1, h2, rfl, HLS.out, by rw [if_pos hp0]⟩)
            rw [show (L ++ [x]).set k ⟨x.prev, x.seq, 2, 0, ls⟩ = L ++ [⟨x.prev, x.seq, 2, 0, ls⟩] by rw [← hL]; exact set_last L x _] at HO8
            clear hHeld HO7 HB7 HKP7 HBW HTH
            generalize w6.setCells g4 (k * 37 + 34) [.int .i64 2, .int .i64 0, .string ls] = w8 at *
            go_wp2_with fail
            go_roundw
            case rel => exact ⟨k + 1, L ++ [(⟨x.prev, x.seq, 2, 0, ls⟩ : In)], _, by omega, by go_num, by simp [hL], HF8.out, HB8.out, HO8.out, HKP8.out⟩
            case measure => simp [intOf]; omega
          · go_simp
            refine (letters_any pr k _ (by omega) (by omega)).mono ?_; rintro e w6 ⟨⟨ls, rfl, hls⟩, hb6⟩; have HB7 : Hid (Blk w6 T _) := HB6.out.drew.below hb6 HB6.out.lt; have HO7 : Hid (OwnE 46 w6 (T + 1) (.slice (some ⟨g4, 0, none⟩) (k + 1) cap4) (L ++ [x])) := (HO6.out.below (Below.refl _ _).drew).below hb6; have HKP7 : Hid (KeepN T (T + 1) w1 w6) := HKP6.out.trans (KeepN.of_below (((Below.refl _ w5).drew.trans hb6).mono (by show T + 1 ≤ w5.heap.size; omega))); have hxk : (L ++ [x]).getD k El.dflt = x := (by rw [← hL]; exact getD_last L x _); have hkl : k < (L ++ [x]).length := (by rw [List.length_append, hL]; simp); have HTH : Hid (w6.there g4 (k * 37 + 34) 3) := HO7.out.thereAt hkl 34 3 (by show 34 + 3 ≤ 37; omega); have HLS : Hid (ls.size = pr) := hls; have HXK : Hid _ := hxk; have HKL : Hid _ := hkl; clear hb6 hls hxk hkl; have hc6 : w6.cell? ⟨T, 0, none⟩ = some (.slice (some ⟨g4, 0, none⟩) (k + 1) cap4) := HB7.out.one rfl
            go_simp
            refine hK.out _ _ (trivial) (fun hHeld => ?_)
            clear hK K
            refine wpAnyH_take (i := 6) (oi := { dst := some 65, op := .build 42 #[(0, .const (.int .i64 2)), (2, .tmp 64)], type := 42, pos := "law.go:95", after := #[{ on := 5, ground := .data }], guard := none }) (v := ?_) rfl (by kernel_rfl) (by kernel_rfl) (by kernel_rfl) (fun _ _ _ h => h) (Or.inl ⟨by rfl, ?_⟩) (by assumption) ?_
            rotate_left
            · intro _ _; go_simp; first | done | with_reducible rfl
            simp only [Act.put, List.setIfInBounds_toArray, List.set_cons_zero, List.set_cons_succ]
            refine wpAnyH_ready (rs := [1]) (by kernel_rfl) (by simp) ?_
            refine AllReadyH.cons (o := { dst := some 60, op := .load 22 (.tmp 59), type := 22, pos := "law.go:95", after := #[{ on := 0, ground := .data }], guard := none }) rfl (fun K hK => ?_) AllReadyH.nil
            go_simp
            skip
            go_simp
            refine hK.out _ _ (trivial) (fun hHeld => ?_)
            clear hK K
            refine wpAnyH_take (i := 7) (oi := { dst := some 66, op := .indexAddr 22 (.tmp 60) (.tmp 61), type := 0, pos := "law.go:95", after := #[{ on := 1, ground := .data }, { on := 2, ground := .data }, { on := 0, ground := .phase }, { on := 1, ground := .phase }, { on := 2, ground := .phase }, { on := 3, ground := .phase }, { on := 4, ground := .phase }, { on := 5, ground := .phase }, { on := 6, ground := .phase }], guard := none }) (v := ?_) rfl (by kernel_rfl) (by kernel_rfl) (by kernel_rfl) (fun _ _ _ h => h) (Or.inl ⟨by rfl, ?_⟩) (by assumption) ?_
            rotate_left
            · intro _ _; go_simp; first | done | with_reducible rfl
            simp only [Act.put, List.setIfInBounds_toArray, List.set_cons_zero, List.set_cons_succ]
            refine wpAnyH_take (i := 8) (oi := { dst := some 67, op := .fieldAddr 46 (.tmp 66) 2, type := 0, pos := "law.go:95", after := #[{ on := 7, ground := .data }, { on := 0, ground := .phase }, { on := 1, ground := .phase }, { on := 2, ground := .phase }, { on := 3, ground := .phase }, { on := 4, ground := .phase }, { on := 5, ground := .phase }, { on := 6, ground := .phase }], guard := none }) (v := ?_) rfl (by kernel_rfl) (by kernel_rfl) (by kernel_rfl) (fun _ _ _ h => h) (Or.inl ⟨by rfl, ?_⟩) (by assumption) ?_
            rotate_left
            · intro _ _; go_simp; first | done | with_reducible rfl
            simp only [Act.put, List.setIfInBounds_toArray, List.set_cons_zero, List.set_cons_succ]
            refine wpAnyH_ready (rs := [9]) (by kernel_rfl) (by simp) ?_
            refine AllReadyH.cons (o := { dst := none, op := .store 42 (.tmp 67) (.tmp 65), type := 0, pos := "law.go:95", after := #[{ on := 8, ground := .data }, { on := 6, ground := .data }, { on := 5, ground := .chain }, { on := 0, ground := .phase }, { on := 1, ground := .phase }, { on := 2, ground := .phase }, { on := 3, ground := .phase }, { on := 4, ground := .phase }, { on := 5, ground := .phase }, { on := 6, ground := .phase }], guard := none }) rfl (fun K hK => ?_) AllReadyH.nil
            refine step_store_mid rfl 42 _ _ rfl g4 (k * 37 + 34) [.int .i64 2, .int .i64 0, .string ls] rfl rfl HTH.out (by kernel_rfl) (by intro v hv; simp only [List.mem_cons, List.not_mem_nil, or_false] at hv; rcases hv with rfl | rfl | rfl <;> rfl) ?_
            simp only [Act.put]
            refine hK.out _ _ (trivial) (fun hHeld => ?_)
            clear hK K
            refine wpAnyH_done (by kernel_rfl) ?_ _
            refine NoPanic.normal ?_
            have HO8 : Hid (OwnE 46 (w6.setCells g4 (k * 37 + 34) [.int .i64 2, .int .i64 0, .string ls]) (T + 1) (.slice (some ⟨g4, 0, none⟩) (k + 1) cap4) ((L ++ [x]).set k ⟨x.prev, x.seq, 2, 0, ls⟩)) := HO7.out.setPart k 34 _ _ HKL.out (by show 34 + 3 ≤ 37; omega) (by rw [HXK.out]; exact wit_splice x 2 0 ls)
            have HBW : Hid (Below (T + 1) w6 (w6.setCells g4 (k * 37 + 34) [.int .i64 2, .int .i64 0, .string ls])) := below_setCells hg4 _ (Below.refl _ _) _
            have HB8 : Hid (Blk (w6.setCells g4 (k * 37 + 34) [.int .i64 2, .int .i64 0, .string ls]) T _) := HB7.out.below HBW.out (by omega)
            have HKP8 : Hid (KeepN T (T + 1) w1 (w6.setCells g4 (k * 37 + 34) [.int .i64 2, .int .i64 0, .string ls])) := HKP7.out.trans (KeepN.of_below HBW.out)
            have HF8 : Hid (Fits pl sq pr (L ++ [⟨x.prev, x.seq, 2, 0, ls⟩])) := HF.out.next (by obtain ⟨h1, h2, h3, h4, h5⟩ := HX.out; exact ⟨by rw [hL]; exact h1, h2, rfl, HLS.out, by rw [if_pos hp0]⟩)
            rw [show (L ++ [x]).set k ⟨x.prev, x.seq, 2, 0, ls⟩ = L ++ [⟨x.prev, x.seq, 2, 0, ls⟩] by rw [← hL]; exact set_last L x _] at HO8
            clear hHeld HO7 HB7 HKP7 HBW HTH
            generalize w6.setCells g4 (k * 37 + 34) [.int .i64 2, .int .i64 0, .string ls] = w8 at *
            go_wp2_with fail
            go_roundw
            case rel => exact ⟨k + 1, L ++ [(⟨x.prev, x.seq, 2, 0, ls⟩ : In)], _, by omega, by go_num, by simp [hL], HF8.out, HB8.out, HO8.out, HKP8.out⟩
            case measure => simp [intOf]; omega
        · have hp00 : pr = 0 := by omega
          have hpi : ¬ (0 : Int) < (pr : Int) := by omega
          have HF8 : Hid (Fits pl sq pr (L ++ [x])) := HF.out.next (by obtain ⟨h1, h2, h3, h4, h5⟩ := HX.out; exact ⟨by rw [hL]; exact h1, h2, h4, by rw [h5, hp00]; rfl, by rw [if_neg hp0]; exact h3⟩)
          clear hp00 hp0
          go_wp2_with fail
          go_roundw
          case rel => exact ⟨k + 1, L ++ [x], _, by omega, by go_num, by simp [hL], HF8.out, HB6.out, HO6.out, HKP6.out⟩
          case measure => simp [intOf]; omega
      · go_simp
        refine (name_any k _ (by omega)).mono ?_; rintro e w2 ⟨rfl, hb2⟩; have HB2 : Hid (Blk w2 T [v, .slice none 0 0, .int .i64 0]) := HBd.out.below hb2 HBd.out.lt; have HO2 : Hid (OwnE 46 w2 (T + 1) v L) := HOd.out.below hb2; have HKP2 : Hid (KeepN T (T + 1) w1 w2) := HKP.out.trans (KeepN.of_below (((Below.refl _ wr).drew.trans hb2).mono (by show T + 1 ≤ wr.heap.size; omega))); have hs2 := HKP2.out.size; clear hb2; have hc2 : w2.cell? ⟨T, 0, none⟩ = some v := HB2.out.one rfl
        go_simp
        refine hK.out _ _ (trivial) (fun hHeld => ?_)
        clear hK K
        refine wpAnyH_take (i := 5) (oi := { dst := some 50, op := .build 44 #[(0, .tmp 48), (1, .tmp 49)], type := 44, pos := "law.go:93", after := #[{ on := 3, ground := .data }, { on := 4, ground := .data }], guard := none }) (v := .agg p.cs.toArray) rfl (by kernel_rfl) (by kernel_rfl) (by kernel_rfl) (fun _ _ _ h => h) (Or.inl ⟨by rfl, ?_⟩) (by assumption) ?_
        · intro _ _; exact exec_build 44 _ rfl _ _ hb5 (by rw [Array.toList_map]; rfl) _
        simp only [Act.put, List.setIfInBounds_toArray, List.set_cons_zero, List.set_cons_succ]
        refine wpAnyH_take (i := 8) (oi := { dst := some 53, op := .build 46 #[(0, .tmp 50), (1, .tmp 51), (2, .tmp 52)], type := 46, pos := "law.go:93", after := #[{ on := 5, ground := .data }, { on := 6, ground := .data }, { on := 7, ground := .data }], guard := none }) (v := .agg x.cs.toArray) rfl (by kernel_rfl) (by kernel_rfl) (by kernel_rfl) (fun _ _ _ h => h) (Or.inl ⟨by rfl, ?_⟩) (by assumption) ?_
        · intro _ _; exact exec_build 46 _ rfl _ _ hb8 (by rw [Array.toList_map]; rfl) _
        simp only [Act.put, List.setIfInBounds_toArray, List.set_cons_zero, List.set_cons_succ]
        refine wpAnyH_ready (rs := [1, 9]) (by kernel_rfl) (by simp) ?_
        refine (AllReadyH.cons (o := { dst := some 46, op := .load 22 (.tmp 45), type := 22, pos := "law.go:93", after := #[{ on := 0, ground := .data }], guard := none }) rfl (fun K hK => ?_) (AllReadyH.cons (o := { dst := some 54, op := .buildSlice 22 1 #[(0, .tmp 53)], type := 22, pos := "law.go:93", after := #[{ on := 8, ground := .data }], guard := none }) rfl (fun K hK => ?_) AllReadyH.nil))
        · go_simp
          skip
          go_simp
          refine hK.out _ _ (trivial) (fun hHeld => ?_)
          clear hK K
          refine wpAnyH_ready (rs := [9]) (by kernel_rfl) (by simp) ?_
          refine AllReadyH.cons (o := { dst := some 54, op := .buildSlice 22 1 #[(0, .tmp 53)], type := 22, pos := "law.go:93", after := #[{ on := 8, ground := .data }], guard := none }) rfl (fun K hK => ?_) AllReadyH.nil
          refine step_build_one elIn rfl _ rfl x rfl ?_; intro w3 HE3 Hb3; have HB3 : Hid (Blk w3 T [v, .slice none 0 0, .int .i64 0]) := HB2.out.below Hb3.out HB2.out.lt; have HO3 : Hid (OwnE 46 w3 (T + 1) v L) := HO2.out.below Hb3.out; have hs3 := Hb3.out.size; have HKP3 : Hid (KeepN T (T + 1) w1 w3) := HKP2.out.trans (KeepN.of_below (Hb3.out.mono (by omega)))
          simp only [Act.put, List.setIfInBounds_toArray, List.set_cons_zero, List.set_cons_succ]
          refine hK.out _ _ (trivial) (fun hHeld => ?_)
          clear hK K
          refine wpAnyH_ready (rs := [10]) (by kernel_rfl) (by simp) ?_
          refine AllReadyH.cons (o := { dst := some 55, op := .call { callee := .builtin Go.Builtin.append, args := #[.tmp 46, .tmp 54], argTypes := #[22, 22] }, type := 22, pos := "law.go:93", after := #[{ on := 1, ground := .data }, { on := 9, ground := .data }, { on := 3, ground := .chain }], guard := none }) rfl (fun K hK => ?_) AllReadyH.nil
          refine step_append_e elIn rfl _ _ rfl (T + 1) v L rfl HO3.out _ 1 1 [x] rfl HE3.out (by omega) (by omega) ?_; intro v4 w4 HO4 HG4 HM4; obtain ⟨g4, n4, cap4, rfl, hn4, hg4⟩ := HO4.out.led (by simp); obtain rfl : n4 = k + 1 := (by rw [hn4]; simp [hL]); clear hn4; obtain ⟨hc4, hf4⟩ := hold_cell (i := 0) HB3.out (fun k hk => (HO3.out.lt k hk).1) (by omega) HG4.out rfl
          simp only [Act.put, List.setIfInBounds_toArray, List.set_cons_zero, List.set_cons_succ]
          refine hK.out _ _ (trivial) (fun hHeld => ?_)
          clear hK K
          refine wpAnyH_take (i := 11) (oi := { dst := some 56, op := .fieldAddr 25 (.tmp 13) 0, type := 0, pos := "law.go:93", after := #[{ on := 0, ground := .phase }, { on := 1, ground := .phase }, { on := 2, ground := .phase }, { on := 3, ground := .phase }, { on := 4, ground := .phase }, { on := 5, ground := .phase }, { on := 6, ground := .phase }, { on := 7, ground := .phase }, { on := 8, ground := .phase }, { on := 9, ground := .phase }, { on := 10, ground := .phase }], guard := none }) (v := ?_) rfl (by kernel_rfl) (by kernel_rfl) (by kernel_rfl) (fun _ _ _ h => h) (Or.inl ⟨by rfl, ?_⟩) (by assumption) ?_
          rotate_left
          · intro _ _; go_simp; first | done | with_reducible rfl
          simp only [Act.put, List.setIfInBounds_toArray, List.set_cons_zero, List.set_cons_succ]
          refine wpAnyH_ready (rs := [12]) (by kernel_rfl) (by simp) ?_
          refine AllReadyH.cons (o := { dst := none, op := .store 22 (.tmp 56) (.tmp 55), type := 0, pos := "law.go:93", after := #[{ on := 11, ground := .data }, { on := 10, ground := .data }, { on := 10, ground := .chain }, { on := 0, ground := .phase }, { on := 1, ground := .phase }, { on := 2, ground := .phase }, { on := 3, ground := .phase }, { on := 4, ground := .phase }, { on := 5, ground := .phase }, { on := 6, ground := .phase }, { on := 7, ground := .phase }, { on := 8, ground := .phase }, { on := 9, ground := .phase }, { on := 10, ground := .phase }], guard := none }) rfl (fun K hK => ?_) AllReadyH.nil
          go_simp
          skip
          go_simp
          refine hK.out _ _ (trivial) (fun hHeld => ?_)
          clear hK K
          refine wpAnyH_done (by kernel_rfl) ?_ _
          refine NoPanic.normal ?_
          obtain ⟨HB5, HO5, HK5⟩ := hold_store (i := 0) HB3.out (fun k hk => (HO3.out.lt k hk).1) (show T < T + 1 by omega) (by omega) HO4.out HG4.out
          have HB6 : Hid (Blk _ T [.slice (some ⟨g4, 0, none⟩) (k + 1) cap4, .slice none 0 0, .int .i64 0]) := HB5
          have HO6 : Hid (OwnE 46 _ (T + 1) (.slice (some ⟨g4, 0, none⟩) (k + 1) cap4) (L ++ [x])) := HO5
          have HKP6 : Hid (KeepN T (T + 1) w1 _) := HKP3.out.trans HK5
          clear HB5 HO5 HK5 hHeld hc4 hf4 HB3 HO3 HKP3 HE3 Hb3 HB2 HO2 HKP2 HBd HOd HG4 HM4 HO4 hb5 hb8 hc0
          generalize World.setCell w4 _ _ = w5 at *
          by_cases hp0 : 0 < pr
          · have hs5 := HKP6.out.size
            have hpi : (0 : Int) < (pr : Int) := by omega
            go_upto_region 9 with fail
            have hc0 : w5.cell? ⟨T, 0, none⟩ = some (.slice (some ⟨g4, 0, none⟩) (k + 1) cap4) := HB6.out.one rfl
            have e0 : (0 : Int) ≤ (k : Int) := by omega
            have e2 : (k : Int) < ((k + 1 : Nat) : Int) := by omega
            have e3 : (k : Int) < (k : Int) + 1 := by omega
            refine wp_region_noPanic ?_
            refine wp_region_held_drew (S := fun _ => True) HMO.out (trivial) (fun hHeld => ?_)
            refine wpAnyH_take (i := 0) (oi := { dst := some 59, op := .fieldAddr 25 (.tmp 13) 0, type := 0, pos := "law.go:95", after := #[], guard := none }) (v := ?_) rfl (by kernel_rfl) (by kernel_rfl) (by kernel_rfl) (fun _ _ _ h => h) (Or.inl ⟨by rfl, ?_⟩) (by assumption) ?_
            rotate_left
            · intro _ _; go_simp; first | done | with_reducible rfl
            simp only [Act.put, List.setIfInBounds_toArray, List.set_cons_zero, List.set_cons_succ]
            refine wpAnyH_take (i := 2) (oi := { dst := some 61, op := .move (.tmp 14), type := 3, pos := "law.go:95", after := #[], guard := none }) (v := ?_) rfl (by kernel_rfl) (by kernel_rfl) (by kernel_rfl) (fun _ _ _ h => h) (Or.inl ⟨by rfl, ?_⟩) (by assumption) ?_
            rotate_left
            · intro _ _; go_simp; first | done | with_reducible rfl
            simp only [Act.put, List.setIfInBounds_toArray, List.set_cons_zero, List.set_cons_succ]
            refine wpAnyH_take (i := 3) (oi := { dst := some 62, op := .move (.tmp 5), type := 3, pos := "law.go:95", after := #[], guard := none }) (v := ?_) rfl (by kernel_rfl) (by kernel_rfl) (by kernel_rfl) (fun _ _ _ h => h) (Or.inl ⟨by rfl, ?_⟩) (by assumption) ?_
            rotate_left
            · intro _ _; go_simp; first | done | with_reducible rfl
            simp only [Act.put, List.setIfInBounds_toArray, List.set_cons_zero, List.set_cons_succ]
            refine wpAnyH_take (i := 4) (oi := { dst := some 63, op := .move (.tmp 14), type := 3, pos := "law.go:95", after := #[], guard := none }) (v := ?_) rfl (by kernel_rfl) (by kernel_rfl) (by kernel_rfl) (fun _ _ _ h => h) (Or.inl ⟨by rfl, ?_⟩) (by assumption) ?_
            rotate_left
            · intro _ _; go_simp; first | done | with_reducible rfl
            simp only [Act.put, List.setIfInBounds_toArray, List.set_cons_zero, List.set_cons_succ]
            refine wpAnyH_ready (rs := [1, 5]) (by kernel_rfl) (by simp) ?_
            refine (AllReadyH.cons (o := { dst := some 60, op := .load 22 (.tmp 59), type := 22, pos := "law.go:95", after := #[{ on := 0, ground := .data }], guard := none }) rfl (fun K hK => ?_) (AllReadyH.cons (o := { dst := some 64, op := .call { callee := .value (.func 20), args := #[.tmp 62, .tmp 63], argTypes := #[3, 3] }, type := 9, pos := "law.go:95", after := #[{ on := 3, ground := .data }, { on := 4, ground := .data }], guard := none }) rfl (fun K hK => ?_) AllReadyH.nil))
            · go_simp
              skip
              go_simp
              refine hK.out _ _ (trivial) (fun hHeld => ?_)
              clear hK K
              refine wpAnyH_ready (rs := [5]) (by kernel_rfl) (by simp) ?_
              refine AllReadyH.cons (o := { dst := some 64, op := .call { callee := .value (.func 20), args := #[.tmp 62, .tmp 63], argTypes := #[3, 3] }, type := 9, pos := "law.go:95", after := #[{ on := 3, ground := .data }, { on := 4, ground := .data }], guard := none }) rfl (fun K hK => ?_) AllReadyH.nil
              go_simp
              refine (letters_any pr k _ (by omega) (by omega)).mono ?_; rintro e w6 ⟨⟨ls, rfl, hls⟩, hb6⟩; have HB7 : Hid (Blk w6 T _) := HB6.out.drew.below hb6 HB6.out.lt; have HO7 : Hid (OwnE 46 w6 (T + 1) (.slice (some ⟨g4, 0, none⟩) (k + 1) cap4) (L ++ [x])) := (HO6.out.below (Below.refl _ _).drew).below hb6; have HKP7 : Hid (KeepN T (T + 1) w1 w6) := HKP6.out.trans (KeepN.of_below (((Below.refl _ w5).drew.trans hb6).mono (by show T + 1 ≤ w5.heap.size; omega))); have hxk : (L ++ [x]).getD k El.dflt = x := (by rw [← hL]; exact getD_last L x _); have hkl : k < (L ++ [x]).length := (by rw [List.length_append, hL]; simp); have HTH : Hid (w6.there g4 (k * 37 + 34) 3) := HO7.out.thereAt hkl 34 3 (by show 34 + 3 ≤ 37; omega); have HLS : Hid (ls.size = pr) := hls; have HXK : Hid _ := hxk; have HKL : Hid _ := hkl; clear hb6 hls hxk hkl
              go_simp
              refine hK.out _ _ (trivial) (fun hHeld => ?_)
              clear hK K
              refine wpAnyH_take (i := 6) (oi := { dst := some 65, op := .build 42 #[(0, .const (.int .i64 2)), (2, .tmp 64)], type := 42, pos := "law.go:95", after := #[{ on := 5, ground := .data }], guard := none }) (v := ?_) rfl (by kernel_rfl) (by kernel_rfl) (by kernel_rfl) (fun _ _ _ h => h) (Or.inl ⟨by rfl, ?_⟩) (by assumption) ?_
              rotate_left
              · intro _ _; go_simp; first | done | with_reducible rfl
              simp only [Act.put, List.setIfInBounds_toArray, List.set_cons_zero, List.set_cons_succ]
              refine wpAnyH_take (i := 7) (oi := { dst := some 66, op := .indexAddr 22 (.tmp 60) (.tmp 61), type := 0, pos := "law.go:95", after := #[{ on := 1, ground := .data }, { on := 2, ground := .data }, { on := 0, ground := .phase }, { on := 1, ground := .phase }, { on := 2, ground := .phase }, { on := 3, ground := .phase }, { on := 4, ground := .phase }, { on := 5, ground := .phase }, { on := 6, ground := .phase }], guard := none }) (v := ?_) rfl (by kernel_rfl) (by kernel_rfl) (by kernel_rfl) (fun _ _ _ h => h) (Or.inl ⟨by rfl, ?_⟩) (by assumption) ?_
              rotate_left
              · intro _ _; go_simp; first | done | with_reducible rfl
              simp only [Act.put, List.setIfInBounds_toArray, List.set_cons_zero, List.set_cons_succ]
              refine wpAnyH_take (i := 8) (oi := { dst := some 67, op := .fieldAddr 46 (.tmp 66) 2, type := 0, pos := "law.go:95", after := #[{ on := 7, ground := .data }, { on := 0, ground := .phase }, { on := 1, ground := .phase }, { on := 2, ground := .phase }, { on := 3, ground := .phase }, { on := 4, ground := .phase }, { on := 5, ground := .phase }, { on := 6, ground := .phase }], guard := none }) (v := ?_) rfl (by kernel_rfl) (by kernel_rfl) (by kernel_rfl) (fun _ _ _ h => h) (Or.inl ⟨by rfl, ?_⟩) (by assumption) ?_
              rotate_left
              · intro _ _; go_simp; first | done | with_reducible rfl
              simp only [Act.put, List.setIfInBounds_toArray, List.set_cons_zero, List.set_cons_succ]
              refine wpAnyH_ready (rs := [9]) (by kernel_rfl) (by simp) ?_
              refine AllReadyH.cons (o := { dst := none, op := .store 42 (.tmp 67) (.tmp 65), type := 0, pos := "law.go:95", after := #[{ on := 8, ground := .data }, { on := 6, ground := .data }, { on := 5, ground := .chain }, { on := 0, ground := .phase }, { on := 1, ground := .phase }, { on := 2, ground := .phase }, { on := 3, ground := .phase }, { on := 4, ground := .phase }, { on := 5, ground := .phase }, { on := 6, ground := .phase }], guard := none }) rfl (fun K hK => ?_) AllReadyH.nil
              refine step_store_mid rfl 42 _ _ rfl g4 (k * 37 + 34) [.int .i64 2, .int .i64 0, .string ls] rfl rfl HTH.out (by kernel_rfl) (by intro v hv; simp only [List.mem_cons, List.not_mem_nil, or_false] at hv; rcases hv with rfl | rfl | rfl <;> rfl) ?_
              simp only [Act.put]
              refine hK.out _ _ (trivial) (fun hHeld => ?_)
              clear hK K
              refine wpAnyH_done (by kernel_rfl) ?_ _
              refine NoPanic.normal ?_
              have HO8 : Hid (OwnE 46 (w6.setCells g4 (k * 37 + 34) [.int .i64 2, .int .i64 0, .string ls]) (T + 1) (.slice (some ⟨g4, 0, none⟩) (k + 1) cap4) ((L ++ [x]).set k ⟨x.prev, x.seq, 2, 0, ls⟩)) := HO7.out.setPart k 34 _ _ HKL.out (by show 34 + 3 ≤ 37; omega) (by rw [HXK.out]; exact wit_splice x 2 0 ls)
              have HBW : Hid (Below (T + 1) w6 (w6.setCells g4 (k * 37 + 34) [.int .i64 2, .int .i64 0, .string ls])) := below_setCells hg4 _ (Below.refl _ _) _
              have HB8 : Hid (Blk (w6.setCells g4 (k * 37 + 34) [.int .i64 2, .int .i64 0, .string ls]) T _) := HB7.out.below HBW.out (by omega)
              have HKP8 : Hid (KeepN T (T + 1) w1 (w6.setCells g4 (k * 37 + 34) [.int .i64 2, .int .i64 0, .string ls])) := HKP7.out.trans (KeepN.of_below HBW.out)
              have HF8 : Hid (Fits pl sq pr (L ++ [⟨x.prev, x.seq, 2, 0, ls⟩])) := HF.out.next (by obtain ⟨h1, h2, h3, h4, h5⟩ := HX.out; exact ⟨by rw [hL]; exact h1, h2, rfl, HLS.out, by rw [if_pos hp0]⟩)
              rw [show (L ++ [x]).set k ⟨x.prev, x.seq, 2, 0, ls⟩ = L ++ [⟨x.prev, x.seq, 2, 0, ls⟩] by rw [← hL]; exact set_last L x _] at HO8
              clear hHeld HO7 HB7 HKP7 HBW HTH
              generalize w6.setCells g4 (k * 37 + 34) [.int .i64 2, .int .i64 0, .string ls] = w8 at *
              go_wp2_with fail
              go_roundw
              case rel => exact ⟨k + 1, L ++ [(⟨x.prev, x.seq, 2, 0, ls⟩ : In)], _, by omega, by go_num, by simp [hL], HF8.out, HB8.out, HO8.out, HKP8.out⟩
              case measure => simp [intOf]; omega
            · go_simp
              refine (letters_any pr k _ (by omega) (by omega)).mono ?_; rintro e w6 ⟨⟨ls, rfl, hls⟩, hb6⟩; have HB7 : Hid (Blk w6 T _) := HB6.out.drew.below hb6 HB6.out.lt; have HO7 : Hid (OwnE 46 w6 (T + 1) (.slice (some ⟨g4, 0, none⟩) (k + 1) cap4) (L ++ [x])) := (HO6.out.below (Below.refl _ _).drew).below hb6; have HKP7 : Hid (KeepN T (T + 1) w1 w6) := HKP6.out.trans (KeepN.of_below (((Below.refl _ w5).drew.trans hb6).mono (by show T + 1 ≤ w5.heap.size; omega))); have hxk : (L ++ [x]).getD k El.dflt = x := (by rw [← hL]; exact getD_last L x _); have hkl : k < (L ++ [x]).length := (by rw [List.length_append, hL]; simp); have HTH : Hid (w6.there g4 (k * 37 + 34) 3) := HO7.out.thereAt hkl 34 3 (by show 34 + 3 ≤ 37; omega); have HLS : Hid (ls.size = pr) := hls; have HXK : Hid _ := hxk; have HKL : Hid _ := hkl; clear hb6 hls hxk hkl; have hc6 : w6.cell? ⟨T, 0, none⟩ = some (.slice (some ⟨g4, 0, none⟩) (k + 1) cap4) := HB7.out.one rfl
              go_simp
              refine hK.out _ _ (trivial) (fun hHeld => ?_)
              clear hK K
              refine wpAnyH_take (i := 6) (oi := { dst := some 65, op := .build 42 #[(0, .const (.int .i64 2)), (2, .tmp 64)], type := 42, pos := "law.go:95", after := #[{ on := 5, ground := .data }], guard := none }) (v := ?_) rfl (by kernel_rfl) (by kernel_rfl) (by kernel_rfl) (fun _ _ _ h => h) (Or.inl ⟨by rfl, ?_⟩) (by assumption) ?_
              rotate_left
              · intro _ _; go_simp; first | done | with_reducible rfl
              simp only [Act.put, List.setIfInBounds_toArray, List.set_cons_zero, List.set_cons_succ]
              refine wpAnyH_ready (rs := [1]) (by kernel_rfl) (by simp) ?_
              refine AllReadyH.cons (o := { dst := some 60, op := .load 22 (.tmp 59), type := 22, pos := "law.go:95", after := #[{ on := 0, ground := .data }], guard := none }) rfl (fun K hK => ?_) AllReadyH.nil
              go_simp
              skip
              go_simp
              refine hK.out _ _ (trivial) (fun hHeld => ?_)
              clear hK K
              refine wpAnyH_take (i := 7) (oi := { dst := some 66, op := .indexAddr 22 (.tmp 60) (.tmp 61), type := 0, pos := "law.go:95", after := #[{ on := 1, ground := .data }, { on := 2, ground := .data }, { on := 0, ground := .phase }, { on := 1, ground := .phase }, { on := 2, ground := .phase }, { on := 3, ground := .phase }, { on := 4, ground := .phase }, { on := 5, ground := .phase }, { on := 6, ground := .phase }], guard := none }) (v := ?_) rfl (by kernel_rfl) (by kernel_rfl) (by kernel_rfl) (fun _ _ _ h => h) (Or.inl ⟨by rfl, ?_⟩) (by assumption) ?_
              rotate_left
              · intro _ _; go_simp; first | done | with_reducible rfl
              simp only [Act.put, List.setIfInBounds_toArray, List.set_cons_zero, List.set_cons_succ]
              refine wpAnyH_take (i := 8) (oi := { dst := some 67, op := .fieldAddr 46 (.tmp 66) 2, type := 0, pos := "law.go:95", after := #[{ on := 7, ground := .data }, { on := 0, ground := .phase }, { on := 1, ground := .phase }, { on := 2, ground := .phase }, { on := 3, ground := .phase }, { on := 4, ground := .phase }, { on := 5, ground := .phase }, { on := 6, ground := .phase }], guard := none }) (v := ?_) rfl (by kernel_rfl) (by kernel_rfl) (by kernel_rfl) (fun _ _ _ h => h) (Or.inl ⟨by rfl, ?_⟩) (by assumption) ?_
              rotate_left
              · intro _ _; go_simp; first | done | with_reducible rfl
              simp only [Act.put, List.setIfInBounds_toArray, List.set_cons_zero, List.set_cons_succ]
              refine wpAnyH_ready (rs := [9]) (by kernel_rfl) (by simp) ?_
              refine AllReadyH.cons (o := { dst := none, op := .store 42 (.tmp 67) (.tmp 65), type := 0, pos := "law.go:95", after := #[{ on := 8, ground := .data }, { on := 6, ground := .data }, { on := 5, ground := .chain }, { on := 0, ground := .phase }, { on := 1, ground := .phase }, { on := 2, ground := .phase }, { on := 3, ground := .phase }, { on := 4, ground := .phase }, { on := 5, ground := .phase }, { on := 6, ground := .phase }], guard := none }) rfl (fun K hK => ?_) AllReadyH.nil
              refine step_store_mid rfl 42 _ _ rfl g4 (k * 37 + 34) [.int .i64 2, .int .i64 0, .string ls] rfl rfl HTH.out (by kernel_rfl) (by intro v hv; simp only [List.mem_cons, List.not_mem_nil, or_false] at hv; rcases hv with rfl | rfl | rfl <;> rfl) ?_
              simp only [Act.put]
              refine hK.out _ _ (trivial) (fun hHeld => ?_)
              clear hK K
              refine wpAnyH_done (by kernel_rfl) ?_ _
              refine NoPanic.normal ?_
              have HO8 : Hid (OwnE 46 (w6.setCells g4 (k * 37 + 34) [.int .i64 2, .int .i64 0, .string ls]) (T + 1) (.slice (some ⟨g4, 0, none⟩) (k + 1) cap4) ((L ++ [x]).set k ⟨x.prev, x.seq, 2, 0, ls⟩)) := HO7.out.setPart k 34 _ _ HKL.out (by show 34 + 3 ≤ 37; omega) (by rw [HXK.out]; exact wit_splice x 2 0 ls)
              have HBW : Hid (Below (T + 1) w6 (w6.setCells g4 (k * 37 + 34) [.int .i64 2, .int .i64 0, .string ls])) := below_setCells hg4 _ (Below.refl _ _) _
              have HB8 : Hid (Blk (w6.setCells g4 (k * 37 + 34) [.int .i64 2, .int .i64 0, .string ls]) T _) := HB7.out.below HBW.out (by omega)
              have HKP8 : Hid (KeepN T (T + 1) w1 (w6.setCells g4 (k * 37 + 34) [.int .i64 2, .int .i64 0, .string ls])) := HKP7.out.trans (KeepN.of_below HBW.out)
              have HF8 : Hid (Fits pl sq pr (L ++ [⟨x.prev, x.seq, 2, 0, ls⟩])) := HF.out.next (by obtain ⟨h1, h2, h3, h4, h5⟩ := HX.out; exact ⟨by rw [hL]; exact h1, h2, rfl, HLS.out, by rw [if_pos hp0]⟩)
              rw [show (L ++ [x]).set k ⟨x.prev, x.seq, 2, 0, ls⟩ = L ++ [⟨x.prev, x.seq, 2, 0, ls⟩] by rw [← hL]; exact set_last L x _] at HO8
              clear hHeld HO7 HB7 HKP7 HBW HTH
              generalize w6.setCells g4 (k * 37 + 34) [.int .i64 2, .int .i64 0, .string ls] = w8 at *
              go_wp2_with fail
              go_roundw
              case rel => exact ⟨k + 1, L ++ [(⟨x.prev, x.seq, 2, 0, ls⟩ : In)], _, by omega, by go_num, by simp [hL], HF8.out, HB8.out, HO8.out, HKP8.out⟩
              case measure => simp [intOf]; omega
          · have hp00 : pr = 0 := by omega
            have hpi : ¬ (0 : Int) < (pr : Int) := by omega
            have HF8 : Hid (Fits pl sq pr (L ++ [x])) := HF.out.next (by obtain ⟨h1, h2, h3, h4, h5⟩ := HX.out; exact ⟨by rw [hL]; exact h1, h2, h4, by rw [h5, hp00]; rfl, by rw [if_neg hp0]; exact h3⟩)
            clear hp00 hp0
            go_wp2_with fail
            go_roundw
            case rel => exact ⟨k + 1, L ++ [x], _, by omega, by go_num, by simp [hL], HF8.out, HB6.out, HO6.out, HKP6.out⟩
            case measure => simp [intOf]; omega
        · refine step_build_one elIn rfl _ rfl x rfl ?_; intro w3 HE3 Hb3; have HB3 : Hid (Blk w3 T [v, .slice none 0 0, .int .i64 0]) := HB2.out.below Hb3.out HB2.out.lt; have HO3 : Hid (OwnE 46 w3 (T + 1) v L) := HO2.out.below Hb3.out; have hs3 := Hb3.out.size; have HKP3 : Hid (KeepN T (T + 1) w1 w3) := HKP2.out.trans (KeepN.of_below (Hb3.out.mono (by omega))); have hc3 : w3.cell? ⟨T, 0, none⟩ = some v := HB3.out.one rfl
          simp only [Act.put, List.setIfInBounds_toArray, List.set_cons_zero, List.set_cons_succ]
          refine hK.out _ _ (trivial) (fun hHeld => ?_)
          clear hK K
          refine wpAnyH_ready (rs := [1]) (by kernel_rfl) (by simp) ?_
          refine AllReadyH.cons (o := { dst := some 46, op := .load 22 (.tmp 45), type := 22, pos := "law.go:93", after := #[{ on := 0, ground := .data }], guard := none }) rfl (fun K hK => ?_) AllReadyH.nil
          go_simp
          skip
          go_simp
          refine hK.out _ _ (trivial) (fun hHeld => ?_)
          clear hK K
          refine wpAnyH_ready (rs := [10]) (by kernel_rfl) (by simp) ?_
          refine AllReadyH.cons (o := { dst := some 55, op := .call { callee := .builtin Go.Builtin.append, args := #[.tmp 46, .tmp 54], argTypes := #[22, 22] }, type := 22, pos := "law.go:93", after := #[{ on := 1, ground := .data }, { on := 9, ground := .data }, { on := 3, ground := .chain }], guard := none }) rfl (fun K hK => ?_) AllReadyH.nil
          refine step_append_e elIn rfl _ _ rfl (T + 1) v L rfl HO3.out _ 1 1 [x] rfl HE3.out (by omega) (by omega) ?_; intro v4 w4 HO4 HG4 HM4; obtain ⟨g4, n4, cap4, rfl, hn4, hg4⟩ := HO4.out.led (by simp); obtain rfl : n4 = k + 1 := (by rw [hn4]; simp [hL]); clear hn4; obtain ⟨hc4, hf4⟩ := hold_cell (i := 0) HB3.out (fun k hk => (HO3.out.lt k hk).1) (by omega) HG4.out rfl
          simp only [Act.put, List.setIfInBounds_toArray, List.set_cons_zero, List.set_cons_succ]
          refine hK.out _ _ (trivial) (fun hHeld => ?_)
          clear hK K
          refine wpAnyH_take (i := 11) (oi := { dst := some 56, op := .fieldAddr 25 (.tmp 13) 0, type := 0, pos := "law.go:93", after := #[{ on := 0, ground := .phase }, { on := 1, ground := .phase }, { on := 2, ground := .phase }, { on := 3, ground := .phase }, { on := 4, ground := .phase }, { on := 5, ground := .phase }, { on := 6, ground := .phase }, { on := 7, ground := .phase }, { on := 8, ground := .phase }, { on := 9, ground := .phase }, { on := 10, ground := .phase }], guard := none }) (v := ?_) rfl (by kernel_rfl) (by kernel_rfl) (by kernel_rfl) (fun _ _ _ h => h) (Or.inl ⟨by rfl, ?_⟩) (by assumption) ?_
          rotate_left
          · intro _ _; go_simp; first | done | with_reducible rfl
          simp only [Act.put, List.setIfInBounds_toArray, List.set_cons_zero, List.set_cons_succ]
          refine wpAnyH_ready (rs := [12]) (by kernel_rfl) (by simp) ?_
          refine AllReadyH.cons (o := { dst := none, op := .store 22 (.tmp 56) (.tmp 55), type := 0, pos := "law.go:93", after := #[{ on := 11, ground := .data }, { on := 10, ground := .data }, { on := 10, ground := .chain }, { on := 0, ground := .phase }, { on := 1, ground := .phase }, { on := 2, ground := .phase }, { on := 3, ground := .phase }, { on := 4, ground := .phase }, { on := 5, ground := .phase }, { on := 6, ground := .phase }, { on := 7, ground := .phase }, { on := 8, ground := .phase }, { on := 9, ground := .phase }, { on := 10, ground := .phase }], guard := none }) rfl (fun K hK => ?_) AllReadyH.nil
          go_simp
          skip
          go_simp
          refine hK.out _ _ (trivial) (fun hHeld => ?_)
          clear hK K
          refine wpAnyH_done (by kernel_rfl) ?_ _
          refine NoPanic.normal ?_
          obtain ⟨HB5, HO5, HK5⟩ := hold_store (i := 0) HB3.out (fun k hk => (HO3.out.lt k hk).1) (show T < T + 1 by omega) (by omega) HO4.out HG4.out
          have HB6 : Hid (Blk _ T [.slice (some ⟨g4, 0, none⟩) (k + 1) cap4, .slice none 0 0, .int .i64 0]) := HB5
          have HO6 : Hid (OwnE 46 _ (T + 1) (.slice (some ⟨g4, 0, none⟩) (k + 1) cap4) (L ++ [x])) := HO5
          have HKP6 : Hid (KeepN T (T + 1) w1 _) := HKP3.out.trans HK5
          clear HB5 HO5 HK5 hHeld hc4 hf4 HB3 HO3 HKP3 HE3 Hb3 HB2 HO2 HKP2 HBd HOd HG4 HM4 HO4 hb5 hb8 hc0
          generalize World.setCell w4 _ _ = w5 at *
          by_cases hp0 : 0 < pr
          · have hs5 := HKP6.out.size
            have hpi : (0 : Int) < (pr : Int) := by omega
            go_upto_region 9 with fail
            have hc0 : w5.cell? ⟨T, 0, none⟩ = some (.slice (some ⟨g4, 0, none⟩) (k + 1) cap4) := HB6.out.one rfl
            have e0 : (0 : Int) ≤ (k : Int) := by omega
            have e2 : (k : Int) < ((k + 1 : Nat) : Int) := by omega
            have e3 : (k : Int) < (k : Int) + 1 := by omega
            refine wp_region_noPanic ?_
            refine wp_region_held_drew (S := fun _ => True) HMO.out (trivial) (fun hHeld => ?_)
            refine wpAnyH_take (i := 0) (oi := { dst := some 59, op := .fieldAddr 25 (.tmp 13) 0, type := 0, pos := "law.go:95", after := #[], guard := none }) (v := ?_) rfl (by kernel_rfl) (by kernel_rfl) (by kernel_rfl) (fun _ _ _ h => h) (Or.inl ⟨by rfl, ?_⟩) (by assumption) ?_
            rotate_left
            · intro _ _; go_simp; first | done | with_reducible rfl
            simp only [Act.put, List.setIfInBounds_toArray, List.set_cons_zero, List.set_cons_succ]
            refine wpAnyH_take (i := 2) (oi := { dst := some 61, op := .move (.tmp 14), type := 3, pos := "law.go:95", after := #[], guard := none }) (v := ?_) rfl (by kernel_rfl) (by kernel_rfl) (by kernel_rfl) (fun _ _ _ h => h) (Or.inl ⟨by rfl, ?_⟩) (by assumption) ?_
            rotate_left
            · intro _ _; go_simp; first | done | with_reducible rfl
            simp only [Act.put, List.setIfInBounds_toArray, List.set_cons_zero, List.set_cons_succ]
            refine wpAnyH_take (i := 3) (oi := { dst := some 62, op := .move (.tmp 5), type := 3, pos := "law.go:95", after := #[], guard := none }) (v := ?_) rfl (by kernel_rfl) (by kernel_rfl) (by kernel_rfl) (fun _ _ _ h => h) (Or.inl ⟨by rfl, ?_⟩) (by assumption) ?_
            rotate_left
            · intro _ _; go_simp; first | done | with_reducible rfl
            simp only [Act.put, List.setIfInBounds_toArray, List.set_cons_zero, List.set_cons_succ]
            refine wpAnyH_take (i := 4) (oi := { dst := some 63, op := .move (.tmp 14), type := 3, pos := "law.go:95", after := #[], guard := none }) (v := ?_) rfl (by kernel_rfl) (by kernel_rfl) (by kernel_rfl) (fun _ _ _ h => h) (Or.inl ⟨by rfl, ?_⟩) (by assumption) ?_
            rotate_left
            · intro _ _; go_simp; first | done | with_reducible rfl
            simp only [Act.put, List.setIfInBounds_toArray, List.set_cons_zero, List.set_cons_succ]
            refine wpAnyH_ready (rs := [1, 5]) (by kernel_rfl) (by simp) ?_
            refine (AllReadyH.cons (o := { dst := some 60, op := .load 22 (.tmp 59), type := 22, pos := "law.go:95", after := #[{ on := 0, ground := .data }], guard := none }) rfl (fun K hK => ?_) (AllReadyH.cons (o := { dst := some 64, op := .call { callee := .value (.func 20), args := #[.tmp 62, .tmp 63], argTypes := #[3, 3] }, type := 9, pos := "law.go:95", after := #[{ on := 3, ground := .data }, { on := 4, ground := .data }], guard := none }) rfl (fun K hK => ?_) AllReadyH.nil))
            · go_simp
              skip
              go_simp
              refine hK.out _ _ (trivial) (fun hHeld => ?_)
              clear hK K
              refine wpAnyH_ready (rs := [5]) (by kernel_rfl) (by simp) ?_
              refine AllReadyH.cons (o := { dst := some 64, op := .call { callee := .value (.func 20), args := #[.tmp 62, .tmp 63], argTypes := #[3, 3] }, type := 9, pos := "law.go:95", after := #[{ on := 3, ground := .data }, { on := 4, ground := .data }], guard := none }) rfl (fun K hK => ?_) AllReadyH.nil
              go_simp
              refine (letters_any pr k _ (by omega) (by omega)).mono ?_; rintro e w6 ⟨⟨ls, rfl, hls⟩, hb6⟩; have HB7 : Hid (Blk w6 T _) := HB6.out.drew.below hb6 HB6.out.lt; have HO7 : Hid (OwnE 46 w6 (T + 1) (.slice (some ⟨g4, 0, none⟩) (k + 1) cap4) (L ++ [x])) := (HO6.out.below (Below.refl _ _).drew).below hb6; have HKP7 : Hid (KeepN T (T + 1) w1 w6) := HKP6.out.trans (KeepN.of_below (((Below.refl _ w5).drew.trans hb6).mono (by show T + 1 ≤ w5.heap.size; omega))); have hxk : (L ++ [x]).getD k El.dflt = x := (by rw [← hL]; exact getD_last L x _); have hkl : k < (L ++ [x]).length := (by rw [List.length_append, hL]; simp); have HTH : Hid (w6.there g4 (k * 37 + 34) 3) := HO7.out.thereAt hkl 34 3 (by show 34 + 3 ≤ 37; omega); have HLS : Hid (ls.size = pr) := hls; have HXK : Hid _ := hxk; have HKL : Hid _ := hkl; clear hb6 hls hxk hkl
              go_simp
              refine hK.out _ _ (trivial) (fun hHeld => ?_)
              clear hK K
              refine wpAnyH_take (i := 6) (oi := { dst := some 65, op := .build 42 #[(0, .const (.int .i64 2)), (2, .tmp 64)], type := 42, pos := "law.go:95", after := #[{ on := 5, ground := .data }], guard := none }) (v := ?_) rfl (by kernel_rfl) (by kernel_rfl) (by kernel_rfl) (fun _ _ _ h => h) (Or.inl ⟨by rfl, ?_⟩) (by assumption) ?_
              rotate_left
              · intro _ _; go_simp; first | done | with_reducible rfl
              simp only [Act.put, List.setIfInBounds_toArray, List.set_cons_zero, List.set_cons_succ]
              refine wpAnyH_take (i := 7) (oi := { dst := some 66, op := .indexAddr 22 (.tmp 60) (.tmp 61), type := 0, pos := "law.go:95", after := #[{ on := 1, ground := .data }, { on := 2, ground := .data }, { on := 0, ground := .phase }, { on := 1, ground := .phase }, { on := 2, ground := .phase }, { on := 3, ground := .phase }, { on := 4, ground := .phase }, { on := 5, ground := .phase }, { on := 6, ground := .phase }], guard := none }) (v := ?_) rfl (by kernel_rfl) (by kernel_rfl) (by kernel_rfl) (fun _ _ _ h => h) (Or.inl ⟨by rfl, ?_⟩) (by assumption) ?_
              rotate_left
              · intro _ _; go_simp; first | done | with_reducible rfl
              simp only [Act.put, List.setIfInBounds_toArray, List.set_cons_zero, List.set_cons_succ]
              refine wpAnyH_take (i := 8) (oi := { dst := some 67, op := .fieldAddr 46 (.tmp 66) 2, type := 0, pos := "law.go:95", after := #[{ on := 7, ground := .data }, { on := 0, ground := .phase }, { on := 1, ground := .phase }, { on := 2, ground := .phase }, { on := 3, ground := .phase }, { on := 4, ground := .phase }, { on := 5, ground := .phase }, { on := 6, ground := .phase }], guard := none }) (v := ?_) rfl (by kernel_rfl) (by kernel_rfl) (by kernel_rfl) (fun _ _ _ h => h) (Or.inl ⟨by rfl, ?_⟩) (by assumption) ?_
              rotate_left
              · intro _ _; go_simp; first | done | with_reducible rfl
              simp only [Act.put, List.setIfInBounds_toArray, List.set_cons_zero, List.set_cons_succ]
              refine wpAnyH_ready (rs := [9]) (by kernel_rfl) (by simp) ?_
              refine AllReadyH.cons (o := { dst := none, op := .store 42 (.tmp 67) (.tmp 65), type := 0, pos := "law.go:95", after := #[{ on := 8, ground := .data }, { on := 6, ground := .data }, { on := 5, ground := .chain }, { on := 0, ground := .phase }, { on := 1, ground := .phase }, { on := 2, ground := .phase }, { on := 3, ground := .phase }, { on := 4, ground := .phase }, { on := 5, ground := .phase }, { on := 6, ground := .phase }], guard := none }) rfl (fun K hK => ?_) AllReadyH.nil
              refine step_store_mid rfl 42 _ _ rfl g4 (k * 37 + 34) [.int .i64 2, .int .i64 0, .string ls] rfl rfl HTH.out (by kernel_rfl) (by intro v hv; simp only [List.mem_cons, List.not_mem_nil, or_false] at hv; rcases hv with rfl | rfl | rfl <;> rfl) ?_
              simp only [Act.put]
              refine hK.out _ _ (trivial) (fun hHeld => ?_)
              clear hK K
              refine wpAnyH_done (by kernel_rfl) ?_ _
              refine NoPanic.normal ?_
              have HO8 : Hid (OwnE 46 (w6.setCells g4 (k * 37 + 34) [.int .i64 2, .int .i64 0, .string ls]) (T + 1) (.slice (some ⟨g4, 0, none⟩) (k + 1) cap4) ((L ++ [x]).set k ⟨x.prev, x.seq, 2, 0, ls⟩)) := HO7.out.setPart k 34 _ _ HKL.out (by show 34 + 3 ≤ 37; omega) (by rw [HXK.out]; exact wit_splice x 2 0 ls)
              have HBW : Hid (Below (T + 1) w6 (w6.setCells g4 (k * 37 + 34) [.int .i64 2, .int .i64 0, .string ls])) := below_setCells hg4 _ (Below.refl _ _) _
              have HB8 : Hid (Blk (w6.setCells g4 (k * 37 + 34) [.int .i64 2, .int .i64 0, .string ls]) T _) := HB7.out.below HBW.out (by omega)
              have HKP8 : Hid (KeepN T (T + 1) w1 (w6.setCells g4 (k * 37 + 34) [.int .i64 2, .int .i64 0, .string ls])) := HKP7.out.trans (KeepN.of_below HBW.out)
              have HF8 : Hid (Fits pl sq pr (L ++ [⟨x.prev, x.seq, 2, 0, ls⟩])) := HF.out.next (by obtain ⟨h1, h2, h3, h4, h5⟩ := HX.out; exact ⟨by rw [hL]; exact h1, h2, rfl, HLS.out, by rw [if_pos hp0]⟩)
              rw [show (L ++ [x]).set k ⟨x.prev, x.seq, 2, 0, ls⟩ = L ++ [⟨x.prev, x.seq, 2, 0, ls⟩] by rw [← hL]; exact set_last L x _] at HO8
              clear hHeld HO7 HB7 HKP7 HBW HTH
              generalize w6.setCells g4 (k * 37 + 34) [.int .i64 2, .int .i64 0, .string ls] = w8 at *
              go_wp2_with fail
              go_roundw
              case rel => exact ⟨k + 1, L ++ [(⟨x.prev, x.seq, 2, 0, ls⟩ : In)], _, by omega, by go_num, by simp [hL], HF8.out, HB8.out, HO8.out, HKP8.out⟩
              case measure => simp [intOf]; omega
            · go_simp
              refine (letters_any pr k _ (by omega) (by omega)).mono ?_; rintro e w6 ⟨⟨ls, rfl, hls⟩, hb6⟩; have HB7 : Hid (Blk w6 T _) := HB6.out.drew.below hb6 HB6.out.lt; have HO7 : Hid (OwnE 46 w6 (T + 1) (.slice (some ⟨g4, 0, none⟩) (k + 1) cap4) (L ++ [x])) := (HO6.out.below (Below.refl _ _).drew).below hb6; have HKP7 : Hid (KeepN T (T + 1) w1 w6) := HKP6.out.trans (KeepN.of_below (((Below.refl _ w5).drew.trans hb6).mono (by show T + 1 ≤ w5.heap.size; omega))); have hxk : (L ++ [x]).getD k El.dflt = x := (by rw [← hL]; exact getD_last L x _); have hkl : k < (L ++ [x]).length := (by rw [List.length_append, hL]; simp); have HTH : Hid (w6.there g4 (k * 37 + 34) 3) := HO7.out.thereAt hkl 34 3 (by show 34 + 3 ≤ 37; omega); have HLS : Hid (ls.size = pr) := hls; have HXK : Hid _ := hxk; have HKL : Hid _ := hkl; clear hb6 hls hxk hkl; have hc6 : w6.cell? ⟨T, 0, none⟩ = some (.slice (some ⟨g4, 0, none⟩) (k + 1) cap4) := HB7.out.one rfl
              go_simp
              refine hK.out _ _ (trivial) (fun hHeld => ?_)
              clear hK K
              refine wpAnyH_take (i := 6) (oi := { dst := some 65, op := .build 42 #[(0, .const (.int .i64 2)), (2, .tmp 64)], type := 42, pos := "law.go:95", after := #[{ on := 5, ground := .data }], guard := none }) (v := ?_) rfl (by kernel_rfl) (by kernel_rfl) (by kernel_rfl) (fun _ _ _ h => h) (Or.inl ⟨by rfl, ?_⟩) (by assumption) ?_
              rotate_left
              · intro _ _; go_simp; first | done | with_reducible rfl
              simp only [Act.put, List.setIfInBounds_toArray, List.set_cons_zero, List.set_cons_succ]
              refine wpAnyH_ready (rs := [1]) (by kernel_rfl) (by simp) ?_
              refine AllReadyH.cons (o := { dst := some 60, op := .load 22 (.tmp 59), type := 22, pos := "law.go:95", after := #[{ on := 0, ground := .data }], guard := none }) rfl (fun K hK => ?_) AllReadyH.nil
              go_simp
              skip
              go_simp
              refine hK.out _ _ (trivial) (fun hHeld => ?_)
              clear hK K
              refine wpAnyH_take (i := 7) (oi := { dst := some 66, op := .indexAddr 22 (.tmp 60) (.tmp 61), type := 0, pos := "law.go:95", after := #[{ on := 1, ground := .data }, { on := 2, ground := .data }, { on := 0, ground := .phase }, { on := 1, ground := .phase }, { on := 2, ground := .phase }, { on := 3, ground := .phase }, { on := 4, ground := .phase }, { on := 5, ground := .phase }, { on := 6, ground := .phase }], guard := none }) (v := ?_) rfl (by kernel_rfl) (by kernel_rfl) (by kernel_rfl) (fun _ _ _ h => h) (Or.inl ⟨by rfl, ?_⟩) (by assumption) ?_
              rotate_left
              · intro _ _; go_simp; first | done | with_reducible rfl
              simp only [Act.put, List.setIfInBounds_toArray, List.set_cons_zero, List.set_cons_succ]
              refine wpAnyH_take (i := 8) (oi := { dst := some 67, op := .fieldAddr 46 (.tmp 66) 2, type := 0, pos := "law.go:95", after := #[{ on := 7, ground := .data }, { on := 0, ground := .phase }, { on := 1, ground := .phase }, { on := 2, ground := .phase }, { on := 3, ground := .phase }, { on := 4, ground := .phase }, { on := 5, ground := .phase }, { on := 6, ground := .phase }], guard := none }) (v := ?_) rfl (by kernel_rfl) (by kernel_rfl) (by kernel_rfl) (fun _ _ _ h => h) (Or.inl ⟨by rfl, ?_⟩) (by assumption) ?_
              rotate_left
              · intro _ _; go_simp; first | done | with_reducible rfl
              simp only [Act.put, List.setIfInBounds_toArray, List.set_cons_zero, List.set_cons_succ]
              refine wpAnyH_ready (rs := [9]) (by kernel_rfl) (by simp) ?_
              refine AllReadyH.cons (o := { dst := none, op := .store 42 (.tmp 67) (.tmp 65), type := 0, pos := "law.go:95", after := #[{ on := 8, ground := .data }, { on := 6, ground := .data }, { on := 5, ground := .chain }, { on := 0, ground := .phase }, { on := 1, ground := .phase }, { on := 2, ground := .phase }, { on := 3, ground := .phase }, { on := 4, ground := .phase }, { on := 5, ground := .phase }, { on := 6, ground := .phase }], guard := none }) rfl (fun K hK => ?_) AllReadyH.nil
              refine step_store_mid rfl 42 _ _ rfl g4 (k * 37 + 34) [.int .i64 2, .int .i64 0, .string ls] rfl rfl HTH.out (by kernel_rfl) (by intro v hv; simp only [List.mem_cons, List.not_mem_nil, or_false] at hv; rcases hv with rfl | rfl | rfl <;> rfl) ?_
              simp only [Act.put]
              refine hK.out _ _ (trivial) (fun hHeld => ?_)
              clear hK K
              refine wpAnyH_done (by kernel_rfl) ?_ _
              refine NoPanic.normal ?_
              have HO8 : Hid (OwnE 46 (w6.setCells g4 (k * 37 + 34) [.int .i64 2, .int .i64 0, .string ls]) (T + 1) (.slice (some ⟨g4, 0, none⟩) (k + 1) cap4) ((L ++ [x]).set k ⟨x.prev, x.seq, 2, 0, ls⟩)) := HO7.out.setPart k 34 _ _ HKL.out (by show 34 + 3 ≤ 37; omega) (by rw [HXK.out]; exact wit_splice x 2 0 ls)
              have HBW : Hid (Below (T + 1) w6 (w6.setCells g4 (k * 37 + 34) [.int .i64 2, .int .i64 0, .string ls])) := below_setCells hg4 _ (Below.refl _ _) _
              have HB8 : Hid (Blk (w6.setCells g4 (k * 37 + 34) [.int .i64 2, .int .i64 0, .string ls]) T _) := HB7.out.below HBW.out (by omega)
              have HKP8 : Hid (KeepN T (T + 1) w1 (w6.setCells g4 (k * 37 + 34) [.int .i64 2, .int .i64 0, .string ls])) := HKP7.out.trans (KeepN.of_below HBW.out)
              have HF8 : Hid (Fits pl sq pr (L ++ [⟨x.prev, x.seq, 2, 0, ls⟩])) := HF.out.next (by obtain ⟨h1, h2, h3, h4, h5⟩ := HX.out; exact ⟨by rw [hL]; exact h1, h2, rfl, HLS.out, by rw [if_pos hp0]⟩)
              rw [show (L ++ [x]).set k ⟨x.prev, x.seq, 2, 0, ls⟩ = L ++ [⟨x.prev, x.seq, 2, 0, ls⟩] by rw [← hL]; exact set_last L x _] at HO8
              clear hHeld HO7 HB7 HKP7 HBW HTH
              generalize w6.setCells g4 (k * 37 + 34) [.int .i64 2, .int .i64 0, .string ls] = w8 at *
              go_wp2_with fail
              go_roundw
              case rel => exact ⟨k + 1, L ++ [(⟨x.prev, x.seq, 2, 0, ls⟩ : In)], _, by omega, by go_num, by simp [hL], HF8.out, HB8.out, HO8.out, HKP8.out⟩
              case measure => simp [intOf]; omega
          · have hp00 : pr = 0 := by omega
            have hpi : ¬ (0 : Int) < (pr : Int) := by omega
            have HF8 : Hid (Fits pl sq pr (L ++ [x])) := HF.out.next (by obtain ⟨h1, h2, h3, h4, h5⟩ := HX.out; exact ⟨by rw [hL]; exact h1, h2, h4, by rw [h5, hp00]; rfl, by rw [if_neg hp0]; exact h3⟩)
            clear hp00 hp0
            go_wp2_with fail
            go_roundw
            case rel => exact ⟨k + 1, L ++ [x], _, by omega, by go_num, by simp [hL], HF8.out, HB6.out, HO6.out, HKP6.out⟩
            case measure => simp [intOf]; omega
    · obtain rfl : k = n := by omega
      generalize wr = wA at *
      obtain ⟨aI, cI, hv, hEI⟩ := HO.out.els
      rw [hL] at hv hEI
      subst hv
      have HOI : Hid (∀ b o, aI = some ⟨b, o, none⟩ → T + 1 ≤ b ∧ b < wA.heap.size) := fun b o e => HO.out.lt b (by rw [e]; rfl)
      have HEI : Hid (Els wA aI k cI L) := hEI
      have hsr := HKP.out.size
      have HBR : Hid (Below T w wA) := HBL.out.trans (HKP.out.below (Nat.le_refl _) (by omega))
      clear hEI HBL
      go_upto_region 11 with fail
      go_loopw [15] (fun i wr => ∃ (j : Nat) (v2 : Value), j ≤ m ∧ i = .int .i64 j ∧ Hid (Blk wr T [.slice aI k cI, v2, .int .i64 0]) ∧ Hid (OwnE 50 wr wA.heap.size v2 (List.replicate j oneOut)) ∧ Hid (KeepN T wA.heap.size wA wr)) (fun i _ => m - (intOf i).toNat)
      case atStart => exact ⟨0, .slice none 0 0, by omega, rfl, HB.out, OwnE.nil _ _, KeepN.refl _ _ _⟩
      case round =>
        obtain ⟨j, v2, hj, rfl, HB2, HO2, HK2⟩ := hrel
        clear HB
        have hs2 := HK2.out.size
        by_cases hlt : j < m
        · have e1 : (j : Int) < (m : Int) := by omega
          have c1 : wr.cell? ⟨T, 1, none⟩ = some v2 := HB2.out.one rfl
          have HE : Hid (Els (wr.alloc (.cells (flatE [oneOut]).toArray 50)) (some ⟨wr.heap.size, 0, none⟩) 1 1 [oneOut]) := Els.lit wr [oneOut] 1 _ rfl (by omega)
          have HAB : Hid (Below wr.heap.size wr (wr.alloc (.cells (flatE [oneOut]).toArray 50))) := (Below.refl _ _).alloc (Nat.le_refl _) _
          have HOA : Hid (OwnE 50 (wr.alloc (.cells (flatE [oneOut]).toArray 50)) wA.heap.size v2 (List.replicate j oneOut)) := HO2.out.below HAB.out
          have HBA : Hid (Blk (wr.alloc (.cells (flatE [oneOut]).toArray 50)) T [.slice aI k cI, v2, .int .i64 0]) := HB2.out.below HAB.out HB2.out.lt
          go_wp2_with (at_builtin; refine wpList_append_e elOut rfl _ _ rfl wA.heap.size v2 (List.replicate j oneOut) rfl HOA.out _ 1 1 [oneOut] rfl HE.out (by rw [List.length_replicate]; omega) (by simp; omega) ?_; intro v4 w4 HO4 HG4 HM4; obtain ⟨a4, n4, cap4, rfl⟩ := HO4.out.any; obtain ⟨hc4, hf4⟩ := hold_cell (i := 1) HBA.out (fun k hk => (HOA.out.lt k hk).1) (by omega) HG4.out rfl)
          obtain ⟨HB5, HO5, HK5⟩ := hold_store (i := 1) HBA.out (fun k hk => (HOA.out.lt k hk).1) (show T < wA.heap.size by omega) (by simp; omega) HO4.out HG4.out
          have HB6 : Hid (Blk _ T [.slice aI k cI, .slice a4 n4 cap4, .int .i64 0]) := HB5
          rw [← List.replicate_succ'] at HO5
          have HO6 : Hid (OwnE 50 _ wA.heap.size (.slice a4 n4 cap4) (List.replicate (j + 1) oneOut)) := HO5
          have HK6 : Hid (KeepN T wA.heap.size wA _) := (HK2.out.trans (KeepN.of_below (HAB.out.mono hs2))).trans HK5
          clear HB5 HO5 HK5 hc4 hf4 c1 HE HAB HOA HBA
          generalize World.setCell w4 _ _ = w5 at *
          go_roundw
          case rel => exact ⟨j + 1, _, by omega, by go_num, HB6.out, HO6.out, HK6.out⟩
          case measure => simp [intOf]; omega
        · obtain rfl : j = m := by omega
          obtain ⟨aO, cO, hv, hEO⟩ := HO2.out.els
          rw [List.length_replicate] at hv hEO
          subst hv
          have HOO : Hid (∀ b o, aO = some ⟨b, o, none⟩ → wA.heap.size ≤ b ∧ b < (wr.setCell ⟨T, 2, none⟩ (.int .i64 lk)).heap.size) := fun b o e => by
            have := HO2.out.lt b (by rw [e]; rfl)
            simpa [World.setCell] using this
          have c2 : wr.cell? ⟨T, 2, none⟩ = some (.int .i64 0) := HB2.out.one rfl
          have f2 : wr.frozen? ⟨T, 2, none⟩ = false := HB2.out.frozen 2
          have HB3 : Hid (Blk (wr.setCell ⟨T, 2, none⟩ (.int .i64 lk)) T [.slice aI k cI, .slice aO j cO, .int .i64 lk]) := HB2.out.set 2 _
          have HTX : Hid (TxAt (wr.setCell ⟨T, 2, none⟩ (.int .i64 lk)) ⟨aI, k, cI, aO, j, cO⟩ ⟨L, List.replicate j oneOut, lk⟩) := by
            refine ⟨HEI.out.later fun b o _ e => ?_, hEO.later fun b o _ e => ?_⟩
            · have := HOI.out b o e
              rw [Below.heap_setCell wr _ _ b (by show b ≠ T; omega)]
              exact HK2.out.block b this.2 (by omega)
            · have := HOO.out b o e
              rw [Below.heap_setCell wr _ _ b (by show b ≠ T; omega)]
          have HO3 : Hid (OwnE 46 (wr.setCell ⟨T, 2, none⟩ (.int .i64 lk)) (T + 1) (.slice aI k cI) L) := HO.out.same fun b hb => by
            have := HO.out.lt b hb
            rw [Below.heap_setCell wr _ _ b (by show b ≠ T; omega)]
            exact HK2.out.block b this.2 (by omega)
          have HB3L : Hid (Below T w (wr.setCell ⟨T, 2, none⟩ (.int .i64 lk))) := (HBR.out.trans (HK2.out.below (Nat.le_refl _) (by omega))).setCell (Nat.le_refl _) _
          have HS3 : Hid (wA.heap.size ≤ (wr.setCell ⟨T, 2, none⟩ (.int .i64 lk)).heap.size) := by show _ ≤ _; simpa [World.setCell] using hs2
          have HEO3 : Hid (Els (wr.setCell ⟨T, 2, none⟩ (.int .i64 lk)) aO j cO (List.replicate j oneOut)) := HTX.out.outs
          have HGI : Hid (∀ b, (Value.slice aI k cI).ownBlock = some b → b < wA.heap.size) := fun b hb => (HO.out.lt b hb).2
          clear hEO HEI HB2 HO2 HK2 HO
          go_upto_region 15 with fail
          clear c2 f2
          generalize wr.setCell ⟨T, 2, none⟩ (.int .i64 lk) = w3 at *
          have c0 : w3.cell? ⟨T, 0, none⟩ = some (.slice aI k cI) := HB3.out.one rfl
          have c1 : w3.cell? ⟨T, 1, none⟩ = some (.slice aO j cO) := HB3.out.one rfl
          have c2 : w3.cell? ⟨T, 2, none⟩ = some (.int .i64 lk) := HB3.out.one rfl
          have HCHK : Hid (Calls Tryd.prog 11 #[.agg #[.slice aI k cI, .slice aO j cO, .int .i64 lk]] w3 fun e w' => e = .returned (.int .i64 (wantE k j pl sq lk pr)) ∧ Below w3.heap.size w3 w') := by
            have := check_any _ _ w3 HTX.out
            rw [lim_check HF.out hL (by omega)] at this
            exact this
          have HKW : Hid (∀ w', Below w3.heap.size w3 w' → Kw w') := fun w' hb => HK.out.below (HB3L.out.trans (hb.mono (by have := HS3.out; omega))) hpos
          have HEND : Hid (∀ w', Below w3.heap.size w3 w' → Below T w w') := fun w' hb => HB3L.out.trans (hb.mono (by have := HS3.out; omega))
          have hcase := lim_cases k j pr pl sq lk
          rcases hcase with h1 | ⟨h1, h2⟩ | ⟨h1, h2, h3⟩ | ⟨h1, h2, h3, h4⟩ | ⟨h1, h2, h3, h4, h5⟩ | ⟨h1, h2, h3, h4, h5, h6⟩ | ⟨h1, h2, h3, h4, h5, h6, h7⟩ | ⟨h1, h2, h3, h4, h5, h6, h7, h8⟩ | ⟨h1, h2, h3, h4, h5, h6, h7, h8, h9⟩ | ⟨h1, h2, h3, h4, h5, h6, h7, h8, h9, h10⟩ | ⟨h1, h2, h3, h4, h5, h6, h7, h8, h9, h10⟩ | ⟨h1, h2, h3, h4, h5, h6, h7, h8, h9, h10⟩
          case inr.inr.inr.inr.inr.inr.inr.inr.inr.inr.inr =>
            rw [show wantE k j pl sq lk pr = 0 by unfold wantE; rw [if_neg (by omega), if_neg (by omega)]] at HCHK
            have HH1 : Hid (0 < k ∧ k < 100 ∧ j ≤ 100) := ⟨h3, h1, h2⟩
            first | have d0 : decide (100 < (k : Int)) = false := decide_eq_false (by omega) | have d0 : decide (100 < (k : Int)) = true := decide_eq_true (by omega) | skip
            first | have d1 : decide (100 < (j : Int)) = false := decide_eq_false (by omega) | have d1 : decide (100 < (j : Int)) = true := decide_eq_true (by omega) | skip
            first | have d2 : decide (pl < 0) = false := decide_eq_false (by omega) | have d2 : decide (pl < 0) = true := decide_eq_true (by omega) | skip
            first | have d3 : decide (99 < pl) = false := decide_eq_false (by omega) | have d3 : decide (99 < pl) = true := decide_eq_true (by omega) | skip
            first | have d4 : decide (sq < 0) = false := decide_eq_false (by omega) | have d4 : decide (sq < 0) = true := decide_eq_true (by omega) | skip
            first | have d5 : decide (65535 < sq) = false := decide_eq_false (by omega) | have d5 : decide (65535 < sq) = true := decide_eq_true (by omega) | skip
            first | have d6 : decide (64 < (pr : Int)) = false := decide_eq_false (by omega) | have d6 : decide (64 < (pr : Int)) = true := decide_eq_true (by omega) | skip
            first | have d7 : decide (lk < 0) = false := decide_eq_false (by omega) | have d7 : decide (lk < 0) = true := decide_eq_true (by omega) | skip
            first | have d8 : decide (1000000 < lk) = false := decide_eq_false (by omega) | have d8 : decide (1000000 < lk) = true := decide_eq_true (by omega) | skip
            first | have z1 : ((k : Int) == 0) = false := beq_eq_false_iff_ne.2 (by omega) | have z1 : ((k : Int) == 0) = true := beq_iff_eq.2 (by omega) | skip
            first | have z2 : ((k : Int) == 100) = false := beq_eq_false_iff_ne.2 (by omega) | have z2 : ((k : Int) == 100) = true := beq_iff_eq.2 (by omega) | skip
            have HH : Hid (k ≤ 102 ∧ j ≤ 102 ∧ (0 < k ∧ k < 100 ∨ ¬ (0 < k ∧ k < 100))) := ⟨by omega, by omega, by omega⟩
            try clear h10
            try clear h9
            try clear h8
            try clear h7
            try clear h6
            try clear h5
            try clear h4
            try clear h3
            try clear h2
            clear h1
            go_upto_region 20 with fail
            clear d0 d1 d2 d3 d4 d5 d6 d7 d8 z1
            have hk0 : 0 < k := HH1.out.1
            obtain ⟨g, n', c', hvg, hn', hg1⟩ := HO3.out.led (by rw [hL]; exact hk0)
            clear hn'
            injection hvg with e1 e2 e3
            subst e1; subst e2; subst e3
            go_upto_region 24 with (go_at_call 11; refine Calls.mono HCHK.out ?_; rintro e w4 ⟨rfl, hb4⟩)
            have HB4 : Hid (Blk w4 T [.slice (some ⟨g, 0, none⟩) k cI, .slice aO j cO, .int .i64 lk]) := HB3.out.below hb4 HB3.out.lt
            have HO4 : Hid (OwnE 46 w4 (T + 1) (.slice (some ⟨g, 0, none⟩) k cI) L) := HO3.out.below hb4
            have HE4 : Hid (Els w4 aO j cO (List.replicate j oneOut)) := HEO3.out.below hb4
            have HB4L : Hid (Below w3.heap.size w3 w4) := hb4
            have hs4 := hb4.size
            have hc0 : w4.cell? ⟨T, 0, none⟩ = some (.slice (some ⟨g, 0, none⟩) k cI) := HB4.out.one rfl
            obtain ⟨x, hx⟩ : ∃ x, x = L.getD 0 default := ⟨_, rfl⟩
            have HRX : Hid (∀ w', OwnE 46 w' (T + 1) (.slice (some ⟨g, 0, none⟩) k cI) L → w'.rangeAt g 0 x.cs) := fun w' ho i v hv => by
              have := (ho.cellAt (j := 0) (i := i) (u := v) (by rw [hL]; exact hk0) (by rw [hx] at hv; exact hv)).1
              rwa [Nat.zero_mul] at this
            have HX : Hid (x = L.getD 0 default) := hx
            have hk1 : (0 : Int) < (k : Int) := by omega
            have hS3 := HS3.out
            clear hb4 hx c0 c1 c2
            refine wp_region_noPanic ?_
            refine wp_region_held_drew (S := fun _ => True) HMO.out (trivial) (fun hHeld => ?_)
            refine wpAnyH_take (i := 0) (oi := { dst := some 131, op := .fieldAddr 25 (.tmp 13) 0, type := 0, pos := "law.go:115", after := #[], guard := none }) (v := ?_) rfl (by kernel_rfl) (by kernel_rfl) (by kernel_rfl) (fun _ _ _ h => h) (Or.inl ⟨by rfl, ?_⟩) (by assumption) ?_
            rotate_left
            · intro _ _; go_simp; first | done | with_reducible rfl
            simp only [Act.put, List.setIfInBounds_toArray, List.set_cons_zero, List.set_cons_succ]
            refine wpAnyH_take (i := 2) (oi := { dst := some 133, op := .fieldAddr 25 (.tmp 13) 0, type := 0, pos := "law.go:115", after := #[], guard := none }) (v := ?_) rfl (by kernel_rfl) (by kernel_rfl) (by kernel_rfl) (fun _ _ _ h => h) (Or.inl ⟨by rfl, ?_⟩) (by assumption) ?_
            rotate_left
            · intro _ _; go_simp; first | done | with_reducible rfl
            simp only [Act.put, List.setIfInBounds_toArray, List.set_cons_zero, List.set_cons_succ]
            refine wpAnyH_ready (rs := [1, 3]) (by kernel_rfl) (by simp) ?_
            refine (AllReadyH.cons (o := { dst := some 132, op := .load 22 (.tmp 131), type := 22, pos := "law.go:115", after := #[{ on := 0, ground := .data }], guard := none }) rfl (fun K hK => ?_) (AllReadyH.cons (o := { dst := some 134, op := .load 22 (.tmp 133), type := 22, pos := "law.go:115", after := #[{ on := 2, ground := .data }], guard := none }) rfl (fun K hK => ?_) AllReadyH.nil))
            · go_simp
              skip
              go_simp
              refine hK.out _ _ (trivial) (fun hHeld => ?_)
              clear hK K
              refine wpAnyH_ready (rs := [3]) (by kernel_rfl) (by simp) ?_
              refine AllReadyH.cons (o := { dst := some 134, op := .load 22 (.tmp 133), type := 22, pos := "law.go:115", after := #[{ on := 2, ground := .data }], guard := none }) rfl (fun K hK => ?_) AllReadyH.nil
              go_simp
              skip
              go_simp
              refine hK.out _ _ (trivial) (fun hHeld => ?_)
              clear hK K
              refine wpAnyH_take (i := 4) (oi := { dst := some 135, op := .indexAddr 22 (.tmp 134) (.const (.int .i64 0)), type := 0, pos := "law.go:115", after := #[{ on := 3, ground := .data }], guard := none }) (v := ?_) rfl (by kernel_rfl) (by kernel_rfl) (by kernel_rfl) (fun _ _ _ h => h) (Or.inl ⟨by rfl, ?_⟩) (by assumption) ?_
              rotate_left
              · intro _ _; go_simp; first | done | with_reducible rfl
              simp only [Act.put, List.setIfInBounds_toArray, List.set_cons_zero, List.set_cons_succ]
              refine wpAnyH_ready (rs := [5]) (by kernel_rfl) (by simp) ?_
              refine AllReadyH.cons (o := { dst := some 136, op := .load 46 (.tmp 135), type := 46, pos := "law.go:115", after := #[{ on := 4, ground := .data }], guard := none }) rfl (fun K hK => ?_) AllReadyH.nil
              refine step_load_mid rfl 46 _ rfl g 0 rfl x.cs _ (HRX.out _ (HO4.out.below (Below.refl _ _).drew)) HDI.out HRI.out (size_in x) ?_
              simp only [Act.put, List.setIfInBounds_toArray, List.set_cons_zero, List.set_cons_succ]
              refine hK.out _ _ (trivial) (fun hHeld => ?_)
              clear hK K
              refine wpAnyH_ready (rs := [6]) (by kernel_rfl) (by simp) ?_
              refine AllReadyH.cons (o := { dst := some 137, op := .buildSlice 22 1 #[(0, .tmp 136)], type := 22, pos := "law.go:115", after := #[{ on := 5, ground := .data }], guard := none }) rfl (fun K hK => ?_) AllReadyH.nil
              refine step_build_one elIn rfl _ rfl x rfl ?_; intro w6 HE6 Hb6; have HB6 : Hid (Blk w6 T _) := HB4.out.drew.below Hb6.out HB4.out.lt; have HO6 : Hid (OwnE 46 w6 (T + 1) (.slice (some ⟨g, 0, none⟩) k cI) L) := (HO4.out.below (Below.refl _ _).drew).below Hb6.out; have hs6 : w4.heap.size ≤ w6.heap.size := Hb6.out.size; have HB6L : Hid (Below w4.heap.size w4 w6) := (Below.refl _ w4).drew.trans Hb6.out
              simp only [Act.put, List.setIfInBounds_toArray, List.set_cons_zero, List.set_cons_succ]
              refine hK.out _ _ (trivial) (fun hHeld => ?_)
              clear hK K
              refine wpAnyH_ready (rs := [7]) (by kernel_rfl) (by simp) ?_
              refine AllReadyH.cons (o := { dst := some 138, op := .call { callee := .builtin Go.Builtin.append, args := #[.tmp 132, .tmp 137], argTypes := #[22, 22] }, type := 22, pos := "law.go:115", after := #[{ on := 1, ground := .data }, { on := 6, ground := .data }], guard := none }) rfl (fun K hK => ?_) AllReadyH.nil
              refine step_append_e elIn rfl _ _ rfl (T + 1) _ L rfl HO6.out _ 1 1 [x] rfl HE6.out (by rw [hL]; have := HH1.out.2.1; omega) (by omega) ?_; intro v7 w7 HO7 HG7 HM7; obtain ⟨a7, n7, cap7, rfl⟩ := HO7.out.any; obtain ⟨hc7, hf7⟩ := hold_cell (i := 0) HB6.out (fun k hk => (HO6.out.lt k hk).1) (by omega) HG7.out rfl
              simp only [Act.put, List.setIfInBounds_toArray, List.set_cons_zero, List.set_cons_succ]
              refine hK.out _ _ (trivial) (fun hHeld => ?_)
              clear hK K
              refine wpAnyH_take (i := 8) (oi := { dst := some 139, op := .fieldAddr 25 (.tmp 13) 0, type := 0, pos := "law.go:115", after := #[{ on := 0, ground := .phase }, { on := 1, ground := .phase }, { on := 2, ground := .phase }, { on := 3, ground := .phase }, { on := 4, ground := .phase }, { on := 5, ground := .phase }, { on := 6, ground := .phase }, { on := 7, ground := .phase }], guard := none }) (v := ?_) rfl (by kernel_rfl) (by kernel_rfl) (by kernel_rfl) (fun _ _ _ h => h) (Or.inl ⟨by rfl, ?_⟩) (by assumption) ?_
              rotate_left
              · intro _ _; go_simp; first | done | with_reducible rfl
              simp only [Act.put, List.setIfInBounds_toArray, List.set_cons_zero, List.set_cons_succ]
              refine wpAnyH_ready (rs := [9]) (by kernel_rfl) (by simp) ?_
              refine AllReadyH.cons (o := { dst := none, op := .store 22 (.tmp 139) (.tmp 138), type := 0, pos := "law.go:115", after := #[{ on := 8, ground := .data }, { on := 7, ground := .data }, { on := 7, ground := .chain }, { on := 0, ground := .phase }, { on := 1, ground := .phase }, { on := 2, ground := .phase }, { on := 3, ground := .phase }, { on := 4, ground := .phase }, { on := 5, ground := .phase }, { on := 6, ground := .phase }, { on := 7, ground := .phase }], guard := none }) rfl (fun K hK => ?_) AllReadyH.nil
              go_simp
              skip
              go_simp
              refine hK.out _ _ (trivial) (fun hHeld => ?_)
              clear hK K
              refine wpAnyH_done (by kernel_rfl) ?_ _
              refine NoPanic.normal ?_
              obtain ⟨HB8', HO8', HK8'⟩ := hold_store (i := 0) HB6.out (fun k hk => (HO6.out.lt k hk).1) (show T < T + 1 by omega) (by omega) HO7.out HG7.out
              have HB8 : Hid (Blk _ T [.slice a7 n7 cap7, .slice aO j cO, .int .i64 lk]) := HB8'
              have HO8 : Hid (OwnE 46 _ (T + 1) (.slice a7 n7 cap7) (L ++ [x])) := HO8'
              have HK8 : Hid (KeepN T (T + 1) w6 _) := HK8'
              have HE8 : Hid (Els (w7.setCell ⟨T, 0, none⟩ (.slice a7 n7 cap7)) aO j cO (List.replicate j oneOut)) := (HE4.out.below HB6L.out).later fun b o _ e => by
                have h1 := HOO.out b o e
                have h2 := HGI.out g rfl
                have h3 := HEND.out
                rw [Below.heap_setCell w7 _ _ b (by show b ≠ T; omega)]
                exact HG7.out.block b (by omega) (by intro e; have e' : some b = some g := e; injection e' with e'; omega)
              clear HB8' HO8' HK8' hHeld hc7 hf7
              generalize World.setCell w7 _ _ = w8 at *
              obtain ⟨aN, cN, hvN, hEN⟩ := HO8.out.els
              injection hvN with e1 e2 e3
              subst e1; subst e2; subst e3
              have HCH2 : Hid (Calls Tryd.prog 11 #[.agg #[.slice a7 (L ++ [x]).length cap7, .slice aO j cO, .int .i64 lk]] w8 fun e w' => e = .returned (.int .i64 1) ∧ Below w8.heap.size w8 w') := by
                have := check_any ⟨a7, (L ++ [x]).length, cap7, aO, j, cO⟩ ⟨L ++ [x], List.replicate j oneOut, lk⟩ w8 ⟨hEN, HE8.out⟩
                rw [HX.out, lim_twice (by rw [hL]; exact hk0) (by rw [hL]; exact HH1.out.2.1) HH1.out.2.2, ← HX.out] at this
                exact this
              generalize (L ++ [x]).length = n8 at *
              have HE8L : Hid (Below T w w8) := (HEND.out _ (HB4L.out.trans (HB6L.out.mono hs4))).trans (HK8.out.below (Nat.le_refl _) (by omega))
              have hs8 := HK8.out.size
              have c0 : w8.cell? ⟨T, 0, none⟩ = some (.slice a7 n8 cap7) := HB8.out.one rfl
              have c1 : w8.cell? ⟨T, 1, none⟩ = some (.slice aO j cO) := HB8.out.one rfl
              have c2 : w8.cell? ⟨T, 2, none⟩ = some (.int .i64 lk) := HB8.out.one rfl
              go_wp2_with (first
                | (go_at_call 11; refine Calls.mono HCH2.out ?_; rintro e w9 ⟨rfl, hb9⟩)
                | (go_at_call 9; refine (awake_any _ (HK.out.below (HE8L.out.trans (hb9.mono (by omega))) hpos)).mono ?_; rintro e w10 ⟨rfl, hb10⟩))
              go_ret
              have hs9 := hb9.size
              subst hN
              exact ⟨rfl, HE8L.out.trans ((hb9.trans (hb10.mono hs9)).mono (by omega))⟩
            · go_simp
              skip
              go_simp
              refine hK.out _ _ (trivial) (fun hHeld => ?_)
              clear hK K
              refine wpAnyH_take (i := 4) (oi := { dst := some 135, op := .indexAddr 22 (.tmp 134) (.const (.int .i64 0)), type := 0, pos := "law.go:115", after := #[{ on := 3, ground := .data }], guard := none }) (v := ?_) rfl (by kernel_rfl) (by kernel_rfl) (by kernel_rfl) (fun _ _ _ h => h) (Or.inl ⟨by rfl, ?_⟩) (by assumption) ?_
              rotate_left
              · intro _ _; go_simp; first | done | with_reducible rfl
              simp only [Act.put, List.setIfInBounds_toArray, List.set_cons_zero, List.set_cons_succ]
              refine wpAnyH_ready (rs := [1, 5]) (by kernel_rfl) (by simp) ?_
              refine (AllReadyH.cons (o := { dst := some 132, op := .load 22 (.tmp 131), type := 22, pos := "law.go:115", after := #[{ on := 0, ground := .data }], guard := none }) rfl (fun K hK => ?_) (AllReadyH.cons (o := { dst := some 136, op := .load 46 (.tmp 135), type := 46, pos := "law.go:115", after := #[{ on := 4, ground := .data }], guard := none }) rfl (fun K hK => ?_) AllReadyH.nil))
              · go_simp
                skip
                go_simp
                refine hK.out _ _ (trivial) (fun hHeld => ?_)
                clear hK K
                refine wpAnyH_ready (rs := [5]) (by kernel_rfl) (by simp) ?_
                refine AllReadyH.cons (o := { dst := some 136, op := .load 46 (.tmp 135), type := 46, pos := "law.go:115", after := #[{ on := 4, ground := .data }], guard := none }) rfl (fun K hK => ?_) AllReadyH.nil
                refine step_load_mid rfl 46 _ rfl g 0 rfl x.cs _ (HRX.out _ (HO4.out.below (Below.refl _ _).drew)) HDI.out HRI.out (size_in x) ?_
                simp only [Act.put, List.setIfInBounds_toArray, List.set_cons_zero, List.set_cons_succ]
                refine hK.out _ _ (trivial) (fun hHeld => ?_)
                clear hK K
                refine wpAnyH_ready (rs := [6]) (by kernel_rfl) (by simp) ?_
                refine AllReadyH.cons (o := { dst := some 137, op := .buildSlice 22 1 #[(0, .tmp 136)], type := 22, pos := "law.go:115", after := #[{ on := 5, ground := .data }], guard := none }) rfl (fun K hK => ?_) AllReadyH.nil
                refine step_build_one elIn rfl _ rfl x rfl ?_; intro w6 HE6 Hb6; have HB6 : Hid (Blk w6 T _) := HB4.out.drew.below Hb6.out HB4.out.lt; have HO6 : Hid (OwnE 46 w6 (T + 1) (.slice (some ⟨g, 0, none⟩) k cI) L) := (HO4.out.below (Below.refl _ _).drew).below Hb6.out; have hs6 : w4.heap.size ≤ w6.heap.size := Hb6.out.size; have HB6L : Hid (Below w4.heap.size w4 w6) := (Below.refl _ w4).drew.trans Hb6.out
                simp only [Act.put, List.setIfInBounds_toArray, List.set_cons_zero, List.set_cons_succ]
                refine hK.out _ _ (trivial) (fun hHeld => ?_)
                clear hK K
                refine wpAnyH_ready (rs := [7]) (by kernel_rfl) (by simp) ?_
                refine AllReadyH.cons (o := { dst := some 138, op := .call { callee := .builtin Go.Builtin.append, args := #[.tmp 132, .tmp 137], argTypes := #[22, 22] }, type := 22, pos := "law.go:115", after := #[{ on := 1, ground := .data }, { on := 6, ground := .data }], guard := none }) rfl (fun K hK => ?_) AllReadyH.nil
                refine step_append_e elIn rfl _ _ rfl (T + 1) _ L rfl HO6.out _ 1 1 [x] rfl HE6.out (by rw [hL]; have := HH1.out.2.1; omega) (by omega) ?_; intro v7 w7 HO7 HG7 HM7; obtain ⟨a7, n7, cap7, rfl⟩ := HO7.out.any; obtain ⟨hc7, hf7⟩ := hold_cell (i := 0) HB6.out (fun k hk => (HO6.out.lt k hk).1) (by omega) HG7.out rfl
                simp only [Act.put, List.setIfInBounds_toArray, List.set_cons_zero, List.set_cons_succ]
                refine hK.out _ _ (trivial) (fun hHeld => ?_)
                clear hK K
                refine wpAnyH_take (i := 8) (oi := { dst := some 139, op := .fieldAddr 25 (.tmp 13) 0, type := 0, pos := "law.go:115", after := #[{ on := 0, ground := .phase }, { on := 1, ground := .phase }, { on := 2, ground := .phase }, { on := 3, ground := .phase }, { on := 4, ground := .phase }, { on := 5, ground := .phase }, { on := 6, ground := .phase }, { on := 7, ground := .phase }], guard := none }) (v := ?_) rfl (by kernel_rfl) (by kernel_rfl) (by kernel_rfl) (fun _ _ _ h => h) (Or.inl ⟨by rfl, ?_⟩) (by assumption) ?_
                rotate_left
                · intro _ _; go_simp; first | done | with_reducible rfl
                simp only [Act.put, List.setIfInBounds_toArray, List.set_cons_zero, List.set_cons_succ]
                refine wpAnyH_ready (rs := [9]) (by kernel_rfl) (by simp) ?_
                refine AllReadyH.cons (o := { dst := none, op := .store 22 (.tmp 139) (.tmp 138), type := 0, pos := "law.go:115", after := #[{ on := 8, ground := .data }, { on := 7, ground := .data }, { on := 7, ground := .chain }, { on := 0, ground := .phase }, { on := 1, ground := .phase }, { on := 2, ground := .phase }, { on := 3, ground := .phase }, { on := 4, ground := .phase }, { on := 5, ground := .phase }, { on := 6, ground := .phase }, { on := 7, ground := .phase }], guard := none }) rfl (fun K hK => ?_) AllReadyH.nil
                go_simp
                skip
                go_simp
                refine hK.out _ _ (trivial) (fun hHeld => ?_)
                clear hK K
                refine wpAnyH_done (by kernel_rfl) ?_ _
                refine NoPanic.normal ?_
                obtain ⟨HB8', HO8', HK8'⟩ := hold_store (i := 0) HB6.out (fun k hk => (HO6.out.lt k hk).1) (show T < T + 1 by omega) (by omega) HO7.out HG7.out
                have HB8 : Hid (Blk _ T [.slice a7 n7 cap7, .slice aO j cO, .int .i64 lk]) := HB8'
                have HO8 : Hid (OwnE 46 _ (T + 1) (.slice a7 n7 cap7) (L ++ [x])) := HO8'
                have HK8 : Hid (KeepN T (T + 1) w6 _) := HK8'
                have HE8 : Hid (Els (w7.setCell ⟨T, 0, none⟩ (.slice a7 n7 cap7)) aO j cO (List.replicate j oneOut)) := (HE4.out.below HB6L.out).later fun b o _ e => by
                  have h1 := HOO.out b o e
                  have h2 := HGI.out g rfl
                  have h3 := HEND.out
                  rw [Below.heap_setCell w7 _ _ b (by show b ≠ T; omega)]
                  exact HG7.out.block b (by omega) (by intro e; have e' : some b = some g := e; injection e' with e'; omega)
                clear HB8' HO8' HK8' hHeld hc7 hf7
                generalize World.setCell w7 _ _ = w8 at *
                obtain ⟨aN, cN, hvN, hEN⟩ := HO8.out.els
                injection hvN with e1 e2 e3
                subst e1; subst e2; subst e3
                have HCH2 : Hid (Calls Tryd.prog 11 #[.agg #[.slice a7 (L ++ [x]).length cap7, .slice aO j cO, .int .i64 lk]] w8 fun e w' => e = .returned (.int .i64 1) ∧ Below w8.heap.size w8 w') := by
                  have := check_any ⟨a7, (L ++ [x]).length, cap7, aO, j, cO⟩ ⟨L ++ [x], List.replicate j oneOut, lk⟩ w8 ⟨hEN, HE8.out⟩
                  rw [HX.out, lim_twice (by rw [hL]; exact hk0) (by rw [hL]; exact HH1.out.2.1) HH1.out.2.2, ← HX.out] at this
                  exact this
                generalize (L ++ [x]).length = n8 at *
                have HE8L : Hid (Below T w w8) := (HEND.out _ (HB4L.out.trans (HB6L.out.mono hs4))).trans (HK8.out.below (Nat.le_refl _) (by omega))
                have hs8 := HK8.out.size
                have c0 : w8.cell? ⟨T, 0, none⟩ = some (.slice a7 n8 cap7) := HB8.out.one rfl
                have c1 : w8.cell? ⟨T, 1, none⟩ = some (.slice aO j cO) := HB8.out.one rfl
                have c2 : w8.cell? ⟨T, 2, none⟩ = some (.int .i64 lk) := HB8.out.one rfl
                go_wp2_with (first
                  | (go_at_call 11; refine Calls.mono HCH2.out ?_; rintro e w9 ⟨rfl, hb9⟩)
                  | (go_at_call 9; refine (awake_any _ (HK.out.below (HE8L.out.trans (hb9.mono (by omega))) hpos)).mono ?_; rintro e w10 ⟨rfl, hb10⟩))
                go_ret
                have hs9 := hb9.size
                subst hN
                exact ⟨rfl, HE8L.out.trans ((hb9.trans (hb10.mono hs9)).mono (by omega))⟩
              · refine step_load_mid rfl 46 _ rfl g 0 rfl x.cs _ (HRX.out _ (HO4.out.below (Below.refl _ _).drew)) HDI.out HRI.out (size_in x) ?_
                simp only [Act.put, List.setIfInBounds_toArray, List.set_cons_zero, List.set_cons_succ]
                refine hK.out _ _ (trivial) (fun hHeld => ?_)
                clear hK K
                refine wpAnyH_ready (rs := [1, 6]) (by kernel_rfl) (by simp) ?_
                refine (AllReadyH.cons (o := { dst := some 132, op := .load 22 (.tmp 131), type := 22, pos := "law.go:115", after := #[{ on := 0, ground := .data }], guard := none }) rfl (fun K hK => ?_) (AllReadyH.cons (o := { dst := some 137, op := .buildSlice 22 1 #[(0, .tmp 136)], type := 22, pos := "law.go:115", after := #[{ on := 5, ground := .data }], guard := none }) rfl (fun K hK => ?_) AllReadyH.nil))
                · go_simp
                  skip
                  go_simp
                  refine hK.out _ _ (trivial) (fun hHeld => ?_)
                  clear hK K
                  refine wpAnyH_ready (rs := [6]) (by kernel_rfl) (by simp) ?_
                  refine AllReadyH.cons (o := { dst := some 137, op := .buildSlice 22 1 #[(0, .tmp 136)], type := 22, pos := "law.go:115", after := #[{ on := 5, ground := .data }], guard := none }) rfl (fun K hK => ?_) AllReadyH.nil
                  refine step_build_one elIn rfl _ rfl x rfl ?_; intro w6 HE6 Hb6; have HB6 : Hid (Blk w6 T _) := HB4.out.drew.below Hb6.out HB4.out.lt; have HO6 : Hid (OwnE 46 w6 (T + 1) (.slice (some ⟨g, 0, none⟩) k cI) L) := (HO4.out.below (Below.refl _ _).drew).below Hb6.out; have hs6 : w4.heap.size ≤ w6.heap.size := Hb6.out.size; have HB6L : Hid (Below w4.heap.size w4 w6) := (Below.refl _ w4).drew.trans Hb6.out
                  simp only [Act.put, List.setIfInBounds_toArray, List.set_cons_zero, List.set_cons_succ]
                  refine hK.out _ _ (trivial) (fun hHeld => ?_)
                  clear hK K
                  refine wpAnyH_ready (rs := [7]) (by kernel_rfl) (by simp) ?_
                  refine AllReadyH.cons (o := { dst := some 138, op := .call { callee := .builtin Go.Builtin.append, args := #[.tmp 132, .tmp 137], argTypes := #[22, 22] }, type := 22, pos := "law.go:115", after := #[{ on := 1, ground := .data }, { on := 6, ground := .data }], guard := none }) rfl (fun K hK => ?_) AllReadyH.nil
                  refine step_append_e elIn rfl _ _ rfl (T + 1) _ L rfl HO6.out _ 1 1 [x] rfl HE6.out (by rw [hL]; have := HH1.out.2.1; omega) (by omega) ?_; intro v7 w7 HO7 HG7 HM7; obtain ⟨a7, n7, cap7, rfl⟩ := HO7.out.any; obtain ⟨hc7, hf7⟩ := hold_cell (i := 0) HB6.out (fun k hk => (HO6.out.lt k hk).1) (by omega) HG7.out rfl
                  simp only [Act.put, List.setIfInBounds_toArray, List.set_cons_zero, List.set_cons_succ]
                  refine hK.out _ _ (trivial) (fun hHeld => ?_)
                  clear hK K
                  refine wpAnyH_take (i := 8) (oi := { dst := some 139, op := .fieldAddr 25 (.tmp 13) 0, type := 0, pos := "law.go:115", after := #[{ on := 0, ground := .phase }, { on := 1, ground := .phase }, { on := 2, ground := .phase }, { on := 3, ground := .phase }, { on := 4, ground := .phase }, { on := 5, ground := .phase }, { on := 6, ground := .phase }, { on := 7, ground := .phase }], guard := none }) (v := ?_) rfl (by kernel_rfl) (by kernel_rfl) (by kernel_rfl) (fun _ _ _ h => h) (Or.inl ⟨by rfl, ?_⟩) (by assumption) ?_
                  rotate_left
                  · intro _ _; go_simp; first | done | with_reducible rfl
                  simp only [Act.put, List.setIfInBounds_toArray, List.set_cons_zero, List.set_cons_succ]
                  refine wpAnyH_ready (rs := [9]) (by kernel_rfl) (by simp) ?_
                  refine AllReadyH.cons (o := { dst := none, op := .store 22 (.tmp 139) (.tmp 138), type := 0, pos := "law.go:115", after := #[{ on := 8, ground := .data }, { on := 7, ground := .data }, { on := 7, ground := .chain }, { on := 0, ground := .phase }, { on := 1, ground := .phase }, { on := 2, ground := .phase }, { on := 3, ground := .phase }, { on := 4, ground := .phase }, { on := 5, ground := .phase }, { on := 6, ground := .phase }, { on := 7, ground := .phase }], guard := none }) rfl (fun K hK => ?_) AllReadyH.nil
                  go_simp
                  skip
                  go_simp
                  refine hK.out _ _ (trivial) (fun hHeld => ?_)
                  clear hK K
                  refine wpAnyH_done (by kernel_rfl) ?_ _
                  refine NoPanic.normal ?_
                  obtain ⟨HB8', HO8', HK8'⟩ := hold_store (i := 0) HB6.out (fun k hk => (HO6.out.lt k hk).1) (show T < T + 1 by omega) (by omega) HO7.out HG7.out
                  have HB8 : Hid (Blk _ T [.slice a7 n7 cap7, .slice aO j cO, .int .i64 lk]) := HB8'
                  have HO8 : Hid (OwnE 46 _ (T + 1) (.slice a7 n7 cap7) (L ++ [x])) := HO8'
                  have HK8 : Hid (KeepN T (T + 1) w6 _) := HK8'
                  have HE8 : Hid (Els (w7.setCell ⟨T, 0, none⟩ (.slice a7 n7 cap7)) aO j cO (List.replicate j oneOut)) := (HE4.out.below HB6L.out).later fun b o _ e => by
                    have h1 := HOO.out b o e
                    have h2 := HGI.out g rfl
                    have h3 := HEND.out
                    rw [Below.heap_setCell w7 _ _ b (by show b ≠ T; omega)]
                    exact HG7.out.block b (by omega) (by intro e; have e' : some b = some g := e; injection e' with e'; omega)
                  clear HB8' HO8' HK8' hHeld hc7 hf7
                  generalize World.setCell w7 _ _ = w8 at *
                  obtain ⟨aN, cN, hvN, hEN⟩ := HO8.out.els
                  injection hvN with e1 e2 e3
                  subst e1; subst e2; subst e3
                  have HCH2 : Hid (Calls Tryd.prog 11 #[.agg #[.slice a7 (L ++ [x]).length cap7, .slice aO j cO, .int .i64 lk]] w8 fun e w' => e = .returned (.int .i64 1) ∧ Below w8.heap.size w8 w') := by
                    have := check_any ⟨a7, (L ++ [x]).length, cap7, aO, j, cO⟩ ⟨L ++ [x], List.replicate j oneOut, lk⟩ w8 ⟨hEN, HE8.out⟩
                    rw [HX.out, lim_twice (by rw [hL]; exact hk0) (by rw [hL]; exact HH1.out.2.1) HH1.out.2.2, ← HX.out] at this
                    exact this
                  generalize (L ++ [x]).length = n8 at *
                  have HE8L : Hid (Below T w w8) := (HEND.out _ (HB4L.out.trans (HB6L.out.mono hs4))).trans (HK8.out.below (Nat.le_refl _) (by omega))
                  have hs8 := HK8.out.size
                  have c0 : w8.cell? ⟨T, 0, none⟩ = some (.slice a7 n8 cap7) := HB8.out.one rfl
                  have c1 : w8.cell? ⟨T, 1, none⟩ = some (.slice aO j cO) := HB8.out.one rfl
                  have c2 : w8.cell? ⟨T, 2, none⟩ = some (.int .i64 lk) := HB8.out.one rfl
                  go_wp2_with (first
                    | (go_at_call 11; refine Calls.mono HCH2.out ?_; rintro e w9 ⟨rfl, hb9⟩)
                    | (go_at_call 9; refine (awake_any _ (HK.out.below (HE8L.out.trans (hb9.mono (by omega))) hpos)).mono ?_; rintro e w10 ⟨rfl, hb10⟩))
                  go_ret
                  have hs9 := hb9.size
                  subst hN
                  exact ⟨rfl, HE8L.out.trans ((hb9.trans (hb10.mono hs9)).mono (by omega))⟩
                · refine step_build_one elIn rfl _ rfl x rfl ?_; intro w6 HE6 Hb6; have HB6 : Hid (Blk w6 T _) := HB4.out.drew.below Hb6.out HB4.out.lt; have HO6 : Hid (OwnE 46 w6 (T + 1) (.slice (some ⟨g, 0, none⟩) k cI) L) := (HO4.out.below (Below.refl _ _).drew).below Hb6.out; have hs6 : w4.heap.size ≤ w6.heap.size := Hb6.out.size; have HB6L : Hid (Below w4.heap.size w4 w6) := (Below.refl _ w4).drew.trans Hb6.out; have hc6 : w6.cell? ⟨T, 0, none⟩ = some (.slice (some ⟨g, 0, none⟩) k cI) := HB6.out.one rfl
                  simp only [Act.put, List.setIfInBounds_toArray, List.set_cons_zero, List.set_cons_succ]
                  refine hK.out _ _ (trivial) (fun hHeld => ?_)
                  clear hK K
                  refine wpAnyH_ready (rs := [1]) (by kernel_rfl) (by simp) ?_
                  refine AllReadyH.cons (o := { dst := some 132, op := .load 22 (.tmp 131), type := 22, pos := "law.go:115", after := #[{ on := 0, ground := .data }], guard := none }) rfl (fun K hK => ?_) AllReadyH.nil
                  go_simp
                  skip
                  go_simp
                  refine hK.out _ _ (trivial) (fun hHeld => ?_)
                  clear hK K
                  refine wpAnyH_ready (rs := [7]) (by kernel_rfl) (by simp) ?_
                  refine AllReadyH.cons (o := { dst := some 138, op := .call { callee := .builtin Go.Builtin.append, args := #[.tmp 132, .tmp 137], argTypes := #[22, 22] }, type := 22, pos := "law.go:115", after := #[{ on := 1, ground := .data }, { on := 6, ground := .data }], guard := none }) rfl (fun K hK => ?_) AllReadyH.nil
                  refine step_append_e elIn rfl _ _ rfl (T + 1) _ L rfl HO6.out _ 1 1 [x] rfl HE6.out (by rw [hL]; have := HH1.out.2.1; omega) (by omega) ?_; intro v7 w7 HO7 HG7 HM7; obtain ⟨a7, n7, cap7, rfl⟩ := HO7.out.any; obtain ⟨hc7, hf7⟩ := hold_cell (i := 0) HB6.out (fun k hk => (HO6.out.lt k hk).1) (by omega) HG7.out rfl
                  simp only [Act.put, List.setIfInBounds_toArray, List.set_cons_zero, List.set_cons_succ]
                  refine hK.out _ _ (trivial) (fun hHeld => ?_)
                  clear hK K
                  refine wpAnyH_take (i := 8) (oi := { dst := some 139, op := .fieldAddr 25 (.tmp 13) 0, type := 0, pos := "law.go:115", after := #[{ on := 0, ground := .phase }, { on := 1, ground := .phase }, { on := 2, ground := .phase }, { on := 3, ground := .phase }, { on := 4, ground := .phase }, { on := 5, ground := .phase }, { on := 6, ground := .phase }, { on := 7, ground := .phase }], guard := none }) (v := ?_) rfl (by kernel_rfl) (by kernel_rfl) (by kernel_rfl) (fun _ _ _ h => h) (Or.inl ⟨by rfl, ?_⟩) (by assumption) ?_
                  rotate_left
                  · intro _ _; go_simp; first | done | with_reducible rfl
                  simp only [Act.put, List.setIfInBounds_toArray, List.set_cons_zero, List.set_cons_succ]
                  refine wpAnyH_ready (rs := [9]) (by kernel_rfl) (by simp) ?_
                  refine AllReadyH.cons (o := { dst := none, op := .store 22 (.tmp 139) (.tmp 138), type := 0, pos := "law.go:115", after := #[{ on := 8, ground := .data }, { on := 7, ground := .data }, { on := 7, ground := .chain }, { on := 0, ground := .phase }, { on := 1, ground := .phase }, { on := 2, ground := .phase }, { on := 3, ground := .phase }, { on := 4, ground := .phase }, { on := 5, ground := .phase }, { on := 6, ground := .phase }, { on := 7, ground := .phase }], guard := none }) rfl (fun K hK => ?_) AllReadyH.nil
                  go_simp
                  skip
                  go_simp
                  refine hK.out _ _ (trivial) (fun hHeld => ?_)
                  clear hK K
                  refine wpAnyH_done (by kernel_rfl) ?_ _
                  refine NoPanic.normal ?_
                  obtain ⟨HB8', HO8', HK8'⟩ := hold_store (i := 0) HB6.out (fun k hk => (HO6.out.lt k hk).1) (show T < T + 1 by omega) (by omega) HO7.out HG7.out
                  have HB8 : Hid (Blk _ T [.slice a7 n7 cap7, .slice aO j cO, .int .i64 lk]) := HB8'
                  have HO8 : Hid (OwnE 46 _ (T + 1) (.slice a7 n7 cap7) (L ++ [x])) := HO8'
                  have HK8 : Hid (KeepN T (T + 1) w6 _) := HK8'
                  have HE8 : Hid (Els (w7.setCell ⟨T, 0, none⟩ (.slice a7 n7 cap7)) aO j cO (List.replicate j oneOut)) := (HE4.out.below HB6L.out).later fun b o _ e => by
                    have h1 := HOO.out b o e
                    have h2 := HGI.out g rfl
                    have h3 := HEND.out
                    rw [Below.heap_setCell w7 _ _ b (by show b ≠ T; omega)]
                    exact HG7.out.block b (by omega) (by intro e; have e' : some b = some g := e; injection e' with e'; omega)
                  clear HB8' HO8' HK8' hHeld hc7 hf7
                  generalize World.setCell w7 _ _ = w8 at *
                  obtain ⟨aN, cN, hvN, hEN⟩ := HO8.out.els
                  injection hvN with e1 e2 e3
                  subst e1; subst e2; subst e3
                  have HCH2 : Hid (Calls Tryd.prog 11 #[.agg #[.slice a7 (L ++ [x]).length cap7, .slice aO j cO, .int .i64 lk]] w8 fun e w' => e = .returned (.int .i64 1) ∧ Below w8.heap.size w8 w') := by
                    have := check_any ⟨a7, (L ++ [x]).length, cap7, aO, j, cO⟩ ⟨L ++ [x], List.replicate j oneOut, lk⟩ w8 ⟨hEN, HE8.out⟩
                    rw [HX.out, lim_twice (by rw [hL]; exact hk0) (by rw [hL]; exact HH1.out.2.1) HH1.out.2.2, ← HX.out] at this
                    exact this
                  generalize (L ++ [x]).length = n8 at *
                  have HE8L : Hid (Below T w w8) := (HEND.out _ (HB4L.out.trans (HB6L.out.mono hs4))).trans (HK8.out.below (Nat.le_refl _) (by omega))
                  have hs8 := HK8.out.size
                  have c0 : w8.cell? ⟨T, 0, none⟩ = some (.slice a7 n8 cap7) := HB8.out.one rfl
                  have c1 : w8.cell? ⟨T, 1, none⟩ = some (.slice aO j cO) := HB8.out.one rfl
                  have c2 : w8.cell? ⟨T, 2, none⟩ = some (.int .i64 lk) := HB8.out.one rfl
                  go_wp2_with (first
                    | (go_at_call 11; refine Calls.mono HCH2.out ?_; rintro e w9 ⟨rfl, hb9⟩)
                    | (go_at_call 9; refine (awake_any _ (HK.out.below (HE8L.out.trans (hb9.mono (by omega))) hpos)).mono ?_; rintro e w10 ⟨rfl, hb10⟩))
                  go_ret
                  have hs9 := hb9.size
                  subst hN
                  exact ⟨rfl, HE8L.out.trans ((hb9.trans (hb10.mono hs9)).mono (by omega))⟩
          case inr.inr.inr.inr.inr.inr.inr.inr.inr.inr.inl =>
            rw [show wantE k j pl sq lk pr = 0 by unfold wantE; rw [if_neg (by omega), if_neg (by omega)]] at HCHK
            first | have d0 : decide (100 < (k : Int)) = false := decide_eq_false (by omega) | have d0 : decide (100 < (k : Int)) = true := decide_eq_true (by omega) | skip
            first | have d1 : decide (100 < (j : Int)) = false := decide_eq_false (by omega) | have d1 : decide (100 < (j : Int)) = true := decide_eq_true (by omega) | skip
            first | have d2 : decide (pl < 0) = false := decide_eq_false (by omega) | have d2 : decide (pl < 0) = true := decide_eq_true (by omega) | skip
            first | have d3 : decide (99 < pl) = false := decide_eq_false (by omega) | have d3 : decide (99 < pl) = true := decide_eq_true (by omega) | skip
            first | have d4 : decide (sq < 0) = false := decide_eq_false (by omega) | have d4 : decide (sq < 0) = true := decide_eq_true (by omega) | skip
            first | have d5 : decide (65535 < sq) = false := decide_eq_false (by omega) | have d5 : decide (65535 < sq) = true := decide_eq_true (by omega) | skip
            first | have d6 : decide (64 < (pr : Int)) = false := decide_eq_false (by omega) | have d6 : decide (64 < (pr : Int)) = true := decide_eq_true (by omega) | skip
            first | have d7 : decide (lk < 0) = false := decide_eq_false (by omega) | have d7 : decide (lk < 0) = true := decide_eq_true (by omega) | skip
            first | have d8 : decide (1000000 < lk) = false := decide_eq_false (by omega) | have d8 : decide (1000000 < lk) = true := decide_eq_true (by omega) | skip
            first | have z1 : ((k : Int) == 0) = false := beq_eq_false_iff_ne.2 (by omega) | have z1 : ((k : Int) == 0) = true := beq_iff_eq.2 (by omega) | skip
            first | have z2 : ((k : Int) == 100) = false := beq_eq_false_iff_ne.2 (by omega) | have z2 : ((k : Int) == 100) = true := beq_iff_eq.2 (by omega) | skip
            have HH : Hid (k ≤ 102 ∧ j ≤ 102 ∧ (0 < k ∧ k < 100 ∨ ¬ (0 < k ∧ k < 100))) := ⟨by omega, by omega, by omega⟩
            try clear h10
            try clear h9
            try clear h8
            try clear h7
            try clear h6
            try clear h5
            try clear h4
            try clear h3
            try clear h2
            clear h1
            go_wp2_with (first
              | (go_at_call 11; refine Calls.mono HCHK.out ?_; rintro e w4 ⟨rfl, hb4⟩)
              | (go_at_call 9; refine (awake_any _ (HKW.out _ hb4)).mono ?_; rintro e w5 ⟨rfl, hb5⟩))
            go_ret
            subst hN
            exact ⟨rfl, HEND.out _ (hb4.trans (hb5.mono hb4.size))⟩
          all_goals
            first
            | rw [show wantE k j pl sq lk pr = 3 by unfold wantE; rw [if_pos (by omega)]] at HCHK
            | rw [show wantE k j pl sq lk pr = 1 by unfold wantE; rw [if_neg (by omega), if_pos (by omega)]] at HCHK
            first | have d0 : decide (100 < (k : Int)) = false := decide_eq_false (by omega) | have d0 : decide (100 < (k : Int)) = true := decide_eq_true (by omega) | skip
            first | have d1 : decide (100 < (j : Int)) = false := decide_eq_false (by omega) | have d1 : decide (100 < (j : Int)) = true := decide_eq_true (by omega) | skip
            first | have d2 : decide (pl < 0) = false := decide_eq_false (by omega) | have d2 : decide (pl < 0) = true := decide_eq_true (by omega) | skip
            first | have d3 : decide (99 < pl) = false := decide_eq_false (by omega) | have d3 : decide (99 < pl) = true := decide_eq_true (by omega) | skip
            first | have d4 : decide (sq < 0) = false := decide_eq_false (by omega) | have d4 : decide (sq < 0) = true := decide_eq_true (by omega) | skip
            first | have d5 : decide (65535 < sq) = false := decide_eq_false (by omega) | have d5 : decide (65535 < sq) = true := decide_eq_true (by omega) | skip
            first | have d6 : decide (64 < (pr : Int)) = false := decide_eq_false (by omega) | have d6 : decide (64 < (pr : Int)) = true := decide_eq_true (by omega) | skip
            first | have d7 : decide (lk < 0) = false := decide_eq_false (by omega) | have d7 : decide (lk < 0) = true := decide_eq_true (by omega) | skip
            first | have d8 : decide (1000000 < lk) = false := decide_eq_false (by omega) | have d8 : decide (1000000 < lk) = true := decide_eq_true (by omega) | skip
            first | have z1 : ((k : Int) == 0) = false := beq_eq_false_iff_ne.2 (by omega) | have z1 : ((k : Int) == 0) = true := beq_iff_eq.2 (by omega) | skip
            first | have z2 : ((k : Int) == 100) = false := beq_eq_false_iff_ne.2 (by omega) | have z2 : ((k : Int) == 100) = true := beq_iff_eq.2 (by omega) | skip
            have HH : Hid (k ≤ 102 ∧ j ≤ 102 ∧ (0 < k ∧ k < 100 ∨ ¬ (0 < k ∧ k < 100))) := ⟨by omega, by omega, by omega⟩
            try clear h10
            try clear h9
            try clear h8
            try clear h7
            try clear h6
            try clear h5
            try clear h4
            try clear h3
            try clear h2
            clear h1
            go_wp2_with (first
              | (go_at_call 11; refine Calls.mono HCHK.out ?_; rintro e w4 ⟨rfl, hb4⟩)
              | (go_at_call 9; refine (awake_any _ (HKW.out _ hb4)).mono ?_; rintro e w5 ⟨rfl, hb5⟩))
            go_ret
            subst hN
            exact ⟨rfl, HEND.out _ (hb4.trans (hb5.mono hb4.size))⟩
end Go.Proofs.YteikbpkjikacmaaDoor
