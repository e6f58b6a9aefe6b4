/- What the sums of BlockRules's transactions are, reckoned. No program, no conditions. -/
import Derived.Test.YtlaifphedhaemaaGreatDoorCRuH
namespace Go.Proofs.YtlaifphedhaemaaGreatDoor
theorem chk_0 : chkAll T0 0 20 = true := by kernel_rfl
theorem chk_20 : chkAll T0 20 20 = true := by kernel_rfl
theorem chk_40 : chkAll T0 40 20 = true := by kernel_rfl
theorem chk_60 : chkAll T0 60 20 = true := by kernel_rfl
theorem chk_80 : chkAll T0 80 20 = true := by kernel_rfl
theorem name_low (s : St) (i : Nat) (h : s.bytes = nameB i) : s.a.toNat % 16777216 = 0 := by
  have h1 := bytes_get s 1 (by omega)
  have h2 := bytes_get s 2 (by omega)
  have h3 := bytes_get s 3 (by omega)
  rw [h] at h1 h2 h3
  have e1 : (nameB i).getD 1 0 = 0#8 := rfl
  have e2 : (nameB i).getD 2 0 = 0#8 := rfl
  have e3 : (nameB i).getD 3 0 = 0#8 := rfl
  rw [e1] at h1
  rw [e2] at h2
  rw [e3] at h3
  have k1 := congrArg BitVec.toNat h1
  have k2 := congrArg BitVec.toNat h2
  have k3 := congrArg BitVec.toNat h3
  have l0 : s.list.getD 0 0 = s.a := rfl
  simp only [Nat.reduceDiv, Nat.reduceMod, Nat.reduceSub, Nat.reduceMul, l0, BitVec.toNat_setWidth, BitVec.toNat_ushiftRight, Nat.shiftRight_eq_div_pow, BitVec.toNat_ofNat] at k1 k2 k3
  omega
theorem chkV (lo n : Nat) (h : chkAll T0 lo n = true) : chkS T0 lo n vI = true := by
  unfold chkAll at h
  rw [fV_eq, fV_eq] at h
  exact h
theorem sums_hold : Sums := by
  have c0 := chkV 0 20 chk_0
  have c1 := chkV 20 20 chk_20
  have c2 := chkV 40 20 chk_40
  have c3 := chkV 60 20 chk_60
  have c4 := chkV 80 20 chk_80
  have hI := vI_ok
  generalize vI = v at c0 c1 c2 c3 c4 hI
  generalize T0 = t at c0 c1 c2 c3 c4
  obtain ⟨a, b, c, d, e, f, g, k⟩ := v
  obtain ⟨hi0, d0⟩ := chkS_ok t 0 20 a b c d e f g k c0
  obtain ⟨_, d1⟩ := chkS_ok t 20 20 a b c d e f g k c1
  obtain ⟨_, d2⟩ := chkS_ok t 40 20 a b c d e f g k c2
  obtain ⟨_, d3⟩ := chkS_ok t 60 20 a b c d e f g k c3
  obtain ⟨_, d4⟩ := chkS_ok t 80 20 a b c d e f g k c4
  have hIA := lanI_ok a t 100 hi0
  have hall : ∀ T, T < 100 → lanJ (secV (v1J (loL a) (hiL a (shrL b 8)) (hiL b (shrL c 8)) (hiL c (shrL d 8)) (hiL d (shrL e 8)) (hiL e (shrL f 8)) (hiL f (shrL g 8)) (hiL g (shrL k 8)) (hiL k (rep T)))).a t 100 = true := fun T hT => by
    by_cases h0 : T < 20
    · exact d0 T (by omega) (by omega)
    · by_cases h1 : T < 40
      · exact d1 T (by omega) (by omega)
      · by_cases h2 : T < 60
        · exact d2 T (by omega) (by omega)
        · by_cases h3 : T < 80
          · exact d3 T (by omega) (by omega)
          · exact d4 T (by omega) (by omega)
  clear c0 c1 c2 c3 c4 d0 d1 d2 d3 d4 hi0
  have inj : ∀ i j, i < 100 → j < 100 → i ≠ j → lw a i ≠ lw a j := fun i j hi hj hij e0 => by
    have h1 := (hIA i hi).1
    have h2 := (hIA j hj).1
    rw [e0, h2] at h1
    omega
  have first : ∀ i, (laneV ⟨a, b, c, d, e, f, g, k⟩ i).a.toNat = lw a i := fun i => lw_lane a i
  have h1 : ∀ i j, i < 100 → j < 100 → i ≠ j → I i ≠ I j := fun i j hi hj hij e0 => by
    have e1 := congrArg H32.b e0
    rw [(hI i (by omega)).2, (hI j (by omega)).2] at e1
    have e2 := congrArg BitVec.toNat (bytes_first e1)
    rw [first i, first j] at e2
    exact inj i j hi hj hij e2
  have h2 : ∀ i j, i < 100 → j < 100 → nmH i ≠ I j := fun i j hi hj e0 => by
    have e1 := congrArg H32.b e0
    rw [(hI j (by omega)).2] at e1
    have e2 := name_low _ i e1.symm
    rw [first j] at e2
    exact (hIA j hj).2 e2
  have hJ : ∀ F T, F < 100 → T < 100 → ∃ s : St, (idH ⟨[inH (I F), inH (nmH T)], [outK], 0⟩).b = s.bytes ∧ findT s.a.toNat t = 0 ∧ s.a.toNat % 16777216 ≠ 0 := fun F T hF hT => by
    have hc : chkE ⟨[inH (I F), inH (nmH T)], [outK], 0⟩ = 0 := chk_two _ _ (h2 T F hT hF).symm
    obtain ⟨g1, g2⟩ := v1J_ok a b c d e f g k (hI F (by omega)).1 T F (by omega) (by omega)
    obtain ⟨k1, k2⟩ := secV_ok _ F (by omega) g1 _ g2
    have hl := hall T hT
    generalize secV (v1J (loL a) (hiL a (shrL b 8)) (hiL b (shrL c 8)) (hiL c (shrL d 8)) (hiL d (shrL e 8)) (hiL e (shrL f 8)) (hiL f (shrL g 8)) (hiL g (shrL k 8)) (hiL k (rep T))) = v at k1 k2 hl
    obtain ⟨m1, m2⟩ := lanJ_ok _ _ 100 hl F hF
    refine ⟨laneV v F, ?_, ?_, ?_⟩
    · show idB _ = _
      unfold idB
      rw [if_pos hc, body_mJ (I F) T _ (hI F (by omega)).2, k2]; rfl
    · rw [show (laneV v F).a.toNat = lw v.a F from lw_lane v.a F]; exact m1
    · rw [show (laneV v F).a.toNat = lw v.a F from lw_lane v.a F]; exact m2
  refine ⟨h1, h2, fun F T i hF hT hi e0 => ?_, fun F T i hF hT hi e0 => ?_⟩
  · obtain ⟨s, hs, hm, _⟩ := hJ F T hF hT
    have e1 := congrArg H32.b e0
    rw [hs, (hI i (by omega)).2] at e1
    have e2 := congrArg BitVec.toNat (bytes_first e1)
    rw [first i] at e2
    rw [e2, (hIA i hi).1] at hm
    omega
  · obtain ⟨s, hs, _, hl⟩ := hJ F T hF hT
    have e1 := congrArg H32.b e0
    rw [hs] at e1
    exact hl (name_low s i e1.symm)
end Go.Proofs.YtlaifphedhaemaaGreatDoor
