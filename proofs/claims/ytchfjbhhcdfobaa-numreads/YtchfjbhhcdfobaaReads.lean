/- NumReads: whatever the bytes, the law returns true. No conditions. -/
import Derived.Test.YtchfjbhhcdfobaaNumF
import Derived.ShutString
import Derived.ChangeOld
import Derived.Below
namespace Go.Proofs.Ytchfjbhhcdfobaa
open Go.ChangeShapes Go.WideShapes Go.ChangeAt Go.RowKit
open Go.ChangeMaps (open_string shut_string)
set_option linter.unusedVariables false

/-- The document's own Get answers what num.Get answers. -/
theorem rget_any (a : Option Addr) (cap : Nat) (bs : List Int) (w : World) (h : BytesAt w a cap bs) :
    Calls Try.prog 12 #[.slice a bs.length cap] w fun e w' => e = .returned (.tuple #[.int .i64 (getR bs).1, .int .i64 (getR bs).2.1]) ∧ Below w.heap.size w w' := by
  by_cases hb : bs = []
  · subst hb
    refine (rget_empty a cap w).mono ?_
    rintro e w' ⟨rfl, rfl⟩
    exact ⟨rfl, Below.refl _ _⟩
  · have hl : 1 ≤ bs.length := by have := List.length_pos_iff.2 hb; omega
    obtain ⟨b, off, rfl, hc⟩ := h.lie hb
    have hx := isBytes_getD h.bytes 0
    have hc0 : w.cell? ⟨b, off, none⟩ = some (.int .u8 (bs.getD 0 0)) := hc 0 (by omega)
    rcases spanN_cases (bs.getD 0 0) with ⟨h1, h2⟩ | ⟨h1, h2⟩ | ⟨h1, h2⟩ | ⟨h1, h2, h3, h4⟩
    · by_cases hls : bs.length < 3
      · rw [getR_short hb (s := 3) (by rw [h2]; rfl) (by omega) hls]
        rw [h1] at hc0
        refine (rget_short3 b off cap bs.length w hl hls hc0).mono ?_
        rintro e w' ⟨rfl, rfl⟩
        exact ⟨rfl, Below.refl _ _⟩
      · rw [getR_long hb (s := 3) (by rw [h2]; rfl) (by omega) (by omega)]
        refine (rget_long3 b off cap bs w (by omega) h.bytes h1 hc).mono ?_
        rintro e w' ⟨rfl, hbel⟩
        refine ⟨?_, hbel⟩
        by_cases hsz : sizeN (rdAt bs 3 1) = 3
        · rw [if_neg (fun h => h hsz), if_neg (by intro h; rcases h with h | h; · rw [sizeN_none (Or.inr h)] at hsz; omega
                                                  · exact h hsz)]
          rfl
        · rw [if_pos hsz, if_pos (by exact Or.inr hsz)]
    · by_cases hls : bs.length < 5
      · rw [getR_short hb (s := 5) (by rw [h2]; rfl) (by omega) hls]
        rw [h1] at hc0
        refine (rget_short5 b off cap bs.length w hl hls hc0).mono ?_
        rintro e w' ⟨rfl, rfl⟩
        exact ⟨rfl, Below.refl _ _⟩
      · rw [getR_long hb (s := 5) (by rw [h2]; rfl) (by omega) (by omega)]
        refine (rget_long5 b off cap bs w (by omega) h.bytes h1 hc).mono ?_
        rintro e w' ⟨rfl, hbel⟩
        refine ⟨?_, hbel⟩
        by_cases hsz : sizeN (rdAt bs 5 1) = 5
        · rw [if_neg (fun h => h hsz), if_neg (by intro h; rcases h with h | h; · rw [sizeN_none (Or.inr h)] at hsz; omega
                                                  · exact h hsz)]
          rfl
        · rw [if_pos hsz, if_pos (by exact Or.inr hsz)]
    · by_cases hls : bs.length < 9
      · rw [getR_short hb (s := 9) (by rw [h2]; rfl) (by omega) hls]
        rw [h1] at hc0
        refine (rget_short9 b off cap bs.length w hl hls hc0).mono ?_
        rintro e w' ⟨rfl, rfl⟩
        exact ⟨rfl, Below.refl _ _⟩
      · rw [getR_long hb (s := 9) (by rw [h2]; rfl) (by omega) (by omega)]
        by_cases ht : bs.getD 8 0 ≤ 64
        · refine (rget_long9 b off cap bs w (by omega) h.bytes h1 ht hc).mono ?_
          rintro e w' ⟨rfl, hbel⟩
          refine ⟨?_, hbel⟩
          by_cases hsz : sizeN (rdAt bs 9 1) = 9
          · rw [if_neg (fun h => h hsz), if_neg (by intro h; rcases h with h | h; · rw [sizeN_none (Or.inr h)] at hsz; omega
                                                    · exact h hsz)]
            rfl
          · rw [if_pos hsz, if_pos (by exact Or.inr hsz)]
        · refine (rget_beyond b off cap bs w (by omega) h1 (by omega) hc).mono ?_
          rintro e w' ⟨rfl, rfl⟩
          refine ⟨?_, Below.refl _ _⟩
          rw [if_pos (by exact Or.inl (rdAt_beyond h.bytes (by omega) (by omega)))]
    · rw [getR_one hb h4]
      refine (rget_small b off cap bs.length _ w hl hx.1 (by omega) hc0).mono ?_
      rintro e w' ⟨rfl, rfl⟩
      exact ⟨rfl, Below.refl _ _⟩

theorem getR_err (bs : List Int) : ((getR bs).2.1 = 0 ∧ (getR bs).2.2 = 2) ∨ ((getR bs).2.1 ≠ 0 ∧ (getR bs).2.2 = 0) := by
  unfold getR
  rcases spanN_cases (bs.getD 0 0) with ⟨h1, h2⟩ | ⟨h1, h2⟩ | ⟨h1, h2⟩ | ⟨h1, h2, h3, h4⟩
  all_goals
    repeat' split
    all_goals first | (left; exact ⟨rfl, rfl⟩) | (right; exact ⟨by dsimp only; omega, rfl⟩)

/-- What is laid beyond a world's blocks leaves what Get reads. -/
theorem BytesAt.later {w w' : World} {a : Option Addr} {cap : Nat} {bs : List Int} (h : BytesAt w a cap bs) (hb : Below w.heap.size w w') : BytesAt w' a cap bs :=
  ⟨h.room, h.most, h.bytes, fun hne => by
    obtain ⟨b, off, ha, hc⟩ := h.lie hne
    exact ⟨b, off, ha, fun i hi => by
      have h1 := hc i hi
      rw [hb.cell (p := ⟨b, off + i, none⟩) (World.block_lt_of_cell? w _ h1)]; exact h1⟩⟩

set_option maxHeartbeats 1000000 in
theorem reads_long (a : Option Addr) (len cap : Nat) (w : World) (hl : 40 < len) :
    Calls Try.prog 4 #[.slice a len cap] w fun e w' => e = .returned (.bool true) ∧ Below w.heap.size w w' := by
  go_enter Try.func4, Try.ntmps4
  go_wp2_with (go_at_call 10; refine (awake_any _).mono ?_; rintro e w3 ⟨rfl, hbel3⟩)
  go_ret
  exact ⟨rfl, hbel3⟩

set_option maxHeartbeats 1000000 in
theorem reads_short (a : Option Addr) (cap : Nat) (bs : List Int) (w : World) (hl : bs.length ≤ 40) (h : BytesAt w a cap bs) :
    Calls Try.prog 4 #[.slice a bs.length cap] w fun e w' => e = .returned (.bool true) ∧ Below w.heap.size w w' := by
  have H1 : Hid (Calls Try.prog 11 #[.slice a bs.length cap] w fun e w' => e = .returned (getV bs) ∧ w = w') := get_any a cap bs w h
  have H2 : Hid (Calls Try.prog 12 #[.slice a bs.length cap] w fun e w' => e = .returned (.tuple #[.int .i64 (getR bs).1, .int .i64 (getR bs).2.1]) ∧ Below w.heap.size w w') := rget_any a cap bs w h
  have hE := getR_err bs
  unfold getV at H1
  clear h
  generalize (getR bs).1 = N at *
  generalize (getR bs).2.1 = K at *
  generalize (getR bs).2.2 = E at *
  have eN : (N == N) = true := by simp
  have eK : (K == K) = true := by simp
  rcases hE with ⟨rfl, rfl⟩ | ⟨hK, rfl⟩
  · go_enter Try.func4, Try.ntmps4
    go_wp2_with (first
      | (go_at_call 11; refine H1.out.mono ?_; rintro e w' ⟨rfl, rfl⟩)
      | (go_at_call 12; refine H2.out.mono ?_; rintro e w2 ⟨rfl, hbel2⟩)
      | (go_at_call 10; refine (awake_any _).mono ?_; rintro e w3 ⟨rfl, hbel3⟩))
    go_ret
    exact ⟨rfl, hbel2.trans (hbel3.mono hbel2.size)⟩
  · have hK0 : (K == 0) = false := beq_eq_false_iff_ne.2 hK
    clear hK
    go_enter Try.func4, Try.ntmps4
    go_wp2_with (first
      | (go_at_call 11; refine H1.out.mono ?_; rintro e w' ⟨rfl, rfl⟩)
      | (go_at_call 12; refine H2.out.mono ?_; rintro e w2 ⟨rfl, hbel2⟩)
      | (go_at_call 10; refine (awake_any _).mono ?_; rintro e w3 ⟨rfl, hbel3⟩))
    go_ret
    exact ⟨rfl, hbel2.trans (hbel3.mono hbel2.size)⟩

/-- A slice of integers that came in: it is nil, or it leads to a row of as many cells as its capacity says. -/
def IsRow (k : IntKind) (w : World) (a : Option Addr) (len cap : Nat) (zs : List Int) : Prop :=
  (a = none ∧ len = 0 ∧ cap = 0 ∧ zs = []) ∨
  ∃ x, a = some x ∧ len ≤ cap ∧ cap ≤ maxLen ∧ zs.length = cap ∧ (∀ i, i < zs.length → w.cell? (x.add i) = some (.int k (zs.getD i 0))) ∧ ∀ n ∈ zs, (Lit.int k n).wf = true

theorem IsRow.bytesAt {w : World} {a : Option Addr} {len cap : Nat} {zs : List Int} (h : IsRow .u8 w a len cap zs) : ∃ bs : List Int, bs.length = len ∧ BytesAt w a cap bs := by
  rcases h with ⟨rfl, rfl, rfl, rfl⟩ | ⟨x, rfl, hl, hm, hz, hcell, hwz⟩
  · exact ⟨[], rfl, ⟨Nat.le_refl _, by unfold maxLen; omega, fun x hx => by simp at hx, fun h => absurd rfl h⟩⟩
  · refine ⟨zs.take len, by rw [List.length_take]; omega, ⟨by rw [List.length_take]; omega, hm, fun n hn => bounds_u8 (hwz n (List.mem_of_mem_take hn)), fun hne => ?_⟩⟩
    have hl1 : 1 ≤ len := by
      rcases Nat.eq_zero_or_pos len with h0 | h0
      · subst h0; exact absurd (List.take_zero) hne
      · omega
    obtain ⟨b, off, spot⟩ := x
    have hc := hcell 0 (by omega)
    have hspot : spot = none := by simpa [Addr.add] using World.cell?_spot hc
    subst hspot
    refine ⟨b, off, rfl, fun i hi => ?_⟩
    rw [List.length_take] at hi
    have h1 := hcell i (by omega)
    have hadd : (⟨b, off, none⟩ : Addr).add i = ⟨b, off + i, none⟩ := by unfold Addr.add; split <;> simp_all
    rw [hadd] at h1
    rw [h1, getD_lt (show i < (zs.take len).length by rw [List.length_take]; omega), List.getElem_take, getD_lt (by omega)]

theorem reads_any (a : Option Addr) (len cap : Nat) (zs : List Int) (w : World) (h : IsRow .u8 w a len cap zs) :
    Calls Try.prog 4 #[.slice a len cap] w fun e w' => e = .returned (.bool true) ∧ Below w.heap.size w w' := by
  by_cases hl : 40 < len
  · exact reads_long a len cap w hl
  · obtain ⟨bs, rfl, hB⟩ := h.bytesAt
    exact reads_short a cap bs w (by omega) hB

theorem reads_own : ownKnob Try.prog.godebug = none := by kernel_rfl
theorem reads_laidOut : laidOutB Try.prog = true := by kernel_rfl

/-! ### THE ROW's STEP: WRITTEN OUT: LEAVE IT -/
set_option maxRecDepth 100000 in
theorem reads_lifted (os : Os) (started : os.Started) (H : Type) (enc : TypeId × Value → H) :
    ReturnsInHanded {} Try.checked os 4 .any (Rows.numReadsSpec.pre6 enc Try.prog Try.f4 Rows.numReadsRow.domain false) (Rows.numReadsSpec.post enc Try.prog Try.f4 false true false false) := by
  refine returnsInHanded_of_change (C := Try.checked) reads_own started (by kernel_rfl) Try.func4
    (ChangeSpec.witness6 (enc := enc) (C := Try.checked) false ⟨#[], #[.slice none 0 0], []⟩ 8 (by kernel_rfl) (by kernel_rfl) (by kernel_rfl) (by kernel_rfl)) ?_
  intro W base args ds gs before hval0 hW hcnd _
  have hval : ∀ (j : Nat) t v, Try.f4.params[j]? = some t → args[j]? = some v → Value.okWide Try.prog W .any base t v := hval0
  have hW' := hW
  obtain ⟨p, q, hA0, hV, rfl, hfz, hnd⟩ := hW
  have hA : DataW.TrodAll enc Try.prog W 0 (fun _ => true) true Try.f4.params.toList args.toList ds p := hA0
  rw [Try.params4] at hA hval
  obtain ⟨v0, vs0, d0, ds0, p0, q0, hargs, rfl, rfl, h0, r0⟩ := trodAll_cons hA
  obtain ⟨rfl, rfl, rfl⟩ := trodAll_nil r0
  obtain rfl : args = #[v0] := by cases args; simp_all
  obtain ⟨rfl, rfl⟩ := trodVars_none hV
  obtain ⟨a0, len0, cap0, rfl⟩ := okWide_slice Try.underlying22 (hval 0 22 v0 rfl rfl)
  have k0 := h0
  have lt0 : ∀ x ∈ p0, x.block < W.heap.size := by obtain ⟨m, hm⟩ := k0; exact DataW.trod_lt m _ _ _ hm
  obtain ⟨z0, w0⟩ : ∃ zs, IsRow .u8 W a0 len0 cap0 zs := by
    obtain ⟨fuel, hf⟩ := h0
    rcases open_ints Try.underlying22 Try.underlying5 (by kernel_rfl) hf with ⟨hcs, _⟩ | ⟨x, l, c, zs, hcs, _, hl, hm, hz, _, hcell, hwz⟩
    · simp [Value.cells] at hcs
      obtain ⟨rfl, rfl, rfl⟩ := hcs
      exact ⟨[], .inl ⟨rfl, rfl, rfl, rfl⟩⟩
    · simp [Value.cells] at hcs
      obtain ⟨rfl, rfl, rfl⟩ := hcs
      exact ⟨zs, .inr ⟨_, rfl, hl, hm, by simpa using hz, hcell, hwz⟩⟩
  clear hA0 hval0
  refine (reads_any a0 len0 cap0 z0 W w0).mono fun e W' ⟨he, bel⟩ => ?_
  subst he
  exact ⟨_, rfl, _, _, _, [], _, [], hW', trodAll_mk1 (shut_bool Try.underlying4 _), (trodAll_cons_mk (Below.trod reads_laidOut (by kernel_rfl) (of_decide_eq_true (by kernel_rfl)) k0 bel lt0) trodAll_mk0), rfl, bel.frame _, fun h => by cases h⟩

theorem reads_over : Rows.numReadsRow.holds Try.pinned (OpenSpec.ofChange Rows.numReadsSpec) :=
  OpenClaim.holds_of_wide 4 Try.f4 rfl rfl rfl rfl rfl rfl rfl ⟨rfl, rfl, rfl, rfl, rfl⟩ rfl rfl rfl rfl rfl (by kernel_rfl) Try.func4 (by kernel_rfl)
    (of_decide_eq_true (by kernel_rfl)) (by unfold Func.isWrapper; first | (rw [if_pos (by decide +kernel)]; kernel_rfl) | (rw [if_neg (by decide +kernel)]; exact ⟨rfl, rfl⟩))
    (fun os started H enc _ => reads_lifted os started H enc)

/-- The statement. -/
theorem numReads_proved : Rows.NumReadsSaid := reads_over
end Go.Proofs.Ytchfjbhhcdfobaa
