/- The contracts of num.read and num.Get, at whatever bytes. -/
import Derived.Test.YtchfjbhhcdfobaaNumA
namespace Go.Proofs.Ytchfjbhhcdfobaa
open Go.ChangeShapes Go.WideShapes Go.ChangeAt Go.RowKit
set_option linter.unusedVariables false

set_option maxHeartbeats 1000000 in
theorem read_many (b off cap len : Nat) (bs : List Int) (w : World) (hl : 2 ≤ len) (hl9 : len ≤ 9) (hlb : len ≤ bs.length)
    (hr : IsBytes bs) (hc : ∀ i, i < bs.length → w.cell? ⟨b, off + i, none⟩ = some (.int .u8 (bs.getD i 0))) :
    Calls Try.prog 17 #[.slice (some ⟨b, off, none⟩) len cap] w fun e w' => e = .returned (.int .u64 (rdAt bs len 1)) ∧ w = w' := by
  have e1 : ((len : Int) == 1) = false := beq_eq_false_iff_ne.2 (by omega)
  go_enter Try.func17, Try.ntmps17
  go_wp2
  go_loop [3, 4] (fun t i => ∃ k : Nat, k < len ∧ i = .int .i64 k ∧ t = .int .u64 (rdAt bs len (k + 1))) (fun _ i => (intOf i).toNat)
  case atStart => exact ⟨len - 1, by omega, by go_num, by rw [rdAt_end (by omega)]⟩
  case round =>
    obtain ⟨k, hk, rfl, rfl⟩ := hrel
    by_cases h0 : 0 < k
    · have hck := hc k (by omega)
      have hrk := isBytes_getD hr k
      have hv0 := rdAt_nonneg hr len (k + 1)
      have hv1 := rdAt_le7 hr len (k + 1) (by omega)
      have HS : Hid (rdAt bs len k = bs.getD k 0 + 256 * rdAt bs len (k + 1)) := rdAt_step hk hlb
      generalize rdAt bs len (k + 1) = V at *
      generalize bs.getD k 0 = x at *
      clear hc
      go_wp2
      go_round
      case rel => exact ⟨k - 1, by omega, by go_num, by rw [show k - 1 + 1 = k by omega, HS.out, or_u64 V x hv0 hv1 hrk.1 hrk.2]⟩
      case measure => simp [intOf]; omega
    · have h0 : k = 0 := by omega
      subst h0
      go_wp2
      go_ret
      exact ⟨rfl, rfl⟩

theorem read_one (b off cap : Nat) (x : Int) (w : World) (h0 : 0 ≤ x) (h1 : x ≤ 255) (hc : w.cell? ⟨b, off, none⟩ = some (.int .u8 x)) :
    Calls Try.prog 17 #[.slice (some ⟨b, off, none⟩) 1 cap] w fun e w' => e = .returned (.int .u64 x) ∧ w = w' := by
  go_enter Try.func17, Try.ntmps17
  go_wp2
  go_ret
  exact ⟨rfl, rfl⟩

theorem get_empty (a : Option Addr) (cap : Nat) (w : World) :
    Calls Try.prog 11 #[.slice a 0 cap] w fun e w' => e = .returned (.tuple #[.int .i64 0, .int .i64 0, .int .i64 2]) ∧ w = w' := by
  go_enter Try.func11, Try.ntmps11
  go_wp2
  refine wp_scope_hops 1 ?_
  go_hide hQ
  go_wp2
  go_step3
  simp only [Exit.then]
  subst hQ
  rw [hops_goto]
  refine ⟨_, rfl, ?_⟩
  go_hide hQ
  go_wp2
  subst hQ
  rw [hops_ret]
  go_ret3
  exact ⟨rfl, rfl⟩

set_option maxHeartbeats 1000000 in
theorem get_small (b off cap len : Nat) (x : Int) (w : World) (hl : 1 ≤ len) (hlc : len ≤ cap) (hm : cap ≤ maxLen) (h0 : 0 ≤ x) (h1 : x ≤ 252) (hc : w.cell? ⟨b, off, none⟩ = some (.int .u8 x)) :
    Calls Try.prog 11 #[.slice (some ⟨b, off, none⟩) len cap] w fun e w' => e = .returned (.tuple #[.int .i64 x, .int .i64 1, .int .i64 0]) ∧ w = w' := by
  unfold maxLen at hm
  have e1 : ((len : Int) == 0) = false := beq_eq_false_iff_ne.2 (by omega)
  have hsp : spanN x = 1 := by unfold spanN; rw [if_neg (by omega), if_neg (by omega), if_neg (by omega)]
  go_enter Try.func11, Try.ntmps11
  go_wp2
  refine wp_scope_hops 0 ?_
  go_hide hQ
  go_wp2_with fail
  refine (span_any _ _).mono ?_
  rintro e w' ⟨rfl, rfl⟩
  rw [hsp]
  go_wp2_with (first | (go_at_call 17; refine (read_one b off cap x _ h0 (by omega) hc).mono ?_; rintro e w' ⟨rfl, rfl⟩) | (go_at_call 8; refine (size_is _ 1 _ (sizeN_1 h0 (by omega))).mono ?_; rintro e w' ⟨rfl, rfl⟩))
  subst hQ
  rw [hops_ret]
  go_ret3
  exact ⟨rfl, rfl⟩

set_option maxHeartbeats 1000000 in
theorem get_short (b off cap len s : Nat) (x : Int) (w : World) (hl : 1 ≤ len) (hlc : len ≤ cap) (hm : cap ≤ maxLen) (hs : spanN x = s) (hls : len < s) (hc : w.cell? ⟨b, off, none⟩ = some (.int .u8 x)) :
    Calls Try.prog 11 #[.slice (some ⟨b, off, none⟩) len cap] w fun e w' => e = .returned (.tuple #[.int .i64 0, .int .i64 0, .int .i64 2]) ∧ w = w' := by
  unfold maxLen at hm
  have e1 : ((len : Int) == 0) = false := beq_eq_false_iff_ne.2 (by omega)
  have HS : Hid (spanN x = s) := hs
  clear hs
  go_enter Try.func11, Try.ntmps11
  go_wp2
  refine wp_scope_hops 1 ?_
  go_hide hQ
  go_wp2_with fail
  refine (span_any _ _).mono ?_
  rintro e w' ⟨rfl, rfl⟩
  rw [HS.out]
  go_wp2
  go_step3
  simp only [Exit.then]
  subst hQ
  rw [hops_goto]
  refine ⟨_, rfl, ?_⟩
  go_hide hQ
  go_wp2
  subst hQ
  rw [hops_ret]
  go_ret3
  exact ⟨rfl, rfl⟩

set_option maxHeartbeats 1000000 in
theorem get_long (b off cap s : Nat) (bs : List Int) (w : World) (hlc : bs.length ≤ cap) (hm : cap ≤ maxLen) (hr : IsBytes bs) (hs : spanN (bs.getD 0 0) = s) (hs2 : 2 ≤ s) (hs9 : s ≤ 9) (hls : s ≤ bs.length)
    (hc : ∀ i, i < bs.length → w.cell? ⟨b, off + i, none⟩ = some (.int .u8 (bs.getD i 0))) :
    Calls Try.prog 11 #[.slice (some ⟨b, off, none⟩) bs.length cap] w fun e w' => e = .returned (.tuple (if 4611686018427387904 < rdAt bs s 1 ∨ sizeN (rdAt bs s 1) ≠ s then #[.int .i64 0, .int .i64 0, .int .i64 2] else #[.int .i64 (rdAt bs s 1), .int .i64 s, .int .i64 0])) ∧ w = w' := by
  unfold maxLen at hm
  have e1 : ((bs.length : Int) == 0) = false := beq_eq_false_iff_ne.2 (by omega)
  have HS : Hid (spanN (bs.getD 0 0) = s) := hs
  clear hs
  have hc0 : w.cell? ⟨b, off, none⟩ = some (.int .u8 (bs.getD 0 0)) := hc 0 (by omega)
  have HC : Hid (∀ i, i < bs.length → w.cell? ⟨b, off + i, none⟩ = some (.int .u8 (bs.getD i 0))) := hc
  clear hc
  have hv0 := rdAt_nonneg hr s 1
  have hread := read_many b off cap s bs w hs2 hs9 hls hr HC.out
  have HR : Hid (Calls Try.prog 17 #[.slice (some ⟨b, off, none⟩) s cap] w fun e w' => e = .returned (.int .u64 (rdAt bs s 1)) ∧ w = w') := hread
  clear hread
  generalize bs.getD 0 0 = x at *
  generalize rdAt bs s 1 = V at *
  by_cases hbig : 4611686018427387904 < V
  · rw [if_pos (Or.inl hbig)]
    go_enter Try.func11, Try.ntmps11
    go_wp2
    refine wp_scope_hops 1 ?_
    go_hide hQ
    go_wp2_with fail
    refine (span_any _ _).mono ?_
    rintro e w' ⟨rfl, rfl⟩
    rw [HS.out]
    go_wp2_with (go_at_call 17; refine (HR.out).mono ?_; rintro e w' ⟨rfl, rfl⟩)
    go_step3
    simp only [Exit.then]
    subst hQ
    rw [hops_goto]
    refine ⟨_, rfl, ?_⟩
    go_hide hQ
    go_wp2
    subst hQ
    rw [hops_ret]
    go_ret3
    exact ⟨rfl, rfl⟩
  · by_cases hsz : sizeN V = s
    · rw [if_neg (by omega)]
      have hne : ((s : Int) != (s : Int)) = false := by simp
      go_enter Try.func11, Try.ntmps11
      go_wp2
      refine wp_scope_hops 0 ?_
      go_hide hQ
      go_wp2_with fail
      refine (span_any _ _).mono ?_
      rintro e w' ⟨rfl, rfl⟩
      rw [HS.out]
      go_wp2_with (first | (go_at_call 17; refine (HR.out).mono ?_; rintro e w' ⟨rfl, rfl⟩) | (go_at_call 8; refine (size_is _ s _ hsz).mono ?_; rintro e w' ⟨rfl, rfl⟩))
      subst hQ
      rw [hops_ret]
      go_ret3
      exact ⟨rfl, rfl⟩
    · rw [if_pos (Or.inr hsz)]
      have hne : (sizeN V != (s : Int)) = true := by simp [hsz]
      go_enter Try.func11, Try.ntmps11
      go_wp2
      refine wp_scope_hops 1 ?_
      go_hide hQ
      go_wp2_with fail
      refine (span_any _ _).mono ?_
      rintro e w' ⟨rfl, rfl⟩
      rw [HS.out]
      go_wp2_with (first | (go_at_call 17; refine (HR.out).mono ?_; rintro e w' ⟨rfl, rfl⟩) | (go_at_call 8; refine (size_any _ _).mono ?_; rintro e w' ⟨rfl, rfl⟩))
      go_step3
      simp only [Exit.then]
      subst hQ
      rw [hops_goto]
      refine ⟨_, rfl, ?_⟩
      go_hide hQ
      go_wp2
      subst hQ
      rw [hops_ret]
      go_ret3
      exact ⟨rfl, rfl⟩

/-- What lies where a slice leads: these bytes. -/
structure BytesAt (w : World) (a : Option Addr) (cap : Nat) (bs : List Int) : Prop where
  room : bs.length ≤ cap
  most : cap ≤ maxLen
  bytes : IsBytes bs
  lie : bs ≠ [] → ∃ b off, a = some ⟨b, off, none⟩ ∧ ∀ i, i < bs.length → w.cell? ⟨b, off + i, none⟩ = some (.int .u8 (bs.getD i 0))

/-- What Get answers, as a value. -/
def getV (bs : List Int) : Value := .tuple #[.int .i64 (getR bs).1, .int .i64 (getR bs).2.1, .int .i64 (getR bs).2.2]

theorem get_any (a : Option Addr) (cap : Nat) (bs : List Int) (w : World) (h : BytesAt w a cap bs) :
    Calls Try.prog 11 #[.slice a bs.length cap] w fun e w' => e = .returned (getV bs) ∧ w = w' := by
  by_cases hb : bs = []
  · subst hb; exact get_empty a cap w
  · have hl : 1 ≤ bs.length := by have := List.length_pos_iff.2 hb; omega
    obtain ⟨b, off, rfl, hc⟩ := h.lie hb
    have hx := isBytes_getD h.bytes 0
    have hc0 : w.cell? ⟨b, off, none⟩ = some (.int .u8 (bs.getD 0 0)) := hc 0 (by omega)
    obtain ⟨s, hs, hs2⟩ : ∃ s : Nat, spanN (bs.getD 0 0) = s ∧ (s = 1 ∧ bs.getD 0 0 ≤ 252 ∨ 3 ≤ s ∧ s ≤ 9) := by
      rcases spanN_cases (bs.getD 0 0) with ⟨h1, h2⟩ | ⟨h1, h2⟩ | ⟨h1, h2⟩ | ⟨h1, h2, h3, h4⟩
      · exact ⟨3, by rw [h2]; rfl, by omega⟩
      · exact ⟨5, by rw [h2]; rfl, by omega⟩
      · exact ⟨9, by rw [h2]; rfl, by omega⟩
      · exact ⟨1, by rw [h4]; rfl, by omega⟩
    rcases hs2 with ⟨rfl, h252⟩ | ⟨h3, h9⟩
    · have e : getV bs = .tuple #[.int .i64 (bs.getD 0 0), .int .i64 1, .int .i64 0] := by
        unfold getV; rw [getR_one hb (by rw [hs]; rfl)]
      rw [e]
      exact get_small b off cap bs.length _ w hl h.room h.most hx.1 h252 hc0
    · by_cases hls : bs.length < s
      · have e : getV bs = .tuple #[.int .i64 0, .int .i64 0, .int .i64 2] := by
          unfold getV; rw [getR_short hb hs (by omega) hls]
        rw [e]
        exact get_short b off cap bs.length s _ w hl h.room h.most hs hls hc0
      · refine (get_long b off cap s bs w h.room h.most h.bytes hs (by omega) h9 (by omega) hc).mono ?_
        rintro e w' ⟨rfl, rfl⟩
        refine ⟨?_, rfl⟩
        unfold getV
        rw [getR_long hb hs (by omega) (by omega)]
        split <;> rfl
end Go.Proofs.Ytchfjbhhcdfobaa
