/- Plain facts on the forms of numbers: how long they are, what they say, that they are read as they were written. No program is named here. Contracts of the small functions of package num and of the document's own answer: Size, lead, span, fits, Round: no conditions but the arguments' ranges. The contract of num.Put: whatever the number, the bytes of its form in a new block of their own, or no bytes. The contracts of num.read and num.Get, at whatever bytes. Both Puts under one contract; a row of bytes as a string, and as what Get reads. -/
import Derived.WalkKit
import Derived.Test.YtlapnnkahijikaaDoorChecked
import Derived.Test.YtlapnnkahijikaaDoorZQ1
import Derived.ProofKit
import Derived.OpenShut
import Derived.Handy
import Derived.WalkSpells
import Derived.Laws.BytesArg
namespace Go.Proofs.YtlapnnkahijikaaDoor
open Go.RowKit

/-- How many bytes a number's form has. -/
def sizeN (n : Int) : Int :=
  if n < 0 ∨ 4611686018427387904 < n then 0 else if n < 253 then 1 else if n < 65536 then 3 else if n < 4294967296 then 5 else 9

theorem sizeN_none {n : Int} (h : n < 0 ∨ 4611686018427387904 < n) : sizeN n = 0 := by unfold sizeN; rw [if_pos h]
theorem sizeN_1 {n : Int} (h0 : 0 ≤ n) (h : n < 253) : sizeN n = 1 := by unfold sizeN; rw [if_neg (by omega), if_pos h]
theorem sizeN_3 {n : Int} (h0 : 253 ≤ n) (h : n < 65536) : sizeN n = 3 := by unfold sizeN; rw [if_neg (by omega), if_neg (by omega), if_pos h]
theorem sizeN_5 {n : Int} (h0 : 65536 ≤ n) (h : n < 4294967296) : sizeN n = 5 := by
  unfold sizeN; rw [if_neg (by omega), if_neg (by omega), if_neg (by omega), if_pos h]
theorem sizeN_9 {n : Int} (h0 : 4294967296 ≤ n) (h : n ≤ 4611686018427387904) : sizeN n = 9 := by
  unfold sizeN; rw [if_neg (by omega), if_neg (by omega), if_neg (by omega), if_neg (by omega)]

/-- The first byte's span. -/
def spanN (b : Int) : Int := if b = 253 then 3 else if b = 254 then 5 else if b = 255 then 9 else 1

/-- What bytes say, the least first. -/
def rd : List Int → Int
  | [] => 0
  | x :: r => x + 256 * rd r

theorem getD_lt {bs : List Int} {i : Nat} (h : i < bs.length) : bs.getD i 0 = bs[i] := by
  rw [List.getD_eq_getElem?_getD, List.getElem?_eq_getElem h]; rfl
theorem getD_ge {bs : List Int} {i : Nat} (h : bs.length ≤ i) : bs.getD i 0 = 0 := by
  rw [List.getD_eq_getElem?_getD, List.getElem?_eq_none h]; rfl

/-- Each of them is a byte. -/
def IsBytes (bs : List Int) : Prop := ∀ x ∈ bs, 0 ≤ x ∧ x ≤ 255

theorem isBytes_getD {bs : List Int} (h : IsBytes bs) (i : Nat) : 0 ≤ bs.getD i 0 ∧ bs.getD i 0 ≤ 255 := by
  by_cases hi : i < bs.length
  · rw [getD_lt hi]; exact h _ (List.getElem_mem hi)
  · rw [getD_ge (by omega)]; omega

theorem rd_nonneg {bs : List Int} (h : IsBytes bs) : 0 ≤ rd bs := by
  induction bs with
  | nil => simp [rd]
  | cons x r ih =>
    have h1 := h x (by simp)
    have h2 := ih (fun y hy => h y (by simp [hy]))
    simp only [rd]; omega

theorem rd_lt {bs : List Int} (h : IsBytes bs) : rd bs < ((256 ^ bs.length : Nat) : Int) := by
  induction bs with
  | nil => simp [rd]
  | cons x r ih =>
    have h1 := h x (by simp)
    have h2 := ih (fun y hy => h y (by simp [hy]))
    simp only [rd, List.length_cons, Nat.pow_succ, Int.natCast_mul]; omega

theorem isBytes_drop {bs : List Int} (h : IsBytes bs) (k : Nat) : IsBytes (bs.drop k) := fun x hx => h x (List.mem_of_mem_drop hx)
theorem isBytes_take {bs : List Int} (h : IsBytes bs) (k : Nat) : IsBytes (bs.take k) := fun x hx => h x (List.mem_of_mem_take hx)

/-- What the bytes from k on say, up to len. -/
def rdAt (bs : List Int) (len k : Nat) : Int := rd ((bs.take len).drop k)

theorem rdAt_step {bs : List Int} {len k : Nat} (h : k < len) (hl : len ≤ bs.length) : rdAt bs len k = bs.getD k 0 + 256 * rdAt bs len (k + 1) := by
  unfold rdAt
  have hk : k < (bs.take len).length := by rw [List.length_take]; omega
  rw [List.drop_eq_getElem_cons hk, rd, List.getElem_take, getD_lt (by omega)]

theorem rdAt_end {bs : List Int} {len k : Nat} (h : len ≤ k) : rdAt bs len k = 0 := by
  unfold rdAt
  rw [List.drop_of_length_le (by rw [List.length_take]; omega)]
  rfl

theorem rdAt_nonneg {bs : List Int} (h : IsBytes bs) (len k : Nat) : 0 ≤ rdAt bs len k := rd_nonneg (isBytes_drop (isBytes_take h _) _)

theorem rdAt_lt {bs : List Int} (h : IsBytes bs) (len k m : Nat) (hk : len - k ≤ m) : rdAt bs len k < ((256 ^ m : Nat) : Int) := by
  have h1 := rd_lt (isBytes_drop (isBytes_take h len) k)
  have h2 : ((bs.take len).drop k).length ≤ m := by rw [List.length_drop, List.length_take]; omega
  have h3 := Nat.pow_le_pow_right (show 0 < 256 by omega) h2
  unfold rdAt
  exact Int.lt_of_lt_of_le h1 (Int.ofNat_le.2 h3)

theorem rdAt_le7 {bs : List Int} (h : IsBytes bs) (len k : Nat) (hk : len - k ≤ 7) : rdAt bs len k ≤ 72057594037927935 := by
  have h1 := rdAt_lt h len k 7 hk
  have h2 : (256 ^ 7 : Nat) = 72057594037927936 := by decide
  rw [h2] at h1; omega

theorem wraps_u64 (n : Int) (h₀ : 0 ≤ n) (h₁ : n < 2 ^ 64) : IntKind.u64.wrap n = n := by rw [IntKind.wrap_u64]; omega
theorem wraps_i64 (n : Int) (h₀ : 0 ≤ n) (h₁ : n < 2 ^ 63) : IntKind.i64.wrap n = n := by rw [IntKind.wrap_i64]; omega
theorem or_u64 (V x : Int) (h0 : 0 ≤ V) (h1 : V ≤ 72057594037927935) (hx : 0 ≤ x) (hx1 : x ≤ 255) : bits .or .u64 (V * 256) x = x + 256 * V := by
  rw [bits_join .u64 64 (by decide) wraps_u64 8 (V * 256) x (by omega) (by omega) (by omega) hx (by omega) (by omega)]; omega
theorem or_i64 (V x : Int) (h0 : 0 ≤ V) (h1 : V ≤ 36028797018963967) (hx : 0 ≤ x) (hx1 : x ≤ 255) : bits .or .i64 (V * 256) x = x + 256 * V := by
  rw [bits_join .i64 63 (by decide) wraps_i64 8 (V * 256) x (by omega) (by omega) (by omega) hx (by omega) (by omega)]; omega

theorem spanN_cases (x : Int) : (x = 253 ∧ spanN x = 3) ∨ (x = 254 ∧ spanN x = 5) ∨ (x = 255 ∧ spanN x = 9) ∨ (x ≠ 253 ∧ x ≠ 254 ∧ x ≠ 255 ∧ spanN x = 1) := by
  unfold spanN
  by_cases h3 : x = 253
  · exact Or.inl ⟨h3, by rw [if_pos h3]⟩
  · by_cases h5 : x = 254
    · exact Or.inr (Or.inl ⟨h5, by rw [if_neg h3, if_pos h5]⟩)
    · by_cases h9 : x = 255
      · exact Or.inr (Or.inr (Or.inl ⟨h9, by rw [if_neg h3, if_neg h5, if_pos h9]⟩))
      · exact Or.inr (Or.inr (Or.inr ⟨h3, h5, h9, by rw [if_neg h3, if_neg h5, if_neg h9]⟩))

/-- What Get answers: the number, how many bytes, the error. -/
def getR (bs : List Int) : Int × Int × Int :=
  if bs = [] then (0, 0, 2)
  else if spanN (bs.getD 0 0) = 1 then (bs.getD 0 0, 1, 0)
  else if (bs.length : Int) < spanN (bs.getD 0 0) then (0, 0, 2)
  else if 4611686018427387904 < rdAt bs (spanN (bs.getD 0 0)).toNat 1 ∨ sizeN (rdAt bs (spanN (bs.getD 0 0)).toNat 1) ≠ spanN (bs.getD 0 0) then (0, 0, 2)
  else (rdAt bs (spanN (bs.getD 0 0)).toNat 1, spanN (bs.getD 0 0), 0)

theorem getR_one {bs : List Int} (hb : bs ≠ []) (h : spanN (bs.getD 0 0) = 1) : getR bs = (bs.getD 0 0, 1, 0) := by
  unfold getR; rw [if_neg hb, if_pos h]
theorem getR_short {bs : List Int} {s : Nat} (hb : bs ≠ []) (h : spanN (bs.getD 0 0) = s) (h1 : s ≠ 1) (hl : bs.length < s) : getR bs = (0, 0, 2) := by
  unfold getR; rw [if_neg hb, h, if_neg (by omega), if_pos (by omega)]
theorem getR_long {bs : List Int} {s : Nat} (hb : bs ≠ []) (h : spanN (bs.getD 0 0) = s) (h1 : s ≠ 1) (hl : s ≤ bs.length) :
    getR bs = if 4611686018427387904 < rdAt bs s 1 ∨ sizeN (rdAt bs s 1) ≠ s then (0, 0, 2) else (rdAt bs s 1, (s : Int), 0) := by
  unfold getR; rw [if_neg hb, h, if_neg (by omega), if_neg (by omega), Int.toNat_natCast]

/-- A number's form. -/
def bytesN (n : Int) : List Int :=
  if n < 0 ∨ 4611686018427387904 < n then []
  else if n < 253 then [n]
  else if n < 65536 then [253, n % 256, n / 256]
  else if n < 4294967296 then [254, n % 256, n / 256 % 256, n / 256 / 256 % 256, n / 256 / 256 / 256]
  else [255, n % 256, n / 256 % 256, n / 256 / 256 % 256, n / 256 / 256 / 256 % 256, n / 256 / 256 / 256 / 256 % 256, n / 256 / 256 / 256 / 256 / 256 % 256, n / 256 / 256 / 256 / 256 / 256 / 256 % 256, n / 256 / 256 / 256 / 256 / 256 / 256 / 256]

theorem bytesN_none {n : Int} (h : n < 0 ∨ 4611686018427387904 < n) : bytesN n = [] := by unfold bytesN; rw [if_pos h]
theorem bytesN_1 {n : Int} (h0 : 0 ≤ n) (h : n < 253) : bytesN n = [n] := by unfold bytesN; rw [if_neg (by omega), if_pos h]
theorem bytesN_3 {n : Int} (h0 : 253 ≤ n) (h : n < 65536) : bytesN n = [253, n % 256, n / 256] := by
  unfold bytesN; rw [if_neg (by omega), if_neg (by omega), if_pos h]
theorem bytesN_5 {n : Int} (h0 : 65536 ≤ n) (h : n < 4294967296) : bytesN n = [254, n % 256, n / 256 % 256, n / 256 / 256 % 256, n / 256 / 256 / 256] := by
  unfold bytesN; rw [if_neg (by omega), if_neg (by omega), if_neg (by omega), if_pos h]
theorem bytesN_9 {n : Int} (h0 : 4294967296 ≤ n) (h : n ≤ 4611686018427387904) : bytesN n = [255, n % 256, n / 256 % 256, n / 256 / 256 % 256, n / 256 / 256 / 256 % 256, n / 256 / 256 / 256 / 256 % 256, n / 256 / 256 / 256 / 256 / 256 % 256, n / 256 / 256 / 256 / 256 / 256 / 256 % 256, n / 256 / 256 / 256 / 256 / 256 / 256 / 256] := by
  unfold bytesN; rw [if_neg (by omega), if_neg (by omega), if_neg (by omega), if_neg (by omega)]

theorem five (n : Int) : (n < 0 ∨ 4611686018427387904 < n) ∨ (0 ≤ n ∧ n < 253) ∨ (253 ≤ n ∧ n < 65536) ∨ (65536 ≤ n ∧ n < 4294967296) ∨ (4294967296 ≤ n ∧ n ≤ 4611686018427387904) := by omega

theorem bytesN_length (n : Int) : ((bytesN n).length : Int) = sizeN n := by
  rcases five n with h | ⟨h, h'⟩ | ⟨h, h'⟩ | ⟨h, h'⟩ | ⟨h, h'⟩
  · rw [bytesN_none h, sizeN_none h]; rfl
  · rw [bytesN_1 h h', sizeN_1 h h']; rfl
  · rw [bytesN_3 h h', sizeN_3 h h']; rfl
  · rw [bytesN_5 h h', sizeN_5 h h']; rfl
  · rw [bytesN_9 h h', sizeN_9 h h']; rfl

theorem isBytes_N (n : Int) : IsBytes (bytesN n) := by
  rcases five n with h | ⟨h, h'⟩ | ⟨h, h'⟩ | ⟨h, h'⟩ | ⟨h, h'⟩
  · rw [bytesN_none h]; intro x hx; simp at hx
  · rw [bytesN_1 h h']; intro x hx; simp at hx; omega
  · rw [bytesN_3 h h']; intro x hx; simp only [List.mem_cons, List.not_mem_nil, or_false] at hx; omega
  · rw [bytesN_5 h h']; intro x hx; simp only [List.mem_cons, List.not_mem_nil, or_false] at hx; omega
  · rw [bytesN_9 h h']; intro x hx; simp only [List.mem_cons, List.not_mem_nil, or_false] at hx; omega

theorem take_cons_app {l m : List Int} : (l ++ m).take l.length = l := by simp

/-- What was written, and anything behind it, is read as it was. -/
theorem getR_bytesN (n : Int) (h0 : 0 ≤ n) (h1 : n ≤ 4611686018427387904) (r : List Int) : getR (bytesN n ++ r) = (n, sizeN n, 0) := by
  rcases five n with h | ⟨h, h'⟩ | ⟨h, h'⟩ | ⟨h, h'⟩ | ⟨h, h'⟩
  · omega
  · rw [bytesN_1 h h', sizeN_1 h h']
    rw [getR_one (by simp) (by show spanN n = 1; unfold spanN; rw [if_neg (by omega), if_neg (by omega), if_neg (by omega)])]; rfl
  · rw [bytesN_3 h h', sizeN_3 h h', getR_long (s := 3) (by simp) rfl (by omega) (by simp)]
    have e : rdAt ([253, n % 256, n / 256] ++ r) 3 1 = n := by simp only [rdAt, List.cons_append, List.nil_append, List.take_succ_cons, List.take_zero, List.drop_succ_cons, List.drop_zero, rd]; omega
    rw [e, sizeN_3 h h', if_neg (by omega)]; rfl
  · rw [bytesN_5 h h', sizeN_5 h h', getR_long (s := 5) (by simp) rfl (by omega) (by simp)]
    have e : rdAt ([254, n % 256, n / 256 % 256, n / 256 / 256 % 256, n / 256 / 256 / 256] ++ r) 5 1 = n := by simp only [rdAt, List.cons_append, List.nil_append, List.take_succ_cons, List.take_zero, List.drop_succ_cons, List.drop_zero, rd]; omega
    rw [e, sizeN_5 h h', if_neg (by omega)]; rfl
  · rw [bytesN_9 h h', sizeN_9 h h', getR_long (s := 9) (by simp) rfl (by omega) (by simp)]
    have e : rdAt ([255, n % 256, n / 256 % 256, n / 256 / 256 % 256, n / 256 / 256 / 256 % 256, n / 256 / 256 / 256 / 256 % 256, n / 256 / 256 / 256 / 256 / 256 % 256, n / 256 / 256 / 256 / 256 / 256 / 256 % 256, n / 256 / 256 / 256 / 256 / 256 / 256 / 256] ++ r) 9 1 = n := by simp only [rdAt, List.cons_append, List.nil_append, List.take_succ_cons, List.take_zero, List.drop_succ_cons, List.drop_zero, rd]; omega
    rw [e, sizeN_9 h h', if_neg (by omega)]; rfl
end Go.Proofs.YtlapnnkahijikaaDoor
namespace Go.Proofs.YtlapnnkahijikaaDoor
open Go.ChangeShapes Go.WideShapes Go.ChangeAt Go.RowKit

set_option maxHeartbeats 400000 in
theorem size_none (n : Int) (w : World) (h : n < 0 ∨ 4611686018427387904 < n) :
    Calls Tryd.prog 48 #[.int .i64 n] w fun e w' => e = .returned (.int .i64 0) ∧ w = w' := by
  by_cases h0 : n < 0
  all_goals
    have h1 : n < 0 ∨ 4611686018427387904 < n := h
    clear h
    try (have h2 : 4611686018427387904 < n := by omega)
    clear h1
    go_enter Tryd.func48, Tryd.ntmps48
    go_wp2
    refine wp_scope_hops 1 ?_
    go_hide hQ
    go_wp2
    go_step3
    simp only [Exit.then]
    subst hQ
    rw [hops_goto]
    refine ⟨_, rfl, ?_⟩
    go_hide hQ
    go_wp2
    subst hQ
    rw [hops_ret]
    go_ret
    exact ⟨rfl, rfl⟩

set_option maxHeartbeats 400000 in
theorem size_some (n : Int) (w : World) (h0 : 0 ≤ n) (h1 : n ≤ 4611686018427387904) :
    Calls Tryd.prog 48 #[.int .i64 n] w fun e w' => e = .returned (.int .i64 (sizeN n)) ∧ w = w' := by
  go_enter Tryd.func48, Tryd.ntmps48
  go_wp2
  refine wp_scope_hops 0 ?_
  go_hide hQ
  go_wp2
  all_goals
    go_step3
    go_wp2
    subst hQ
    rw [hops_ret]
    go_ret
  · exact ⟨ret_int (sizeN_1 h0 ‹_›).symm, rfl⟩
  · exact ⟨ret_int (sizeN_3 ‹_› ‹_›).symm, rfl⟩
  · exact ⟨ret_int (sizeN_5 ‹_› ‹_›).symm, rfl⟩
  · exact ⟨ret_int (sizeN_9 ‹_› ‹_›).symm, rfl⟩

/-- Size, whatever the number. -/
theorem size_any (n : Int) (w : World) :
    Calls Tryd.prog 48 #[.int .i64 n] w fun e w' => e = .returned (.int .i64 (sizeN n)) ∧ w = w' := by
  by_cases h : n < 0 ∨ 4611686018427387904 < n
  · rw [sizeN_none h]; exact size_none n w h
  · exact size_some n w (by omega) (by omega)

/-- Size, where it is known. -/
theorem size_is (n k : Int) (w : World) (h : sizeN n = k) :
    Calls Tryd.prog 48 #[.int .i64 n] w fun e w' => e = .returned (.int .i64 k) ∧ w = w' := by
  rw [← h]; exact size_any n w

theorem span_any (b : Int) (w : World) :
    Calls Tryd.prog 65 #[.int .u8 b] w fun e w' => e = .returned (.int .i64 (spanN b)) ∧ w = w' := by
  by_cases h3 : b = 253
  · subst h3
    go_enter Tryd.func65, Tryd.ntmps65
    go_wp2
    go_ret
    exact ⟨rfl, rfl⟩
  · by_cases h5 : b = 254
    · subst h5
      go_enter Tryd.func65, Tryd.ntmps65
      go_wp2
      go_ret
      exact ⟨rfl, rfl⟩
    · by_cases h9 : b = 255
      · subst h9
        go_enter Tryd.func65, Tryd.ntmps65
        go_wp2
        go_ret
        exact ⟨rfl, rfl⟩
      · have hs : spanN b = 1 := by unfold spanN; rw [if_neg h3, if_neg h5, if_neg h9]
        rw [hs]; clear hs
        have e3 : (b == 253) = false := beq_eq_false_iff_ne.2 h3
        have e5 : (b == 254) = false := beq_eq_false_iff_ne.2 h5
        have e9 : (b == 255) = false := beq_eq_false_iff_ne.2 h9
        clear h3 h5 h9
        go_enter Tryd.func65, Tryd.ntmps65
        go_wp2
        go_ret
        exact ⟨rfl, rfl⟩

theorem lead_3 (w : World) : Calls Tryd.prog 49 #[.int .i64 3] w fun e w' => e = .returned (.int .u8 253) ∧ w = w' := by
  go_enter Tryd.func49, Tryd.ntmps49
  go_wp2
  go_ret
  exact ⟨rfl, rfl⟩

theorem lead_5 (w : World) : Calls Tryd.prog 49 #[.int .i64 5] w fun e w' => e = .returned (.int .u8 254) ∧ w = w' := by
  go_enter Tryd.func49, Tryd.ntmps49
  go_wp2
  go_ret
  exact ⟨rfl, rfl⟩

theorem lead_9 (w : World) : Calls Tryd.prog 49 #[.int .i64 9] w fun e w' => e = .returned (.int .u8 255) ∧ w = w' := by
  go_enter Tryd.func49, Tryd.ntmps49
  go_wp2
  go_ret
  exact ⟨rfl, rfl⟩

end Go.Proofs.YtlapnnkahijikaaDoor
namespace Go.Proofs.YtlapnnkahijikaaDoor
open Go.ChangeShapes Go.WideShapes Go.ChangeAt Go.RowKit

theorem make_1 : ∀ w, (Instr.makeSlice 40 (.int .i64 1) (.int .i64 1)).run Tryd.prog w = .ok (.slice (some ⟨w.heap.size, 0, none⟩) 1 1) (w.alloc (.cells #[.int .u8 0] 5)) := fun _ => by kernel_rfl
theorem make_3 : ∀ w, (Instr.makeSlice 40 (.int .i64 3) (.int .i64 3)).run Tryd.prog w = .ok (.slice (some ⟨w.heap.size, 0, none⟩) 3 3) (w.alloc (.cells #[.int .u8 0, .int .u8 0, .int .u8 0] 5)) := fun _ => by kernel_rfl
theorem make_5 : ∀ w, (Instr.makeSlice 40 (.int .i64 5) (.int .i64 5)).run Tryd.prog w = .ok (.slice (some ⟨w.heap.size, 0, none⟩) 5 5) (w.alloc (.cells #[.int .u8 0, .int .u8 0, .int .u8 0, .int .u8 0, .int .u8 0] 5)) := fun _ => by kernel_rfl
theorem make_9 : ∀ w, (Instr.makeSlice 40 (.int .i64 9) (.int .i64 9)).run Tryd.prog w = .ok (.slice (some ⟨w.heap.size, 0, none⟩) 9 9) (w.alloc (.cells #[.int .u8 0, .int .u8 0, .int .u8 0, .int .u8 0, .int .u8 0, .int .u8 0, .int .u8 0, .int .u8 0, .int .u8 0] 5)) := fun _ => by kernel_rfl

set_option maxHeartbeats 1000000 in
theorem put_none (n : Int) (w : World) (h : n < 0 ∨ 4611686018427387904 < n) :
    Calls Tryd.prog 39 #[.int .i64 n] w fun e w' => e = .returned (.slice none 0 0) ∧ w = w' := by
  go_enter Tryd.func39, Tryd.ntmps39
  go_wp2
  refine wp_scope_hops 1 ?_
  go_hide hQ
  go_wp2_with (go_at_call 48; refine (size_is _ 0 _ (sizeN_none h)).mono ?_; rintro e w' ⟨rfl, rfl⟩)
  go_step3
  simp only [Exit.then]
  subst hQ
  rw [hops_goto]
  refine ⟨_, rfl, ?_⟩
  go_hide hQ
  go_wp2
  subst hQ
  rw [hops_ret]
  go_ret
  exact ⟨rfl, rfl⟩

set_option maxHeartbeats 1000000 in
theorem put_1 (n : Int) (w : World) (h0 : 0 ≤ n) (h1 : n < 253) :
    Calls Tryd.prog 39 #[.int .i64 n] w fun e w' => e = .returned (.slice (some ⟨w.heap.size, 0, none⟩) 1 1) ∧ w' = w.alloc (.cells #[.int .u8 n] 5) := by
  have hmk := make_1
  go_enter Tryd.func39, Tryd.ntmps39
  go_wp2
  refine wp_scope_hops 0 ?_
  go_hide hQ
  go_wp2_with (go_at_call 48; refine (size_is _ 1 _ (sizeN_1 h0 h1)).mono ?_; rintro e w' ⟨rfl, rfl⟩)
  subst hQ
  rw [hops_ret]
  go_ret
  exact ⟨rfl, rfl⟩

set_option maxHeartbeats 1000000 in
theorem put_3 (n : Int) (w : World) (h0 : 253 ≤ n) (h1 : n < 65536) :
    Calls Tryd.prog 39 #[.int .i64 n] w fun e w' => e = .returned (.slice (some ⟨w.heap.size, 0, none⟩) 3 3) ∧ w' = w.alloc (.cells #[.int .u8 253, .int .u8 (n % 256), .int .u8 (n / 256)] 5) := by
  have hmk := make_3
  go_enter Tryd.func39, Tryd.ntmps39
  go_wp2
  refine wp_scope_hops 0 ?_
  go_hide hQ
  go_wp2_with (first | (go_at_call 48; refine (size_is _ 3 _ (sizeN_3 h0 h1)).mono ?_; rintro e w' ⟨rfl, rfl⟩) | (go_at_call 49; refine (lead_3 _).mono ?_; rintro e w' ⟨rfl, rfl⟩))
  go_rounds 3
  go_step3
  go_wp2
  subst hQ
  rw [hops_ret]
  go_ret
  exact ⟨rfl, rfl⟩

set_option maxHeartbeats 1000000 in
theorem put_5 (n : Int) (w : World) (h0 : 65536 ≤ n) (h1 : n < 4294967296) :
    Calls Tryd.prog 39 #[.int .i64 n] w fun e w' => e = .returned (.slice (some ⟨w.heap.size, 0, none⟩) 5 5) ∧ w' = w.alloc (.cells #[.int .u8 254, .int .u8 (n % 256), .int .u8 (n / 256 % 256), .int .u8 (n / 256 / 256 % 256), .int .u8 (n / 256 / 256 / 256)] 5) := by
  have hmk := make_5
  go_enter Tryd.func39, Tryd.ntmps39
  go_wp2
  refine wp_scope_hops 0 ?_
  go_hide hQ
  go_wp2_with (first | (go_at_call 48; refine (size_is _ 5 _ (sizeN_5 h0 h1)).mono ?_; rintro e w' ⟨rfl, rfl⟩) | (go_at_call 49; refine (lead_5 _).mono ?_; rintro e w' ⟨rfl, rfl⟩))
  go_rounds 5
  go_step3
  go_wp2
  subst hQ
  rw [hops_ret]
  go_ret
  exact ⟨rfl, rfl⟩

set_option maxHeartbeats 2000000 in
theorem put_9 (n : Int) (w : World) (h0 : 4294967296 ≤ n) (h1 : n ≤ 4611686018427387904) :
    Calls Tryd.prog 39 #[.int .i64 n] w fun e w' => e = .returned (.slice (some ⟨w.heap.size, 0, none⟩) 9 9) ∧ w' = w.alloc (.cells #[.int .u8 255, .int .u8 (n % 256), .int .u8 (n / 256 % 256), .int .u8 (n / 256 / 256 % 256), .int .u8 (n / 256 / 256 / 256 % 256), .int .u8 (n / 256 / 256 / 256 / 256 % 256), .int .u8 (n / 256 / 256 / 256 / 256 / 256 % 256), .int .u8 (n / 256 / 256 / 256 / 256 / 256 / 256 % 256), .int .u8 (n / 256 / 256 / 256 / 256 / 256 / 256 / 256)] 5) := by
  have hmk := make_9
  go_enter Tryd.func39, Tryd.ntmps39
  go_wp2
  refine wp_scope_hops 0 ?_
  go_hide hQ
  go_wp2_with (first | (go_at_call 48; refine (size_is _ 9 _ (sizeN_9 h0 h1)).mono ?_; rintro e w' ⟨rfl, rfl⟩) | (go_at_call 49; refine (lead_9 _).mono ?_; rintro e w' ⟨rfl, rfl⟩))
  go_rounds 9
  go_step3
  go_wp2
  subst hQ
  rw [hops_ret]
  go_ret
  exact ⟨rfl, rfl⟩
end Go.Proofs.YtlapnnkahijikaaDoor
namespace Go.Proofs.YtlapnnkahijikaaDoor
open Go.ChangeShapes Go.WideShapes Go.ChangeAt Go.RowKit
set_option linter.unusedVariables false

set_option maxHeartbeats 1000000 in
theorem read_many (b off cap len : Nat) (bs : List Int) (w : World) (hl : 2 ≤ len) (hl9 : len ≤ 9) (hlb : len ≤ bs.length)
    (hr : IsBytes bs) (hc : ∀ i, i < bs.length → w.cell? ⟨b, off + i, none⟩ = some (.int .u8 (bs.getD i 0))) :
    Calls Tryd.prog 66 #[.slice (some ⟨b, off, none⟩) len cap] w fun e w' => e = .returned (.int .u64 (rdAt bs len 1)) ∧ w = w' := by
  have e1 : ((len : Int) == 1) = false := beq_eq_false_iff_ne.2 (by omega)
  go_enter Tryd.func66, Tryd.ntmps66
  go_wp2
  go_loop [3, 4] (fun t i => ∃ k : Nat, k < len ∧ i = .int .i64 k ∧ t = .int .u64 (rdAt bs len (k + 1))) (fun _ i => (intOf i).toNat)
  case atStart => exact ⟨len - 1, by omega, by go_num, by rw [rdAt_end (by omega)]⟩
  case round =>
    obtain ⟨k, hk, rfl, rfl⟩ := hrel
    by_cases h0 : 0 < k
    · have hck := hc k (by omega)
      have hrk := isBytes_getD hr k
      have hv0 := rdAt_nonneg hr len (k + 1)
      have hv1 := rdAt_le7 hr len (k + 1) (by omega)
      have HS : Hid (rdAt bs len k = bs.getD k 0 + 256 * rdAt bs len (k + 1)) := rdAt_step hk hlb
      generalize rdAt bs len (k + 1) = V at *
      generalize bs.getD k 0 = x at *
      clear hc
      go_wp2
      go_round
      case rel => exact ⟨k - 1, by omega, by go_num, by rw [show k - 1 + 1 = k by omega, HS.out, or_u64 V x hv0 hv1 hrk.1 hrk.2]⟩
      case measure => simp [intOf]; omega
    · have h0 : k = 0 := by omega
      subst h0
      go_wp2
      go_ret
      exact ⟨rfl, rfl⟩

theorem read_one (b off cap : Nat) (x : Int) (w : World) (h0 : 0 ≤ x) (h1 : x ≤ 255) (hc : w.cell? ⟨b, off, none⟩ = some (.int .u8 x)) :
    Calls Tryd.prog 66 #[.slice (some ⟨b, off, none⟩) 1 cap] w fun e w' => e = .returned (.int .u64 x) ∧ w = w' := by
  go_enter Tryd.func66, Tryd.ntmps66
  go_wp2
  go_ret
  exact ⟨rfl, rfl⟩

theorem get_empty (a : Option Addr) (cap : Nat) (w : World) :
    Calls Tryd.prog 58 #[.slice a 0 cap] w fun e w' => e = .returned (.tuple #[.int .i64 0, .int .i64 0, .int .i64 2]) ∧ w = w' := by
  go_enter Tryd.func58, Tryd.ntmps58
  go_wp2
  refine wp_scope_hops 1 ?_
  go_hide hQ
  go_wp2
  go_step3
  simp only [Exit.then]
  subst hQ
  rw [hops_goto]
  refine ⟨_, rfl, ?_⟩
  go_hide hQ
  go_wp2
  subst hQ
  rw [hops_ret]
  go_ret3
  exact ⟨rfl, rfl⟩

set_option maxHeartbeats 1000000 in
theorem get_small (b off cap len : Nat) (x : Int) (w : World) (hl : 1 ≤ len) (hlc : len ≤ cap) (hm : cap ≤ maxLen) (h0 : 0 ≤ x) (h1 : x ≤ 252) (hc : w.cell? ⟨b, off, none⟩ = some (.int .u8 x)) :
    Calls Tryd.prog 58 #[.slice (some ⟨b, off, none⟩) len cap] w fun e w' => e = .returned (.tuple #[.int .i64 x, .int .i64 1, .int .i64 0]) ∧ w = w' := by
  unfold maxLen at hm
  have e1 : ((len : Int) == 0) = false := beq_eq_false_iff_ne.2 (by omega)
  have hsp : spanN x = 1 := by unfold spanN; rw [if_neg (by omega), if_neg (by omega), if_neg (by omega)]
  go_enter Tryd.func58, Tryd.ntmps58
  go_wp2
  refine wp_scope_hops 0 ?_
  go_hide hQ
  go_wp2_with fail
  refine (span_any _ _).mono ?_
  rintro e w' ⟨rfl, rfl⟩
  rw [hsp]
  go_wp2_with (first | (go_at_call 66; refine (read_one b off cap x _ h0 (by omega) hc).mono ?_; rintro e w' ⟨rfl, rfl⟩) | (go_at_call 48; refine (size_is _ 1 _ (sizeN_1 h0 (by omega))).mono ?_; rintro e w' ⟨rfl, rfl⟩))
  subst hQ
  rw [hops_ret]
  go_ret3
  exact ⟨rfl, rfl⟩

set_option maxHeartbeats 1000000 in
theorem get_short (b off cap len s : Nat) (x : Int) (w : World) (hl : 1 ≤ len) (hlc : len ≤ cap) (hm : cap ≤ maxLen) (hs : spanN x = s) (hls : len < s) (hc : w.cell? ⟨b, off, none⟩ = some (.int .u8 x)) :
    Calls Tryd.prog 58 #[.slice (some ⟨b, off, none⟩) len cap] w fun e w' => e = .returned (.tuple #[.int .i64 0, .int .i64 0, .int .i64 2]) ∧ w = w' := by
  unfold maxLen at hm
  have e1 : ((len : Int) == 0) = false := beq_eq_false_iff_ne.2 (by omega)
  have HS : Hid (spanN x = s) := hs
  clear hs
  go_enter Tryd.func58, Tryd.ntmps58
  go_wp2
  refine wp_scope_hops 1 ?_
  go_hide hQ
  go_wp2_with fail
  refine (span_any _ _).mono ?_
  rintro e w' ⟨rfl, rfl⟩
  rw [HS.out]
  go_wp2
  go_step3
  simp only [Exit.then]
  subst hQ
  rw [hops_goto]
  refine ⟨_, rfl, ?_⟩
  go_hide hQ
  go_wp2
  subst hQ
  rw [hops_ret]
  go_ret3
  exact ⟨rfl, rfl⟩

set_option maxHeartbeats 1000000 in
theorem get_long (b off cap s : Nat) (bs : List Int) (w : World) (hlc : bs.length ≤ cap) (hm : cap ≤ maxLen) (hr : IsBytes bs) (hs : spanN (bs.getD 0 0) = s) (hs2 : 2 ≤ s) (hs9 : s ≤ 9) (hls : s ≤ bs.length)
    (hc : ∀ i, i < bs.length → w.cell? ⟨b, off + i, none⟩ = some (.int .u8 (bs.getD i 0))) :
    Calls Tryd.prog 58 #[.slice (some ⟨b, off, none⟩) bs.length cap] w fun e w' => e = .returned (.tuple (if 4611686018427387904 < rdAt bs s 1 ∨ sizeN (rdAt bs s 1) ≠ s then #[.int .i64 0, .int .i64 0, .int .i64 2] else #[.int .i64 (rdAt bs s 1), .int .i64 s, .int .i64 0])) ∧ w = w' := by
  unfold maxLen at hm
  have e1 : ((bs.length : Int) == 0) = false := beq_eq_false_iff_ne.2 (by omega)
  have HS : Hid (spanN (bs.getD 0 0) = s) := hs
  clear hs
  have hc0 : w.cell? ⟨b, off, none⟩ = some (.int .u8 (bs.getD 0 0)) := hc 0 (by omega)
  have HC : Hid (∀ i, i < bs.length → w.cell? ⟨b, off + i, none⟩ = some (.int .u8 (bs.getD i 0))) := hc
  clear hc
  have hv0 := rdAt_nonneg hr s 1
  have hread := read_many b off cap s bs w hs2 hs9 hls hr HC.out
  have HR : Hid (Calls Tryd.prog 66 #[.slice (some ⟨b, off, none⟩) s cap] w fun e w' => e = .returned (.int .u64 (rdAt bs s 1)) ∧ w = w') := hread
  clear hread
  generalize bs.getD 0 0 = x at *
  generalize rdAt bs s 1 = V at *
  by_cases hbig : 4611686018427387904 < V
  · rw [if_pos (Or.inl hbig)]
    go_enter Tryd.func58, Tryd.ntmps58
    go_wp2
    refine wp_scope_hops 1 ?_
    go_hide hQ
    go_wp2_with fail
    refine (span_any _ _).mono ?_
    rintro e w' ⟨rfl, rfl⟩
    rw [HS.out]
    go_wp2_with (go_at_call 66; refine (HR.out).mono ?_; rintro e w' ⟨rfl, rfl⟩)
    go_step3
    simp only [Exit.then]
    subst hQ
    rw [hops_goto]
    refine ⟨_, rfl, ?_⟩
    go_hide hQ
    go_wp2
    subst hQ
    rw [hops_ret]
    go_ret3
    exact ⟨rfl, rfl⟩
  · by_cases hsz : sizeN V = s
    · rw [if_neg (by omega)]
      have hne : ((s : Int) != (s : Int)) = false := by simp
      go_enter Tryd.func58, Tryd.ntmps58
      go_wp2
      refine wp_scope_hops 0 ?_
      go_hide hQ
      go_wp2_with fail
      refine (span_any _ _).mono ?_
      rintro e w' ⟨rfl, rfl⟩
      rw [HS.out]
      go_wp2_with (first | (go_at_call 66; refine (HR.out).mono ?_; rintro e w' ⟨rfl, rfl⟩) | (go_at_call 48; refine (size_is _ s _ hsz).mono ?_; rintro e w' ⟨rfl, rfl⟩))
      subst hQ
      rw [hops_ret]
      go_ret3
      exact ⟨rfl, rfl⟩
    · rw [if_pos (Or.inr hsz)]
      have hne : (sizeN V != (s : Int)) = true := by simp [hsz]
      go_enter Tryd.func58, Tryd.ntmps58
      go_wp2
      refine wp_scope_hops 1 ?_
      go_hide hQ
      go_wp2_with fail
      refine (span_any _ _).mono ?_
      rintro e w' ⟨rfl, rfl⟩
      rw [HS.out]
      go_wp2_with (first | (go_at_call 66; refine (HR.out).mono ?_; rintro e w' ⟨rfl, rfl⟩) | (go_at_call 48; refine (size_any _ _).mono ?_; rintro e w' ⟨rfl, rfl⟩))
      go_step3
      simp only [Exit.then]
      subst hQ
      rw [hops_goto]
      refine ⟨_, rfl, ?_⟩
      go_hide hQ
      go_wp2
      subst hQ
      rw [hops_ret]
      go_ret3
      exact ⟨rfl, rfl⟩

/-- What lies where a slice leads: these bytes. -/
structure BytesAt (w : World) (a : Option Addr) (cap : Nat) (bs : List Int) : Prop where
  room : bs.length ≤ cap
  most : cap ≤ maxLen
  bytes : IsBytes bs
  lie : bs ≠ [] → ∃ b off, a = some ⟨b, off, none⟩ ∧ ∀ i, i < bs.length → w.cell? ⟨b, off + i, none⟩ = some (.int .u8 (bs.getD i 0))

/-- What Get answers, as a value. -/
def getV (bs : List Int) : Value := .tuple #[.int .i64 (getR bs).1, .int .i64 (getR bs).2.1, .int .i64 (getR bs).2.2]

theorem get_any (a : Option Addr) (cap : Nat) (bs : List Int) (w : World) (h : BytesAt w a cap bs) :
    Calls Tryd.prog 58 #[.slice a bs.length cap] w fun e w' => e = .returned (getV bs) ∧ w = w' := by
  by_cases hb : bs = []
  · subst hb; exact get_empty a cap w
  · have hl : 1 ≤ bs.length := by have := List.length_pos_iff.2 hb; omega
    obtain ⟨b, off, rfl, hc⟩ := h.lie hb
    have hx := isBytes_getD h.bytes 0
    have hc0 : w.cell? ⟨b, off, none⟩ = some (.int .u8 (bs.getD 0 0)) := hc 0 (by omega)
    obtain ⟨s, hs, hs2⟩ : ∃ s : Nat, spanN (bs.getD 0 0) = s ∧ (s = 1 ∧ bs.getD 0 0 ≤ 252 ∨ 3 ≤ s ∧ s ≤ 9) := by
      rcases spanN_cases (bs.getD 0 0) with ⟨h1, h2⟩ | ⟨h1, h2⟩ | ⟨h1, h2⟩ | ⟨h1, h2, h3, h4⟩
      · exact ⟨3, by rw [h2]; rfl, by omega⟩
      · exact ⟨5, by rw [h2]; rfl, by omega⟩
      · exact ⟨9, by rw [h2]; rfl, by omega⟩
      · exact ⟨1, by rw [h4]; rfl, by omega⟩
    rcases hs2 with ⟨rfl, h252⟩ | ⟨h3, h9⟩
    · have e : getV bs = .tuple #[.int .i64 (bs.getD 0 0), .int .i64 1, .int .i64 0] := by
        unfold getV; rw [getR_one hb (by rw [hs]; rfl)]
      rw [e]
      exact get_small b off cap bs.length _ w hl h.room h.most hx.1 h252 hc0
    · by_cases hls : bs.length < s
      · have e : getV bs = .tuple #[.int .i64 0, .int .i64 0, .int .i64 2] := by
          unfold getV; rw [getR_short hb hs (by omega) hls]
        rw [e]
        exact get_short b off cap bs.length s _ w hl h.room h.most hs hls hc0
      · refine (get_long b off cap s bs w h.room h.most h.bytes hs (by omega) h9 (by omega) hc).mono ?_
        rintro e w' ⟨rfl, rfl⟩
        refine ⟨?_, rfl⟩
        unfold getV
        rw [getR_long hb hs (by omega) (by omega)]
        split <;> rfl
end Go.Proofs.YtlapnnkahijikaaDoor
namespace Go.Proofs.YtlapnnkahijikaaDoor
open Go.ChangeShapes Go.WideShapes Go.ChangeAt Go.RowKit
set_option linter.unusedVariables false

/-- The value v leads to these bytes, in a row of the call's own from block B on. -/
def Row (w : World) (B : Nat) (v : Value) (bs : List Int) : Prop := w.ownsRow B 5 1 v bs.length (bs.map (Value.int .u8))

theorem Row.shape {w : World} {B : Nat} {v : Value} {bs : List Int} (h : Row w B v bs) :
    (v = .slice none 0 0 ∧ bs = []) ∨ ∃ g cap, v = .slice (some ⟨g, 0, none⟩) bs.length cap ∧ B ≤ g ∧ g < w.heap.size ∧ bs.length ≤ cap ∧ cap ≤ maxLen ∧ ∀ i, i < bs.length → w.cell? ⟨g, 0 + i, none⟩ = some (.int .u8 (bs.getD i 0)) := by
  have h0 := h
  rcases h.2 with ⟨hv, hn⟩ | ⟨g, cap, cur, hv, hb, hg, hnc, hcm, _⟩
  · exact Or.inl ⟨hv, List.eq_nil_of_length_eq_zero hn⟩
  · refine Or.inr ⟨g, cap, hv, hb, (Array.getElem?_eq_some_iff.1 hg).1, hnc, hcm, fun i hi => ?_⟩
    subst hv
    have hc := World.ownsRow.cellAt h0 i (by omega)
    rw [Nat.zero_add, hc, List.getElem?_map, List.getElem?_eq_getElem hi, getD_lt hi]; rfl

theorem Row.bytesAt {w : World} {B : Nat} {v : Value} {bs : List Int} (h : Row w B v bs) (hb : IsBytes bs) :
    ∃ a cap, v = .slice a bs.length cap ∧ BytesAt w a cap bs := by
  rcases h.shape with ⟨rfl, rfl⟩ | ⟨g, cap, rfl, _, _, h1, h2, hc⟩
  · exact ⟨none, 0, rfl, ⟨Nat.le_refl _, by unfold maxLen; omega, hb, fun h => absurd rfl h⟩⟩
  · exact ⟨_, cap, rfl, ⟨h1, h2, hb, fun _ => ⟨g, 0, rfl, hc⟩⟩⟩

/-- The row as a string. -/
theorem Row.string {w : World} {B : Nat} {v : Value} {bs : List Int} (h : Row w B v bs) : (convert 40 9 v).run Tryd.prog w = .ok (.string (strOfNums bs)) w := by
  rcases h.shape with ⟨rfl, rfl⟩ | ⟨g, cap, rfl, _, _, h1, h2, hc⟩
  · exact run_convert_bytes_nil w 40 5 Tryd.underlying40 Tryd.underlying5 0 0 9 Tryd.underlying9
  · exact run_convert_bytes_arg w 40 5 Tryd.underlying40 Tryd.underlying5 g 0 bs.length cap bs rfl hc 9 Tryd.underlying9

theorem Row.later {w w' : World} {B B' : Nat} {v : Value} {bs : List Int} (h : Row w B v bs) (hb : Below B' w w') (hB : w.heap.size ≤ B') : Row w' B v bs := by
  refine ⟨h.1, ?_⟩
  rcases h.2 with hn | ⟨g, cap, cur, hv, hbg, hg, r⟩
  · exact Or.inl hn
  · refine Or.inr ⟨g, cap, cur, hv, hbg, ?_, r⟩
    have hlt := (Array.getElem?_eq_some_iff.1 hg).1
    rw [hb.block g (by omega)]; exact hg

theorem Row.base {w : World} {B B' : Nat} {v : Value} {bs : List Int} (h : Row w B v bs) (hB : B' ≤ B) : Row w B' v bs := by
  refine ⟨h.1, ?_⟩
  rcases h.2 with hn | ⟨g, cap, cur, hv, hbg, r⟩
  · exact Or.inl hn
  · exact Or.inr ⟨g, cap, cur, hv, by omega, r⟩

theorem row_lit (w : World) (bs : List Int) (hl : bs.length ≤ maxLen) :
    Row (w.alloc (.cells (bs.map (Value.int .u8)).toArray 5)) w.heap.size (.slice (some ⟨w.heap.size, 0, none⟩) bs.length bs.length) bs := by
  have h := World.ownsRow_lit (base := w.heap.size) (e := 5) (size := 1) w (bs.map (Value.int .u8)).toArray bs.length (Nat.le_refl _) hl (by simp)
  simpa [Row] using h

/-- num.Put, whatever the number. -/
theorem put_any (n : Int) (w : World) :
    Calls Tryd.prog 39 #[.int .i64 n] w fun e w' => ∃ v, e = .returned v ∧ Row w' w.heap.size v (bytesN n) ∧ Below w.heap.size w w' := by
  rcases five n with h | ⟨h, h'⟩ | ⟨h, h'⟩ | ⟨h, h'⟩ | ⟨h, h'⟩
  · refine (put_none n w h).mono ?_
    rintro e w' ⟨rfl, rfl⟩
    rw [bytesN_none h]
    exact ⟨_, rfl, World.ownsRow_nil _ _ _ _, Below.refl _ _⟩
  · refine (put_1 n w h h').mono ?_
    rintro e w' ⟨rfl, rfl⟩
    rw [bytesN_1 h h']
    exact ⟨_, rfl, row_lit w [n] (by unfold maxLen; simp), (Below.refl _ _).alloc (Nat.le_refl _) _⟩
  · refine (put_3 n w h h').mono ?_
    rintro e w' ⟨rfl, rfl⟩
    rw [bytesN_3 h h']
    exact ⟨_, rfl, row_lit w [253, n % 256, n / 256] (by unfold maxLen; simp), (Below.refl _ _).alloc (Nat.le_refl _) _⟩
  · refine (put_5 n w h h').mono ?_
    rintro e w' ⟨rfl, rfl⟩
    rw [bytesN_5 h h']
    exact ⟨_, rfl, row_lit w [254, n % 256, n / 256 % 256, n / 256 / 256 % 256, n / 256 / 256 / 256] (by unfold maxLen; simp), (Below.refl _ _).alloc (Nat.le_refl _) _⟩
  · refine (put_9 n w h h').mono ?_
    rintro e w' ⟨rfl, rfl⟩
    rw [bytesN_9 h h']
    exact ⟨_, rfl, row_lit w [255, n % 256, n / 256 % 256, n / 256 / 256 % 256, n / 256 / 256 / 256 % 256, n / 256 / 256 / 256 / 256 % 256, n / 256 / 256 / 256 / 256 / 256 % 256, n / 256 / 256 / 256 / 256 / 256 / 256 % 256, n / 256 / 256 / 256 / 256 / 256 / 256 / 256] (by unfold maxLen; simp), (Below.refl _ _).alloc (Nat.le_refl _) _⟩

theorem ofNat_byte {x y : Int} (hx : 0 ≤ x ∧ x ≤ 255) (hy : 0 ≤ y ∧ y ≤ 255) (h : UInt8.ofNat x.toNat = UInt8.ofNat y.toNat) : x = y := by
  have h' := congrArg UInt8.toNat h
  simp only [UInt8.toNat_ofNat'] at h'
  omega

/-- Strings of bytes are one just if the bytes are. -/
theorem strOfNums_inj {a b : List Int} (ha : IsBytes a) (hb : IsBytes b) (h : (strOfNums a).toList = (strOfNums b).toList) : a = b := by
  rw [ByteArray.toList_eq, ByteArray.toList_eq, strOfNums_data, strOfNums_data] at h
  induction a generalizing b with
  | nil => cases b with
    | nil => rfl
    | cons y r => simp at h
  | cons x l ih => cases b with
    | nil => simp at h
    | cons y r =>
      simp only [List.map_cons, List.cons.injEq] at h
      rw [ofNat_byte (ha x (by simp)) (hb y (by simp)) h.1, ih (fun z hz => ha z (by simp [hz])) (fun z hz => hb z (by simp [hz])) h.2]

end Go.Proofs.YtlapnnkahijikaaDoor
