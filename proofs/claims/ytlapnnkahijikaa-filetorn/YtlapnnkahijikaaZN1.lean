/- Plain facts on the forms of numbers: how long they are, what they say, that they are read as they were written. No program is named here. Contracts of the small functions of package num and of the document's own answer: Size, lead, span, fits, Round: no conditions but the arguments' ranges. The contract of num.Put: whatever the number, the bytes of its form in a new block of their own, or no bytes. The contracts of num.read and num.Get, at whatever bytes. Both Puts under one contract; a row of bytes as a string, and as what Get reads. -/
import Derived.WalkKit
import Derived.Test.YtlapnnkahijikaaChecked
import Derived.Test.YtlapnnkahijikaaZQ1
import Derived.ProofKit
import Derived.OpenShut
import Derived.Handy
import Derived.WalkSpells
import Derived.Laws.BytesArg
namespace Go.Proofs.Ytlapnnkahijikaa
open Go.RowKit

/-- How many bytes a number's form has. -/
def sizeN (n : Int) : Int :=
  if n < 0 ∨ 4611686018427387904 < n then 0 else if n < 253 then 1 else if n < 65536 then 3 else if n < 4294967296 then 5 else 9

theorem sizeN_none {n : Int} (h : n < 0 ∨ 4611686018427387904 < n) : sizeN n = 0 := by unfold sizeN; rw [if_pos h]
theorem sizeN_1 {n : Int} (h0 : 0 ≤ n) (h : n < 253) : sizeN n = 1 := by unfold sizeN; rw [if_neg (by omega), if_pos h]
theorem sizeN_3 {n : Int} (h0 : 253 ≤ n) (h : n < 65536) : sizeN n = 3 := by unfold sizeN; rw [if_neg (by omega), if_neg (by omega), if_pos h]
theorem sizeN_5 {n : Int} (h0 : 65536 ≤ n) (h : n < 4294967296) : sizeN n = 5 := by
  unfold sizeN; rw [if_neg (by omega), if_neg (by omega), if_neg (by omega), if_pos h]
theorem sizeN_9 {n : Int} (h0 : 4294967296 ≤ n) (h : n ≤ 4611686018427387904) : sizeN n = 9 := by
  unfold sizeN; rw [if_neg (by omega), if_neg (by omega), if_neg (by omega), if_neg (by omega)]

/-- The first byte's span. -/
def spanN (b : Int) : Int := if b = 253 then 3 else if b = 254 then 5 else if b = 255 then 9 else 1

/-- What bytes say, the least first. -/
def rd : List Int → Int
  | [] => 0
  | x :: r => x + 256 * rd r

theorem getD_lt {bs : List Int} {i : Nat} (h : i < bs.length) : bs.getD i 0 = bs[i] := by
  rw [List.getD_eq_getElem?_getD, List.getElem?_eq_getElem h]; rfl
theorem getD_ge {bs : List Int} {i : Nat} (h : bs.length ≤ i) : bs.getD i 0 = 0 := by
  rw [List.getD_eq_getElem?_getD, List.getElem?_eq_none h]; rfl

/-- Each of them is a byte. -/
def IsBytes (bs : List Int) : Prop := ∀ x ∈ bs, 0 ≤ x ∧ x ≤ 255

theorem isBytes_getD {bs : List Int} (h : IsBytes bs) (i : Nat) : 0 ≤ bs.getD i 0 ∧ bs.getD i 0 ≤ 255 := by
  by_cases hi : i < bs.length
  · rw [getD_lt hi]; exact h _ (List.getElem_mem hi)
  · rw [getD_ge (by omega)]; omega

theorem rd_nonneg {bs : List Int} (h : IsBytes bs) : 0 ≤ rd bs := by
  induction bs with
  | nil => simp [rd]
  | cons x r ih =>
    have h1 := h x (by simp)
    have h2 := ih (fun y hy => h y (by simp [hy]))
    simp only [rd]; omega

theorem rd_lt {bs : List Int} (h : IsBytes bs) : rd bs < ((256 ^ bs.length : Nat) : Int) := by
  induction bs with
  | nil => simp [rd]
  | cons x r ih =>
    have h1 := h x (by simp)
    have h2 := ih (fun y hy => h y (by simp [hy]))
    simp only [rd, List.length_cons, Nat.pow_succ, Int.natCast_mul]; omega

theorem isBytes_drop {bs : List Int} (h : IsBytes bs) (k : Nat) : IsBytes (bs.drop k) := fun x hx => h x (List.mem_of_mem_drop hx)
theorem isBytes_take {bs : List Int} (h : IsBytes bs) (k : Nat) : IsBytes (bs.take k) := fun x hx => h x (List.mem_of_mem_take hx)

/-- What the bytes from k on say, up to len. -/
def rdAt (bs : List Int) (len k : Nat) : Int := rd ((bs.take len).drop k)

theorem rdAt_step {bs : List Int} {len k : Nat} (h : k < len) (hl : len ≤ bs.length) : rdAt bs len k = bs.getD k 0 + 256 * rdAt bs len (k + 1) := by
  unfold rdAt
  have hk : k < (bs.take len).length := by rw [List.length_take]; omega
  rw [List.drop_eq_getElem_cons hk, rd, List.getElem_take, getD_lt (by omega)]

theorem rdAt_end {bs : List Int} {len k : Nat} (h : len ≤ k) : rdAt bs len k = 0 := by
  unfold rdAt
  rw [List.drop_of_length_le (by rw [List.length_take]; omega)]
  rfl

theorem rdAt_nonneg {bs : List Int} (h : IsBytes bs) (len k : Nat) : 0 ≤ rdAt bs len k := rd_nonneg (isBytes_drop (isBytes_take h _) _)

theorem rdAt_lt {bs : List Int} (h : IsBytes bs) (len k m : Nat) (hk : len - k ≤ m) : rdAt bs len k < ((256 ^ m : Nat) : Int) := by
  have h1 := rd_lt (isBytes_drop (isBytes_take h len) k)
  have h2 : ((bs.take len).drop k).length ≤ m := by rw [List.length_drop, List.length_take]; omega
  have h3 := Nat.pow_le_pow_right (show 0 < 256 by omega) h2
  unfold rdAt
  exact Int.lt_of_lt_of_le h1 (Int.ofNat_le.2 h3)

theorem rdAt_le7 {bs : List Int} (h : IsBytes bs) (len k : Nat) (hk : len - k ≤ 7) : rdAt bs len k ≤ 72057594037927935 := by
  have h1 := rdAt_lt h len k 7 hk
  have h2 : (256 ^ 7 : Nat) = 72057594037927936 := by decide
  rw [h2] at h1; omega

theorem wraps_u64 (n : Int) (h₀ : 0 ≤ n) (h₁ : n < 2 ^ 64) : IntKind.u64.wrap n = n := by rw [IntKind.wrap_u64]; omega
theorem wraps_i64 (n : Int) (h₀ : 0 ≤ n) (h₁ : n < 2 ^ 63) : IntKind.i64.wrap n = n := by rw [IntKind.wrap_i64]; omega
theorem or_u64 (V x : Int) (h0 : 0 ≤ V) (h1 : V ≤ 72057594037927935) (hx : 0 ≤ x) (hx1 : x ≤ 255) : bits .or .u64 (V * 256) x = x + 256 * V := by
  rw [bits_join .u64 64 (by decide) wraps_u64 8 (V * 256) x (by omega) (by omega) (by omega) hx (by omega) (by omega)]; omega
theorem or_i64 (V x : Int) (h0 : 0 ≤ V) (h1 : V ≤ 36028797018963967) (hx : 0 ≤ x) (hx1 : x ≤ 255) : bits .or .i64 (V * 256) x = x + 256 * V := by
  rw [bits_join .i64 63 (by decide) wraps_i64 8 (V * 256) x (by omega) (by omega) (by omega) hx (by omega) (by omega)]; omega

theorem spanN_cases (x : Int) : (x = 253 ∧ spanN x = 3) ∨ (x = 254 ∧ spanN x = 5) ∨ (x = 255 ∧ spanN x = 9) ∨ (x ≠ 253 ∧ x ≠ 254 ∧ x ≠ 255 ∧ spanN x = 1) := by
  unfold spanN
  by_cases h3 : x = 253
  · exact Or.inl ⟨h3, by rw [if_pos h3]⟩
  · by_cases h5 : x = 254
    · exact Or.inr (Or.inl ⟨h5, by rw [if_neg h3, if_pos h5]⟩)
    · by_cases h9 : x = 255
      · exact Or.inr (Or.inr (Or.inl ⟨h9, by rw [if_neg h3, if_neg h5, if_pos h9]⟩))
      · exact Or.inr (Or.inr (Or.inr ⟨h3, h5, h9, by rw [if_neg h3, if_neg h5, if_neg h9]⟩))

/-- What Get answers: the number, how many bytes, the error. -/
def getR (bs : List Int) : Int × Int × Int :=
  if bs = [] then (0, 0, 2)
  else if spanN (bs.getD 0 0) = 1 then (bs.getD 0 0, 1, 0)
  else if (bs.length : Int) < spanN (bs.getD 0 0) then (0, 0, 2)
  else if 4611686018427387904 < rdAt bs (spanN (bs.getD 0 0)).toNat 1 ∨ sizeN (rdAt bs (spanN (bs.getD 0 0)).toNat 1) ≠ spanN (bs.getD 0 0) then (0, 0, 2)
  else (rdAt bs (spanN (bs.getD 0 0)).toNat 1, spanN (bs.getD 0 0), 0)

theorem getR_one {bs : List Int} (hb : bs ≠ []) (h : spanN (bs.getD 0 0) = 1) : getR bs = (bs.getD 0 0, 1, 0) := by
  unfold getR; rw [if_neg hb, if_pos h]
theorem getR_short {bs : List Int} {s : Nat} (hb : bs ≠ []) (h : spanN (bs.getD 0 0) = s) (h1 : s ≠ 1) (hl : bs.length < s) : getR bs = (0, 0, 2) := by
  unfold getR; rw [if_neg hb, h, if_neg (by omega), if_pos (by omega)]
theorem getR_long {bs : List Int} {s : Nat} (hb : bs ≠ []) (h : spanN (bs.getD 0 0) = s) (h1 : s ≠ 1) (hl : s ≤ bs.length) :
    getR bs = if 4611686018427387904 < rdAt bs s 1 ∨ sizeN (rdAt bs s 1) ≠ s then (0, 0, 2) else (rdAt bs s 1, (s : Int), 0) := by
  unfold getR; rw [if_neg hb, h, if_neg (by omega), if_neg (by omega), Int.toNat_natCast]

/-- A number's form. -/
def bytesN (n : Int) : List Int :=
  if n < 0 ∨ 4611686018427387904 < n then []
  else if n < 253 then [n]
  else if n < 65536 then [253, n % 256, n / 256]
  else if n < 4294967296 then [254, n % 256, n / 256 % 256, n / 256 / 256 % 256, n / 256 / 256 / 256]
  else [255, n % 256, n / 256 % 256, n / 256 / 256 % 256, n / 256 / 256 / 256 % 256, n / 256 / 256 / 256 / 256 % 256, n / 256 / 256 / 256 / 256 / 256 % 256, n / 256 / 256 / 256 / 256 / 256 / 256 % 256, n / 256 / 256 / 256 / 256 / 256 / 256 / 256]

theorem bytesN_none {n : Int} (h : n < 0 ∨ 4611686018427387904 < n) : bytesN n = [] := by unfold bytesN; rw [if_pos h]
theorem bytesN_1 {n : Int} (h0 : 0 ≤ n) (h : n < 253) : bytesN n = [n] := by unfold bytesN; rw [if_neg (by omega), if_pos h]
theorem bytesN_3 {n : Int} (h0 : 253 ≤ n) (h : n < 65536) : bytesN n = [253, n % 256, n / 256] := by
  unfold bytesN; rw [if_neg (by omega), if_neg (by omega), if_pos h]
theorem bytesN_5 {n : Int} (h0 : 65536 ≤ n) (h : n < 4294967296) : bytesN n = [254, n % 256, n / 256 % 256, n / 256 / 256 % 256, n / 256 / 256 / 256] := by
  unfold bytesN; rw [if_neg (by omega), if_neg (by omega), if_neg (by omega), if_pos h]
theorem bytesN_9 {n : Int} (h0 : 4294967296 ≤ n) (h : n ≤ 4611686018427387904) : bytesN n = [255, n % 256, n / 256 % 256, n / 256 / 256 % 256, n / 256 / 256 / 256 % 256, n / 256 / 256 / 256 / 256 % 256, n / 256 / 256 / 256 / 256 / 256 % 256, n / 256 / 256 / 256 / 256 / 256 / 256 % 256, n / 256 / 256 / 256 / 256 / 256 / 256 / 256] := by
  unfold bytesN; rw [if_neg (by omega), if_neg (by omega), if_neg (by omega), if_neg (by omega)]

theorem five (n : Int) : (n < 0 ∨ 4611686018427387904 < n) ∨ (0 ≤ n ∧ n < 253) ∨ (253 ≤ n ∧ n < 65536) ∨ (65536 ≤ n ∧ n < 4294967296) ∨ (4294967296 ≤ n ∧ n ≤ 4611686018427387904) := by omega

theorem bytesN_length (n : Int) : ((bytesN n).length : Int) = sizeN n := by
  rcases five n with h | ⟨h, h'⟩ | ⟨h, h'⟩ | ⟨h, h'⟩ | ⟨h, h'⟩
  · rw [bytesN_none h, sizeN_none h]; rfl
  · rw [bytesN_1 h h', sizeN_1 h h']; rfl
  · rw [bytesN_3 h h', sizeN_3 h h']; rfl
  · rw [bytesN_5 h h', sizeN_5 h h']; rfl
  · rw [bytesN_9 h h', sizeN_9 h h']; rfl

theorem isBytes_N (n : Int) : IsBytes (bytesN n) := by
  rcases five n with h | ⟨h, h'⟩ | ⟨h, h'⟩ | ⟨h, h'⟩ | ⟨h, h'⟩
  · rw [bytesN_none h]; intro x hx; simp at hx
  · rw [bytesN_1 h h']; intro x hx; simp at hx; omega
  · rw [bytesN_3 h h']; intro x hx; simp only [List.mem_cons, List.not_mem_nil, or_false] at hx; omega
  · rw [bytesN_5 h h']; intro x hx; simp only [List.mem_cons, List.not_mem_nil, or_false] at hx; omega
  · rw [bytesN_9 h h']; intro x hx; simp only [List.mem_cons, List.not_mem_nil, or_false] at hx; omega

theorem take_cons_app {l m : List Int} : (l ++ m).take l.length = l := by simp

/-- What was written, and anything behind it, is read as it was. -/
theorem getR_bytesN (n : Int) (h0 : 0 ≤ n) (h1 : n ≤ 4611686018427387904) (r : List Int) : getR (bytesN n ++ r) = (n, sizeN n, 0) := by
  rcases five n with h | ⟨h, h'⟩ | ⟨h, h'⟩ | ⟨h, h'⟩ | ⟨h, h'⟩
  · omega
  · rw [bytesN_1 h h', sizeN_1 h h']
    rw [getR_one (by simp) (by show spanN n = 1; unfold spanN; rw [if_neg (by omega), if_neg (by omega), if_neg (by omega)])]; rfl
  · rw [bytesN_3 h h', sizeN_3 h h', getR_long (s := 3) (by simp) rfl (by omega) (by simp)]
    have e : rdAt ([253, n % 256, n / 256] ++ r) 3 1 = n := by simp only [rdAt, List.cons_append, List.nil_append, List.take_succ_cons, List.take_zero, List.drop_succ_cons, List.drop_zero, rd]; omega
    rw [e, sizeN_3 h h', if_neg (by omega)]; rfl
  · rw [bytesN_5 h h', sizeN_5 h h', getR_long (s := 5) (by simp) rfl (by omega) (by simp)]
    have e : rdAt ([254, n % 256, n / 256 % 256, n / 256 / 256 % 256, n / 256 / 256 / 256] ++ r) 5 1 = n := by simp only [rdAt, List.cons_append, List.nil_append, List.take_succ_cons, List.take_zero, List.drop_succ_cons, List.drop_zero, rd]; omega
    rw [e, sizeN_5 h h', if_neg (by omega)]; rfl
  · rw [bytesN_9 h h', sizeN_9 h h', getR_long (s := 9) (by simp) rfl (by omega) (by simp)]
    have e : rdAt ([255, n % 256, n / 256 % 256, n / 256 / 256 % 256, n / 256 / 256 / 256 % 256, n / 256 / 256 / 256 / 256 % 256, n / 256 / 256 / 256 / 256 / 256 % 256, n / 256 / 256 / 256 / 256 / 256 / 256 % 256, n / 256 / 256 / 256 / 256 / 256 / 256 / 256] ++ r) 9 1 = n := by simp only [rdAt, List.cons_append, List.nil_append, List.take_succ_cons, List.take_zero, List.drop_succ_cons, List.drop_zero, rd]; omega
    rw [e, sizeN_9 h h', if_neg (by omega)]; rfl
end Go.Proofs.Ytlapnnkahijikaa
namespace Go.Proofs.Ytlapnnkahijikaa
open Go.ChangeShapes Go.WideShapes Go.ChangeAt Go.RowKit

end Go.Proofs.Ytlapnnkahijikaa
namespace Go.Proofs.Ytlapnnkahijikaa
open Go.ChangeShapes Go.WideShapes Go.ChangeAt Go.RowKit

theorem make_1 : ∀ w, (Instr.makeSlice 40 (.int .i64 1) (.int .i64 1)).run Try.prog w = .ok (.slice (some ⟨w.heap.size, 0, none⟩) 1 1) (w.alloc (.cells #[.int .u8 0] 5)) := fun _ => by kernel_rfl
theorem make_3 : ∀ w, (Instr.makeSlice 40 (.int .i64 3) (.int .i64 3)).run Try.prog w = .ok (.slice (some ⟨w.heap.size, 0, none⟩) 3 3) (w.alloc (.cells #[.int .u8 0, .int .u8 0, .int .u8 0] 5)) := fun _ => by kernel_rfl
theorem make_5 : ∀ w, (Instr.makeSlice 40 (.int .i64 5) (.int .i64 5)).run Try.prog w = .ok (.slice (some ⟨w.heap.size, 0, none⟩) 5 5) (w.alloc (.cells #[.int .u8 0, .int .u8 0, .int .u8 0, .int .u8 0, .int .u8 0] 5)) := fun _ => by kernel_rfl
theorem make_9 : ∀ w, (Instr.makeSlice 40 (.int .i64 9) (.int .i64 9)).run Try.prog w = .ok (.slice (some ⟨w.heap.size, 0, none⟩) 9 9) (w.alloc (.cells #[.int .u8 0, .int .u8 0, .int .u8 0, .int .u8 0, .int .u8 0, .int .u8 0, .int .u8 0, .int .u8 0, .int .u8 0] 5)) := fun _ => by kernel_rfl

end Go.Proofs.Ytlapnnkahijikaa
namespace Go.Proofs.Ytlapnnkahijikaa
open Go.ChangeShapes Go.WideShapes Go.ChangeAt Go.RowKit
set_option linter.unusedVariables false

/-- What lies where a slice leads: these bytes. -/
structure BytesAt (w : World) (a : Option Addr) (cap : Nat) (bs : List Int) : Prop where
  room : bs.length ≤ cap
  most : cap ≤ maxLen
  bytes : IsBytes bs
  lie : bs ≠ [] → ∃ b off, a = some ⟨b, off, none⟩ ∧ ∀ i, i < bs.length → w.cell? ⟨b, off + i, none⟩ = some (.int .u8 (bs.getD i 0))

/-- What Get answers, as a value. -/
def getV (bs : List Int) : Value := .tuple #[.int .i64 (getR bs).1, .int .i64 (getR bs).2.1, .int .i64 (getR bs).2.2]

end Go.Proofs.Ytlapnnkahijikaa
namespace Go.Proofs.Ytlapnnkahijikaa
open Go.ChangeShapes Go.WideShapes Go.ChangeAt Go.RowKit
set_option linter.unusedVariables false

/-- The value v leads to these bytes, in a row of the call's own from block B on. -/
def Row (w : World) (B : Nat) (v : Value) (bs : List Int) : Prop := w.ownsRow B 5 1 v bs.length (bs.map (Value.int .u8))

theorem Row.shape {w : World} {B : Nat} {v : Value} {bs : List Int} (h : Row w B v bs) :
    (v = .slice none 0 0 ∧ bs = []) ∨ ∃ g cap, v = .slice (some ⟨g, 0, none⟩) bs.length cap ∧ B ≤ g ∧ g < w.heap.size ∧ bs.length ≤ cap ∧ cap ≤ maxLen ∧ ∀ i, i < bs.length → w.cell? ⟨g, 0 + i, none⟩ = some (.int .u8 (bs.getD i 0)) := by
  have h0 := h
  rcases h.2 with ⟨hv, hn⟩ | ⟨g, cap, cur, hv, hb, hg, hnc, hcm, _⟩
  · exact Or.inl ⟨hv, List.eq_nil_of_length_eq_zero hn⟩
  · refine Or.inr ⟨g, cap, hv, hb, (Array.getElem?_eq_some_iff.1 hg).1, hnc, hcm, fun i hi => ?_⟩
    subst hv
    have hc := World.ownsRow.cellAt h0 i (by omega)
    rw [Nat.zero_add, hc, List.getElem?_map, List.getElem?_eq_getElem hi, getD_lt hi]; rfl

theorem Row.bytesAt {w : World} {B : Nat} {v : Value} {bs : List Int} (h : Row w B v bs) (hb : IsBytes bs) :
    ∃ a cap, v = .slice a bs.length cap ∧ BytesAt w a cap bs := by
  rcases h.shape with ⟨rfl, rfl⟩ | ⟨g, cap, rfl, _, _, h1, h2, hc⟩
  · exact ⟨none, 0, rfl, ⟨Nat.le_refl _, by unfold maxLen; omega, hb, fun h => absurd rfl h⟩⟩
  · exact ⟨_, cap, rfl, ⟨h1, h2, hb, fun _ => ⟨g, 0, rfl, hc⟩⟩⟩

/-- The row as a string. -/
theorem Row.string {w : World} {B : Nat} {v : Value} {bs : List Int} (h : Row w B v bs) : (convert 40 9 v).run Try.prog w = .ok (.string (strOfNums bs)) w := by
  rcases h.shape with ⟨rfl, rfl⟩ | ⟨g, cap, rfl, _, _, h1, h2, hc⟩
  · exact run_convert_bytes_nil w 40 5 Try.underlying40 Try.underlying5 0 0 9 Try.underlying9
  · exact run_convert_bytes_arg w 40 5 Try.underlying40 Try.underlying5 g 0 bs.length cap bs rfl hc 9 Try.underlying9

theorem Row.later {w w' : World} {B B' : Nat} {v : Value} {bs : List Int} (h : Row w B v bs) (hb : Below B' w w') (hB : w.heap.size ≤ B') : Row w' B v bs := by
  refine ⟨h.1, ?_⟩
  rcases h.2 with hn | ⟨g, cap, cur, hv, hbg, hg, r⟩
  · exact Or.inl hn
  · refine Or.inr ⟨g, cap, cur, hv, hbg, ?_, r⟩
    have hlt := (Array.getElem?_eq_some_iff.1 hg).1
    rw [hb.block g (by omega)]; exact hg

theorem Row.base {w : World} {B B' : Nat} {v : Value} {bs : List Int} (h : Row w B v bs) (hB : B' ≤ B) : Row w B' v bs := by
  refine ⟨h.1, ?_⟩
  rcases h.2 with hn | ⟨g, cap, cur, hv, hbg, r⟩
  · exact Or.inl hn
  · exact Or.inr ⟨g, cap, cur, hv, by omega, r⟩

theorem row_lit (w : World) (bs : List Int) (hl : bs.length ≤ maxLen) :
    Row (w.alloc (.cells (bs.map (Value.int .u8)).toArray 5)) w.heap.size (.slice (some ⟨w.heap.size, 0, none⟩) bs.length bs.length) bs := by
  have h := World.ownsRow_lit (base := w.heap.size) (e := 5) (size := 1) w (bs.map (Value.int .u8)).toArray bs.length (Nat.le_refl _) hl (by simp)
  simpa [Row] using h

theorem ofNat_byte {x y : Int} (hx : 0 ≤ x ∧ x ≤ 255) (hy : 0 ≤ y ∧ y ≤ 255) (h : UInt8.ofNat x.toNat = UInt8.ofNat y.toNat) : x = y := by
  have h' := congrArg UInt8.toNat h
  simp only [UInt8.toNat_ofNat'] at h'
  omega

/-- Strings of bytes are one just if the bytes are. -/
theorem strOfNums_inj {a b : List Int} (ha : IsBytes a) (hb : IsBytes b) (h : (strOfNums a).toList = (strOfNums b).toList) : a = b := by
  rw [ByteArray.toList_eq, ByteArray.toList_eq, strOfNums_data, strOfNums_data] at h
  induction a generalizing b with
  | nil => cases b with
    | nil => rfl
    | cons y r => simp at h
  | cons x l ih => cases b with
    | nil => simp at h
    | cons y r =>
      simp only [List.map_cons, List.cons.injEq] at h
      rw [ofNat_byte (ha x (by simp)) (hb y (by simp)) h.1, ih (fun z hz => ha z (by simp [hz])) (fun z hz => hb z (by simp [hz])) h.2]

end Go.Proofs.Ytlapnnkahijikaa
