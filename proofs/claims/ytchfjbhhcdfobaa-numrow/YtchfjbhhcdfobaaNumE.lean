/- Both Puts under one contract; a row of bytes as a string, and as what Get reads. -/
import Derived.Test.YtchfjbhhcdfobaaNumD
import Derived.Laws.BytesArg
namespace Go.Proofs.Ytchfjbhhcdfobaa
open Go.ChangeShapes Go.WideShapes Go.ChangeAt Go.RowKit
set_option linter.unusedVariables false

/-- The value v leads to these bytes, in a row of the call's own from block B on. -/
def Row (w : World) (B : Nat) (v : Value) (bs : List Int) : Prop := w.ownsRow B 5 1 v bs.length (bs.map (Value.int .u8))

theorem Row.shape {w : World} {B : Nat} {v : Value} {bs : List Int} (h : Row w B v bs) :
    (v = .slice none 0 0 ∧ bs = []) ∨ ∃ g cap, v = .slice (some ⟨g, 0, none⟩) bs.length cap ∧ B ≤ g ∧ g < w.heap.size ∧ bs.length ≤ cap ∧ cap ≤ maxLen ∧ ∀ i, i < bs.length → w.cell? ⟨g, 0 + i, none⟩ = some (.int .u8 (bs.getD i 0)) := by
  have h0 := h
  rcases h.2 with ⟨hv, hn⟩ | ⟨g, cap, cur, hv, hb, hg, hnc, hcm, _⟩
  · exact Or.inl ⟨hv, List.eq_nil_of_length_eq_zero hn⟩
  · refine Or.inr ⟨g, cap, hv, hb, (Array.getElem?_eq_some_iff.1 hg).1, hnc, hcm, fun i hi => ?_⟩
    subst hv
    have hc := World.ownsRow.cellAt h0 i (by omega)
    rw [Nat.zero_add, hc, List.getElem?_map, List.getElem?_eq_getElem hi, getD_lt hi]; rfl

theorem Row.bytesAt {w : World} {B : Nat} {v : Value} {bs : List Int} (h : Row w B v bs) (hb : IsBytes bs) :
    ∃ a cap, v = .slice a bs.length cap ∧ BytesAt w a cap bs := by
  rcases h.shape with ⟨rfl, rfl⟩ | ⟨g, cap, rfl, _, _, h1, h2, hc⟩
  · exact ⟨none, 0, rfl, ⟨Nat.le_refl _, by unfold maxLen; omega, hb, fun h => absurd rfl h⟩⟩
  · exact ⟨_, cap, rfl, ⟨h1, h2, hb, fun _ => ⟨g, 0, rfl, hc⟩⟩⟩

/-- The row as a string. -/
theorem Row.string {w : World} {B : Nat} {v : Value} {bs : List Int} (h : Row w B v bs) : (convert 22 9 v).run Try.prog w = .ok (.string (strOfNums bs)) w := by
  rcases h.shape with ⟨rfl, rfl⟩ | ⟨g, cap, rfl, _, _, h1, h2, hc⟩
  · exact run_convert_bytes_nil w 22 5 Try.underlying22 Try.underlying5 0 0 9 Try.underlying9
  · exact run_convert_bytes_arg w 22 5 Try.underlying22 Try.underlying5 g 0 bs.length cap bs rfl hc 9 Try.underlying9

theorem Row.later {w w' : World} {B B' : Nat} {v : Value} {bs : List Int} (h : Row w B v bs) (hb : Below B' w w') (hB : w.heap.size ≤ B') : Row w' B v bs := by
  refine ⟨h.1, ?_⟩
  rcases h.2 with hn | ⟨g, cap, cur, hv, hbg, hg, r⟩
  · exact Or.inl hn
  · refine Or.inr ⟨g, cap, cur, hv, hbg, ?_, r⟩
    have hlt := (Array.getElem?_eq_some_iff.1 hg).1
    rw [hb.block g (by omega)]; exact hg

theorem Row.base {w : World} {B B' : Nat} {v : Value} {bs : List Int} (h : Row w B v bs) (hB : B' ≤ B) : Row w B' v bs := by
  refine ⟨h.1, ?_⟩
  rcases h.2 with hn | ⟨g, cap, cur, hv, hbg, r⟩
  · exact Or.inl hn
  · exact Or.inr ⟨g, cap, cur, hv, by omega, r⟩

theorem row_lit (w : World) (bs : List Int) (hl : bs.length ≤ maxLen) :
    Row (w.alloc (.cells (bs.map (Value.int .u8)).toArray 5)) w.heap.size (.slice (some ⟨w.heap.size, 0, none⟩) bs.length bs.length) bs := by
  have h := World.ownsRow_lit (base := w.heap.size) (e := 5) (size := 1) w (bs.map (Value.int .u8)).toArray bs.length (Nat.le_refl _) hl (by simp)
  simpa [Row] using h

/-- num.Put, whatever the number. -/
theorem put_any (n : Int) (w : World) :
    Calls Try.prog 7 #[.int .i64 n] w fun e w' => ∃ v, e = .returned v ∧ Row w' w.heap.size v (bytesN n) ∧ Below w.heap.size w w' := by
  rcases five n with h | ⟨h, h'⟩ | ⟨h, h'⟩ | ⟨h, h'⟩ | ⟨h, h'⟩
  · refine (put_none n w h).mono ?_
    rintro e w' ⟨rfl, rfl⟩
    rw [bytesN_none h]
    exact ⟨_, rfl, World.ownsRow_nil _ _ _ _, Below.refl _ _⟩
  · refine (put_1 n w h h').mono ?_
    rintro e w' ⟨rfl, rfl⟩
    rw [bytesN_1 h h']
    exact ⟨_, rfl, row_lit w [n] (by unfold maxLen; simp), (Below.refl _ _).alloc (Nat.le_refl _) _⟩
  · refine (put_3 n w h h').mono ?_
    rintro e w' ⟨rfl, rfl⟩
    rw [bytesN_3 h h']
    exact ⟨_, rfl, row_lit w [253, n % 256, n / 256] (by unfold maxLen; simp), (Below.refl _ _).alloc (Nat.le_refl _) _⟩
  · refine (put_5 n w h h').mono ?_
    rintro e w' ⟨rfl, rfl⟩
    rw [bytesN_5 h h']
    exact ⟨_, rfl, row_lit w [254, n % 256, n / 256 % 256, n / 256 / 256 % 256, n / 256 / 256 / 256] (by unfold maxLen; simp), (Below.refl _ _).alloc (Nat.le_refl _) _⟩
  · refine (put_9 n w h h').mono ?_
    rintro e w' ⟨rfl, rfl⟩
    rw [bytesN_9 h h']
    exact ⟨_, rfl, row_lit w [255, n % 256, n / 256 % 256, n / 256 / 256 % 256, n / 256 / 256 / 256 % 256, n / 256 / 256 / 256 / 256 % 256, n / 256 / 256 / 256 / 256 / 256 % 256, n / 256 / 256 / 256 / 256 / 256 / 256 % 256, n / 256 / 256 / 256 / 256 / 256 / 256 / 256] (by unfold maxLen; simp), (Below.refl _ _).alloc (Nat.le_refl _) _⟩

/-- The document's own Put, whatever the number. -/
theorem rput_any (n : Int) (w : World) :
    Calls Try.prog 9 #[.int .i64 n] w fun e w' => ∃ v, e = .returned v ∧ Row w' w.heap.size v (bytesN n) ∧ Below w.heap.size w w' := by
  rcases five n with h | ⟨h, h'⟩ | ⟨h, h'⟩ | ⟨h, h'⟩ | ⟨h, h'⟩
  · refine (rput_none n w h).mono ?_
    rintro e w' ⟨rfl, rfl⟩
    rw [bytesN_none h]
    exact ⟨_, rfl, World.ownsRow_nil _ _ _ _, Below.refl _ _⟩
  · refine (rput_1 n w h h').mono ?_
    rintro e w' ⟨rfl, rfl⟩
    rw [bytesN_1 h h']
    exact ⟨_, rfl, row_lit w [n] (by unfold maxLen; simp), (Below.refl _ _).alloc (Nat.le_refl _) _⟩
  · exact rput_3 n w h h'
  · exact rput_5 n w h h'
  · exact rput_9 n w h h'

theorem ofNat_byte {x y : Int} (hx : 0 ≤ x ∧ x ≤ 255) (hy : 0 ≤ y ∧ y ≤ 255) (h : UInt8.ofNat x.toNat = UInt8.ofNat y.toNat) : x = y := by
  have h' := congrArg UInt8.toNat h
  simp only [UInt8.toNat_ofNat'] at h'
  omega

/-- Strings of bytes are one just if the bytes are. -/
theorem strOfNums_inj {a b : List Int} (ha : IsBytes a) (hb : IsBytes b) (h : (strOfNums a).toList = (strOfNums b).toList) : a = b := by
  rw [ByteArray.toList_eq, ByteArray.toList_eq, strOfNums_data, strOfNums_data] at h
  induction a generalizing b with
  | nil => cases b with
    | nil => rfl
    | cons y r => simp at h
  | cons x l ih => cases b with
    | nil => simp at h
    | cons y r =>
      simp only [List.map_cons, List.cons.injEq] at h
      rw [ofNat_byte (ha x (by simp)) (hb y (by simp)) h.1, ih (fun z hz => ha z (by simp [hz])) (fun z hz => hb z (by simp [hz])) h.2]

/-- Get at bytes that were just laid. -/
theorem get_laid (w : World) (b : Nat) (bs : List Int) (hb : b = w.heap.size) (hl : bs.length ≤ maxLen) (h : IsBytes bs) :
    Calls Try.prog 11 #[.slice (some ⟨b, 0, none⟩) bs.length bs.length] (w.alloc (.cells (bs.map (Value.int .u8)).toArray 5)) fun e w' => e = .returned (getV bs) ∧ w.alloc (.cells (bs.map (Value.int .u8)).toArray 5) = w' := by
  subst hb
  obtain ⟨a, cap, hv, hB⟩ := (row_lit w bs hl).bytesAt h
  have h2 := get_any a cap bs _ hB
  rw [← hv] at h2
  exact h2

theorem get_awake1 (w : World) (b : Nat) (hb : b = w.heap.size) :
    Calls Try.prog 11 #[.slice (some ⟨b, 0, none⟩) 4 4] (w.alloc (.cells #[.int .u8 253, .int .u8 253, .int .u8 0, .int .u8 7] 5)) fun e w' => e = .returned (.tuple #[.int .i64 253, .int .i64 3, .int .i64 0]) ∧ w.alloc (.cells #[.int .u8 253, .int .u8 253, .int .u8 0, .int .u8 7] 5) = w' :=
  get_laid w b [253, 253, 0, 7] hb (by unfold maxLen; simp) (by intro x hx; simp at hx; omega)

theorem get_awake2 (w : World) (b : Nat) (hb : b = w.heap.size) :
    Calls Try.prog 11 #[.slice (some ⟨b, 0, none⟩) 3 3] (w.alloc (.cells #[.int .u8 253, .int .u8 252, .int .u8 0] 5)) fun e w' => e = .returned (.tuple #[.int .i64 0, .int .i64 0, .int .i64 2]) ∧ w.alloc (.cells #[.int .u8 253, .int .u8 252, .int .u8 0] 5) = w' :=
  get_laid w b [253, 252, 0] hb (by unfold maxLen; simp) (by intro x hx; simp at hx; omega)

theorem str253 : strOfNums (bytesN 253) = ⟨#[253, 253, 0]⟩ := by decide

set_option maxHeartbeats 1000000 in
theorem awake_any (w : World) : Calls Try.prog 10 #[] w fun e w' => e = .returned (.bool true) ∧ Below w.heap.size w w' := by
  go_enter Try.func10, Try.ntmps10
  go_wp2_with fail
  refine (get_awake1 w _ rfl).mono ?_
  rintro e w' ⟨rfl, rfl⟩
  go_wp2_with fail
  refine (get_awake2 _ _ (by simp)).mono ?_
  rintro e w' ⟨rfl, rfl⟩
  go_wp2_with fail
  refine (put_any 253 _).mono ?_
  rintro e w1 ⟨v1, rfl, hrow1, hbel1⟩
  have hs1 := hrow1.string
  rw [str253] at hs1
  go_wp2_with fail
  refine (put_none (-1) _ (by omega)).mono ?_
  rintro e w2 ⟨rfl, rfl⟩
  go_wp2_with (go_at_call 8; refine (size_is 252 1 _ (by decide)).mono ?_; rintro e w' ⟨rfl, rfl⟩)
  go_ret
  refine ⟨rfl, ?_⟩
  exact ((Below.refl _ _).alloc (Nat.le_refl _) _).alloc (by simp) _ |>.trans (hbel1.mono (by simp; omega))
end Go.Proofs.Ytchfjbhhcdfobaa
