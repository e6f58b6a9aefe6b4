/- NumOrder: whatever the two numbers, the law returns true. No conditions. -/
import Derived.Test.YtchfjbhhcdfobaaNumE
import Derived.Deep.RegionWith
namespace Go.Proofs.Ytchfjbhhcdfobaa
open Go.ChangeShapes Go.WideShapes Go.ChangeAt Go.RowKit
set_option linter.unusedVariables false

theorem Row.stringAt {w w' : World} {B : Nat} {v : Value} {bs : List Int} (h : Row w B v bs) (hb : Below w.heap.size w w') : (convert 22 9 v).run Try.prog w' = .ok (.string (strOfNums bs)) w' := (h.later hb (Nat.le_refl _)).string

theorem sizeN_mono {a b : Int} (h0 : 0 ≤ a) (h1 : b ≤ 4611686018427387904) (h : a ≤ b) : sizeN a ≤ sizeN b := by
  rcases five a with ha | ⟨ha, ha'⟩ | ⟨ha, ha'⟩ | ⟨ha, ha'⟩ | ⟨ha, ha'⟩
  · omega
  all_goals
    rcases five b with hb | ⟨hb, hb'⟩ | ⟨hb, hb'⟩ | ⟨hb, hb'⟩ | ⟨hb, hb'⟩
    all_goals first
      | omega
      | (first | rw [sizeN_1 ha ha'] | rw [sizeN_3 ha ha'] | rw [sizeN_5 ha ha'] | rw [sizeN_9 ha ha']
         first | rw [sizeN_1 hb hb'] | rw [sizeN_3 hb hb'] | rw [sizeN_5 hb hb'] | rw [sizeN_9 hb hb']
         omega)

theorem bytesN_inj {a b : Int} (h0 : 0 ≤ a) (h1 : a ≤ 4611686018427387904) (h2 : 0 ≤ b) (h3 : b ≤ 4611686018427387904) (h : bytesN a = bytesN b) : a = b := by
  have ea := getR_bytesN a h0 h1 []
  have eb := getR_bytesN b h2 h3 []
  rw [h, eb] at ea
  exact (congrArg Prod.fst ea).symm

theorem str_ne {a b : Int} (h0 : 0 ≤ a) (h1 : a ≤ 4611686018427387904) (h2 : 0 ≤ b) (h3 : b ≤ 4611686018427387904) (h : a ≠ b) : ((strOfNums (bytesN a)).toList == (strOfNums (bytesN b)).toList) = false :=
  beq_eq_false_iff_ne.2 fun e => h (bytesN_inj h0 h1 h2 h3 (strOfNums_inj (isBytes_N a) (isBytes_N b) e))

theorem below_three {w a b c : World} (h1 : Below w.drew.heap.size w.drew a) (h2 : Below a.heap.size a b) (h3 : Below b.heap.size b c) : Below w.heap.size w c := by
  have s1 : w.heap.size ≤ a.heap.size := h1.size
  have s2 : a.heap.size ≤ b.heap.size := h2.size
  exact ((Below.refl _ _).drew.trans h1).trans ((h2.mono s1).trans (h3.mono (by omega)))

theorem order_out (a b : Int) (w : World) (h : a < 0 ∨ b < 0 ∨ 4611686018427387904 < a ∨ 4611686018427387904 < b) :
    Calls Try.prog 6 #[.int .i64 a, .int .i64 b] w fun e w' => e = .returned (.bool true) ∧ Below w.heap.size w w' := by
  by_cases h1 : a < 0
  · clear h
    go_enter Try.func6, Try.ntmps6
    go_wp2_with (go_at_call 10; refine (awake_any _).mono ?_; rintro e w3 ⟨rfl, hbel3⟩)
    go_ret
    exact ⟨rfl, hbel3⟩
  · by_cases h2 : b < 0
    · clear h
      go_enter Try.func6, Try.ntmps6
      go_wp2_with (go_at_call 10; refine (awake_any _).mono ?_; rintro e w3 ⟨rfl, hbel3⟩)
      go_ret
      exact ⟨rfl, hbel3⟩
    · by_cases h3 : 4611686018427387904 < a
      · clear h
        go_enter Try.func6, Try.ntmps6
        go_wp2_with (go_at_call 10; refine (awake_any _).mono ?_; rintro e w3 ⟨rfl, hbel3⟩)
        go_ret
        exact ⟨rfl, hbel3⟩
      · have h4 : 4611686018427387904 < b := by omega
        clear h
        go_enter Try.func6, Try.ntmps6
        go_wp2_with (go_at_call 10; refine (awake_any _).mono ?_; rintro e w3 ⟨rfl, hbel3⟩)
        go_ret
        exact ⟨rfl, hbel3⟩

set_option maxHeartbeats 2000000 in
theorem order_up (a b : Int) (w : World) (ha0 : 0 ≤ a) (hb0 : 0 ≤ b) (ha1 : a ≤ 4611686018427387904) (hb1 : b ≤ 4611686018427387904) (h : a < b) :
    Calls Try.prog 6 #[.int .i64 a, .int .i64 b] w fun e w' => e = .returned (.bool true) ∧ Below w.heap.size w w' := by
  have hm := sizeN_mono ha0 hb1 (show a ≤ b by omega)
  have hs : ((strOfNums (bytesN a)).toList == (strOfNums (bytesN b)).toList) = false := str_ne ha0 ha1 hb0 hb1 (by omega)
  have he : (a == b) = false := beq_eq_false_iff_ne.2 (by omega)
  go_enter Try.func6, Try.ntmps6
  go_wp2
  go_region_with (first
    | (go_at_call 8; refine (size_any _ _).mono ?_; rintro e w' ⟨rfl, rfl⟩)
    | (go_at_call_of 7 (Value.int IntKind.i64 a); refine (put_any a _).mono ?_; rintro e wA ⟨vA, rfl, hrowA, hbelA⟩; have hsA := hrowA.string)
    | (go_at_call_of 7 (Value.int IntKind.i64 b); refine (put_any b _).mono ?_; rintro e wB ⟨vB, rfl, hrowB, hbelB⟩; have hsB := hrowB.string; have hsA2 := hrowA.stringAt hbelB)
    | (go_at_call 10; refine (awake_any _).mono ?_; rintro e wC ⟨rfl, hbelC⟩))
  all_goals go_wp2
  all_goals go_ret
  all_goals exact ⟨rfl, below_three hbelA hbelB hbelC⟩
end Go.Proofs.Ytchfjbhhcdfobaa
