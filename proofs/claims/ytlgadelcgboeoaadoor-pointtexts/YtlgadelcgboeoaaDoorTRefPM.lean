/- What the document's own PointParse reckons: plain mathematics. -/
import Derived.Test.YtlgadelcgboeoaaDoorTPParse
namespace Go.Proofs.YtlgadelcgboeoaaDoor
open Go.ChangeShapes Go.WideShapes Go.ChangeAt Go.RowKit

/-- The number that the digits say, whatever they are. -/
def valD (l : List (BitVec 8)) : Int := l.foldl (fun n c => 10 * n + Y c - 48) 0
theorem valD_snoc (l : List (BitVec 8)) (c : BitVec 8) : valD (l ++ [c]) = 10 * valD l + Y c - 48 := by unfold valD; rw [List.foldl_append]; rfl
theorem valD_dec (m : Nat) (h : m < 100) : valD (dec2 m) = m := by
  have : ∀ i : Fin 100, valD (dec2 i) = (i.val : Int) := by decide +kernel
  exact this ⟨m, h⟩
theorem dec2_len (m : Nat) : (dec2 m).length = 1 ∨ (dec2 m).length = 2 := by unfold dec2; split <;> simp
theorem txt_len {q : Pt} (h : q.ok) : (txt q).length = 66 ∨ (txt q).length = 67 := by
  rw [txt_ok h, List.length_append, List.length_cons, hexT_length, q.len]
  have := dec2_len q.n.toNat
  omega
theorem txt_take {q : Pt} (h : q.ok) : (txt q).take 64 = hexT q.tx := by
  rw [txt_ok h, List.take_append_of_le_length (by rw [hexT_length, q.len]; omega), List.take_of_length_le (by rw [hexT_length, q.len]; omega)]
theorem txt_drop {q : Pt} (h : q.ok) : (txt q).drop 65 = dec2 q.n.toNat := by
  have hl : (hexT q.tx).length = 64 := by rw [hexT_length, q.len]
  rw [txt_ok h, List.drop_append, hl, List.drop_of_length_le (by omega)]
  rfl
theorem no_point_len {bs : List (BitVec 8)} (h : bs.length < 66 ∨ 67 < bs.length) : IsPoint bs default false :=
  .inr ⟨rfl, rfl, fun q hq e => by have := txt_len hq; rw [e] at this; omega⟩
theorem no_point_ref {bs h : List (BitVec 8)} (hh : IsHash (bs.take 64) h false) : IsPoint bs default false :=
  .inr ⟨rfl, rfl, fun q hq e => by
    rcases hh with ⟨h1, _⟩ | ⟨_, _, hn⟩
    · cases h1
    · exact hn q.tx q.len (by rw [← e, txt_take hq])⟩
theorem ref_point {bs h : List (BitVec 8)} (p : Pt) (hp : p.tx = h ∧ p.n = valD (bs.drop 65)) (hb : 66 ≤ bs.length) (hh : IsHash (bs.take 64) h true) : (txt p = bs → IsPoint bs p true) ∧ (txt p ≠ bs → IsPoint bs default false) := by
  rcases hh with ⟨_, _, he⟩ | ⟨h1, _⟩
  · refine ⟨fun e => ?_, fun hne => .inr ⟨rfl, rfl, fun q hq e => hne ?_⟩⟩
    · by_cases hok : p.ok
      · exact .inl ⟨rfl, hok, e⟩
      · rw [txt_bad hok] at e
        subst e
        exact absurd hb (by decide)
    · rw [← e, txt_take hq] at he
      have hn := hp.2
      rw [← e, txt_drop hq, valD_dec _ (by have := hq.1; have := hq.2; omega)] at hn
      have : p = q := Pt.ext (by rw [hp.1]; exact hexT_inj he) (by rw [hn]; have := hq.1; omega)
      rw [this]; exact e
  · cases h1
end Go.Proofs.YtlgadelcgboeoaaDoor
