/- Hashes and outpoints as texts: plain mathematics. -/
import Derived.Test.YtlgadelcgboeoaaDoorLSets
import Derived.Lib.IndexMore
import Derived.Lib.AtoiAll
import Derived.Lib.ItoaNum
namespace Go.Proofs.YtlgadelcgboeoaaDoor

/-- One small hex digit. -/
def hx (d : BitVec 8) : BitVec 8 := if d.toNat < 10 then d + 48 else d + 87
/-- What one small hex digit says. -/
def un (c : BitVec 8) : Option (BitVec 8) := if 48 ≤ c.toNat ∧ c.toNat ≤ 57 then some (c - 48) else if 97 ≤ c.toNat ∧ c.toNat ≤ 102 then some (c - 87) else none
def pair (b : BitVec 8) : List (BitVec 8) := [hx (b >>> 4), hx (b &&& 15)]
/-- A hash's text: its last byte first. -/
def hexT (h : List (BitVec 8)) : List (BitVec 8) := h.reverse.flatMap pair

theorem all_bytes {p : BitVec 8 → Prop} (h : ∀ i : Fin 256, p (BitVec.ofFin i)) (x : BitVec 8) : p x := h x.toFin
theorem un_hi (b : BitVec 8) : un (hx (b >>> 4)) = some (b >>> 4) := by revert b; exact all_bytes (by decide +kernel)
theorem un_lo (b : BitVec 8) : un (hx (b &&& 15)) = some (b &&& 15) := by revert b; exact all_bytes (by decide +kernel)
theorem un_some (c : BitVec 8) : ∀ x, un c = some x → x.toNat < 16 ∧ hx x = c := by
  intro x hx'
  have : ∀ c : BitVec 8, ((un c).map fun x => decide (x.toNat < 16 ∧ hx x = c)).getD true = true := all_bytes (by decide +kernel)
  have h := this c
  rw [hx'] at h
  simpa using h
theorem nib (x y : BitVec 8) (hx : x.toNat < 16) (hy : y.toNat < 16) : (x <<< 4 ||| y) >>> 4 = x ∧ (x <<< 4 ||| y) &&& 15 = y := by
  have : ∀ i j : Fin 16, (BitVec.ofNat 8 i.val <<< 4 ||| BitVec.ofNat 8 j.val) >>> 4 = BitVec.ofNat 8 i.val ∧ (BitVec.ofNat 8 i.val <<< 4 ||| BitVec.ofNat 8 j.val) &&& 15 = BitVec.ofNat 8 j.val := by decide +kernel
  have h := this ⟨x.toNat, hx⟩ ⟨y.toNat, hy⟩
  simpa [BitVec.ofNat_toNat] using h
theorem pair_of {c d x y : BitVec 8} (h1 : un c = some x) (h2 : un d = some y) : pair (x <<< 4 ||| y) = [c, d] := by
  obtain ⟨a1, a2⟩ := un_some c x h1
  obtain ⟨b1, b2⟩ := un_some d y h2
  obtain ⟨e1, e2⟩ := nib x y a1 b1
  rw [pair, e1, e2, a2, b2]
theorem split_byte (b : BitVec 8) : b >>> 4 <<< 4 ||| (b &&& 15) = b := by revert b; exact all_bytes (by decide +kernel)
theorem pair_inj {b c : BitVec 8} (h : pair b = pair c) : b = c := by
  have h1 : hx (b >>> 4) = hx (c >>> 4) := by injection h
  have h2 : hx (b &&& 15) = hx (c &&& 15) := by injection h with _ h; injection h
  have e1 := un_hi b
  have e2 := un_lo b
  rw [h1, un_hi c] at e1
  rw [h2, un_lo c] at e2
  injection e1 with e1
  injection e2 with e2
  rw [← split_byte b, ← e1, ← e2, split_byte]
theorem pairs_length (l : List (BitVec 8)) : (l.flatMap pair).length = 2 * l.length := by
  induction l with
  | nil => rfl
  | cons b l ih => rw [List.flatMap_cons, List.length_append, ih, List.length_cons]; show 2 + _ = _; omega
theorem pairs_inj : ∀ {l m : List (BitVec 8)}, l.flatMap pair = m.flatMap pair → l = m
  | [], [], _ => rfl
  | [], c :: m, h => by have := congrArg List.length h; rw [pairs_length, pairs_length] at this; simp at this
  | b :: l, [], h => by have := congrArg List.length h; rw [pairs_length, pairs_length] at this; simp at this
  | b :: l, c :: m, h => by
    rw [List.flatMap_cons, List.flatMap_cons] at h
    obtain ⟨h1, h2⟩ := List.append_inj h rfl
    rw [pair_inj h1, pairs_inj h2]
theorem hexT_length (h : List (BitVec 8)) : (hexT h).length = 2 * h.length := by rw [hexT, pairs_length, List.length_reverse]
theorem hexT_inj {h g : List (BitVec 8)} (e : hexT h = hexT g) : h = g := by
  have := pairs_inj e
  simpa using congrArg List.reverse this
theorem pairs_un (l : List (BitVec 8)) : ∀ c ∈ l.flatMap pair, ∃ x, un c = some x := by
  intro c hc
  obtain ⟨b, _, hb⟩ := List.mem_flatMap.1 hc
  rcases List.mem_cons.1 hb with rfl | hb
  · exact ⟨_, un_hi b⟩
  · rcases List.mem_cons.1 hb with rfl | hb
    · exact ⟨_, un_lo b⟩
    · cases hb

/-- What is told of a text as a hash. -/
def IsHash (bs h : List (BitVec 8)) (ok : Bool) : Prop := (ok = true ∧ h.length = 32 ∧ hexT h = bs) ∨ (ok = false ∧ h = zeros32 ∧ ∀ g : List (BitVec 8), g.length = 32 → hexT g ≠ bs)

/-- A small number's digits. -/
def dec (n : Nat) : List (BitVec 8) := (Go.Lib.decDigits n).map (·.toBitVec)
def dec2 (n : Nat) : List (BitVec 8) := if n < 10 then [BitVec.ofNat 8 (48 + n)] else [BitVec.ofNat 8 (48 + n / 10), BitVec.ofNat 8 (48 + n % 10)]
theorem dec_eq (n : Nat) (h : n < 100) : dec n = dec2 n := by
  unfold dec dec2
  rw [Go.Lib.decDigits]
  by_cases h10 : n < 10
  · rw [dif_pos h10, if_pos h10]; rfl
  · rw [dif_neg h10, if_neg h10, Go.Lib.decDigits, dif_pos (by omega)]; rfl
/-- An outpoint's text. -/
def txt (p : Pt) : List (BitVec 8) := if 0 ≤ p.n ∧ p.n ≤ 99 then hexT p.tx ++ 58 :: dec2 p.n.toNat else []
def Pt.ok (p : Pt) : Prop := 0 ≤ p.n ∧ p.n ≤ 99
theorem txt_ok {p : Pt} (h : p.ok) : txt p = hexT p.tx ++ 58 :: dec2 p.n.toNat := if_pos h
theorem txt_bad {p : Pt} (h : ¬ p.ok) : txt p = [] := if_neg h
/-- What is told of a text as an outpoint. -/
def IsPoint (bs : List (BitVec 8)) (p : Pt) (ok : Bool) : Prop := (ok = true ∧ p.ok ∧ txt p = bs) ∨ (ok = false ∧ p = default ∧ ∀ q : Pt, q.ok → txt q ≠ bs)
theorem dec2_inj {i j : Nat} (hi : i < 100) (hj : j < 100) (h : dec2 i = dec2 j) : i = j := by
  have : ∀ i j : Fin 100, dec2 i = dec2 j → i = j := by decide +kernel
  have := this ⟨i, hi⟩ ⟨j, hj⟩ h
  simpa using this
theorem txt_inj {p q : Pt} (hp : p.ok) (hq : q.ok) (h : txt p = txt q) : p = q := by
  rw [txt_ok hp, txt_ok hq] at h
  obtain ⟨h1, h2⟩ := List.append_inj h (by rw [hexT_length, hexT_length, p.len, q.len])
  injection h2 with _ h2
  have := dec2_inj (by have := hp.1; have := hp.2; omega) (by have := hq.1; have := hq.2; omega) h2
  exact Pt.ext (hexT_inj h1) (by have := hp.1; have := hq.1; omega)
theorem IsPoint.same {bs : List (BitVec 8)} {p q : Pt} {a b : Bool} (h : IsPoint bs p a) (k : IsPoint bs q b) : p = q ∧ a = b := by
  rcases h with ⟨rfl, hp, e⟩ | ⟨rfl, rfl, hn⟩ <;> rcases k with ⟨rfl, hq, f⟩ | ⟨rfl, rfl, hm⟩
  · exact ⟨txt_inj hp hq (e.trans f.symm), rfl⟩
  · exact absurd e (hm p hp)
  · exact absurd f (hn q hq)
  · exact ⟨rfl, rfl⟩
end Go.Proofs.YtlgadelcgboeoaaDoor
