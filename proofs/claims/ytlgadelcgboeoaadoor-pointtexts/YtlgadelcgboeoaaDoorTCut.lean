/- A text parted at its first colon; strconv.Atoi of whatever text. -/
import Derived.Test.YtlgadelcgboeoaaDoorTPText
namespace Go.Proofs.YtlgadelcgboeoaaDoor
open Go.ChangeShapes Go.WideShapes Go.ChangeAt Go.RowKit

def un8 (bs : List (BitVec 8)) : List UInt8 := bs.map UInt8.ofBitVec
theorem un8_str (bs : List (BitVec 8)) : (str bs).data.toList = un8 bs := by unfold str un8; simp
def cutA (bs : List (BitVec 8)) : List (BitVec 8) := (Go.Lib.cut (un8 bs) [58]).1.map (·.toBitVec)
def cutC (bs : List (BitVec 8)) : List (BitVec 8) := (Go.Lib.cut (un8 bs) [58]).2.1.map (·.toBitVec)
theorem str_of (l : List UInt8) : (⟨l.toArray⟩ : ByteArray) = str (l.map (·.toBitVec)) := by unfold str; rw [bytes_back]
theorem cutb_any (bs : List (BitVec 8)) (w : World) (hs : bs.length ≤ 1000) (hm : Mx w) :
    Calls Tryd.prog 30 #[.string (str bs), .string ⟨#[58]⟩] w fun e w' => ∃ b, e = .returned (.tuple #[.string (str (cutA bs)), .string (str (cutC bs)), .bool b]) ∧ Below w.heap.size w w' := by
  refine (cut_any (str bs) ⟨#[58]⟩ w (by rw [str_size]; omega) hm).mono ?_
  rintro e w' ⟨rfl, hb⟩
  refine ⟨(Go.Lib.cut (un8 bs) [58]).2.2, ?_, hb⟩
  unfold cutA cutC
  rw [← str_of, ← str_of, un8_str]
theorem index_at : ∀ (l r : List UInt8), (∀ c ∈ l, c ≠ 58) → Go.Lib.index (l ++ 58 :: r) [58] = l.length
  | [], r, _ => by
    rw [List.nil_append, Go.Lib.index, if_pos (by simp [List.isPrefixOf])]; rfl
  | c :: l, r, h => by
    have hc : c ≠ 58 := h c (by simp)
    have ih := index_at l r (fun x hx => h x (by simp [hx]))
    rw [List.cons_append, Go.Lib.index, if_neg (by simp [List.isPrefixOf]; exact fun e => hc e.symm), ih, if_neg (by simp)]
    simp
theorem cut_at (l r : List UInt8) (h : ∀ c ∈ l, c ≠ 58) : Go.Lib.cut (l ++ 58 :: r) [58] = (l, r, true) := by
  unfold Go.Lib.cut
  rw [index_at l r h, if_pos (by omega)]
  simp
theorem back8 (bs : List (BitVec 8)) : (un8 bs).map (·.toBitVec) = bs := by
  unfold un8
  rw [List.map_map]
  exact (List.map_congr_left fun x _ => rfl).trans (List.map_id bs)
theorem cut_txt {q : Pt} (h : q.ok) : cutA (txt q) = hexT q.tx ∧ cutC (txt q) = dec2 q.n.toNat := by
  have hc : Go.Lib.cut (un8 (txt q)) [58] = (un8 (hexT q.tx), un8 (dec2 q.n.toNat), true) := by
    rw [txt_ok h, un8, List.map_append, List.map_cons]
    refine cut_at _ _ fun c hc => ?_
    obtain ⟨b, hb, rfl⟩ := List.mem_map.1 hc
    obtain ⟨x, hx⟩ := pairs_un q.tx.reverse b hb
    intro e
    have : b = 58 := by
      have := congrArg UInt8.toBitVec e
      exact this
    subst this
    have hn : un 58 = none := by decide
    rw [hn] at hx; cases hx
  unfold cutA cutC
  rw [hc]
  exact ⟨back8 _, back8 _⟩
/-- What Atoi tells of a text. -/
def atoi8 (bs : List (BitVec 8)) : Go.Lib.NumEnd Int := Go.Lib.atoiAll (un8 bs)
theorem atoi_dec (n : Nat) (h : n < 100) : atoi8 (dec2 n) = .ok n := by
  have : ∀ i : Fin 100, (match atoi8 (dec2 i) with | .ok v => decide (v = (i.val : Int)) | _ => false) = true := by decide +kernel
  have h1 := this ⟨n, h⟩
  show atoi8 (dec2 n) = _
  cases e : atoi8 (dec2 n) with
  | ok v => simp only [e] at h1; rw [of_decide_eq_true h1]
  | _ => simp only [e] at h1; cases h1

/-- The two variables that strconv's errors lead to are there. -/
def Vr (w : World) : Prop := (∃ tp p, w.var? Tryd.prog "strconv.ErrSyntax" = some #[.iface tp p]) ∧ ∃ tp p, w.var? Tryd.prog "strconv.ErrRange" = some #[.iface tp p]
theorem var_later {P : Program} {w w' : World} {n : String} {cs : Array Value} (h : Below w.heap.size w w') (hv : w.var? P n = some cs) : w'.var? P n = some cs := by
  unfold World.var? at hv ⊢
  cases hg : P.globalNamed n with
  | none => simp [hg] at hv
  | some g =>
    simp only [hg, Option.bind_some] at hv ⊢
    have hlt : g < w.heap.size := by
      rcases Nat.lt_or_ge g w.heap.size with h' | h'
      · exact h'
      · simp [Array.getElem?_eq_none h'] at hv
    rw [h.block g hlt]; exact hv
theorem Vr.below {w w' : World} (h : Vr w) (hb : Below w.heap.size w w') : Vr w' := by
  obtain ⟨⟨t, p, h1⟩, ⟨t2, p2, h2⟩⟩ := h
  exact ⟨⟨t, p, var_later hb h1⟩, ⟨t2, p2, var_later hb h2⟩⟩
theorem atoi_any (bs : List (BitVec 8)) (w : World) (hs : bs.length ≤ 1000) (hv : Vr w) :
    Calls Tryd.prog 32 #[.string (str bs)] w fun e w' => ∃ n err, e = .returned (.tuple #[.int .i64 n, err]) ∧ ((err = .nilIface ∧ atoi8 bs = .ok n) ∨ ((∃ t v, err = .iface t v) ∧ ∀ m, atoi8 bs ≠ .ok m)) ∧ Below w.heap.size w w' := by
  obtain ⟨⟨t1, p1, h1⟩, ⟨t2, p2, h2⟩⟩ := hv
  have hz : (str bs).size ≤ 1000 := by rw [str_size]; exact hs
  have e0 : Go.Lib.atoiAll (str bs).data.toList = atoi8 bs := by rw [un8_str]; rfl
  cases e : atoi8 bs with
  | ok v =>
    refine Calls.mono (Any.strconv_Atoi_ok { Tryd.atoiS with } (str bs) (by omega) v (e0.trans e) w) ?_
    rintro _ w' ⟨rfl, hw⟩
    refine ⟨_, _, rfl, .inl ⟨rfl, rfl⟩, ?_⟩
    rcases hw with rfl | ⟨t, rfl⟩
    · exact Below.refl _ _
    · exact Go.Lib.bytesWorld_below _ _ _
  | «syntax» =>
    refine Calls.mono (Any.strconv_Atoi_syntax_var { Tryd.atoiS with } (str bs) (by omega) (e0.trans e) t1 p1 w h1) ?_
    rintro _ w' ⟨N, rfl, _, _, hb⟩
    exact ⟨_, _, rfl, .inr ⟨⟨_, _, rfl⟩, fun m h => by cases h⟩, hb⟩
  | range =>
    refine Calls.mono (Any.strconv_Atoi_range_var { Tryd.atoiS with } (str bs) (by omega) (e0.trans e) t2 p2 w h2) ?_
    rintro _ w' ⟨N, rfl, _, _, hb⟩
    exact ⟨_, _, rfl, .inr ⟨⟨_, _, rfl⟩, fun m h => by cases h⟩, hb⟩
end Go.Proofs.YtlgadelcgboeoaaDoor
