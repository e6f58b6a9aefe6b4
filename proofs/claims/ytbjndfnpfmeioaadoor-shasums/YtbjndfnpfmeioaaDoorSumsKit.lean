/- Pieces of a slice of bytes, cut one behind the other; slices that came in. No program's text is walked here. -/
import Derived.Test.YtbjndfnpfmeioaaDoorAllLaw
import Derived.OpenShut
namespace Go.Proofs.YtbjndfnpfmeioaaDoor
open Go.ChangeShapes Go.WideShapes Go.ChangeAt Go.RowKit

/-- A slice of integers that came in: it is nil, or it leads to a row of as many cells as its capacity says. -/
def IsRow (k : IntKind) (w : World) (a : Option Addr) (len cap : Nat) (zs : List Int) : Prop :=
  (a = none ∧ len = 0 ∧ cap = 0 ∧ zs = []) ∨
  ∃ x, a = some x ∧ len ≤ cap ∧ cap ≤ maxLen ∧ zs.length = cap ∧ (∀ i, i < zs.length → w.cell? (x.add i) = some (.int k (zs.getD i 0))) ∧ ∀ n ∈ zs, (Lit.int k n).wf = true
theorem Y_ofInt (n : Int) (h : 0 ≤ n ∧ n ≤ 255) : Y (BitVec.ofInt 8 n) = n := by
  unfold Y; rw [BitVec.toNat_ofInt]; omega
theorem IsRow.bytes {w : World} {a : Option Addr} {len cap : Nat} {zs : List Int} (h : IsRow .u8 w a len cap zs) : ∃ bs : List (BitVec 8), bs.length = len ∧ Bytes w a cap bs := by
  rcases h with ⟨rfl, rfl, rfl, rfl⟩ | ⟨x, rfl, hl, hm, hz, hcell, hwz⟩
  · exact ⟨[], rfl, ⟨Nat.le_refl _, by unfold maxLen; omega, fun h => absurd rfl h⟩⟩
  · refine ⟨(zs.take len).map (BitVec.ofInt 8), by rw [List.length_map, List.length_take]; omega, ⟨by rw [List.length_map, List.length_take]; omega, hm, fun hne => ?_⟩⟩
    have hl1 : 1 ≤ len := by
      rcases Nat.eq_zero_or_pos len with h0 | h0
      · subst h0; exact absurd (by simp) hne
      · omega
    obtain ⟨b, off, rfl, hc⟩ := ints_at hcell (by omega)
    refine ⟨b, off, rfl, fun j hj => ?_⟩
    rw [List.length_map, List.length_take] at hj
    have hjz : j < zs.length := by omega
    rw [hc j hjz, List.getD_eq_getElem?_getD, List.getD_eq_getElem?_getD, List.getElem?_map, List.getElem?_take_of_lt (by omega), List.getElem?_eq_getElem hjz]
    show some (Value.int .u8 zs[j]) = some (Value.int .u8 (Y (BitVec.ofInt 8 zs[j])))
    rw [Y_ofInt _ (bounds_u8 (hwz _ (List.getElem_mem hjz)))]
/-- The numbers of a slice that came in. -/
def Nums (w : World) (a : Option Addr) (cs : List Int) : Prop := ∀ i, i < cs.length → ∃ b off, a = some ⟨b, off, none⟩ ∧ w.cell? ⟨b, off + i, none⟩ = some (.int .i64 (cs.getD i 0))
theorem IsRow.nums {w : World} {a : Option Addr} {len cap : Nat} {zs : List Int} (h : IsRow .i64 w a len cap zs) : ∃ cs : List Int, cs.length = len ∧ Nums w a cs := by
  rcases h with ⟨rfl, rfl, rfl, rfl⟩ | ⟨x, rfl, hl, _, hz, hcell, _⟩
  · exact ⟨[], rfl, fun i hi => by simp at hi⟩
  · refine ⟨zs.take len, by rw [List.length_take]; omega, fun i hi => ?_⟩
    rw [List.length_take] at hi
    obtain ⟨b, off, rfl, hc⟩ := ints_at hcell (by omega)
    refine ⟨b, off, rfl, ?_⟩
    rw [hc i (by omega), List.getD_eq_getElem?_getD, List.getD_eq_getElem?_getD, List.getElem?_take_of_lt (by omega)]

theorem Bytes.cut {w : World} {a : Option Addr} {cap : Nat} {bs : List (BitVec 8)} (h : Bytes w a cap bs) (p q : Nat) (hq : q ≤ bs.length) :
    Bytes w (if cap = p then a else a.map (·.add p)) (cap - p) ((bs.drop p).take (q - p)) := by
  have hr := h.room
  refine ⟨by rw [List.length_take, List.length_drop]; omega, Nat.le_trans (Nat.sub_le _ _) h.most, fun hne => ?_⟩
  have hl : 0 < ((bs.drop p).take (q - p)).length := List.length_pos_iff.2 hne
  rw [List.length_take, List.length_drop] at hl
  obtain ⟨b, off, rfl, hc⟩ := h.lie (by intro e; rw [e] at hl; simp at hl)
  rw [if_neg (by omega)]
  refine ⟨b, off + p, by rw [Option.map_some, Addr.add_mid], fun j hj => ?_⟩
  rw [List.length_take, List.length_drop] at hj
  rw [Nat.add_assoc, hc (p + j) (by omega), List.getD_eq_getElem?_getD, List.getD_eq_getElem?_getD, List.getElem?_take_of_lt (by omega), List.getElem?_drop]

/-- So many pieces, and the slices that lead to them. -/
structure Cut (w : World) (bs : List (BitVec 8)) (ps : List (List (BitVec 8))) (xs : List Value) (k p : Nat) : Prop where
  lp : ps.length = k
  lx : xs.length = k
  flat : ps.flatten = bs.take p
  each : ∀ j, j < k → ∃ ai ci, xs[j]? = some (.slice ai (ps.getD j []).length ci) ∧ Bytes w ai ci (ps.getD j [])
theorem Cut.start (w : World) (bs : List (BitVec 8)) : Cut w bs [] [] 0 0 := ⟨rfl, rfl, by simp, fun j hj => by omega⟩
theorem Cut.next {w : World} {bs : List (BitVec 8)} {ps : List (List (BitVec 8))} {xs : List Value} {k p : Nat} {a : Option Addr} {cap : Nat} (h : Cut w bs ps xs k p) (hb : Bytes w a cap bs) (q : Nat) (hp : p ≤ q) (hq : q ≤ bs.length) :
    Cut w bs (ps ++ [(bs.drop p).take (q - p)]) (xs ++ [.slice (if cap = p then a else a.map (·.add p)) (q - p) (cap - p)]) (k + 1) q := by
  refine ⟨by simp [h.lp], by simp [h.lx], ?_, fun j hj => ?_⟩
  · rw [List.flatten_append, h.flat, show q = p + (q - p) by omega, List.take_add]
    simp
  · by_cases hjk : j < k
    · obtain ⟨ai, ci, h1, h2⟩ := h.each j hjk
      have e : (ps ++ [(bs.drop p).take (q - p)]).getD j [] = ps.getD j [] := by
        rw [List.getD_eq_getElem?_getD, List.getElem?_append_left (by rw [h.lp]; exact hjk), ← List.getD_eq_getElem?_getD]
      rw [e]
      exact ⟨ai, ci, by rw [List.getElem?_append_left (by rw [h.lx]; exact hjk)]; exact h1, h2⟩
    · obtain rfl : j = k := by omega
      have e : (ps ++ [(bs.drop p).take (q - p)]).getD j [] = (bs.drop p).take (q - p) := by
        rw [List.getD_eq_getElem?_getD, List.getElem?_append_right (by rw [h.lp]; omega), h.lp, Nat.sub_self]; rfl
      rw [e]
      have hlen : ((bs.drop p).take (q - p)).length = q - p := by rw [List.length_take, List.length_drop]; omega
      refine ⟨_, _, ?_, hb.cut p q hq⟩
      rw [List.getElem?_append_right (by rw [h.lx]; omega), h.lx, Nat.sub_self, hlen]; rfl
theorem Cut.pieces {w w' : World} {bs : List (BitVec 8)} {ps : List (List (BitVec 8))} {xs : List Value} {k p g : Nat} (h : Cut w bs ps xs k p) (hb : Below w.heap.size w w') (hx : ∀ j, j < k → w'.cell? ⟨g, j, none⟩ = xs[j]?) : Pieces w' (some ⟨g, 0, none⟩) ps := fun j hj => by
  rw [h.lp] at hj
  obtain ⟨ai, ci, h1, h2⟩ := h.each j hj
  exact ⟨g, 0, ai, ci, rfl, by rw [Nat.zero_add, hx j hj, h1], h2.later hb (Nat.le_refl _)⟩

theorem sum_is (a : Option Addr) (m cap : Nat) (ps : List (List (BitVec 8))) (s : List (BitVec 8)) (hm : ps.length = m) (w : World) (hK : Kw w) (hcap : m ≤ 1000000) (hp : Pieces w a ps) (hs : s = sum ps.flatten) (hn : ps.flatten.length < 144115188075855872) :
    Calls Tryd.prog 11 #[.slice a m cap] w fun e w' => e = .returned (.agg (u8s s).toArray) ∧ Below w.heap.size w w' := by
  subst hs; exact sum_any a m cap ps hm w hK hcap hp hn
theorem twice_is (a : Option Addr) (m cap : Nat) (ps : List (List (BitVec 8))) (s : List (BitVec 8)) (hm : ps.length = m) (w : World) (hK : Kw w) (hcap : m ≤ 1000000) (hp : Pieces w a ps) (hs : s = sum (sum ps.flatten)) (hn : ps.flatten.length < 144115188075855872) :
    Calls Tryd.prog 10 #[.slice a m cap] w fun e w' => e = .returned (.agg (u8s s).toArray) ∧ Below w.heap.size w w' := by
  subst hs; exact twice_any a m cap ps hm w hK hcap hp hn
theorem reftwice_is (a : Option Addr) (n cap : Nat) (bs s : List (BitVec 8)) (w : World) (hb : Bytes w a cap bs) (hl : bs.length = n) (hs : s = sum (sum bs)) (hn : n < 144115188075855872) :
    Calls Tryd.prog 12 #[.slice a n cap] w fun e w' => e = .returned (.agg (u8s s).toArray) ∧ Below w.heap.size w w' := by
  subst hl; subst hs; exact reftwice_any a cap bs w hb hn
theorem Tryd.info22 : (Tryd.prog.info? 22).map (fun i => (i.zero, i.size, i.bytes)) = some (some (.slice none 0 0), 1, 24) := by kernel_rfl
/-- A row that the call owns, behind an append. -/
theorem own_more {w wr w1 : World} {N : Nat} {v : Value} {k : Nat} {xs : List Value} (hown : wr.ownsRow N 22 1 v k xs) (hN : N = w.heap.size) (hbel : Below N w wr) (o : Obj) (hgrow : (wr.alloc o).grownBy w1 v.ownBlock) : Below N w w1 := by
  have hs := hbel.size
  exact (hbel.alloc (by omega) _).grown hgrow (by simp; omega) (fun k hk => (hown.lt k hk).1)
end Go.Proofs.YtbjndfnpfmeioaaDoor
