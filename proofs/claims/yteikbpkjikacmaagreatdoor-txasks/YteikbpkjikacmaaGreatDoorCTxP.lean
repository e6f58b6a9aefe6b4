/- A slice of bytes that came in. -/
import Derived.Test.YteikbpkjikacmaaGreatDoorCTxO
import Derived.Test.YteikbpkjikacmaaGreatDoorCD8
import Derived.ChangeSlices
namespace Go.Proofs.YteikbpkjikacmaaGreatDoor
open Go.ChangeShapes Go.WideShapes Go.ChangeAt Go.RowKit

section
variable {H : Type} {enc : TypeId × Value → H}
theorem shape_lt {w : World} {b : Nat} {x : TypeId × Nat} (h : w.shape? b = some x) : b < w.heap.size := by
  rcases Nat.lt_or_ge b w.heap.size with hb | hb
  · exact hb
  · unfold World.shape? at h
    rw [Array.getElem?_eq_none hb] at h
    cases h
set_option maxRecDepth 100000 in
theorem open_bytes {w : World} {fuel : Nat} {a : Option Addr} {len cap : Nat} {x : DataW H × List MemPlace} {base : Nat} (hv : Value.okWide Tryz.prog w .any base 26 (.slice a len cap))
    (hf : DataW.trod enc Tryz.prog w 0 (fun _ => true) true fuel 26 [.slice a len cap] = some x) :
    ∃ bs : List (BitVec 8), bs.length = len ∧ Bytes w a cap bs ∧ SrcB w (.slice a len cap) bs ∧ ∀ y : Addr, a = some y → y.block < w.heap.size := by
  rcases open_ints Tryz.underlying26 Tryz.underlying5 (by kernel_rfl) hf with ⟨hcs, _⟩ | ⟨ad, l, c, zs, hcs, _, hl, hm, hz, _, hcell, hwz⟩
  · simp at hcs
    obtain ⟨rfl, rfl, rfl⟩ := hcs
    exact ⟨[], rfl, ⟨Nat.le_refl _, by unfold maxLen; omega, fun h => absurd rfl h⟩, .inl ⟨rfl, rfl⟩, fun y e => nomatch e⟩
  · simp at hcs
    obtain ⟨rfl, rfl, rfl⟩ := hcs
    have hv2 : w.has Tryz.prog .any base ad 5 cap := by
      simp only [Value.okWide, Tryz.underlying26, Cell.okWide, Cell.ok] at hv
      exact hv.2.2
    obtain ⟨_, hsp, row, cells, hsh, _⟩ := hv2
    obtain ⟨b, o, s⟩ := ad
    simp only at hsp
    subst hsp
    have hb : b < w.heap.size := shape_lt hsh
    have hz' : zs.length = cap := by simpa using hz
    have hlen : ((zs.take len).map (BitVec.ofInt 8)).length = len := by rw [List.length_map, List.length_take]; omega
    have hcc : ∀ j, j < len → w.cell? ⟨b, o + j, none⟩ = some (.int .u8 (Y (((zs.take len).map (BitVec.ofInt 8)).getD j 0))) := fun j hj => by
      have hjz : j < zs.length := by omega
      have h1 := hcell j hjz
      rw [Addr.add_mid] at h1
      rw [h1, List.getD_eq_getElem?_getD, List.getD_eq_getElem?_getD, List.getElem?_map, List.getElem?_take_of_lt hj, List.getElem?_eq_getElem hjz]
      show some (Value.int .u8 zs[j]) = some (Value.int .u8 (Y (BitVec.ofInt 8 zs[j])))
      rw [byte_back (hwz _ (List.getElem_mem hjz))]
    refine ⟨(zs.take len).map (BitVec.ofInt 8), hlen, ⟨by rw [hlen]; exact hl, hm, fun _ => ⟨b, o, rfl, fun j hj => hcc j (by rw [hlen] at hj; exact hj)⟩⟩, .inr ⟨b, o, cap, by rw [hlen], fun j u hu => ?_⟩, fun y e => ?_⟩
    · have hj : j < len := by
        have := (List.getElem?_eq_some_iff.1 hu).1
        rw [u8s_length, hlen] at this; exact this
      rw [hcc j hj, ← hu, u8s_get _ j (by rw [hlen]; exact hj)]
    · injection e with e
      rw [← e]; exact hb
end
end Go.Proofs.YteikbpkjikacmaaGreatDoor
