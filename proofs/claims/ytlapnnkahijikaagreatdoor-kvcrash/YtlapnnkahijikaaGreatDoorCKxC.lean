/- coraclelaw9.size: how many bytes one file has. -/
import Derived.Test.YtlapnnkahijikaaGreatDoorZKH
namespace Go.Proofs.YtlapnnkahijikaaGreatDoor
open Go.ChangeShapes Go.WideShapes Go.ChangeAt Go.RowKit Go.Lib

/-- No file but one. -/
theorem one_file {A : Abs} {q : Nat} {nm : ByteArray} {fl : Fl} (hg : Good A q) (hf : alook nm A.L = some fl) (ho : ∀ x, x ≠ nm → alook x A.L = none) : A.L = [(nm, fl)] := by
  have hall : ∀ p ∈ A.L, p = (nm, fl) := fun p hp => by
    have h1 := alook_of_mem (s := p.1) (v := p.2) hg.nodup hp
    by_cases e : p.1 = nm
    · rw [e, hf] at h1
      injection h1 with h1
      exact Prod.ext e h1.symm
    · rw [ho _ e] at h1; cases h1
  have hm := mem_of_alook hf
  have hn := hg.nodup
  cases hL : A.L with
  | nil => rw [hL] at hm; cases hm
  | cons p L =>
    rw [hL] at hall hn
    have hp := hall p (List.mem_cons_self ..)
    cases L with
    | nil => rw [hp]
    | cons p2 L =>
      have hp2 := hall p2 (List.mem_cons_of_mem _ (List.mem_cons_self ..))
      rw [hp, hp2] at hn
      simp at hn
set_option maxRecDepth 100000 in
set_option maxHeartbeats 4000000 in
theorem size_any9 {w wi : World} {f : Nat} {S : FS} {Bl : List (Nat × List Value)} (h : Sys w wi f S Bl) (nm : ByteArray) (fl : Fl) (hL : S.abs.L = [(nm, fl)]) (hn : nm.size ≤ 1000) (hb : fl.b.length ≤ 20000000) :
    Calls Tryz.prog 24 #[.pointer (some ⟨f, 0, none⟩)] wi fun e w' => e = .returned (.int .i64 fl.b.length) ∧ Below wi.heap.size wi w' := by
  have hL' : S.L = [(nm, fl)] := hL
  have hnm := names_any f S wi h.fs (by rw [hL']; intro p hp; rw [List.mem_singleton] at hp; rw [hp]; exact hn) (by rw [hL']; simp)
  rw [hL', List.map_cons, List.map_nil, sortN_one] at hnm
  have HN : Hid _ := hnm
  have HR : Hid (∀ wj, Below wi.heap.size wi wj → Calls Tryz.prog 45 #[.pointer (some ⟨f, 0, none⟩), .string nm] wj fun e w' => ∃ v, e = .returned (.tuple #[v, .int .i64 0]) ∧ OwnB w' wj.heap.size v fl.b ∧ Below wj.heap.size wj w') := fun wj hbj => by
    have := sys_read (h.below hbj) nm
    rw [hL] at this
    simpa [alook, flOf] using this
  have HBL : Hid (fl.b.length ≤ 20000000) := hb
  clear hnm hL hL' hn h hb
  go_enter Tryz.func24, Tryz.ntmps24
  go_wp2_with fail
  refine Calls.mono HN.out ?_
  rintro e w1 ⟨v, rfl, ho1, hb1⟩
  obtain ⟨b1, c1, rfl, hx1⟩ : ∃ b1 c1 : Nat, v = .slice (some ⟨b1, 0, none⟩) 1 c1 ∧ w1.cell? ⟨b1, 0, none⟩ = some (.string nm) := by
    obtain ⟨a, c, rfl, _, _, h3⟩ := ho1.facts
    rcases h3 with ⟨_, _, e⟩ | ⟨g, rfl, _, hc⟩
    · cases e
    · exact ⟨g, c, rfl, hc 0 nm rfl⟩
  have HX : Hid (w1.cell? ⟨b1, 0, none⟩ = some (.string nm) ∧ Below wi.heap.size wi w1) := ⟨hx1, hb1⟩
  clear ho1 hb1 hx1 HN
  go_wp2_with fail
  go_loopw [3, 5] (fun z i wr => ∃ k : Nat, k ≤ 1 ∧ i = .int .i64 k ∧ z = .int .i64 (if k = 0 then 0 else fl.b.length : Nat) ∧ Hid (Below w1.heap.size w1 wr)) (fun _ i _ => 1 - (intOf i).toNat)
  case atStart => exact ⟨0, Nat.zero_le _, rfl, rfl, Below.refl _ _⟩
  case round =>
    obtain ⟨k, hk, rfl, rfl, HB⟩ := hrel
    by_cases hlt : k < 1
    · obtain rfl : k = 0 := by omega
      have HX2 : Hid (Below wi.heap.size wi wr) := HX.out.2.trans (HB.out.mono HX.out.2.size)
      have hx2 : wr.cell? ⟨b1, 0, none⟩ = some (.string nm) := cell_below' HB.out HX.out.1
      have HR2 : Hid _ := HR.out wr HX2.out
      rw [if_pos rfl]
      go_wp2_with fail
      refine Calls.mono HR2.out ?_
      rintro e w3 ⟨v, rfl, ho, hb3⟩
      obtain ⟨a3, c3, rfl⟩ := ho.shape
      have HB3 : Hid (Below w1.heap.size w1 w3) := HB.out.trans (hb3.mono HB.out.size)
      have h64 : (fl.b.length : Int) ≤ 20000000 := by have := HBL.out; omega
      clear ho hb3 hx2 HR2 HX2 HB
      go_wp2_with fail
      go_roundw
      case rel => exact ⟨1, by omega, by go_num, by rw [if_neg (by omega)], HB3.out⟩
      case measure => simp [intOf]
    · obtain rfl : k = 1 := by omega
      rw [if_neg (by omega)]
      go_wp2_with fail
      go_ret
      exact ⟨rfl, HX.out.2.trans (HB.out.mono HX.out.2.size)⟩
end Go.Proofs.YtlapnnkahijikaaGreatDoor
