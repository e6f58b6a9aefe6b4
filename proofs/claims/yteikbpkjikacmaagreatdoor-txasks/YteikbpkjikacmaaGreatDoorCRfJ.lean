/- The document's own reader (Form): Num, Text, Hash. -/
import Derived.Test.YteikbpkjikacmaaGreatDoorZN2
import Derived.Test.YteikbpkjikacmaaGreatDoorCD12
namespace Go.Proofs.YteikbpkjikacmaaGreatDoor
open Go.ChangeShapes Go.WideShapes Go.ChangeAt Go.RowKit

/-- What the document's reader answers agrees with what the program's reader reads: if it is not lame behind it, both are the same; where the program's reads, it is not lame. -/
def Agr {α : Type} (r : RS → α × RS) (s : RS) (v : α) (s' : RS) : Prop := (s'.2 = false → r s = (v, s')) ∧ ((r s).2.2 = false → s'.2 = false)
theorem Agr.eq {α : Type} {r : RS → α × RS} {s : RS} {v : α} {s' : RS} (h : r s = (v, s')) : Agr r s v s' := ⟨fun _ => h, fun h2 => by rw [h] at h2; exact h2⟩
theorem Agr.lame {α : Type} {r : RS → α × RS} {s : RS} {v : α} {l : List (BitVec 8)} (h : (r s).2.2 = true) : Agr r s v (l, true) := ⟨fun h2 => (by cases h2), fun h2 => (by rw [h] at h2; cases h2)⟩
theorem Ext.flag {α : Type} {r : RS → α × RS} (h : Ext r) {s : RS} (hf : (r s).2.2 = false) : s.2 = false := by
  obtain ⟨x, b⟩ := s
  have e : r (x, b) = ((r (x, b)).1, ((r (x, b)).2.1, false)) := by rw [← hf]
  exact (h x b [] _ _ e).1
theorem Ext.lame {α : Type} {r : RS → α × RS} (h : Ext r) {s : RS} (hs : s.2 = true) : (r s).2.2 = true := by
  cases hf : (r s).2.2 with
  | true => rfl
  | false => have := h.flag hf; rw [hs] at this; cases this
/-- Two behind each other. -/
theorem Agr.seq {α β γ : Type} {r1 : RS → α × RS} {r2 : RS → β × RS} {r : RS → γ × RS} {f : α → β → γ} (hr : ∀ s, r s = (f (r1 s).1 (r2 (r1 s).2).1, (r2 (r1 s).2).2)) (h2 : Ext r2)
    {s s1 s2 : RS} {a : α} {b : β} (ha : Agr r1 s a s1) (hb : Agr r2 s1 b s2) : Agr r s (f a b) s2 := by
  refine ⟨fun h => ?_, fun h => ?_⟩
  · have e2 := hb.1 h
    have e1 := ha.1 (h2.flag (by rw [e2]; exact h))
    rw [hr, e1]; simp only; rw [e2]
  · rw [hr] at h
    simp only at h
    have e1 := ha.1 (ha.2 (h2.flag h))
    rw [e1] at h
    exact hb.2 h
theorem Bytes.take {w : World} {a : Option Addr} {cap : Nat} {bs : List (BitVec 8)} (h : Bytes w a cap bs) (u : Nat) (hu : u ≤ bs.length) : Bytes w a cap (bs.take u) :=
  ⟨by rw [List.length_take]; have := h.room; omega, h.most, fun hne => by
    obtain ⟨b, off, ha, hc⟩ := h.lie (by intro e; rw [e] at hne; simp at hne)
    exact ⟨b, off, ha, fun j hj => by
      rw [List.length_take] at hj
      rw [hc j (by omega), List.getD_eq_getElem?_getD, List.getD_eq_getElem?_getD, List.getElem?_take_of_lt (by omega)]⟩⟩
theorem Rd.lame {w : World} {R N : Nat} {s : RS} (h : Rd w R N s) : Rd (w.setCell ⟨R, 1, none⟩ (.bool true)) R N (s.1, true) := by
  obtain ⟨h0, a, cap, hB, hY, hA⟩ := h
  exact ⟨by simpa [World.setCell] using h0, a, cap, hB.set 1 _, hY.kept fun b o e => Below.heap_setCell w _ _ b (hA _ e).1, hA⟩
set_option maxRecDepth 100000 in
set_option maxHeartbeats 2000000 in
theorem fnum_any (R N : Nat) (s : RS) (w : World) (h : Rd w R N s) :
    Calls Tryz.prog 34 #[.pointer (some ⟨R, 0, none⟩)] w fun e w' => ∃ n s', e = .returned (.int .i64 n) ∧ okN n ∧ Agr rN s n s' ∧ Rd w' R N s' ∧ Keep R w w' := by
  obtain ⟨a, cap, hB, hBy, hap⟩ := h.ex
  have H : Hid (Rd w R N s) := h
  have HB : Hid (Blk w R [.slice a s.1.length cap, .bool s.2]) := hB
  have HBY : Hid (Bytes w a cap s.1) := hBy
  have HAP : Hid (∀ x : Addr, a = some x → x.block ≠ R ∧ x.block < N) := hap
  have c0 : w.cell? ⟨R, 0, none⟩ = some (.slice a s.1.length cap) := hB.one rfl
  have hroom := hBy.room
  have hmost : cap ≤ 9223372036854775807 := by have := hBy.most; unfold maxLen at this; omega
  have hbase := h.base
  have HGET : Hid (Calls Tryz.prog 65 #[.slice a s.1.length cap] w fun e w' => e = .returned (.tuple #[.int .i64 (getR (s.1.map Y)).1, .int .i64 (getR (s.1.map Y)).2.1]) ∧ Below w.heap.size w w') := by
    have := rget_any a cap (s.1.map Y) w hBy.at
    rwa [List.length_map] at this
  clear h hB hBy hap
  by_cases hl : s.2 = true
  · have HA : Hid (Agr rN s 0 (s.1, true)) := Agr.lame (rN_ext.lame hl)
    obtain ⟨x, b⟩ := s
    simp only at hl
    subst hl
    generalize (getR (List.map Y x)).1 = n at *
    generalize (getR (List.map Y x)).2.1 = u at *
    simp only at *
    go_enter Tryz.func34, Tryz.ntmps34
    go_wp2_with fail
    refine Calls.mono HGET.out ?_
    rintro e w2 ⟨rfl, hb2⟩
    have HB2 : Hid (Below w.heap.size w w2) := hb2
    have c1 : w2.cell? ⟨R, 1, none⟩ = some (.bool true) := (HB.out.below hb2 HB.out.lt).one rfl
    have f1 : w2.frozen? ⟨R, 1, none⟩ = false := (HB.out.below hb2 HB.out.lt).frozen 1
    clear hb2 c0
    go_wp2_with fail
    go_ret
    exact ⟨0, _, rfl, ⟨by omega, by omega⟩, HA.out, (H.out.below HB2.out).lame, (Keep.of_below HB2.out).setCell 1 _⟩
  · have hs : s.2 = false := by simpa using hl
    obtain ⟨x, b⟩ := s
    simp only at hs
    subst hs
    simp only at *
    rcases getR_ok _ (bytes_Y x) with ⟨h0, u, h1, h2, h3, h4, h5⟩ | hbad
    · rw [List.length_map] at h3
      have HRN : Hid (rN (x, false) = ((getR (x.map Y)).1, (x.drop u, false))) := by
        show _ = _
        unfold rN; rw [if_pos h0, h1]; rfl
      rw [h1] at HGET
      generalize (getR (List.map Y x)).1 = n at *
      have HDL : Hid (x.length - u = (x.drop u).length) := show _ = _ by rw [List.length_drop]
      obtain ⟨adr, hadr⟩ : ∃ x, (if cap = u then a else Option.map (fun x => x.add u) a) = x := ⟨_, rfl⟩
      have HT : Hid (Bytes w adr (cap - u) (x.drop u)) := by rw [← hadr]; exact HBY.out.tail u
      have HAP2 : Hid (∀ x : Addr, adr = some x → x.block ≠ R ∧ x.block < N) := fun x e => tail_apart (hadr.trans e) HAP.out
      have HU : Hid (Bytes w adr (cap - u) (x.drop u)) := HT.out
      clear h0 h1 hl
      generalize hL : x.length = L at *
      have e1 : (0 : Int) ≤ (u : Int) := by omega
      have e2 : (u : Int) ≤ (L : Int) := by omega
      have e3 : (u : Int) ≤ (cap : Int) := by omega
      have e4 : ((u : Int) == 0) = false := beq_eq_false_iff_ne.2 (by omega)
      go_enter Tryz.func34, Tryz.ntmps34
      go_wp2_with fail
      refine Calls.mono HGET.out ?_
      rintro e w2 ⟨rfl, hb2⟩
      have HB2 : Hid (Below w.heap.size w w2) := hb2
      have HBK : Hid (Blk w2 R [.slice a L cap, .bool false]) := HB.out.below hb2 HB.out.lt
      have c1 : w2.cell? ⟨R, 0, none⟩ = some (.slice a L cap) := HBK.out.one rfl
      have c2 : w2.cell? ⟨R, 1, none⟩ = some (.bool false) := HBK.out.one rfl
      have f1 : w2.frozen? ⟨R, 0, none⟩ = false := HBK.out.frozen 0
      have hs2 := hb2.size
      clear hb2 c0
      go_wp2_with fail
      go_ret
      have h6 : Blk (w2.setCell ⟨R, 0, none⟩ (.slice adr (L - u) (cap - u))) R [.slice adr (L - u) (cap - u), .bool false] := HBK.out.set 0 _
      refine ⟨n, (x.drop u, false), rfl, ⟨h4, h5⟩, Agr.eq HRN.out, ?_, (Keep.of_below HB2.out).setCell 0 _⟩
      refine ⟨by simp [World.setCell]; omega, adr, cap - u, ?_, (HT.out.kept fun b o e => HB2.out.block b (Nat.lt_of_lt_of_le (HAP2.out _ e).2 hbase)).kept fun b o e => Below.heap_setCell w2 _ _ b (HAP2.out _ e).1, HAP2.out⟩
      show Blk _ R [.slice adr (x.drop u).length (cap - u), .bool false]
      rw [← HDL.out]; exact h6
    · have HA : Hid (Agr rN (x, false) 0 (x, true)) := Agr.lame (by unfold rN; rw [hbad]; rfl)
      rw [hbad] at HGET
      clear hbad hl
      generalize hL : x.length = L at *
      go_enter Tryz.func34, Tryz.ntmps34
      go_wp2_with fail
      refine Calls.mono HGET.out ?_
      rintro e w2 ⟨rfl, hb2⟩
      have HB2 : Hid (Below w.heap.size w w2) := hb2
      have c1 : w2.cell? ⟨R, 1, none⟩ = some (.bool false) := (HB.out.below hb2 HB.out.lt).one rfl
      have f1 : w2.frozen? ⟨R, 1, none⟩ = false := (HB.out.below hb2 HB.out.lt).frozen 1
      clear hb2 c0
      go_wp2_with fail
      go_ret
      exact ⟨0, _, rfl, ⟨by omega, by omega⟩, HA.out, (H.out.below HB2.out).lame, (Keep.of_below HB2.out).setCell 1 _⟩
set_option maxRecDepth 100000 in
set_option maxHeartbeats 2000000 in
theorem ftext_any (R N : Nat) (s : RS) (w : World) (h : Rd w R N s) :
    Calls Tryz.prog 37 #[.pointer (some ⟨R, 0, none⟩)] w fun e w' => ∃ x s', e = .returned (.string x) ∧ Agr rX s x s' ∧ Rd w' R N s' ∧ Keep R w w' := by
  have HNUM : Hid (Calls Tryz.prog 34 #[.pointer (some ⟨R, 0, none⟩)] w fun e w' => ∃ n s', e = .returned (.int .i64 n) ∧ okN n ∧ Agr rN s n s' ∧ Rd w' R N s' ∧ Keep R w w') := fnum_any R N s w h
  clear h
  go_enter Tryz.func37, Tryz.ntmps37
  go_wp2_with fail
  refine Calls.mono HNUM.out ?_
  rintro e w2 ⟨n, s1, rfl, ⟨hn0, hn1⟩, hA1, hR1, hK1⟩
  have HA1 : Hid (Agr rN s n s1) := hA1
  have HR1 : Hid (Rd w2 R N s1) := hR1
  have HK1 : Hid (Keep R w w2) := hK1
  obtain ⟨a, cap, hB, hBy, hap⟩ := hR1.ex
  have HB : Hid (Blk w2 R [.slice a s1.1.length cap, .bool s1.2]) := hB
  have HBY : Hid (Bytes w2 a cap s1.1) := hBy
  have HAP : Hid (∀ x : Addr, a = some x → x.block ≠ R ∧ x.block < N) := hap
  have hroom := hBy.room
  have hmost : cap ≤ 9223372036854775807 := by have := hBy.most; unfold maxLen at this; omega
  have hbase := hR1.base
  have c0 : w2.cell? ⟨R, 0, none⟩ = some (.slice a s1.1.length cap) := hB.one rfl
  have c1 : w2.cell? ⟨R, 1, none⟩ = some (.bool s1.2) := hB.one rfl
  have f0 : w2.frozen? ⟨R, 0, none⟩ = false := hB.frozen 0
  have f1 : w2.frozen? ⟨R, 1, none⟩ = false := hB.frozen 1
  clear hB hBy hap hA1 hR1 hK1 HNUM
  obtain ⟨x, b⟩ := s1
  simp only at *
  have HXF : Hid ((rX s).2.2 = false → (rN s).2.2 = false) := fun hf => by
    have h0 : 0 ≤ (rN s).1 := (rN_range s).1
    exact (rT_ext _ h0).flag (s := (rN s).2) hf
  cases b
  · by_cases hgt : (x.length : Int) < n
    · have HA : Hid (Agr rX s ByteArray.empty (x, true)) := Agr.lame (by
        have e := HA1.out.1 rfl
        unfold rX rT
        rw [e]; simp only; rw [if_neg (by omega)])
      generalize hL : x.length = L at *
      go_wp2_with fail
      go_ret
      exact ⟨_, _, rfl, HA.out, HR1.out.lame, HK1.out.setCell 1 _⟩
    · obtain ⟨u, rfl⟩ : ∃ u : Nat, n = u := ⟨n.toNat, by omega⟩
      have hu : u ≤ x.length := by omega
      have HA : Hid (Agr rX s (ofB (x.take u)) (x.drop u, false)) := Agr.eq (by
        have e := HA1.out.1 rfl
        unfold rX rT
        rw [e]; simp only; rw [if_pos (by omega)]; simp)
      have hstr : (convert 26 9 (.slice a u cap)).run Tryz.prog w2 = .ok (.string (ofB (x.take u))) w2 := by
        have := (HBY.out.take u hu).str
        rwa [List.length_take, Nat.min_eq_left hu] at this
      have HDL : Hid (x.length - u = (x.drop u).length) := show _ = _ by rw [List.length_drop]
      obtain ⟨adr, hadr⟩ : ∃ x, (if cap = u then a else Option.map (fun x => x.add u) a) = x := ⟨_, rfl⟩
      have HT : Hid (Bytes w2 adr (cap - u) (x.drop u)) := by rw [← hadr]; exact HBY.out.tail u
      have HAP2 : Hid (∀ x : Addr, adr = some x → x.block ≠ R ∧ x.block < N) := fun x e => tail_apart (hadr.trans e) HAP.out
      generalize ofB (x.take u) = t at *
      generalize hL : x.length = L at *
      have e1 : (0 : Int) ≤ (u : Int) := by omega
      have e2 : (u : Int) ≤ (L : Int) := by omega
      have e3 : (u : Int) ≤ (cap : Int) := by omega
      go_wp2_with fail
      go_ret
      have h6 : Blk (w2.setCell ⟨R, 0, none⟩ (.slice adr (L - u) (cap - u))) R [.slice adr (L - u) (cap - u), .bool false] := HB.out.set 0 _
      refine ⟨t, rfl, x.drop u, Or.inl ⟨HA.out, ?_, HK1.out.setCell 0 _⟩⟩
      refine ⟨by simp [World.setCell]; omega, adr, cap - u, ?_, HT.out.kept fun b o e => Below.heap_setCell w2 _ _ b (HAP2.out _ e).1, HAP2.out⟩
      show Blk _ R [.slice adr (x.drop u).length (cap - u), .bool false]
      rw [← HDL.out]; exact h6
  · have HA : Hid (Agr rX s ByteArray.empty (x, true)) := by
      refine Agr.lame ?_
      cases hf : (rX s).2.2 with
      | true => rfl
      | false => have := HA1.out.2 (HXF.out hf); cases this
    generalize hL : x.length = L at *
    go_wp2_with fail
    go_ret
    exact ⟨_, _, rfl, HA.out, HR1.out.lame, HK1.out.setCell 1 _⟩
end Go.Proofs.YteikbpkjikacmaaGreatDoor
