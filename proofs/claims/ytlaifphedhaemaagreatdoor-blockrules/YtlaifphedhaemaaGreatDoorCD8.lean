/- tx.Decode. -/
import Derived.Test.YtlaifphedhaemaaGreatDoorCD7
namespace Go.Proofs.YtlaifphedhaemaaGreatDoor
open Go.ChangeShapes Go.WideShapes Go.ChangeAt Go.RowKit

/-- What Decode answers. -/
def decT (bs : List (BitVec 8)) : TxD × Int := if rD (rTx (bs, false)).2 = true ∧ chkE (rTx (bs, false)).1 = 0 then ((rTx (bs, false)).1, 0) else (⟨[], [], 0⟩, 2)
theorem results_row_tmp {P : Program} {fn : Func} {p u : Tmp} {ty : TypeId} (h : fn.results = #[.cell p ty, .tmp u]) (tmps : Array Value) (w : World) (g : Nat) (t : TypeId) (cs : Array Value) (fr : Nat × Nat) (d : TypeDesc)
    (hp : tmps.getD p undef = .pointer (some ⟨g, 0, none⟩)) (hg : w.heap[g]? = some (.cells cs t fr))
    (hu : P.underlying ty = some d) (hd : (match d with | .struct _ | .array _ _ => true | _ => false) = true) (hi : (P.info? ty).map (·.size) = some cs.size) :
    (results fn tmps).run P w = .ok (.tuple #[.agg cs, tmps.getD u undef]) w := by
  rw [results_cell_tmp h, hp]
  simp [asAddr, run_loadVar_row w g t ty cs fr d hg hu hd hi, Result.andThen]
theorem TxAt.kept {w w' : World} {tv : TxV} {t : TxD} {B : Nat} (h : TxAt w tv t) (hN : TxNew B tv) (hb : ∀ b, B ≤ b → w'.heap[b]? = w.heap[b]?) : TxAt w' tv t :=
  ⟨h.ins.later fun b _ _ e => hb b (hN.1 _ e), h.outs.later fun b _ _ e => hb b (hN.2 _ e)⟩
theorem SrcB.below {w w' : World} {v : Value} {bs : List (BitVec 8)} (h : SrcB w v bs) (hb : Below w.heap.size w w') : SrcB w' v bs := by
  rcases h with h | ⟨b, o, cap, e, hc⟩
  · exact .inl h
  · refine .inr ⟨b, o, cap, e, fun j u hu => ?_⟩
    have := hc j u hu
    rw [World.cell?_of_block (a := ⟨b, o + j, none⟩) (hb.block b (World.block_lt_of_cell? w _ this))]; exact this
set_option maxRecDepth 100000 in
set_option maxHeartbeats 8000000 in
theorem decode_any (v : Value) (bs : List (BitVec 8)) (w : World) (h : SrcB w v bs) (hl : bs.length ≤ 900000) :
    Calls Tryz.prog 39 #[v] w fun e w' => ∃ tv : TxV, e = .returned (.tuple #[tv.val (decT bs).1.lock, .int .i64 (decT bs).2]) ∧ TxAt w' tv (decT bs).1 ∧ TxNew w.heap.size tv ∧ Below w.heap.size w w' := by
  have HREAD : Hid (∀ w, SrcB w v bs → Calls Tryz.prog 36 #[v] w fun e w' => ∃ R, e = .returned (.pointer (some ⟨R, 0, none⟩)) ∧ w.heap.size ≤ R ∧ Rd w' R w'.heap.size (bs, false) ∧ Below w.heap.size w w') := fun w h => reader_any v bs w h hl
  have HSRC : Hid (∀ w', Below w.heap.size w w' → SrcB w' v bs) := fun w' hb => h.below hb
  clear h
  go_enter Tryz.func39, Tryz.ntmps39
  go_wp2_with fail
  refine wp_scope_hops 1 ?_
  go_hide hQ
  go_upto_region 1 with fail
  generalize hwv : World.alloc w _ = w1
  have HB0 : Hid (Blk w1 w.heap.size [.slice none 0 0, .slice none 0 0, .int .i64 0]) := by rw [← hwv]; exact Blk.mk _ _ _ rfl rfl
  have HBL : Hid (Below w.heap.size w w1) := by rw [← hwv]; exact (Below.refl _ _).alloc (Nat.le_refl _) _
  clear hwv
  have hT1 := HB0.out.lt
  generalize hT : w.heap.size = T at *
  go_wp2_with fail
  refine Calls.mono (HREAD.out w1 (HSRC.out w1 HBL.out)) ?_
  rintro e w2 ⟨R, rfl, hR0, hR2, hb2⟩
  have HR2 : Hid (Rd w2 R w2.heap.size (bs, false)) := hR2
  have HB2 : Hid (Blk w2 T [.slice none 0 0, .slice none 0 0, .int .i64 0]) := HB0.out.below hb2 hT1
  have HBL2 : Hid (Below T w w2) := HBL.out.trans (hb2.mono (by omega))
  have hT2 := HB2.out.lt
  have hs2 := hb2.size
  clear hR2 hb2 HB0 HBL HREAD HSRC
  go_wp2_with fail
  refine Calls.mono (read_any R _ (bs, false) w2 HR2.out) ?_
  rintro e w3 ⟨tv, rfl, hT3, hN3, hR3, hK3⟩
  have HDEC : Hid (decT bs = if rD (rTx (bs, false)).2 = true ∧ chkE (rTx (bs, false)).1 = 0 then ((rTx (bs, false)).1, 0) else (⟨[], [], 0⟩, 2)) := rfl
  generalize (rTx (bs, false)).2 = s' at *
  generalize (rTx (bs, false)).1 = t at *
  have HT3 : Hid (TxAt w3 tv t) := hT3
  have HN3 : Hid (TxNew T tv) := ⟨fun x e => Nat.le_trans (by omega) (hN3.1 x e), fun x e => Nat.le_trans (by omega) (hN3.2 x e)⟩
  have HN4 : Hid (TxNew (T + 1) tv) := ⟨fun x e => Nat.le_trans (by omega) (hN3.1 x e), fun x e => Nat.le_trans (by omega) (hN3.2 x e)⟩
  have HR3 : Hid (Rd w3 R w2.heap.size s') := hR3
  have HB3 : Hid (Blk w3 T [.slice none 0 0, .slice none 0 0, .int .i64 0]) := HB2.out.keep hK3 (by omega)
  have HBL3 : Hid (Below T w w3) := HBL2.out.trans (hK3.below (by omega) (by omega))
  have hT3' := HB3.out.lt
  clear hT3 hN3 hR3 hK3 HB2 HBL2 HR2
  obtain ⟨lk, hlk⟩ : ∃ z, t.lock = z := ⟨_, rfl⟩
  have HLK : Hid (t.lock = lk) := hlk
  rw [hlk]
  clear hlk
  unfold TxV.val
  go_upto_region 3 with fail
  generalize hw4 : World.alloc w3 _ = w4
  have hb4 : Below w3.heap.size w3 w4 := by rw [← hw4]; exact (Below.refl _ _).alloc (Nat.le_refl _) _
  have HU4 : Hid (Blk w4 w3.heap.size [.slice tv.a tv.n tv.c, .slice tv.b tv.m tv.d, .int .i64 lk]) := by rw [← hw4]; exact Blk.mk _ _ _ rfl rfl
  have HT4 : Hid (TxAt w4 tv t) := HT3.out.below hb4
  have HR4 : Hid (Rd w4 R w2.heap.size s') := HR3.out.below hb4
  have HB4 : Hid (Blk w4 T [.slice none 0 0, .slice none 0 0, .int .i64 0]) := HB3.out.below hb4 hT3'
  have HBL4 : Hid (Below T w w4) := HBL3.out.trans (hb4.mono (by omega))
  clear hw4 hb4 HT3 HR3 HB3 HBL3
  generalize w3.heap.size = U at *
  have HDONE : Hid (Calls Tryz.prog 41 #[.pointer (some ⟨R, 0, none⟩)] w4 fun e w' => e = .returned (.bool (rD s')) ∧ w4 = w') := rdone_any R _ s' w4 HR4.out
  have HCHK : Hid (Calls Tryz.prog 64 #[tv.val lk] w4 fun e w'' => e = .returned (.int .i64 (chkE t)) ∧ Below w4.heap.size w4 w'') := by
    have := check_any tv t w4 HT4.out
    rwa [HLK.out] at this
  unfold TxV.val at HCHK
  cases hd : rD s' with
  | false =>
    rw [hd] at HDONE HDEC
    have HE : Hid ((if false = true ∧ chkE t = 0 then (t, 0) else ((⟨[], [], 0⟩ : TxD), (2 : Int))) = (⟨[], [], 0⟩, 2)) := if_neg (by simp)
    clear hd
    go_wp2_with fail
    refine Calls.mono HDONE.out ?_
    rintro e w5 ⟨rfl, rfl⟩
    go_wp2_with fail
    go_step3
    simp only [Exit.then]
    subst hQ
    rw [hops_goto]
    refine ⟨_, rfl, ?_⟩
    go_hide hQ
    have d0 : w4.cell? ⟨T, 0, none⟩ = some (.slice none 0 0) := HB4.out.one rfl
    have d1 : w4.cell? ⟨T, 1, none⟩ = some (.slice none 0 0) := HB4.out.one rfl
    have d2 : w4.cell? ⟨T, 2, none⟩ = some (.int .i64 0) := HB4.out.one rfl
    have g0 : w4.frozen? ⟨T, 0, none⟩ = false := HB4.out.frozen 0
    have g1 : w4.frozen? ⟨T, 1, none⟩ = false := HB4.out.frozen 1
    have g2 : w4.frozen? ⟨T, 2, none⟩ = false := HB4.out.frozen 2
    go_wp2_with fail
    subst hQ
    rw [hops_ret]
    generalize hu5 : World.setCell (World.setCell (World.setCell w4 _ _) _ _) _ _ = u5
    have HK5 : Hid (Keep T w4 u5) := by rw [← hu5]; exact (((Keep.refl _ _).setCell 0 _).setCell 1 _).setCell 2 _
    have HB5 : Hid (Blk u5 T [.slice none 0 0, .slice none 0 0, .int .i64 0]) := by rw [← hu5]; exact ((HB4.out.set 0 _).set 1 _).set 2 _
    clear hu5
    have hsz := HB4.out.lt
    refine bodyPost_ret (v := .tuple #[.agg #[.slice none 0 0, .slice none 0 0, .int .i64 0], .int .i64 2]) ?_ rfl ⟨⟨none, 0, 0, none, 0, 0⟩, by rw [HDEC.out, HE.out]; rfl, by rw [HDEC.out, HE.out]; exact ⟨Els.nil _, Els.nil _⟩, ⟨fun x e => (by cases e), fun x e => (by cases e)⟩, by rw [hT]; exact HBL4.out.trans (HK5.out.below (Nat.le_refl _) (by omega))⟩
    obtain ⟨tt, hb⟩ := HB5.out
    exact results_row_tmp Tryz.results39 _ _ T tt _ _ _ rfl hb Tryz.underlying61 rfl size_tx
  | true =>
    rw [hd] at HDONE HDEC
    clear hd
    have u0 : w4.cell? ⟨U, 0, none⟩ = some (.slice tv.a tv.n tv.c) := HU4.out.one rfl
    have u1 : w4.cell? ⟨U, 1, none⟩ = some (.slice tv.b tv.m tv.d) := HU4.out.one rfl
    have u2 : w4.cell? ⟨U, 2, none⟩ = some (.int .i64 lk) := HU4.out.one rfl
    go_wp2_with fail
    refine Calls.mono HDONE.out ?_
    rintro e w5 ⟨rfl, rfl⟩
    go_wp2_with fail
    refine Calls.mono HCHK.out ?_
    rintro e w6 ⟨rfl, hb6⟩
    have HU6 : Hid (Blk w6 U [.slice tv.a tv.n tv.c, .slice tv.b tv.m tv.d, .int .i64 lk]) := HU4.out.below hb6 HU4.out.lt
    have HT6 : Hid (TxAt w6 tv t) := HT4.out.below hb6
    have HB6 : Hid (Blk w6 T [.slice none 0 0, .slice none 0 0, .int .i64 0]) := HB4.out.below hb6 HB4.out.lt
    have hs6 := HB4.out.lt
    have HBL6 : Hid (Below T w w6) := HBL4.out.trans (hb6.mono (by omega))
    clear hb6 u0 u1 u2 HU4 HT4 HB4 HBL4 HCHK HDONE
    by_cases hz : chkE t = 0
    · have HE : Hid ((if true = true ∧ chkE t = 0 then (t, 0) else ((⟨[], [], 0⟩ : TxD), (2 : Int))) = (t, 0)) := if_pos ⟨rfl, hz⟩
      rw [hz]
      have u0 : w6.cell? ⟨U, 0, none⟩ = some (.slice tv.a tv.n tv.c) := HU6.out.one rfl
      have u1 : w6.cell? ⟨U, 1, none⟩ = some (.slice tv.b tv.m tv.d) := HU6.out.one rfl
      have u2 : w6.cell? ⟨U, 2, none⟩ = some (.int .i64 lk) := HU6.out.one rfl
      have d0 : w6.cell? ⟨T, 0, none⟩ = some (.slice none 0 0) := HB6.out.one rfl
      have d1 : w6.cell? ⟨T, 1, none⟩ = some (.slice none 0 0) := HB6.out.one rfl
      have d2 : w6.cell? ⟨T, 2, none⟩ = some (.int .i64 0) := HB6.out.one rfl
      have g0 : w6.frozen? ⟨T, 0, none⟩ = false := HB6.out.frozen 0
      have g1 : w6.frozen? ⟨T, 1, none⟩ = false := HB6.out.frozen 1
      have g2 : w6.frozen? ⟨T, 2, none⟩ = false := HB6.out.frozen 2
      go_wp2_with fail
      subst hQ
      rw [hops_ret]
      generalize hu5 : World.setCell (World.setCell (World.setCell w6 _ _) _ _) _ _ = u5
      have HK5 : Hid (Keep T w6 u5) := by rw [← hu5]; exact (((Keep.refl _ _).setCell 0 _).setCell 1 _).setCell 2 _
      have HEQ : Hid (∀ b, b ≠ T → u5.heap[b]? = w6.heap[b]?) := fun b hb => by rw [← hu5, Below.heap_setCell _ _ _ b hb, Below.heap_setCell _ _ _ b hb, Below.heap_setCell _ _ _ b hb]
      have HB5 : Hid (Blk u5 T [.slice tv.a tv.n tv.c, .slice tv.b tv.m tv.d, .int .i64 lk]) := by rw [← hu5]; exact ((HB6.out.set 0 _).set 1 _).set 2 _
      clear hu5
      have hsz := HB6.out.lt
      refine bodyPost_ret (v := .tuple #[.agg #[.slice tv.a tv.n tv.c, .slice tv.b tv.m tv.d, .int .i64 lk], .int .i64 0]) ?_ rfl ⟨tv, by rw [HDEC.out, HE.out, HLK.out]; rfl, ?_, by rw [hT]; exact HN3.out, by rw [hT]; exact HBL6.out.trans (HK5.out.below (Nat.le_refl _) (by omega))⟩
      · obtain ⟨tt, hb⟩ := HB5.out
        exact results_row_tmp Tryz.results39 _ _ T tt _ _ _ rfl hb Tryz.underlying61 rfl size_tx
      · rw [HDEC.out, HE.out]
        exact HT6.out.kept HN4.out fun b hb => HEQ.out b (by omega)
    · have HE : Hid ((if true = true ∧ chkE t = 0 then (t, 0) else ((⟨[], [], 0⟩ : TxD), (2 : Int))) = (⟨[], [], 0⟩, 2)) := if_neg (fun h => hz h.2)
      have hne : (chkE t != 0) = true := by simp [hz]
      generalize chkE t = E at *
      clear hz
      go_wp2_with fail
      go_step3
      simp only [Exit.then]
      subst hQ
      rw [hops_goto]
      refine ⟨_, rfl, ?_⟩
      go_hide hQ
      have d0 : w6.cell? ⟨T, 0, none⟩ = some (.slice none 0 0) := HB6.out.one rfl
      have d1 : w6.cell? ⟨T, 1, none⟩ = some (.slice none 0 0) := HB6.out.one rfl
      have d2 : w6.cell? ⟨T, 2, none⟩ = some (.int .i64 0) := HB6.out.one rfl
      have g0 : w6.frozen? ⟨T, 0, none⟩ = false := HB6.out.frozen 0
      have g1 : w6.frozen? ⟨T, 1, none⟩ = false := HB6.out.frozen 1
      have g2 : w6.frozen? ⟨T, 2, none⟩ = false := HB6.out.frozen 2
      go_wp2_with fail
      subst hQ
      rw [hops_ret]
      generalize hu5 : World.setCell (World.setCell (World.setCell w6 _ _) _ _) _ _ = u5
      have HK5 : Hid (Keep T w6 u5) := by rw [← hu5]; exact (((Keep.refl _ _).setCell 0 _).setCell 1 _).setCell 2 _
      have HB5 : Hid (Blk u5 T [.slice none 0 0, .slice none 0 0, .int .i64 0]) := by rw [← hu5]; exact ((HB6.out.set 0 _).set 1 _).set 2 _
      clear hu5
      have hsz := HB6.out.lt
      refine bodyPost_ret (v := .tuple #[.agg #[.slice none 0 0, .slice none 0 0, .int .i64 0], .int .i64 2]) ?_ rfl ⟨⟨none, 0, 0, none, 0, 0⟩, by rw [HDEC.out, HE.out]; rfl, by rw [HDEC.out, HE.out]; exact ⟨Els.nil _, Els.nil _⟩, ⟨fun x e => (by cases e), fun x e => (by cases e)⟩, by rw [hT]; exact HBL6.out.trans (HK5.out.below (Nat.le_refl _) (by omega))⟩
      obtain ⟨tt, hb⟩ := HB5.out
      exact results_row_tmp Tryz.results39 _ _ T tt _ _ _ rfl hb Tryz.underlying61 rfl size_tx
end Go.Proofs.YtlaifphedhaemaaGreatDoor
