/- tx.read. -/
import Derived.Test.YtlaifphedhaemaaGreatDoorCD6
namespace Go.Proofs.YtlaifphedhaemaaGreatDoor
open Go.ChangeShapes Go.WideShapes Go.ChangeAt Go.RowKit

/-- A transaction's lists lie in blocks from B on. -/
def TxNew (B : Nat) (tv : TxV) : Prop := (∀ x : Addr, tv.a = some x → B ≤ x.block) ∧ ∀ x : Addr, tv.b = some x → B ≤ x.block
theorem size_tx {a b c : Value} : (Tryz.prog.info? 61).map (·.size) = some (#[a, b, c] : Array Value).size := by kernel_rfl
theorem built_wit (a b : Int) (t : ByteArray) : Tryz.prog.built 55 [(0, .int .i64 a), (1, .int .i64 b), (2, .string t)] = some #[.int .i64 a, .int .i64 b, .string t] := by kernel_rfl
set_option maxRecDepth 100000 in
set_option maxHeartbeats 8000000 in
theorem read_any (R N : Nat) (s : RS) (w : World) (h : Rd w R N s) :
    Calls Tryz.prog 70 #[.pointer (some ⟨R, 0, none⟩)] w fun e w' => ∃ tv : TxV, e = .returned (tv.val (rTx s).1.lock) ∧ TxAt w' tv (rTx s).1 ∧ TxNew w.heap.size tv ∧ Rd w' R N (rTx s).2 ∧ Keep R w w' := by
  have hmo : Tryz.prog.follows .mixedOrders = true := by kernel_rfl
  have HMO : Hid (_ = true) := hmo
  have hRT := h.lt
  have hbs := h.base
  have H : Hid (Rd w R N s) := h
  obtain ⟨i0, hi0, hi1, hi2, hi3⟩ := info_parts Tryz.infoIn
  obtain ⟨j0, hj0, hj1, hj2, hj3⟩ := info_parts Tryz.infoOut
  have HNUM : Hid (∀ s w, Rd w R N s → Calls Tryz.prog 68 #[.pointer (some ⟨R, 0, none⟩)] w fun e w' => e = .returned (.int .i64 (rN s).1) ∧ Rd w' R N (rN s).2 ∧ Keep R w w') := fun s w h => rnum_any R N s w h
  have HPOINT : Hid (∀ s w, Rd w R N s → Calls Tryz.prog 101 #[.pointer (some ⟨R, 0, none⟩)] w fun e w' => e = .returned (.agg (rP s).1.cs.toArray) ∧ Rd w' R N (rP s).2 ∧ Keep R w w') := fun s w h => rpoint_any R N s w h
  have HSCRIPT : Hid (∀ s w, Rd w R N s → Calls Tryz.prog 102 #[.pointer (some ⟨R, 0, none⟩)] w fun e w' => e = .returned (.agg (rS s).1.cs.toArray) ∧ Rd w' R N (rS s).2 ∧ Keep R w w') := fun s w h => rscript_any R N s w h
  have HTEXT : Hid (∀ s w, Rd w R N s → Calls Tryz.prog 40 #[.pointer (some ⟨R, 0, none⟩)] w fun e w' => e = .returned (.string (rX s).1) ∧ Rd w' R N (rX s).2 ∧ Keep R w w') := fun s w h => rtext_any R N s w h
  have HCOUNT : Hid (∀ s w, Rd w R N s → Calls Tryz.prog 38 #[.pointer (some ⟨R, 0, none⟩), .int .i64 100] w fun e w' => e = .returned (.int .i64 (rC s 100).1) ∧ Rd w' R N (rC s 100).2 ∧ Keep R w w') := fun s w h => rcount_any R N s 100 w h
  obtain ⟨n, hn⟩ : ∃ n : Nat, (rC s 100).1 = n := ⟨(rC s 100).1.toNat, by have := (rC_range s 100 (by omega)).1; omega⟩
  have hn100 : n ≤ 100 := by have := (rC_range s 100 (by omega)).2; omega
  have HN : Hid ((rC s 100).1 = n) := hn
  obtain ⟨s1, hs1⟩ : ∃ s1, (rC s 100).2 = s1 := ⟨_, rfl⟩
  have HS1 : Hid ((rC s 100).2 = s1) := hs1
  clear h hmo hn hs1
  go_enter Tryz.func70, Tryz.ntmps70
  go_upto_region 2 with fail
  generalize hwv : World.alloc (World.alloc w _) _ = w1
  have HB0 : Hid (Blk w1 w.heap.size [.slice none 0 0, .slice none 0 0, .int .i64 0]) := by rw [← hwv]; exact (Blk.mk _ _ _ rfl rfl).alloc _
  have HB1 : Hid (Blk w1 (w.heap.size + 1) [.slice none 0 0, .slice none 0 0, .int .i64 0]) := by rw [← hwv]; exact Blk.mk _ _ _ (by simp) rfl
  have HBL : Hid (Below w.heap.size w w1) := by rw [← hwv]; exact ((Below.refl _ _).alloc (Nat.le_refl _) _).alloc (by simp) _
  clear hwv
  have HR1 : Hid (Rd w1 R N s) := H.out.below HBL.out
  have HK1 : Hid (Keep R w w1) := Keep.of_below HBL.out
  clear HBL H
  generalize hT : w.heap.size = T at *
  go_wp2_with fail
  refine Calls.mono (HCOUNT.out s w1 HR1.out) ?_
  rintro e w2 ⟨rfl, hR2, hK2⟩
  rw [HN.out]
  rw [HS1.out] at hR2
  have HR2 : Hid (Rd w2 R N s1) := hR2
  have HK2 : Hid (Keep R w w2) := HK1.out.trans hK2
  have HB02 : Hid (Blk w2 T [.slice none 0 0, .slice none 0 0, .int .i64 0]) := HB0.out.keep hK2 (by omega)
  have HB12 : Hid (Blk w2 (T + 1) [.slice none 0 0, .slice none 0 0, .int .i64 0]) := HB1.out.keep hK2 (by omega)
  have hT2 := HB12.out.lt
  clear hR2 hK2 HB0 HB1 HK1 HR1
  go_wp2_with (at_make; refine wpList_make_full _ rfl _ _ 58 rfl w2.heap.size 57 i0 (.agg (default : In).cs.toArray) 37 Tryz.underlying58 hi0 hi1 hi2 .i64 .i64 _ _ n rfl rfl rfl rfl (by rw [hi3]; omega) (by unfold maxLen; omega) (Nat.le_refl _) ?_)
  intro w3 hown hgrow
  have hb3 : Below w2.heap.size w2 w3 := (Below.refl _ w2).grown hgrow (Nat.le_refl _) (by simp)
  have HG3 : Hid (Blk w3 w2.heap.size (flatE (List.replicate n (default : In)))) := by
    refine ⟨57, ?_⟩
    rw [← madeE (default : In) n (by decide)]
    exact Blk.made hown
  have HB03 : Hid (Blk w3 T [.slice none 0 0, .slice none 0 0, .int .i64 0]) := HB02.out.below hb3 HB02.out.lt
  have HB13 : Hid (Blk w3 (T + 1) [.slice none 0 0, .slice none 0 0, .int .i64 0]) := HB12.out.below hb3 HB12.out.lt
  have HR3 : Hid (Rd w3 R N s1) := HR2.out.below hb3
  have HK3 : Hid (Keep R w w3) := HK2.out.trans (Keep.of_below hb3)
  clear hown hgrow hb3 HB02 HB12 HR2 HK2 hi0 hi1 hi2 hi3
  generalize hG : w2.heap.size = G at *
  have c0 : w3.cell? ⟨T + 1, 0, none⟩ = some (.slice none 0 0) := HB13.out.one rfl
  have f0 : w3.frozen? ⟨T + 1, 0, none⟩ = false := HB13.out.frozen 0
  go_upto_region 3 with fail
  have HB14 : Hid (Blk (w3.setCell ⟨T + 1, 0, none⟩ (.slice (some ⟨G, 0, none⟩) n n)) (T + 1) [.slice (some ⟨G, 0, none⟩) n n, .slice none 0 0, .int .i64 0]) := HB13.out.set 0 _
  have HB04 : Hid (Blk (w3.setCell ⟨T + 1, 0, none⟩ (.slice (some ⟨G, 0, none⟩) n n)) T [.slice none 0 0, .slice none 0 0, .int .i64 0]) := HB03.out.other (by show T ≠ T + 1; omega) _
  have HG4 : Hid (Blk (w3.setCell ⟨T + 1, 0, none⟩ (.slice (some ⟨G, 0, none⟩) n n)) G (flatE (List.replicate n (default : In)))) := HG3.out.other (by show G ≠ T + 1; omega) _
  have HR4 : Hid (Rd (w3.setCell ⟨T + 1, 0, none⟩ (.slice (some ⟨G, 0, none⟩) n n)) R N s1) := HR3.out.kept (by simp [World.setCell]) (Below.heap_setCell w3 _ _ R (by show R ≠ T + 1; omega)) fun b hb _ => Below.heap_setCell w3 _ _ b (by show b ≠ T + 1; omega)
  have HK4 : Hid (Keep R w (w3.setCell ⟨T + 1, 0, none⟩ (.slice (some ⟨G, 0, none⟩) n n))) := HK3.out.other ((Keep.refl _ _).setCell 0 _) (by omega)
  generalize w3.setCell ⟨T + 1, 0, none⟩ (.slice (some ⟨G, 0, none⟩) n n) = w4 at *
  clear c0 f0 HB13 HB03 HG3 HR3 HK3
  have c0 : w4.cell? ⟨T + 1, 0, none⟩ = some (.slice (some ⟨G, 0, none⟩) n n) := HB14.out.one rfl
  go_wp2_with fail
  clear c0
  have HS4 : Hid (RdSt w w4 R N T s1 [.slice (some ⟨G, 0, none⟩) n n, .slice none 0 0, .int .i64 0]) := ⟨HR4.out, HB04.out, HB14.out, HK4.out⟩
  clear HR4 HB04 HB14 HK4
  go_loopw [14] (fun i wr => ∃ k : Nat, k ≤ n ∧ i = .int .i64 k ∧ Hid (RdSt w wr R N T (rMany rIn k s1).2 [.slice (some ⟨G, 0, none⟩) n n, .slice none 0 0, .int .i64 0]) ∧ Hid (Blk wr G (flatE ((rMany rIn k s1).1 ++ List.replicate (n - k) (default : In))))) (fun i _ => n - (intOf i).toNat)
  case atStart => exact ⟨0, by omega, rfl, HS4.out, HG4.out⟩
  case round =>
    obtain ⟨k, hk, rfl, HSk, HGk⟩ := hrel
    clear HS4 HG4
    by_cases hlt : k < n
    · have e0 : (0 : Int) ≤ (k : Int) := by omega
      have e1 : (k : Int) < (n : Int) := by omega
      obtain ⟨A, hA⟩ : ∃ A, (rMany rIn k s1).1 = A := ⟨_, rfl⟩
      obtain ⟨sk, hsk⟩ : ∃ x, (rMany rIn k s1).2 = x := ⟨_, rfl⟩
      obtain ⟨p, sp, q, sq, hp, hsp, hq, hsq⟩ : ∃ p sp q sq, (rP sk).1 = p ∧ (rP sk).2 = sp ∧ (rN sp).1 = q ∧ (rN sp).2 = sq := ⟨_, _, _, _, rfl, rfl, rfl, rfl⟩
      have HNX : Hid (rMany rIn (k + 1) s1 = (A ++ [⟨p, q, 0, 0, ByteArray.empty⟩], sq)) := show _ = _ by
        rw [rMany, hA, hsk]; unfold rIn; rw [hsp, hp, hq, hsq]
      have HA : Hid (A.length = k) := show _ = _ by rw [← hA]; exact rMany_length _ _ _
      have HPK : Hid (∀ w, Rd w R N sk → Calls Tryz.prog 101 #[.pointer (some ⟨R, 0, none⟩)] w fun e w' => e = .returned (.agg p.cs.toArray) ∧ Rd w' R N sp ∧ Keep R w w') := fun w h => by
        have := HPOINT.out sk w h
        rwa [hp, hsp] at this
      have HNK : Hid (∀ w, Rd w R N sp → Calls Tryz.prog 68 #[.pointer (some ⟨R, 0, none⟩)] w fun e w' => e = .returned (.int .i64 q) ∧ Rd w' R N sq ∧ Keep R w w') := fun w h => by
        have := HNUM.out sp w h
        rwa [hq, hsq] at this
      rw [hA, rep_next _ n k hlt] at HGk
      rw [hsk] at HSk
      clear hA hsk hp hsp hq hsq
      obtain ⟨B, hB⟩ : ∃ B, List.replicate (n - (k + 1)) (default : In) = B := ⟨_, rfl⟩
      rw [hB] at HGk
      have HBE : Hid (List.replicate (n - (k + 1)) (default : In) = B) := hB
      clear hB
      go_upto_region 6 with fail
      have c0 : wr.cell? ⟨T + 1, 0, none⟩ = some (.slice (some ⟨G, 0, none⟩) n n) := HSk.out.b1.one rfl
      refine wp_region_noPanic ?_
      refine wp_region_held_drew (S := fun _ => True) HMO.out (trivial) (fun hHeld => ?_)
      refine wpAnyH_take (i := 0) (oi := { dst := some 17, op := .fieldAddr 61 (.tmp 3) 0, type := 0, pos := "tx.go:179", after := #[], guard := none }) (v := ?_) rfl (by kernel_rfl) (by kernel_rfl) (by kernel_rfl) (fun _ _ _ h => h) (Or.inl ⟨by rfl, ?_⟩) (by assumption) ?_
      rotate_left
      · intro _ _; go_simp; first | done | with_reducible rfl
      simp only [Act.put, List.setIfInBounds_toArray, List.set_cons_zero, List.set_cons_succ]
      refine wpAnyH_take (i := 2) (oi := { dst := some 19, op := .move (.tmp 4), type := 3, pos := "tx.go:179", after := #[], guard := none }) (v := ?_) rfl (by kernel_rfl) (by kernel_rfl) (by kernel_rfl) (fun _ _ _ h => h) (Or.inl ⟨by rfl, ?_⟩) (by assumption) ?_
      rotate_left
      · intro _ _; go_simp; first | done | with_reducible rfl
      simp only [Act.put, List.setIfInBounds_toArray, List.set_cons_zero, List.set_cons_succ]
      refine wpAnyH_take (i := 3) (oi := { dst := some 20, op := .move (.tmp 0), type := 82, pos := "tx.go:179", after := #[], guard := none }) (v := ?_) rfl (by kernel_rfl) (by kernel_rfl) (by kernel_rfl) (fun _ _ _ h => h) (Or.inl ⟨by rfl, ?_⟩) (by assumption) ?_
      rotate_left
      · intro _ _; go_simp; first | done | with_reducible rfl
      simp only [Act.put, List.setIfInBounds_toArray, List.set_cons_zero, List.set_cons_succ]
      refine wpAnyH_ready (rs := [1, 4]) (by kernel_rfl) (by simp) ?_
      refine (AllReadyH.cons (o := { dst := some 18, op := .load 58 (.tmp 17), type := 58, pos := "tx.go:179", after := #[{ on := 0, ground := .data }], guard := none }) rfl (fun K hK => ?_) (AllReadyH.cons (o := { dst := some 21, op := .call { callee := .value (.func 101), args := #[.tmp 20], argTypes := #[82] }, type := 53, pos := "tx.go:179", after := #[{ on := 3, ground := .data }], guard := none }) rfl (fun K hK => ?_) AllReadyH.nil))
      · go_simp
        skip
        go_simp
        refine hK.out _ _ (trivial) (fun hHeld => ?_)
        clear hK K
        refine wpAnyH_ready (rs := [4]) (by kernel_rfl) (by simp) ?_
        refine AllReadyH.cons (o := { dst := some 21, op := .call { callee := .value (.func 101), args := #[.tmp 20], argTypes := #[82] }, type := 53, pos := "tx.go:179", after := #[{ on := 3, ground := .data }], guard := none }) rfl (fun K hK => ?_) AllReadyH.nil
        go_simp
        refine Calls.mono (HPK.out _ HSk.out.drew.rd) ?_; rintro e w5 ⟨rfl, hR5, hK5⟩; have HS5 : Hid (RdSt w w5 R N T sp [.slice (some ⟨G, 0, none⟩) n n, .slice none 0 0, .int .i64 0]) := HSk.out.drew.call hRT hR5 hK5; have HG5 : Hid (Blk w5 G (flatE (A ++ default :: B))) := HGk.out.drew.keep hK5 (by omega); have HTH : Hid (w5.there G (k * 37) p.cs.length) := (by rw [Pt.cs_length]; exact HG5.out.therePart k 0 33 HA.out (by show 0 + 33 ≤ 37; omega)); clear hR5 hK5
        go_simp
        refine hK.out _ _ (trivial) (fun hHeld => ?_)
        clear hK K
        refine wpAnyH_take (i := 5) (oi := { dst := some 22, op := .indexAddr 58 (.tmp 18) (.tmp 19), type := 0, pos := "tx.go:179", after := #[{ on := 1, ground := .data }, { on := 2, ground := .data }, { on := 0, ground := .phase }, { on := 1, ground := .phase }, { on := 2, ground := .phase }, { on := 3, ground := .phase }, { on := 4, ground := .phase }], guard := none }) (v := ?_) rfl (by kernel_rfl) (by kernel_rfl) (by kernel_rfl) (fun _ _ _ h => h) (Or.inl ⟨by rfl, ?_⟩) (by assumption) ?_
        rotate_left
        · intro _ _; go_simp; first | done | with_reducible rfl
        simp only [Act.put, List.setIfInBounds_toArray, List.set_cons_zero, List.set_cons_succ]
        refine wpAnyH_take (i := 6) (oi := { dst := some 23, op := .fieldAddr 57 (.tmp 22) 0, type := 0, pos := "tx.go:179", after := #[{ on := 5, ground := .data }, { on := 0, ground := .phase }, { on := 1, ground := .phase }, { on := 2, ground := .phase }, { on := 3, ground := .phase }, { on := 4, ground := .phase }], guard := none }) (v := ?_) rfl (by kernel_rfl) (by kernel_rfl) (by kernel_rfl) (fun _ _ _ h => h) (Or.inl ⟨by rfl, ?_⟩) (by assumption) ?_
        rotate_left
        · intro _ _; go_simp; first | done | with_reducible rfl
        simp only [Act.put, List.setIfInBounds_toArray, List.set_cons_zero, List.set_cons_succ]
        refine wpAnyH_ready (rs := [7]) (by kernel_rfl) (by simp) ?_
        refine AllReadyH.cons (o := { dst := none, op := .store 53 (.tmp 23) (.tmp 21), type := 0, pos := "tx.go:179", after := #[{ on := 6, ground := .data }, { on := 4, ground := .data }, { on := 4, ground := .chain }, { on := 0, ground := .phase }, { on := 1, ground := .phase }, { on := 2, ground := .phase }, { on := 3, ground := .phase }, { on := 4, ground := .phase }], guard := none }) rfl (fun K hK => ?_) AllReadyH.nil
        refine step_store_mid rfl 53 _ _ rfl G (k * 37) p.cs rfl rfl HTH.out (size_pt p) p.cs_mem ?_
        simp only [Act.put]
        refine hK.out _ _ (trivial) (fun hHeld => ?_)
        clear hK K
        refine wpAnyH_done (by kernel_rfl) ?_ _
        refine NoPanic.normal ?_
        have HG6 : Hid (Blk (w5.setCells G (k * 37) p.cs) G (flatE (A ++ ⟨p, 0, 0, 0, ByteArray.empty⟩ :: B))) := HG5.out.setPart k 0 HA.out p.cs ⟨p, 0, 0, 0, ByteArray.empty⟩ (by rw [Pt.cs_length]; show 0 + 33 ≤ 37; omega) (in_prev default p)
        have HS6 : Hid (RdSt w (w5.setCells G (k * 37) p.cs) R N T sp [.slice (some ⟨G, 0, none⟩) n n, .slice none 0 0, .int .i64 0]) := HS5.out.other ((Keep.refl G w5).setCells p.cs (k * 37)) hRT hbs hT2 hT
        clear HG5 HS5 HTH c0 HSk HGk HPK hHeld
        generalize w5.setCells G (k * 37) p.cs = w6 at *
        have c0 : w6.cell? ⟨T + 1, 0, none⟩ = some (.slice (some ⟨G, 0, none⟩) n n) := HS6.out.b1.one rfl
        go_upto_region 7 with fail
        refine wp_region_noPanic ?_
        refine wp_region_held_drew (S := fun _ => True) HMO.out (trivial) (fun hHeld => ?_)
        refine wpAnyH_take (i := 0) (oi := { dst := some 24, op := .fieldAddr 61 (.tmp 3) 0, type := 0, pos := "tx.go:180", after := #[], guard := none }) (v := ?_) rfl (by kernel_rfl) (by kernel_rfl) (by kernel_rfl) (fun _ _ _ h => h) (Or.inl ⟨by rfl, ?_⟩) (by assumption) ?_
        rotate_left
        · intro _ _; go_simp; first | done | with_reducible rfl
        simp only [Act.put, List.setIfInBounds_toArray, List.set_cons_zero, List.set_cons_succ]
        refine wpAnyH_take (i := 2) (oi := { dst := some 26, op := .move (.tmp 4), type := 3, pos := "tx.go:180", after := #[], guard := none }) (v := ?_) rfl (by kernel_rfl) (by kernel_rfl) (by kernel_rfl) (fun _ _ _ h => h) (Or.inl ⟨by rfl, ?_⟩) (by assumption) ?_
        rotate_left
        · intro _ _; go_simp; first | done | with_reducible rfl
        simp only [Act.put, List.setIfInBounds_toArray, List.set_cons_zero, List.set_cons_succ]
        refine wpAnyH_take (i := 3) (oi := { dst := some 27, op := .move (.tmp 0), type := 82, pos := "tx.go:180", after := #[], guard := none }) (v := ?_) rfl (by kernel_rfl) (by kernel_rfl) (by kernel_rfl) (fun _ _ _ h => h) (Or.inl ⟨by rfl, ?_⟩) (by assumption) ?_
        rotate_left
        · intro _ _; go_simp; first | done | with_reducible rfl
        simp only [Act.put, List.setIfInBounds_toArray, List.set_cons_zero, List.set_cons_succ]
        refine wpAnyH_ready (rs := [1, 4]) (by kernel_rfl) (by simp) ?_
        refine (AllReadyH.cons (o := { dst := some 25, op := .load 58 (.tmp 24), type := 58, pos := "tx.go:180", after := #[{ on := 0, ground := .data }], guard := none }) rfl (fun K hK => ?_) (AllReadyH.cons (o := { dst := some 28, op := .call { callee := .value (.func 68), args := #[.tmp 27], argTypes := #[82] }, type := 3, pos := "tx.go:180", after := #[{ on := 3, ground := .data }], guard := none }) rfl (fun K hK => ?_) AllReadyH.nil))
        · go_simp
          skip
          go_simp
          refine hK.out _ _ (trivial) (fun hHeld => ?_)
          clear hK K
          refine wpAnyH_ready (rs := [4]) (by kernel_rfl) (by simp) ?_
          refine AllReadyH.cons (o := { dst := some 28, op := .call { callee := .value (.func 68), args := #[.tmp 27], argTypes := #[82] }, type := 3, pos := "tx.go:180", after := #[{ on := 3, ground := .data }], guard := none }) rfl (fun K hK => ?_) AllReadyH.nil
          go_simp
          refine Calls.mono (HNK.out _ HS6.out.drew.rd) ?_; rintro e w7 ⟨rfl, hR7, hK7⟩; have HS7 : Hid (RdSt w w7 R N T sq [.slice (some ⟨G, 0, none⟩) n n, .slice none 0 0, .int .i64 0]) := HS6.out.drew.call hRT hR7 hK7; have HG7 : Hid (Blk w7 G (flatE (A ++ ⟨p, 0, 0, 0, ByteArray.empty⟩ :: B))) := HG6.out.drew.keep hK7 (by omega); have c7 : w7.cell? ⟨G, k * 37 + 33, none⟩ = some (.int .i64 0) := HG7.out.part k 33 HA.out _ (In.seq_at _); have f7 : w7.frozen? ⟨G, k * 37 + 33, none⟩ = false := HG7.out.frozen _; clear hR7 hK7
          go_simp
          refine hK.out _ _ (trivial) (fun hHeld => ?_)
          clear hK K
          refine wpAnyH_take (i := 5) (oi := { dst := some 29, op := .indexAddr 58 (.tmp 25) (.tmp 26), type := 0, pos := "tx.go:180", after := #[{ on := 1, ground := .data }, { on := 2, ground := .data }, { on := 0, ground := .phase }, { on := 1, ground := .phase }, { on := 2, ground := .phase }, { on := 3, ground := .phase }, { on := 4, ground := .phase }], guard := none }) (v := ?_) rfl (by kernel_rfl) (by kernel_rfl) (by kernel_rfl) (fun _ _ _ h => h) (Or.inl ⟨by rfl, ?_⟩) (by assumption) ?_
          rotate_left
          · intro _ _; go_simp; first | done | with_reducible rfl
          simp only [Act.put, List.setIfInBounds_toArray, List.set_cons_zero, List.set_cons_succ]
          refine wpAnyH_take (i := 6) (oi := { dst := some 30, op := .fieldAddr 57 (.tmp 29) 1, type := 0, pos := "tx.go:180", after := #[{ on := 5, ground := .data }, { on := 0, ground := .phase }, { on := 1, ground := .phase }, { on := 2, ground := .phase }, { on := 3, ground := .phase }, { on := 4, ground := .phase }], guard := none }) (v := ?_) rfl (by kernel_rfl) (by kernel_rfl) (by kernel_rfl) (fun _ _ _ h => h) (Or.inl ⟨by rfl, ?_⟩) (by assumption) ?_
          rotate_left
          · intro _ _; go_simp; first | done | with_reducible rfl
          simp only [Act.put, List.setIfInBounds_toArray, List.set_cons_zero, List.set_cons_succ]
          refine wpAnyH_ready (rs := [7]) (by kernel_rfl) (by simp) ?_
          refine AllReadyH.cons (o := { dst := none, op := .store 3 (.tmp 30) (.tmp 28), type := 0, pos := "tx.go:180", after := #[{ on := 6, ground := .data }, { on := 4, ground := .data }, { on := 4, ground := .chain }, { on := 0, ground := .phase }, { on := 1, ground := .phase }, { on := 2, ground := .phase }, { on := 3, ground := .phase }, { on := 4, ground := .phase }], guard := none }) rfl (fun K hK => ?_) AllReadyH.nil
          go_simp
          skip
          go_simp
          refine hK.out _ _ (trivial) (fun hHeld => ?_)
          clear hK K
          refine wpAnyH_done (by kernel_rfl) ?_ _
          refine NoPanic.normal ?_
          have HG8 : Hid (Blk (w7.setCell ⟨G, k * 37 + 33, none⟩ (.int .i64 q)) G (flatE (A ++ ⟨p, q, 0, 0, ByteArray.empty⟩ :: B))) := HG7.out.setPart k 33 HA.out [.int .i64 q] ⟨p, q, 0, 0, ByteArray.empty⟩ (by show 33 + 1 ≤ 37; omega) (in_seq ⟨p, 0, 0, 0, ByteArray.empty⟩ q)
          have HS8 : Hid (RdSt w (w7.setCell ⟨G, k * 37 + 33, none⟩ (.int .i64 q)) R N T sq [.slice (some ⟨G, 0, none⟩) n n, .slice none 0 0, .int .i64 0]) := HS7.out.other ((Keep.refl G w7).setCell (k * 37 + 33) _) hRT hbs hT2 hT
          clear HG7 HS7 HG6 HS6 HNK hHeld c0 c7 f7
          generalize w7.setCell ⟨G, k * 37 + 33, none⟩ (.int .i64 q) = w8 at *
          go_wp2_with fail
          go_roundw
          case rel => exact ⟨k + 1, by omega, by go_num, by rw [HNX.out]; exact HS8.out, by rw [HNX.out, HBE.out]; show Blk _ _ _; rw [← app_next]; exact HG8.out⟩
          case measure => simp [intOf]; omega
        · go_simp
          refine Calls.mono (HNK.out _ HS6.out.drew.rd) ?_; rintro e w7 ⟨rfl, hR7, hK7⟩; have HS7 : Hid (RdSt w w7 R N T sq [.slice (some ⟨G, 0, none⟩) n n, .slice none 0 0, .int .i64 0]) := HS6.out.drew.call hRT hR7 hK7; have HG7 : Hid (Blk w7 G (flatE (A ++ ⟨p, 0, 0, 0, ByteArray.empty⟩ :: B))) := HG6.out.drew.keep hK7 (by omega); have c7 : w7.cell? ⟨G, k * 37 + 33, none⟩ = some (.int .i64 0) := HG7.out.part k 33 HA.out _ (In.seq_at _); have f7 : w7.frozen? ⟨G, k * 37 + 33, none⟩ = false := HG7.out.frozen _; clear hR7 hK7; have c8 : w7.cell? ⟨T + 1, 0, none⟩ = some (.slice (some ⟨G, 0, none⟩) n n) := HS7.out.b1.one rfl
          go_simp
          refine hK.out _ _ (trivial) (fun hHeld => ?_)
          clear hK K
          refine wpAnyH_ready (rs := [1]) (by kernel_rfl) (by simp) ?_
          refine AllReadyH.cons (o := { dst := some 25, op := .load 58 (.tmp 24), type := 58, pos := "tx.go:180", after := #[{ on := 0, ground := .data }], guard := none }) rfl (fun K hK => ?_) AllReadyH.nil
          go_simp
          skip
          go_simp
          refine hK.out _ _ (trivial) (fun hHeld => ?_)
          clear hK K
          refine wpAnyH_take (i := 5) (oi := { dst := some 29, op := .indexAddr 58 (.tmp 25) (.tmp 26), type := 0, pos := "tx.go:180", after := #[{ on := 1, ground := .data }, { on := 2, ground := .data }, { on := 0, ground := .phase }, { on := 1, ground := .phase }, { on := 2, ground := .phase }, { on := 3, ground := .phase }, { on := 4, ground := .phase }], guard := none }) (v := ?_) rfl (by kernel_rfl) (by kernel_rfl) (by kernel_rfl) (fun _ _ _ h => h) (Or.inl ⟨by rfl, ?_⟩) (by assumption) ?_
          rotate_left
          · intro _ _; go_simp; first | done | with_reducible rfl
          simp only [Act.put, List.setIfInBounds_toArray, List.set_cons_zero, List.set_cons_succ]
          refine wpAnyH_take (i := 6) (oi := { dst := some 30, op := .fieldAddr 57 (.tmp 29) 1, type := 0, pos := "tx.go:180", after := #[{ on := 5, ground := .data }, { on := 0, ground := .phase }, { on := 1, ground := .phase }, { on := 2, ground := .phase }, { on := 3, ground := .phase }, { on := 4, ground := .phase }], guard := none }) (v := ?_) rfl (by kernel_rfl) (by kernel_rfl) (by kernel_rfl) (fun _ _ _ h => h) (Or.inl ⟨by rfl, ?_⟩) (by assumption) ?_
          rotate_left
          · intro _ _; go_simp; first | done | with_reducible rfl
          simp only [Act.put, List.setIfInBounds_toArray, List.set_cons_zero, List.set_cons_succ]
          refine wpAnyH_ready (rs := [7]) (by kernel_rfl) (by simp) ?_
          refine AllReadyH.cons (o := { dst := none, op := .store 3 (.tmp 30) (.tmp 28), type := 0, pos := "tx.go:180", after := #[{ on := 6, ground := .data }, { on := 4, ground := .data }, { on := 4, ground := .chain }, { on := 0, ground := .phase }, { on := 1, ground := .phase }, { on := 2, ground := .phase }, { on := 3, ground := .phase }, { on := 4, ground := .phase }], guard := none }) rfl (fun K hK => ?_) AllReadyH.nil
          go_simp
          skip
          go_simp
          refine hK.out _ _ (trivial) (fun hHeld => ?_)
          clear hK K
          refine wpAnyH_done (by kernel_rfl) ?_ _
          refine NoPanic.normal ?_
          have HG8 : Hid (Blk (w7.setCell ⟨G, k * 37 + 33, none⟩ (.int .i64 q)) G (flatE (A ++ ⟨p, q, 0, 0, ByteArray.empty⟩ :: B))) := HG7.out.setPart k 33 HA.out [.int .i64 q] ⟨p, q, 0, 0, ByteArray.empty⟩ (by show 33 + 1 ≤ 37; omega) (in_seq ⟨p, 0, 0, 0, ByteArray.empty⟩ q)
          have HS8 : Hid (RdSt w (w7.setCell ⟨G, k * 37 + 33, none⟩ (.int .i64 q)) R N T sq [.slice (some ⟨G, 0, none⟩) n n, .slice none 0 0, .int .i64 0]) := HS7.out.other ((Keep.refl G w7).setCell (k * 37 + 33) _) hRT hbs hT2 hT
          clear HG7 HS7 HG6 HS6 HNK hHeld c0 c7 f7
          generalize w7.setCell ⟨G, k * 37 + 33, none⟩ (.int .i64 q) = w8 at *
          go_wp2_with fail
          go_roundw
          case rel => exact ⟨k + 1, by omega, by go_num, by rw [HNX.out]; exact HS8.out, by rw [HNX.out, HBE.out]; show Blk _ _ _; rw [← app_next]; exact HG8.out⟩
          case measure => simp [intOf]; omega
      · go_simp
        refine Calls.mono (HPK.out _ HSk.out.drew.rd) ?_; rintro e w5 ⟨rfl, hR5, hK5⟩; have HS5 : Hid (RdSt w w5 R N T sp [.slice (some ⟨G, 0, none⟩) n n, .slice none 0 0, .int .i64 0]) := HSk.out.drew.call hRT hR5 hK5; have HG5 : Hid (Blk w5 G (flatE (A ++ default :: B))) := HGk.out.drew.keep hK5 (by omega); have HTH : Hid (w5.there G (k * 37) p.cs.length) := (by rw [Pt.cs_length]; exact HG5.out.therePart k 0 33 HA.out (by show 0 + 33 ≤ 37; omega)); clear hR5 hK5; have c6 : w5.cell? ⟨T + 1, 0, none⟩ = some (.slice (some ⟨G, 0, none⟩) n n) := HS5.out.b1.one rfl
        go_simp
        refine hK.out _ _ (trivial) (fun hHeld => ?_)
        clear hK K
        refine wpAnyH_ready (rs := [1]) (by kernel_rfl) (by simp) ?_
        refine AllReadyH.cons (o := { dst := some 18, op := .load 58 (.tmp 17), type := 58, pos := "tx.go:179", after := #[{ on := 0, ground := .data }], guard := none }) rfl (fun K hK => ?_) AllReadyH.nil
        go_simp
        skip
        go_simp
        refine hK.out _ _ (trivial) (fun hHeld => ?_)
        clear hK K
        refine wpAnyH_take (i := 5) (oi := { dst := some 22, op := .indexAddr 58 (.tmp 18) (.tmp 19), type := 0, pos := "tx.go:179", after := #[{ on := 1, ground := .data }, { on := 2, ground := .data }, { on := 0, ground := .phase }, { on := 1, ground := .phase }, { on := 2, ground := .phase }, { on := 3, ground := .phase }, { on := 4, ground := .phase }], guard := none }) (v := ?_) rfl (by kernel_rfl) (by kernel_rfl) (by kernel_rfl) (fun _ _ _ h => h) (Or.inl ⟨by rfl, ?_⟩) (by assumption) ?_
        rotate_left
        · intro _ _; go_simp; first | done | with_reducible rfl
        simp only [Act.put, List.setIfInBounds_toArray, List.set_cons_zero, List.set_cons_succ]
        refine wpAnyH_take (i := 6) (oi := { dst := some 23, op := .fieldAddr 57 (.tmp 22) 0, type := 0, pos := "tx.go:179", after := #[{ on := 5, ground := .data }, { on := 0, ground := .phase }, { on := 1, ground := .phase }, { on := 2, ground := .phase }, { on := 3, ground := .phase }, { on := 4, ground := .phase }], guard := none }) (v := ?_) rfl (by kernel_rfl) (by kernel_rfl) (by kernel_rfl) (fun _ _ _ h => h) (Or.inl ⟨by rfl, ?_⟩) (by assumption) ?_
        rotate_left
        · intro _ _; go_simp; first | done | with_reducible rfl
        simp only [Act.put, List.setIfInBounds_toArray, List.set_cons_zero, List.set_cons_succ]
        refine wpAnyH_ready (rs := [7]) (by kernel_rfl) (by simp) ?_
        refine AllReadyH.cons (o := { dst := none, op := .store 53 (.tmp 23) (.tmp 21), type := 0, pos := "tx.go:179", after := #[{ on := 6, ground := .data }, { on := 4, ground := .data }, { on := 4, ground := .chain }, { on := 0, ground := .phase }, { on := 1, ground := .phase }, { on := 2, ground := .phase }, { on := 3, ground := .phase }, { on := 4, ground := .phase }], guard := none }) rfl (fun K hK => ?_) AllReadyH.nil
        refine step_store_mid rfl 53 _ _ rfl G (k * 37) p.cs rfl rfl HTH.out (size_pt p) p.cs_mem ?_
        simp only [Act.put]
        refine hK.out _ _ (trivial) (fun hHeld => ?_)
        clear hK K
        refine wpAnyH_done (by kernel_rfl) ?_ _
        refine NoPanic.normal ?_
        have HG6 : Hid (Blk (w5.setCells G (k * 37) p.cs) G (flatE (A ++ ⟨p, 0, 0, 0, ByteArray.empty⟩ :: B))) := HG5.out.setPart k 0 HA.out p.cs ⟨p, 0, 0, 0, ByteArray.empty⟩ (by rw [Pt.cs_length]; show 0 + 33 ≤ 37; omega) (in_prev default p)
        have HS6 : Hid (RdSt w (w5.setCells G (k * 37) p.cs) R N T sp [.slice (some ⟨G, 0, none⟩) n n, .slice none 0 0, .int .i64 0]) := HS5.out.other ((Keep.refl G w5).setCells p.cs (k * 37)) hRT hbs hT2 hT
        clear HG5 HS5 HTH c0 HSk HGk HPK hHeld
        generalize w5.setCells G (k * 37) p.cs = w6 at *
        have c0 : w6.cell? ⟨T + 1, 0, none⟩ = some (.slice (some ⟨G, 0, none⟩) n n) := HS6.out.b1.one rfl
        go_upto_region 7 with fail
        refine wp_region_noPanic ?_
        refine wp_region_held_drew (S := fun _ => True) HMO.out (trivial) (fun hHeld => ?_)
        refine wpAnyH_take (i := 0) (oi := { dst := some 24, op := .fieldAddr 61 (.tmp 3) 0, type := 0, pos := "tx.go:180", after := #[], guard := none }) (v := ?_) rfl (by kernel_rfl) (by kernel_rfl) (by kernel_rfl) (fun _ _ _ h => h) (Or.inl ⟨by rfl, ?_⟩) (by assumption) ?_
        rotate_left
        · intro _ _; go_simp; first | done | with_reducible rfl
        simp only [Act.put, List.setIfInBounds_toArray, List.set_cons_zero, List.set_cons_succ]
        refine wpAnyH_take (i := 2) (oi := { dst := some 26, op := .move (.tmp 4), type := 3, pos := "tx.go:180", after := #[], guard := none }) (v := ?_) rfl (by kernel_rfl) (by kernel_rfl) (by kernel_rfl) (fun _ _ _ h => h) (Or.inl ⟨by rfl, ?_⟩) (by assumption) ?_
        rotate_left
        · intro _ _; go_simp; first | done | with_reducible rfl
        simp only [Act.put, List.setIfInBounds_toArray, List.set_cons_zero, List.set_cons_succ]
        refine wpAnyH_take (i := 3) (oi := { dst := some 27, op := .move (.tmp 0), type := 82, pos := "tx.go:180", after := #[], guard := none }) (v := ?_) rfl (by kernel_rfl) (by kernel_rfl) (by kernel_rfl) (fun _ _ _ h => h) (Or.inl ⟨by rfl, ?_⟩) (by assumption) ?_
        rotate_left
        · intro _ _; go_simp; first | done | with_reducible rfl
        simp only [Act.put, List.setIfInBounds_toArray, List.set_cons_zero, List.set_cons_succ]
        refine wpAnyH_ready (rs := [1, 4]) (by kernel_rfl) (by simp) ?_
        refine (AllReadyH.cons (o := { dst := some 25, op := .load 58 (.tmp 24), type := 58, pos := "tx.go:180", after := #[{ on := 0, ground := .data }], guard := none }) rfl (fun K hK => ?_) (AllReadyH.cons (o := { dst := some 28, op := .call { callee := .value (.func 68), args := #[.tmp 27], argTypes := #[82] }, type := 3, pos := "tx.go:180", after := #[{ on := 3, ground := .data }], guard := none }) rfl (fun K hK => ?_) AllReadyH.nil))
        · go_simp
          skip
          go_simp
          refine hK.out _ _ (trivial) (fun hHeld => ?_)
          clear hK K
          refine wpAnyH_ready (rs := [4]) (by kernel_rfl) (by simp) ?_
          refine AllReadyH.cons (o := { dst := some 28, op := .call { callee := .value (.func 68), args := #[.tmp 27], argTypes := #[82] }, type := 3, pos := "tx.go:180", after := #[{ on := 3, ground := .data }], guard := none }) rfl (fun K hK => ?_) AllReadyH.nil
          go_simp
          refine Calls.mono (HNK.out _ HS6.out.drew.rd) ?_; rintro e w7 ⟨rfl, hR7, hK7⟩; have HS7 : Hid (RdSt w w7 R N T sq [.slice (some ⟨G, 0, none⟩) n n, .slice none 0 0, .int .i64 0]) := HS6.out.drew.call hRT hR7 hK7; have HG7 : Hid (Blk w7 G (flatE (A ++ ⟨p, 0, 0, 0, ByteArray.empty⟩ :: B))) := HG6.out.drew.keep hK7 (by omega); have c7 : w7.cell? ⟨G, k * 37 + 33, none⟩ = some (.int .i64 0) := HG7.out.part k 33 HA.out _ (In.seq_at _); have f7 : w7.frozen? ⟨G, k * 37 + 33, none⟩ = false := HG7.out.frozen _; clear hR7 hK7
          go_simp
          refine hK.out _ _ (trivial) (fun hHeld => ?_)
          clear hK K
          refine wpAnyH_take (i := 5) (oi := { dst := some 29, op := .indexAddr 58 (.tmp 25) (.tmp 26), type := 0, pos := "tx.go:180", after := #[{ on := 1, ground := .data }, { on := 2, ground := .data }, { on := 0, ground := .phase }, { on := 1, ground := .phase }, { on := 2, ground := .phase }, { on := 3, ground := .phase }, { on := 4, ground := .phase }], guard := none }) (v := ?_) rfl (by kernel_rfl) (by kernel_rfl) (by kernel_rfl) (fun _ _ _ h => h) (Or.inl ⟨by rfl, ?_⟩) (by assumption) ?_
          rotate_left
          · intro _ _; go_simp; first | done | with_reducible rfl
          simp only [Act.put, List.setIfInBounds_toArray, List.set_cons_zero, List.set_cons_succ]
          refine wpAnyH_take (i := 6) (oi := { dst := some 30, op := .fieldAddr 57 (.tmp 29) 1, type := 0, pos := "tx.go:180", after := #[{ on := 5, ground := .data }, { on := 0, ground := .phase }, { on := 1, ground := .phase }, { on := 2, ground := .phase }, { on := 3, ground := .phase }, { on := 4, ground := .phase }], guard := none }) (v := ?_) rfl (by kernel_rfl) (by kernel_rfl) (by kernel_rfl) (fun _ _ _ h => h) (Or.inl ⟨by rfl, ?_⟩) (by assumption) ?_
          rotate_left
          · intro _ _; go_simp; first | done | with_reducible rfl
          simp only [Act.put, List.setIfInBounds_toArray, List.set_cons_zero, List.set_cons_succ]
          refine wpAnyH_ready (rs := [7]) (by kernel_rfl) (by simp) ?_
          refine AllReadyH.cons (o := { dst := none, op := .store 3 (.tmp 30) (.tmp 28), type := 0, pos := "tx.go:180", after := #[{ on := 6, ground := .data }, { on := 4, ground := .data }, { on := 4, ground := .chain }, { on := 0, ground := .phase }, { on := 1, ground := .phase }, { on := 2, ground := .phase }, { on := 3, ground := .phase }, { on := 4, ground := .phase }], guard := none }) rfl (fun K hK => ?_) AllReadyH.nil
          go_simp
          skip
          go_simp
          refine hK.out _ _ (trivial) (fun hHeld => ?_)
          clear hK K
          refine wpAnyH_done (by kernel_rfl) ?_ _
          refine NoPanic.normal ?_
          have HG8 : Hid (Blk (w7.setCell ⟨G, k * 37 + 33, none⟩ (.int .i64 q)) G (flatE (A ++ ⟨p, q, 0, 0, ByteArray.empty⟩ :: B))) := HG7.out.setPart k 33 HA.out [.int .i64 q] ⟨p, q, 0, 0, ByteArray.empty⟩ (by show 33 + 1 ≤ 37; omega) (in_seq ⟨p, 0, 0, 0, ByteArray.empty⟩ q)
          have HS8 : Hid (RdSt w (w7.setCell ⟨G, k * 37 + 33, none⟩ (.int .i64 q)) R N T sq [.slice (some ⟨G, 0, none⟩) n n, .slice none 0 0, .int .i64 0]) := HS7.out.other ((Keep.refl G w7).setCell (k * 37 + 33) _) hRT hbs hT2 hT
          clear HG7 HS7 HG6 HS6 HNK hHeld c0 c7 f7
          generalize w7.setCell ⟨G, k * 37 + 33, none⟩ (.int .i64 q) = w8 at *
          go_wp2_with fail
          go_roundw
          case rel => exact ⟨k + 1, by omega, by go_num, by rw [HNX.out]; exact HS8.out, by rw [HNX.out, HBE.out]; show Blk _ _ _; rw [← app_next]; exact HG8.out⟩
          case measure => simp [intOf]; omega
        · go_simp
          refine Calls.mono (HNK.out _ HS6.out.drew.rd) ?_; rintro e w7 ⟨rfl, hR7, hK7⟩; have HS7 : Hid (RdSt w w7 R N T sq [.slice (some ⟨G, 0, none⟩) n n, .slice none 0 0, .int .i64 0]) := HS6.out.drew.call hRT hR7 hK7; have HG7 : Hid (Blk w7 G (flatE (A ++ ⟨p, 0, 0, 0, ByteArray.empty⟩ :: B))) := HG6.out.drew.keep hK7 (by omega); have c7 : w7.cell? ⟨G, k * 37 + 33, none⟩ = some (.int .i64 0) := HG7.out.part k 33 HA.out _ (In.seq_at _); have f7 : w7.frozen? ⟨G, k * 37 + 33, none⟩ = false := HG7.out.frozen _; clear hR7 hK7; have c8 : w7.cell? ⟨T + 1, 0, none⟩ = some (.slice (some ⟨G, 0, none⟩) n n) := HS7.out.b1.one rfl
          go_simp
          refine hK.out _ _ (trivial) (fun hHeld => ?_)
          clear hK K
          refine wpAnyH_ready (rs := [1]) (by kernel_rfl) (by simp) ?_
          refine AllReadyH.cons (o := { dst := some 25, op := .load 58 (.tmp 24), type := 58, pos := "tx.go:180", after := #[{ on := 0, ground := .data }], guard := none }) rfl (fun K hK => ?_) AllReadyH.nil
          go_simp
          skip
          go_simp
          refine hK.out _ _ (trivial) (fun hHeld => ?_)
          clear hK K
          refine wpAnyH_take (i := 5) (oi := { dst := some 29, op := .indexAddr 58 (.tmp 25) (.tmp 26), type := 0, pos := "tx.go:180", after := #[{ on := 1, ground := .data }, { on := 2, ground := .data }, { on := 0, ground := .phase }, { on := 1, ground := .phase }, { on := 2, ground := .phase }, { on := 3, ground := .phase }, { on := 4, ground := .phase }], guard := none }) (v := ?_) rfl (by kernel_rfl) (by kernel_rfl) (by kernel_rfl) (fun _ _ _ h => h) (Or.inl ⟨by rfl, ?_⟩) (by assumption) ?_
          rotate_left
          · intro _ _; go_simp; first | done | with_reducible rfl
          simp only [Act.put, List.setIfInBounds_toArray, List.set_cons_zero, List.set_cons_succ]
          refine wpAnyH_take (i := 6) (oi := { dst := some 30, op := .fieldAddr 57 (.tmp 29) 1, type := 0, pos := "tx.go:180", after := #[{ on := 5, ground := .data }, { on := 0, ground := .phase }, { on := 1, ground := .phase }, { on := 2, ground := .phase }, { on := 3, ground := .phase }, { on := 4, ground := .phase }], guard := none }) (v := ?_) rfl (by kernel_rfl) (by kernel_rfl) (by kernel_rfl) (fun _ _ _ h => h) (Or.inl ⟨by rfl, ?_⟩) (by assumption) ?_
          rotate_left
          · intro _ _; go_simp; first | done | with_reducible rfl
          simp only [Act.put, List.setIfInBounds_toArray, List.set_cons_zero, List.set_cons_succ]
          refine wpAnyH_ready (rs := [7]) (by kernel_rfl) (by simp) ?_
          refine AllReadyH.cons (o := { dst := none, op := .store 3 (.tmp 30) (.tmp 28), type := 0, pos := "tx.go:180", after := #[{ on := 6, ground := .data }, { on := 4, ground := .data }, { on := 4, ground := .chain }, { on := 0, ground := .phase }, { on := 1, ground := .phase }, { on := 2, ground := .phase }, { on := 3, ground := .phase }, { on := 4, ground := .phase }], guard := none }) rfl (fun K hK => ?_) AllReadyH.nil
          go_simp
          skip
          go_simp
          refine hK.out _ _ (trivial) (fun hHeld => ?_)
          clear hK K
          refine wpAnyH_done (by kernel_rfl) ?_ _
          refine NoPanic.normal ?_
          have HG8 : Hid (Blk (w7.setCell ⟨G, k * 37 + 33, none⟩ (.int .i64 q)) G (flatE (A ++ ⟨p, q, 0, 0, ByteArray.empty⟩ :: B))) := HG7.out.setPart k 33 HA.out [.int .i64 q] ⟨p, q, 0, 0, ByteArray.empty⟩ (by show 33 + 1 ≤ 37; omega) (in_seq ⟨p, 0, 0, 0, ByteArray.empty⟩ q)
          have HS8 : Hid (RdSt w (w7.setCell ⟨G, k * 37 + 33, none⟩ (.int .i64 q)) R N T sq [.slice (some ⟨G, 0, none⟩) n n, .slice none 0 0, .int .i64 0]) := HS7.out.other ((Keep.refl G w7).setCell (k * 37 + 33) _) hRT hbs hT2 hT
          clear HG7 HS7 HG6 HS6 HNK hHeld c0 c7 f7
          generalize w7.setCell ⟨G, k * 37 + 33, none⟩ (.int .i64 q) = w8 at *
          go_wp2_with fail
          go_roundw
          case rel => exact ⟨k + 1, by omega, by go_num, by rw [HNX.out]; exact HS8.out, by rw [HNX.out, HBE.out]; show Blk _ _ _; rw [← app_next]; exact HG8.out⟩
          case measure => simp [intOf]; omega
    · obtain rfl : n = k := by omega
      have HIE : Hid (rMany rIn n s1 = ((rMany rIn n s1).1, (rMany rIn n s1).2)) := rfl
      obtain ⟨I, hI⟩ : ∃ A, (rMany rIn n s1).1 = A := ⟨_, rfl⟩
      obtain ⟨s2, hs2⟩ : ∃ x, (rMany rIn n s1).2 = x := ⟨_, rfl⟩
      rw [hI, hs2] at HIE
      rw [hI, Nat.sub_self, List.replicate_zero, List.append_nil] at HGk
      rw [hs2] at HSk
      have HIL : Hid (I.length = n) := show _ = _ by rw [← hI]; exact rMany_length _ _ _
      clear hI hs2
      go_upto_region 9 with fail
      obtain ⟨m, hm⟩ : ∃ m : Nat, (rC s2 100).1 = m := ⟨(rC s2 100).1.toNat, by have := (rC_range s2 100 (by omega)).1; omega⟩
      have hm100 : m ≤ 100 := by have := (rC_range s2 100 (by omega)).2; omega
      have HM : Hid ((rC s2 100).1 = m) := hm
      obtain ⟨s3, hs3⟩ : ∃ s3, (rC s2 100).2 = s3 := ⟨_, rfl⟩
      have HS3 : Hid ((rC s2 100).2 = s3) := hs3
      clear hm hs3
      go_wp2_with fail
      refine Calls.mono (HCOUNT.out s2 wr HSk.out.rd) ?_
      rintro e x2 ⟨rfl, hR2, hK2⟩
      rw [HM.out]
      rw [HS3.out] at hR2
      have HSx : Hid (RdSt w x2 R N T s3 [.slice (some ⟨G, 0, none⟩) n n, .slice none 0 0, .int .i64 0]) := HSk.out.call hRT hR2 hK2
      have HIx : Hid (Blk x2 G (flatE I)) := HGk.out.keep hK2 (by omega)
      have hG2 := HIx.out.lt
      clear hR2 hK2 HSk HGk
      go_wp2_with (at_make; refine wpList_make_full _ rfl _ _ 59 rfl x2.heap.size 67 j0 (.agg (default : Out).cs.toArray) 39 Tryz.underlying59 hj0 hj1 hj2 .i64 .i64 _ _ m rfl rfl rfl rfl (by rw [hj3]; omega) (by unfold maxLen; omega) (Nat.le_refl _) ?_)
      intro x3 hown hgrow
      have hb3 : Below x2.heap.size x2 x3 := (Below.refl _ x2).grown hgrow (Nat.le_refl _) (by simp)
      have HJ3 : Hid (Blk x3 x2.heap.size (flatE (List.replicate m (default : Out)))) := by
        refine ⟨67, ?_⟩
        rw [← madeE (default : Out) m (by decide)]
        exact Blk.made hown
      have HSy : Hid (RdSt w x3 R N T s3 [.slice (some ⟨G, 0, none⟩) n n, .slice none 0 0, .int .i64 0]) := HSx.out.call hRT (HSx.out.rd.below hb3) (Keep.of_below hb3)
      have HIy : Hid (Blk x3 G (flatE I)) := HIx.out.below hb3 hG2
      clear hown hgrow hb3 HSx HIx hj0 hj1 hj2 hj3
      generalize hJ : x2.heap.size = J at *
      have c1 : x3.cell? ⟨T + 1, 1, none⟩ = some (.slice none 0 0) := HSy.out.b1.one rfl
      have f1 : x3.frozen? ⟨T + 1, 1, none⟩ = false := HSy.out.b1.frozen 1
      go_upto_region 10 with fail
      have HSz : Hid (RdSt w (x3.setCell ⟨T + 1, 1, none⟩ (.slice (some ⟨J, 0, none⟩) m m)) R N T s3 [.slice (some ⟨G, 0, none⟩) n n, .slice (some ⟨J, 0, none⟩) m m, .int .i64 0]) := HSy.out.own hRT hbs hT 1 _
      have HIz : Hid (Blk (x3.setCell ⟨T + 1, 1, none⟩ (.slice (some ⟨J, 0, none⟩) m m)) G (flatE I)) := HIy.out.other (by show G ≠ T + 1; omega) _
      have HJz : Hid (Blk (x3.setCell ⟨T + 1, 1, none⟩ (.slice (some ⟨J, 0, none⟩) m m)) J (flatE (List.replicate m (default : Out)))) := HJ3.out.other (by show J ≠ T + 1; omega) _
      generalize x3.setCell ⟨T + 1, 1, none⟩ (.slice (some ⟨J, 0, none⟩) m m) = x4 at *
      clear c1 f1 HSy HIy HJ3
      have c1 : x4.cell? ⟨T + 1, 1, none⟩ = some (.slice (some ⟨J, 0, none⟩) m m) := HSz.out.b1.one rfl
      go_wp2_with fail
      clear c1
      go_loopw [39] (fun i yr => ∃ k : Nat, k ≤ m ∧ i = .int .i64 k ∧ Hid (RdSt w yr R N T (rMany rOut k s3).2 [.slice (some ⟨G, 0, none⟩) n n, .slice (some ⟨J, 0, none⟩) m m, .int .i64 0]) ∧ Hid (Blk yr J (flatE ((rMany rOut k s3).1 ++ List.replicate (m - k) (default : Out)))) ∧ Hid (Blk yr G (flatE I))) (fun i _ => m - (intOf i).toNat)
      case atStart => exact ⟨0, by omega, rfl, HSz.out, HJz.out, HIz.out⟩
      case round =>
        obtain ⟨k, hkm, rfl, HSj, HGj, HIj⟩ := hrel
        clear HSz HJz HIz
        by_cases hlt2 : k < m
        · have e0 : (0 : Int) ≤ (k : Int) := by omega
          have e1 : (k : Int) < (m : Int) := by omega
          obtain ⟨A, hA⟩ : ∃ A, (rMany rOut k s3).1 = A := ⟨_, rfl⟩
          obtain ⟨sk, hsk⟩ : ∃ x, (rMany rOut k s3).2 = x := ⟨_, rfl⟩
          obtain ⟨v, sv, c, sc, hv, hsv, hc, hsc⟩ : ∃ v sv c sc, (rN sk).1 = v ∧ (rN sk).2 = sv ∧ (rS sv).1 = c ∧ (rS sv).2 = sc := ⟨_, _, _, _, rfl, rfl, rfl, rfl⟩
          have HNX : Hid (rMany rOut (k + 1) s3 = (A ++ [⟨v, c⟩], sc)) := show _ = _ by
            rw [rMany, hA, hsk]; unfold rOut; rw [hsv, hv, hc, hsc]
          have HA : Hid (A.length = k) := show _ = _ by rw [← hA]; exact rMany_length _ _ _
          have HVK : Hid (∀ w, Rd w R N sk → Calls Tryz.prog 68 #[.pointer (some ⟨R, 0, none⟩)] w fun e w' => e = .returned (.int .i64 v) ∧ Rd w' R N sv ∧ Keep R w w') := fun w h => by
            have := HNUM.out sk w h
            rwa [hv, hsv] at this
          have HCK : Hid (∀ w, Rd w R N sv → Calls Tryz.prog 102 #[.pointer (some ⟨R, 0, none⟩)] w fun e w' => e = .returned (.agg c.cs.toArray) ∧ Rd w' R N sc ∧ Keep R w w') := fun w h => by
            have := HSCRIPT.out sv w h
            rwa [hc, hsc] at this
          rw [hA, rep_next _ m k hlt2] at HGj
          rw [hsk] at HSj
          clear hA hsk hv hsv hc hsc
          obtain ⟨B, hB⟩ : ∃ B, List.replicate (m - (k + 1)) (default : Out) = B := ⟨_, rfl⟩
          rw [hB] at HGj
          have HBE : Hid (List.replicate (m - (k + 1)) (default : Out) = B) := hB
          clear hB
          go_upto_region 13 with fail
          have c0 : wr.cell? ⟨T + 1, 1, none⟩ = some (.slice (some ⟨J, 0, none⟩) m m) := HSj.out.b1.one rfl
          refine wp_region_noPanic ?_
          refine wp_region_held_drew (S := fun _ => True) HMO.out (trivial) (fun hHeld => ?_)
          refine wpAnyH_take (i := 0) (oi := { dst := some 42, op := .fieldAddr 61 (.tmp 3) 1, type := 0, pos := "tx.go:184", after := #[], guard := none }) (v := ?_) rfl (by kernel_rfl) (by kernel_rfl) (by kernel_rfl) (fun _ _ _ h => h) (Or.inl ⟨by rfl, ?_⟩) (by assumption) ?_
          rotate_left
          · intro _ _; go_simp; first | done | with_reducible rfl
          simp only [Act.put, List.setIfInBounds_toArray, List.set_cons_zero, List.set_cons_succ]
          refine wpAnyH_take (i := 2) (oi := { dst := some 44, op := .move (.tmp 5), type := 3, pos := "tx.go:184", after := #[], guard := none }) (v := ?_) rfl (by kernel_rfl) (by kernel_rfl) (by kernel_rfl) (fun _ _ _ h => h) (Or.inl ⟨by rfl, ?_⟩) (by assumption) ?_
          rotate_left
          · intro _ _; go_simp; first | done | with_reducible rfl
          simp only [Act.put, List.setIfInBounds_toArray, List.set_cons_zero, List.set_cons_succ]
          refine wpAnyH_take (i := 3) (oi := { dst := some 45, op := .move (.tmp 0), type := 82, pos := "tx.go:184", after := #[], guard := none }) (v := ?_) rfl (by kernel_rfl) (by kernel_rfl) (by kernel_rfl) (fun _ _ _ h => h) (Or.inl ⟨by rfl, ?_⟩) (by assumption) ?_
          rotate_left
          · intro _ _; go_simp; first | done | with_reducible rfl
          simp only [Act.put, List.setIfInBounds_toArray, List.set_cons_zero, List.set_cons_succ]
          refine wpAnyH_ready (rs := [1, 4]) (by kernel_rfl) (by simp) ?_
          refine (AllReadyH.cons (o := { dst := some 43, op := .load 59 (.tmp 42), type := 59, pos := "tx.go:184", after := #[{ on := 0, ground := .data }], guard := none }) rfl (fun K hK => ?_) (AllReadyH.cons (o := { dst := some 46, op := .call { callee := .value (.func 68), args := #[.tmp 45], argTypes := #[82] }, type := 3, pos := "tx.go:184", after := #[{ on := 3, ground := .data }], guard := none }) rfl (fun K hK => ?_) AllReadyH.nil))
          · go_simp
            skip
            go_simp
            refine hK.out _ _ (trivial) (fun hHeld => ?_)
            clear hK K
            refine wpAnyH_ready (rs := [4]) (by kernel_rfl) (by simp) ?_
            refine AllReadyH.cons (o := { dst := some 46, op := .call { callee := .value (.func 68), args := #[.tmp 45], argTypes := #[82] }, type := 3, pos := "tx.go:184", after := #[{ on := 3, ground := .data }], guard := none }) rfl (fun K hK => ?_) AllReadyH.nil
            go_simp
            refine Calls.mono (HVK.out _ HSj.out.drew.rd) ?_; rintro e y5 ⟨rfl, hR5, hK5⟩; have HS5 : Hid (RdSt w y5 R N T sv [.slice (some ⟨G, 0, none⟩) n n, .slice (some ⟨J, 0, none⟩) m m, .int .i64 0]) := HSj.out.drew.call hRT hR5 hK5; have HG5 : Hid (Blk y5 J (flatE (A ++ default :: B))) := HGj.out.drew.keep hK5 (by omega); have HI5 : Hid (Blk y5 G (flatE I)) := HIj.out.drew.keep hK5 (by omega); have c7 : y5.cell? ⟨J, k * 39, none⟩ = some (.int .i64 0) := HG5.out.part k 0 HA.out _ rfl; have f7 : y5.frozen? ⟨J, k * 39, none⟩ = false := HG5.out.frozen _; clear hR5 hK5
            go_simp
            refine hK.out _ _ (trivial) (fun hHeld => ?_)
            clear hK K
            refine wpAnyH_take (i := 5) (oi := { dst := some 47, op := .indexAddr 59 (.tmp 43) (.tmp 44), type := 0, pos := "tx.go:184", after := #[{ on := 1, ground := .data }, { on := 2, ground := .data }, { on := 0, ground := .phase }, { on := 1, ground := .phase }, { on := 2, ground := .phase }, { on := 3, ground := .phase }, { on := 4, ground := .phase }], guard := none }) (v := ?_) rfl (by kernel_rfl) (by kernel_rfl) (by kernel_rfl) (fun _ _ _ h => h) (Or.inl ⟨by rfl, ?_⟩) (by assumption) ?_
            rotate_left
            · intro _ _; go_simp; first | done | with_reducible rfl
            simp only [Act.put, List.setIfInBounds_toArray, List.set_cons_zero, List.set_cons_succ]
            refine wpAnyH_take (i := 6) (oi := { dst := some 48, op := .fieldAddr 67 (.tmp 47) 0, type := 0, pos := "tx.go:184", after := #[{ on := 5, ground := .data }, { on := 0, ground := .phase }, { on := 1, ground := .phase }, { on := 2, ground := .phase }, { on := 3, ground := .phase }, { on := 4, ground := .phase }], guard := none }) (v := ?_) rfl (by kernel_rfl) (by kernel_rfl) (by kernel_rfl) (fun _ _ _ h => h) (Or.inl ⟨by rfl, ?_⟩) (by assumption) ?_
            rotate_left
            · intro _ _; go_simp; first | done | with_reducible rfl
            simp only [Act.put, List.setIfInBounds_toArray, List.set_cons_zero, List.set_cons_succ]
            refine wpAnyH_ready (rs := [7]) (by kernel_rfl) (by simp) ?_
            refine AllReadyH.cons (o := { dst := none, op := .store 3 (.tmp 48) (.tmp 46), type := 0, pos := "tx.go:184", after := #[{ on := 6, ground := .data }, { on := 4, ground := .data }, { on := 4, ground := .chain }, { on := 0, ground := .phase }, { on := 1, ground := .phase }, { on := 2, ground := .phase }, { on := 3, ground := .phase }, { on := 4, ground := .phase }], guard := none }) rfl (fun K hK => ?_) AllReadyH.nil
            go_simp
            skip
            go_simp
            refine hK.out _ _ (trivial) (fun hHeld => ?_)
            clear hK K
            refine wpAnyH_done (by kernel_rfl) ?_ _
            refine NoPanic.normal ?_
            have HG6 : Hid (Blk (y5.setCell ⟨J, k * 39, none⟩ (.int .i64 v)) J (flatE (A ++ ⟨v, default⟩ :: B))) := HG5.out.setPart k 0 HA.out [.int .i64 v] ⟨v, default⟩ (by show 0 + 1 ≤ 39; omega) (out_value default v)
            have HS6 : Hid (RdSt w (y5.setCell ⟨J, k * 39, none⟩ (.int .i64 v)) R N T sv [.slice (some ⟨G, 0, none⟩) n n, .slice (some ⟨J, 0, none⟩) m m, .int .i64 0]) := HS5.out.other ((Keep.refl J y5).setCell (k * 39) _) hRT hbs (by omega) hT
            have HI6 : Hid (Blk (y5.setCell ⟨J, k * 39, none⟩ (.int .i64 v)) G (flatE I)) := HI5.out.other (by show G ≠ J; omega) _
            clear HG5 HS5 HI5 c0 HSj HGj HIj HVK hHeld c7 f7
            generalize y5.setCell ⟨J, k * 39, none⟩ (.int .i64 v) = y6 at *
            have c0 : y6.cell? ⟨T + 1, 1, none⟩ = some (.slice (some ⟨J, 0, none⟩) m m) := HS6.out.b1.one rfl
            go_upto_region 14 with fail
            refine wp_region_noPanic ?_
            refine wp_region_held_drew (S := fun _ => True) HMO.out (trivial) (fun hHeld => ?_)
            refine wpAnyH_take (i := 0) (oi := { dst := some 49, op := .fieldAddr 61 (.tmp 3) 1, type := 0, pos := "tx.go:185", after := #[], guard := none }) (v := ?_) rfl (by kernel_rfl) (by kernel_rfl) (by kernel_rfl) (fun _ _ _ h => h) (Or.inl ⟨by rfl, ?_⟩) (by assumption) ?_
            rotate_left
            · intro _ _; go_simp; first | done | with_reducible rfl
            simp only [Act.put, List.setIfInBounds_toArray, List.set_cons_zero, List.set_cons_succ]
            refine wpAnyH_take (i := 2) (oi := { dst := some 51, op := .move (.tmp 5), type := 3, pos := "tx.go:185", after := #[], guard := none }) (v := ?_) rfl (by kernel_rfl) (by kernel_rfl) (by kernel_rfl) (fun _ _ _ h => h) (Or.inl ⟨by rfl, ?_⟩) (by assumption) ?_
            rotate_left
            · intro _ _; go_simp; first | done | with_reducible rfl
            simp only [Act.put, List.setIfInBounds_toArray, List.set_cons_zero, List.set_cons_succ]
            refine wpAnyH_take (i := 3) (oi := { dst := some 52, op := .move (.tmp 0), type := 82, pos := "tx.go:185", after := #[], guard := none }) (v := ?_) rfl (by kernel_rfl) (by kernel_rfl) (by kernel_rfl) (fun _ _ _ h => h) (Or.inl ⟨by rfl, ?_⟩) (by assumption) ?_
            rotate_left
            · intro _ _; go_simp; first | done | with_reducible rfl
            simp only [Act.put, List.setIfInBounds_toArray, List.set_cons_zero, List.set_cons_succ]
            refine wpAnyH_ready (rs := [1, 4]) (by kernel_rfl) (by simp) ?_
            refine (AllReadyH.cons (o := { dst := some 50, op := .load 59 (.tmp 49), type := 59, pos := "tx.go:185", after := #[{ on := 0, ground := .data }], guard := none }) rfl (fun K hK => ?_) (AllReadyH.cons (o := { dst := some 53, op := .call { callee := .value (.func 102), args := #[.tmp 52], argTypes := #[82] }, type := 65, pos := "tx.go:185", after := #[{ on := 3, ground := .data }], guard := none }) rfl (fun K hK => ?_) AllReadyH.nil))
            · go_simp
              skip
              go_simp
              refine hK.out _ _ (trivial) (fun hHeld => ?_)
              clear hK K
              refine wpAnyH_ready (rs := [4]) (by kernel_rfl) (by simp) ?_
              refine AllReadyH.cons (o := { dst := some 53, op := .call { callee := .value (.func 102), args := #[.tmp 52], argTypes := #[82] }, type := 65, pos := "tx.go:185", after := #[{ on := 3, ground := .data }], guard := none }) rfl (fun K hK => ?_) AllReadyH.nil
              go_simp
              refine Calls.mono (HCK.out _ HS6.out.drew.rd) ?_; rintro e y7 ⟨rfl, hR7, hK7⟩; have HS7 : Hid (RdSt w y7 R N T sc [.slice (some ⟨G, 0, none⟩) n n, .slice (some ⟨J, 0, none⟩) m m, .int .i64 0]) := HS6.out.drew.call hRT hR7 hK7; have HG7 : Hid (Blk y7 J (flatE (A ++ ⟨v, default⟩ :: B))) := HG6.out.drew.keep hK7 (by omega); have HI7 : Hid (Blk y7 G (flatE I)) := HI6.out.drew.keep hK7 (by omega); have HTH : Hid (y7.there J (k * 39 + 1) c.cs.length) := (by rw [Scr.cs_length]; exact HG7.out.therePart k 1 38 HA.out (by show 1 + 38 ≤ 39; omega)); clear hR7 hK7
              go_simp
              refine hK.out _ _ (trivial) (fun hHeld => ?_)
              clear hK K
              refine wpAnyH_take (i := 5) (oi := { dst := some 54, op := .indexAddr 59 (.tmp 50) (.tmp 51), type := 0, pos := "tx.go:185", after := #[{ on := 1, ground := .data }, { on := 2, ground := .data }, { on := 0, ground := .phase }, { on := 1, ground := .phase }, { on := 2, ground := .phase }, { on := 3, ground := .phase }, { on := 4, ground := .phase }], guard := none }) (v := ?_) rfl (by kernel_rfl) (by kernel_rfl) (by kernel_rfl) (fun _ _ _ h => h) (Or.inl ⟨by rfl, ?_⟩) (by assumption) ?_
              rotate_left
              · intro _ _; go_simp; first | done | with_reducible rfl
              simp only [Act.put, List.setIfInBounds_toArray, List.set_cons_zero, List.set_cons_succ]
              refine wpAnyH_take (i := 6) (oi := { dst := some 55, op := .fieldAddr 67 (.tmp 54) 1, type := 0, pos := "tx.go:185", after := #[{ on := 5, ground := .data }, { on := 0, ground := .phase }, { on := 1, ground := .phase }, { on := 2, ground := .phase }, { on := 3, ground := .phase }, { on := 4, ground := .phase }], guard := none }) (v := ?_) rfl (by kernel_rfl) (by kernel_rfl) (by kernel_rfl) (fun _ _ _ h => h) (Or.inl ⟨by rfl, ?_⟩) (by assumption) ?_
              rotate_left
              · intro _ _; go_simp; first | done | with_reducible rfl
              simp only [Act.put, List.setIfInBounds_toArray, List.set_cons_zero, List.set_cons_succ]
              refine wpAnyH_ready (rs := [7]) (by kernel_rfl) (by simp) ?_
              refine AllReadyH.cons (o := { dst := none, op := .store 65 (.tmp 55) (.tmp 53), type := 0, pos := "tx.go:185", after := #[{ on := 6, ground := .data }, { on := 4, ground := .data }, { on := 4, ground := .chain }, { on := 0, ground := .phase }, { on := 1, ground := .phase }, { on := 2, ground := .phase }, { on := 3, ground := .phase }, { on := 4, ground := .phase }], guard := none }) rfl (fun K hK => ?_) AllReadyH.nil
              refine step_store_mid rfl 65 _ _ rfl J (k * 39 + 1) c.cs rfl rfl HTH.out (size_scr c) c.cs_mem ?_
              simp only [Act.put]
              refine hK.out _ _ (trivial) (fun hHeld => ?_)
              clear hK K
              refine wpAnyH_done (by kernel_rfl) ?_ _
              refine NoPanic.normal ?_
              have HG8 : Hid (Blk (y7.setCells J (k * 39 + 1) c.cs) J (flatE (A ++ ⟨v, c⟩ :: B))) := HG7.out.setPart k 1 HA.out c.cs ⟨v, c⟩ (by rw [Scr.cs_length]; show 1 + 38 ≤ 39; omega) (out_scr ⟨v, default⟩ c)
              have HS8 : Hid (RdSt w (y7.setCells J (k * 39 + 1) c.cs) R N T sc [.slice (some ⟨G, 0, none⟩) n n, .slice (some ⟨J, 0, none⟩) m m, .int .i64 0]) := HS7.out.other ((Keep.refl J y7).setCells c.cs (k * 39 + 1)) hRT hbs (by omega) hT
              have HI8 : Hid (Blk (y7.setCells J (k * 39 + 1) c.cs) G (flatE I)) := HI7.out.keep ((Keep.refl J y7).setCells c.cs (k * 39 + 1)) (by omega)
              clear HG7 HS7 HI7 HG6 HS6 HI6 HCK HTH hHeld c0
              generalize y7.setCells J (k * 39 + 1) c.cs = y8 at *
              go_wp2_with fail
              go_roundw
              case rel => exact ⟨k + 1, by omega, by go_num, by rw [HNX.out]; exact HS8.out, by rw [HNX.out, HBE.out]; show Blk _ _ _; rw [← app_next]; exact HG8.out, HI8.out⟩
              case measure => simp [intOf]; omega
            · go_simp
              refine Calls.mono (HCK.out _ HS6.out.drew.rd) ?_; rintro e y7 ⟨rfl, hR7, hK7⟩; have HS7 : Hid (RdSt w y7 R N T sc [.slice (some ⟨G, 0, none⟩) n n, .slice (some ⟨J, 0, none⟩) m m, .int .i64 0]) := HS6.out.drew.call hRT hR7 hK7; have HG7 : Hid (Blk y7 J (flatE (A ++ ⟨v, default⟩ :: B))) := HG6.out.drew.keep hK7 (by omega); have HI7 : Hid (Blk y7 G (flatE I)) := HI6.out.drew.keep hK7 (by omega); have HTH : Hid (y7.there J (k * 39 + 1) c.cs.length) := (by rw [Scr.cs_length]; exact HG7.out.therePart k 1 38 HA.out (by show 1 + 38 ≤ 39; omega)); clear hR7 hK7; have c8 : y7.cell? ⟨T + 1, 1, none⟩ = some (.slice (some ⟨J, 0, none⟩) m m) := HS7.out.b1.one rfl
              go_simp
              refine hK.out _ _ (trivial) (fun hHeld => ?_)
              clear hK K
              refine wpAnyH_ready (rs := [1]) (by kernel_rfl) (by simp) ?_
              refine AllReadyH.cons (o := { dst := some 50, op := .load 59 (.tmp 49), type := 59, pos := "tx.go:185", after := #[{ on := 0, ground := .data }], guard := none }) rfl (fun K hK => ?_) AllReadyH.nil
              go_simp
              skip
              go_simp
              refine hK.out _ _ (trivial) (fun hHeld => ?_)
              clear hK K
              refine wpAnyH_take (i := 5) (oi := { dst := some 54, op := .indexAddr 59 (.tmp 50) (.tmp 51), type := 0, pos := "tx.go:185", after := #[{ on := 1, ground := .data }, { on := 2, ground := .data }, { on := 0, ground := .phase }, { on := 1, ground := .phase }, { on := 2, ground := .phase }, { on := 3, ground := .phase }, { on := 4, ground := .phase }], guard := none }) (v := ?_) rfl (by kernel_rfl) (by kernel_rfl) (by kernel_rfl) (fun _ _ _ h => h) (Or.inl ⟨by rfl, ?_⟩) (by assumption) ?_
              rotate_left
              · intro _ _; go_simp; first | done | with_reducible rfl
              simp only [Act.put, List.setIfInBounds_toArray, List.set_cons_zero, List.set_cons_succ]
              refine wpAnyH_take (i := 6) (oi := { dst := some 55, op := .fieldAddr 67 (.tmp 54) 1, type := 0, pos := "tx.go:185", after := #[{ on := 5, ground := .data }, { on := 0, ground := .phase }, { on := 1, ground := .phase }, { on := 2, ground := .phase }, { on := 3, ground := .phase }, { on := 4, ground := .phase }], guard := none }) (v := ?_) rfl (by kernel_rfl) (by kernel_rfl) (by kernel_rfl) (fun _ _ _ h => h) (Or.inl ⟨by rfl, ?_⟩) (by assumption) ?_
              rotate_left
              · intro _ _; go_simp; first | done | with_reducible rfl
              simp only [Act.put, List.setIfInBounds_toArray, List.set_cons_zero, List.set_cons_succ]
              refine wpAnyH_ready (rs := [7]) (by kernel_rfl) (by simp) ?_
              refine AllReadyH.cons (o := { dst := none, op := .store 65 (.tmp 55) (.tmp 53), type := 0, pos := "tx.go:185", after := #[{ on := 6, ground := .data }, { on := 4, ground := .data }, { on := 4, ground := .chain }, { on := 0, ground := .phase }, { on := 1, ground := .phase }, { on := 2, ground := .phase }, { on := 3, ground := .phase }, { on := 4, ground := .phase }], guard := none }) rfl (fun K hK => ?_) AllReadyH.nil
              refine step_store_mid rfl 65 _ _ rfl J (k * 39 + 1) c.cs rfl rfl HTH.out (size_scr c) c.cs_mem ?_
              simp only [Act.put]
              refine hK.out _ _ (trivial) (fun hHeld => ?_)
              clear hK K
              refine wpAnyH_done (by kernel_rfl) ?_ _
              refine NoPanic.normal ?_
              have HG8 : Hid (Blk (y7.setCells J (k * 39 + 1) c.cs) J (flatE (A ++ ⟨v, c⟩ :: B))) := HG7.out.setPart k 1 HA.out c.cs ⟨v, c⟩ (by rw [Scr.cs_length]; show 1 + 38 ≤ 39; omega) (out_scr ⟨v, default⟩ c)
              have HS8 : Hid (RdSt w (y7.setCells J (k * 39 + 1) c.cs) R N T sc [.slice (some ⟨G, 0, none⟩) n n, .slice (some ⟨J, 0, none⟩) m m, .int .i64 0]) := HS7.out.other ((Keep.refl J y7).setCells c.cs (k * 39 + 1)) hRT hbs (by omega) hT
              have HI8 : Hid (Blk (y7.setCells J (k * 39 + 1) c.cs) G (flatE I)) := HI7.out.keep ((Keep.refl J y7).setCells c.cs (k * 39 + 1)) (by omega)
              clear HG7 HS7 HI7 HG6 HS6 HI6 HCK HTH hHeld c0
              generalize y7.setCells J (k * 39 + 1) c.cs = y8 at *
              go_wp2_with fail
              go_roundw
              case rel => exact ⟨k + 1, by omega, by go_num, by rw [HNX.out]; exact HS8.out, by rw [HNX.out, HBE.out]; show Blk _ _ _; rw [← app_next]; exact HG8.out, HI8.out⟩
              case measure => simp [intOf]; omega
          · go_simp
            refine Calls.mono (HVK.out _ HSj.out.drew.rd) ?_; rintro e y5 ⟨rfl, hR5, hK5⟩; have HS5 : Hid (RdSt w y5 R N T sv [.slice (some ⟨G, 0, none⟩) n n, .slice (some ⟨J, 0, none⟩) m m, .int .i64 0]) := HSj.out.drew.call hRT hR5 hK5; have HG5 : Hid (Blk y5 J (flatE (A ++ default :: B))) := HGj.out.drew.keep hK5 (by omega); have HI5 : Hid (Blk y5 G (flatE I)) := HIj.out.drew.keep hK5 (by omega); have c7 : y5.cell? ⟨J, k * 39, none⟩ = some (.int .i64 0) := HG5.out.part k 0 HA.out _ rfl; have f7 : y5.frozen? ⟨J, k * 39, none⟩ = false := HG5.out.frozen _; clear hR5 hK5; have c6 : y5.cell? ⟨T + 1, 1, none⟩ = some (.slice (some ⟨J, 0, none⟩) m m) := HS5.out.b1.one rfl
            go_simp
            refine hK.out _ _ (trivial) (fun hHeld => ?_)
            clear hK K
            refine wpAnyH_ready (rs := [1]) (by kernel_rfl) (by simp) ?_
            refine AllReadyH.cons (o := { dst := some 43, op := .load 59 (.tmp 42), type := 59, pos := "tx.go:184", after := #[{ on := 0, ground := .data }], guard := none }) rfl (fun K hK => ?_) AllReadyH.nil
            go_simp
            skip
            go_simp
            refine hK.out _ _ (trivial) (fun hHeld => ?_)
            clear hK K
            refine wpAnyH_take (i := 5) (oi := { dst := some 47, op := .indexAddr 59 (.tmp 43) (.tmp 44), type := 0, pos := "tx.go:184", after := #[{ on := 1, ground := .data }, { on := 2, ground := .data }, { on := 0, ground := .phase }, { on := 1, ground := .phase }, { on := 2, ground := .phase }, { on := 3, ground := .phase }, { on := 4, ground := .phase }], guard := none }) (v := ?_) rfl (by kernel_rfl) (by kernel_rfl) (by kernel_rfl) (fun _ _ _ h => h) (Or.inl ⟨by rfl, ?_⟩) (by assumption) ?_
            rotate_left
            · intro _ _; go_simp; first | done | with_reducible rfl
            simp only [Act.put, List.setIfInBounds_toArray, List.set_cons_zero, List.set_cons_succ]
            refine wpAnyH_take (i := 6) (oi := { dst := some 48, op := .fieldAddr 67 (.tmp 47) 0, type := 0, pos := "tx.go:184", after := #[{ on := 5, ground := .data }, { on := 0, ground := .phase }, { on := 1, ground := .phase }, { on := 2, ground := .phase }, { on := 3, ground := .phase }, { on := 4, ground := .phase }], guard := none }) (v := ?_) rfl (by kernel_rfl) (by kernel_rfl) (by kernel_rfl) (fun _ _ _ h => h) (Or.inl ⟨by rfl, ?_⟩) (by assumption) ?_
            rotate_left
            · intro _ _; go_simp; first | done | with_reducible rfl
            simp only [Act.put, List.setIfInBounds_toArray, List.set_cons_zero, List.set_cons_succ]
            refine wpAnyH_ready (rs := [7]) (by kernel_rfl) (by simp) ?_
            refine AllReadyH.cons (o := { dst := none, op := .store 3 (.tmp 48) (.tmp 46), type := 0, pos := "tx.go:184", after := #[{ on := 6, ground := .data }, { on := 4, ground := .data }, { on := 4, ground := .chain }, { on := 0, ground := .phase }, { on := 1, ground := .phase }, { on := 2, ground := .phase }, { on := 3, ground := .phase }, { on := 4, ground := .phase }], guard := none }) rfl (fun K hK => ?_) AllReadyH.nil
            go_simp
            skip
            go_simp
            refine hK.out _ _ (trivial) (fun hHeld => ?_)
            clear hK K
            refine wpAnyH_done (by kernel_rfl) ?_ _
            refine NoPanic.normal ?_
            have HG6 : Hid (Blk (y5.setCell ⟨J, k * 39, none⟩ (.int .i64 v)) J (flatE (A ++ ⟨v, default⟩ :: B))) := HG5.out.setPart k 0 HA.out [.int .i64 v] ⟨v, default⟩ (by show 0 + 1 ≤ 39; omega) (out_value default v)
            have HS6 : Hid (RdSt w (y5.setCell ⟨J, k * 39, none⟩ (.int .i64 v)) R N T sv [.slice (some ⟨G, 0, none⟩) n n, .slice (some ⟨J, 0, none⟩) m m, .int .i64 0]) := HS5.out.other ((Keep.refl J y5).setCell (k * 39) _) hRT hbs (by omega) hT
            have HI6 : Hid (Blk (y5.setCell ⟨J, k * 39, none⟩ (.int .i64 v)) G (flatE I)) := HI5.out.other (by show G ≠ J; omega) _
            clear HG5 HS5 HI5 c0 HSj HGj HIj HVK hHeld c7 f7
            generalize y5.setCell ⟨J, k * 39, none⟩ (.int .i64 v) = y6 at *
            have c0 : y6.cell? ⟨T + 1, 1, none⟩ = some (.slice (some ⟨J, 0, none⟩) m m) := HS6.out.b1.one rfl
            go_upto_region 14 with fail
            refine wp_region_noPanic ?_
            refine wp_region_held_drew (S := fun _ => True) HMO.out (trivial) (fun hHeld => ?_)
            refine wpAnyH_take (i := 0) (oi := { dst := some 49, op := .fieldAddr 61 (.tmp 3) 1, type := 0, pos := "tx.go:185", after := #[], guard := none }) (v := ?_) rfl (by kernel_rfl) (by kernel_rfl) (by kernel_rfl) (fun _ _ _ h => h) (Or.inl ⟨by rfl, ?_⟩) (by assumption) ?_
            rotate_left
            · intro _ _; go_simp; first | done | with_reducible rfl
            simp only [Act.put, List.setIfInBounds_toArray, List.set_cons_zero, List.set_cons_succ]
            refine wpAnyH_take (i := 2) (oi := { dst := some 51, op := .move (.tmp 5), type := 3, pos := "tx.go:185", after := #[], guard := none }) (v := ?_) rfl (by kernel_rfl) (by kernel_rfl) (by kernel_rfl) (fun _ _ _ h => h) (Or.inl ⟨by rfl, ?_⟩) (by assumption) ?_
            rotate_left
            · intro _ _; go_simp; first | done | with_reducible rfl
            simp only [Act.put, List.setIfInBounds_toArray, List.set_cons_zero, List.set_cons_succ]
            refine wpAnyH_take (i := 3) (oi := { dst := some 52, op := .move (.tmp 0), type := 82, pos := "tx.go:185", after := #[], guard := none }) (v := ?_) rfl (by kernel_rfl) (by kernel_rfl) (by kernel_rfl) (fun _ _ _ h => h) (Or.inl ⟨by rfl, ?_⟩) (by assumption) ?_
            rotate_left
            · intro _ _; go_simp; first | done | with_reducible rfl
            simp only [Act.put, List.setIfInBounds_toArray, List.set_cons_zero, List.set_cons_succ]
            refine wpAnyH_ready (rs := [1, 4]) (by kernel_rfl) (by simp) ?_
            refine (AllReadyH.cons (o := { dst := some 50, op := .load 59 (.tmp 49), type := 59, pos := "tx.go:185", after := #[{ on := 0, ground := .data }], guard := none }) rfl (fun K hK => ?_) (AllReadyH.cons (o := { dst := some 53, op := .call { callee := .value (.func 102), args := #[.tmp 52], argTypes := #[82] }, type := 65, pos := "tx.go:185", after := #[{ on := 3, ground := .data }], guard := none }) rfl (fun K hK => ?_) AllReadyH.nil))
            · go_simp
              skip
              go_simp
              refine hK.out _ _ (trivial) (fun hHeld => ?_)
              clear hK K
              refine wpAnyH_ready (rs := [4]) (by kernel_rfl) (by simp) ?_
              refine AllReadyH.cons (o := { dst := some 53, op := .call { callee := .value (.func 102), args := #[.tmp 52], argTypes := #[82] }, type := 65, pos := "tx.go:185", after := #[{ on := 3, ground := .data }], guard := none }) rfl (fun K hK => ?_) AllReadyH.nil
              go_simp
              refine Calls.mono (HCK.out _ HS6.out.drew.rd) ?_; rintro e y7 ⟨rfl, hR7, hK7⟩; have HS7 : Hid (RdSt w y7 R N T sc [.slice (some ⟨G, 0, none⟩) n n, .slice (some ⟨J, 0, none⟩) m m, .int .i64 0]) := HS6.out.drew.call hRT hR7 hK7; have HG7 : Hid (Blk y7 J (flatE (A ++ ⟨v, default⟩ :: B))) := HG6.out.drew.keep hK7 (by omega); have HI7 : Hid (Blk y7 G (flatE I)) := HI6.out.drew.keep hK7 (by omega); have HTH : Hid (y7.there J (k * 39 + 1) c.cs.length) := (by rw [Scr.cs_length]; exact HG7.out.therePart k 1 38 HA.out (by show 1 + 38 ≤ 39; omega)); clear hR7 hK7
              go_simp
              refine hK.out _ _ (trivial) (fun hHeld => ?_)
              clear hK K
              refine wpAnyH_take (i := 5) (oi := { dst := some 54, op := .indexAddr 59 (.tmp 50) (.tmp 51), type := 0, pos := "tx.go:185", after := #[{ on := 1, ground := .data }, { on := 2, ground := .data }, { on := 0, ground := .phase }, { on := 1, ground := .phase }, { on := 2, ground := .phase }, { on := 3, ground := .phase }, { on := 4, ground := .phase }], guard := none }) (v := ?_) rfl (by kernel_rfl) (by kernel_rfl) (by kernel_rfl) (fun _ _ _ h => h) (Or.inl ⟨by rfl, ?_⟩) (by assumption) ?_
              rotate_left
              · intro _ _; go_simp; first | done | with_reducible rfl
              simp only [Act.put, List.setIfInBounds_toArray, List.set_cons_zero, List.set_cons_succ]
              refine wpAnyH_take (i := 6) (oi := { dst := some 55, op := .fieldAddr 67 (.tmp 54) 1, type := 0, pos := "tx.go:185", after := #[{ on := 5, ground := .data }, { on := 0, ground := .phase }, { on := 1, ground := .phase }, { on := 2, ground := .phase }, { on := 3, ground := .phase }, { on := 4, ground := .phase }], guard := none }) (v := ?_) rfl (by kernel_rfl) (by kernel_rfl) (by kernel_rfl) (fun _ _ _ h => h) (Or.inl ⟨by rfl, ?_⟩) (by assumption) ?_
              rotate_left
              · intro _ _; go_simp; first | done | with_reducible rfl
              simp only [Act.put, List.setIfInBounds_toArray, List.set_cons_zero, List.set_cons_succ]
              refine wpAnyH_ready (rs := [7]) (by kernel_rfl) (by simp) ?_
              refine AllReadyH.cons (o := { dst := none, op := .store 65 (.tmp 55) (.tmp 53), type := 0, pos := "tx.go:185", after := #[{ on := 6, ground := .data }, { on := 4, ground := .data }, { on := 4, ground := .chain }, { on := 0, ground := .phase }, { on := 1, ground := .phase }, { on := 2, ground := .phase }, { on := 3, ground := .phase }, { on := 4, ground := .phase }], guard := none }) rfl (fun K hK => ?_) AllReadyH.nil
              refine step_store_mid rfl 65 _ _ rfl J (k * 39 + 1) c.cs rfl rfl HTH.out (size_scr c) c.cs_mem ?_
              simp only [Act.put]
              refine hK.out _ _ (trivial) (fun hHeld => ?_)
              clear hK K
              refine wpAnyH_done (by kernel_rfl) ?_ _
              refine NoPanic.normal ?_
              have HG8 : Hid (Blk (y7.setCells J (k * 39 + 1) c.cs) J (flatE (A ++ ⟨v, c⟩ :: B))) := HG7.out.setPart k 1 HA.out c.cs ⟨v, c⟩ (by rw [Scr.cs_length]; show 1 + 38 ≤ 39; omega) (out_scr ⟨v, default⟩ c)
              have HS8 : Hid (RdSt w (y7.setCells J (k * 39 + 1) c.cs) R N T sc [.slice (some ⟨G, 0, none⟩) n n, .slice (some ⟨J, 0, none⟩) m m, .int .i64 0]) := HS7.out.other ((Keep.refl J y7).setCells c.cs (k * 39 + 1)) hRT hbs (by omega) hT
              have HI8 : Hid (Blk (y7.setCells J (k * 39 + 1) c.cs) G (flatE I)) := HI7.out.keep ((Keep.refl J y7).setCells c.cs (k * 39 + 1)) (by omega)
              clear HG7 HS7 HI7 HG6 HS6 HI6 HCK HTH hHeld c0
              generalize y7.setCells J (k * 39 + 1) c.cs = y8 at *
              go_wp2_with fail
              go_roundw
              case rel => exact ⟨k + 1, by omega, by go_num, by rw [HNX.out]; exact HS8.out, by rw [HNX.out, HBE.out]; show Blk _ _ _; rw [← app_next]; exact HG8.out, HI8.out⟩
              case measure => simp [intOf]; omega
            · go_simp
              refine Calls.mono (HCK.out _ HS6.out.drew.rd) ?_; rintro e y7 ⟨rfl, hR7, hK7⟩; have HS7 : Hid (RdSt w y7 R N T sc [.slice (some ⟨G, 0, none⟩) n n, .slice (some ⟨J, 0, none⟩) m m, .int .i64 0]) := HS6.out.drew.call hRT hR7 hK7; have HG7 : Hid (Blk y7 J (flatE (A ++ ⟨v, default⟩ :: B))) := HG6.out.drew.keep hK7 (by omega); have HI7 : Hid (Blk y7 G (flatE I)) := HI6.out.drew.keep hK7 (by omega); have HTH : Hid (y7.there J (k * 39 + 1) c.cs.length) := (by rw [Scr.cs_length]; exact HG7.out.therePart k 1 38 HA.out (by show 1 + 38 ≤ 39; omega)); clear hR7 hK7; have c8 : y7.cell? ⟨T + 1, 1, none⟩ = some (.slice (some ⟨J, 0, none⟩) m m) := HS7.out.b1.one rfl
              go_simp
              refine hK.out _ _ (trivial) (fun hHeld => ?_)
              clear hK K
              refine wpAnyH_ready (rs := [1]) (by kernel_rfl) (by simp) ?_
              refine AllReadyH.cons (o := { dst := some 50, op := .load 59 (.tmp 49), type := 59, pos := "tx.go:185", after := #[{ on := 0, ground := .data }], guard := none }) rfl (fun K hK => ?_) AllReadyH.nil
              go_simp
              skip
              go_simp
              refine hK.out _ _ (trivial) (fun hHeld => ?_)
              clear hK K
              refine wpAnyH_take (i := 5) (oi := { dst := some 54, op := .indexAddr 59 (.tmp 50) (.tmp 51), type := 0, pos := "tx.go:185", after := #[{ on := 1, ground := .data }, { on := 2, ground := .data }, { on := 0, ground := .phase }, { on := 1, ground := .phase }, { on := 2, ground := .phase }, { on := 3, ground := .phase }, { on := 4, ground := .phase }], guard := none }) (v := ?_) rfl (by kernel_rfl) (by kernel_rfl) (by kernel_rfl) (fun _ _ _ h => h) (Or.inl ⟨by rfl, ?_⟩) (by assumption) ?_
              rotate_left
              · intro _ _; go_simp; first | done | with_reducible rfl
              simp only [Act.put, List.setIfInBounds_toArray, List.set_cons_zero, List.set_cons_succ]
              refine wpAnyH_take (i := 6) (oi := { dst := some 55, op := .fieldAddr 67 (.tmp 54) 1, type := 0, pos := "tx.go:185", after := #[{ on := 5, ground := .data }, { on := 0, ground := .phase }, { on := 1, ground := .phase }, { on := 2, ground := .phase }, { on := 3, ground := .phase }, { on := 4, ground := .phase }], guard := none }) (v := ?_) rfl (by kernel_rfl) (by kernel_rfl) (by kernel_rfl) (fun _ _ _ h => h) (Or.inl ⟨by rfl, ?_⟩) (by assumption) ?_
              rotate_left
              · intro _ _; go_simp; first | done | with_reducible rfl
              simp only [Act.put, List.setIfInBounds_toArray, List.set_cons_zero, List.set_cons_succ]
              refine wpAnyH_ready (rs := [7]) (by kernel_rfl) (by simp) ?_
              refine AllReadyH.cons (o := { dst := none, op := .store 65 (.tmp 55) (.tmp 53), type := 0, pos := "tx.go:185", after := #[{ on := 6, ground := .data }, { on := 4, ground := .data }, { on := 4, ground := .chain }, { on := 0, ground := .phase }, { on := 1, ground := .phase }, { on := 2, ground := .phase }, { on := 3, ground := .phase }, { on := 4, ground := .phase }], guard := none }) rfl (fun K hK => ?_) AllReadyH.nil
              refine step_store_mid rfl 65 _ _ rfl J (k * 39 + 1) c.cs rfl rfl HTH.out (size_scr c) c.cs_mem ?_
              simp only [Act.put]
              refine hK.out _ _ (trivial) (fun hHeld => ?_)
              clear hK K
              refine wpAnyH_done (by kernel_rfl) ?_ _
              refine NoPanic.normal ?_
              have HG8 : Hid (Blk (y7.setCells J (k * 39 + 1) c.cs) J (flatE (A ++ ⟨v, c⟩ :: B))) := HG7.out.setPart k 1 HA.out c.cs ⟨v, c⟩ (by rw [Scr.cs_length]; show 1 + 38 ≤ 39; omega) (out_scr ⟨v, default⟩ c)
              have HS8 : Hid (RdSt w (y7.setCells J (k * 39 + 1) c.cs) R N T sc [.slice (some ⟨G, 0, none⟩) n n, .slice (some ⟨J, 0, none⟩) m m, .int .i64 0]) := HS7.out.other ((Keep.refl J y7).setCells c.cs (k * 39 + 1)) hRT hbs (by omega) hT
              have HI8 : Hid (Blk (y7.setCells J (k * 39 + 1) c.cs) G (flatE I)) := HI7.out.keep ((Keep.refl J y7).setCells c.cs (k * 39 + 1)) (by omega)
              clear HG7 HS7 HI7 HG6 HS6 HI6 HCK HTH hHeld c0
              generalize y7.setCells J (k * 39 + 1) c.cs = y8 at *
              go_wp2_with fail
              go_roundw
              case rel => exact ⟨k + 1, by omega, by go_num, by rw [HNX.out]; exact HS8.out, by rw [HNX.out, HBE.out]; show Blk _ _ _; rw [← app_next]; exact HG8.out, HI8.out⟩
              case measure => simp [intOf]; omega
        · obtain rfl : m = k := by omega
          obtain ⟨O, hO⟩ : ∃ A, (rMany rOut m s3).1 = A := ⟨_, rfl⟩
          obtain ⟨s4, hs4⟩ : ∃ x, (rMany rOut m s3).2 = x := ⟨_, rfl⟩
          have HOE : Hid (rMany rOut m s3 = (O, s4)) := show _ = _ by rw [← hO, ← hs4]
          rw [hO, Nat.sub_self, List.replicate_zero, List.append_nil] at HGj
          rw [hs4] at HSj
          have HOL : Hid (O.length = m) := show _ = _ by rw [← hO]; exact rMany_length _ _ _
          clear hO hs4
          go_upto_region 16 with fail
          obtain ⟨lk, s5, hlk, hs5⟩ : ∃ l x, (rN s4).1 = l ∧ (rN s4).2 = x := ⟨_, _, rfl, rfl⟩
          have HLE : Hid (rN s4 = (lk, s5)) := show _ = _ by rw [← hlk, ← hs5]
          have HLK : Hid (∀ w, Rd w R N s4 → Calls Tryz.prog 68 #[.pointer (some ⟨R, 0, none⟩)] w fun e w' => e = .returned (.int .i64 lk) ∧ Rd w' R N s5 ∧ Keep R w w') := fun w h => by
            have := HNUM.out s4 w h
            rwa [hlk, hs5] at this
          clear hlk hs5
          go_wp2_with fail
          refine Calls.mono (HLK.out _ HSj.out.rd) ?_
          rintro e u3 ⟨rfl, hR2, hK2⟩
          have HSy : Hid (RdSt w u3 R N T s5 [.slice (some ⟨G, 0, none⟩) n n, .slice (some ⟨J, 0, none⟩) m m, .int .i64 0]) := HSj.out.call hRT hR2 hK2
          have HIy : Hid (Blk u3 G (flatE I)) := HIj.out.keep hK2 (by omega)
          have HJy : Hid (Blk u3 J (flatE O)) := HGj.out.keep hK2 (by omega)
          clear hR2 hK2 HSj HIj HGj
          have c2 : u3.cell? ⟨T + 1, 2, none⟩ = some (.int .i64 0) := HSy.out.b1.one rfl
          have f2 : u3.frozen? ⟨T + 1, 2, none⟩ = false := HSy.out.b1.frozen 2
          go_upto_region 17 with fail
          have HSz : Hid (RdSt w (u3.setCell ⟨T + 1, 2, none⟩ (.int .i64 lk)) R N T s5 [.slice (some ⟨G, 0, none⟩) n n, .slice (some ⟨J, 0, none⟩) m m, .int .i64 lk]) := HSy.out.own hRT hbs hT 2 _
          have HIz : Hid (Blk (u3.setCell ⟨T + 1, 2, none⟩ (.int .i64 lk)) G (flatE I)) := HIy.out.other (by show G ≠ T + 1; omega) _
          have HJz : Hid (Blk (u3.setCell ⟨T + 1, 2, none⟩ (.int .i64 lk)) J (flatE O)) := HJy.out.other (by show J ≠ T + 1; omega) _
          generalize u3.setCell ⟨T + 1, 2, none⟩ (.int .i64 lk) = u4 at *
          clear c2 f2 HSy HIy HJy
          have c1 : u4.cell? ⟨T + 1, 0, none⟩ = some (.slice (some ⟨G, 0, none⟩) n n) := HSz.out.b1.one rfl
          go_wp2_with fail
          clear c1
          go_loopw [63] (fun i yr => ∃ k : Nat, k ≤ n ∧ i = .int .i64 k ∧ Hid (RdSt w yr R N T (rMany rWit k s5).2 [.slice (some ⟨G, 0, none⟩) n n, .slice (some ⟨J, 0, none⟩) m m, .int .i64 lk]) ∧ Hid (Blk yr G (flatE (List.zipWith putW I (rMany rWit k s5).1 ++ I.drop k))) ∧ Hid (Blk yr J (flatE O))) (fun i _ => n - (intOf i).toNat)
          case atStart => exact ⟨0, by omega, rfl, HSz.out, by rw [rMany, List.zipWith_nil_right, List.nil_append, List.drop_zero]; exact HIz.out, HJz.out⟩
          case round =>
            obtain ⟨k, hkm, rfl, HSj, HGj, HJj⟩ := hrel
            clear HSz HJz HIz
            by_cases hlt2 : k < n
            · have e0 : (0 : Int) ≤ (k : Int) := by omega
              have e1 : (k : Int) < (n : Int) := by omega
              obtain ⟨A, hA⟩ : ∃ A, (rMany rWit k s5).1 = A := ⟨_, rfl⟩
              obtain ⟨sk, hsk⟩ : ∃ x, (rMany rWit k s5).2 = x := ⟨_, rfl⟩
              obtain ⟨a, sa, b, sb, t, st, ha, hsa, hb, hsb, ht, hst⟩ : ∃ a sa b sb t st, (rN sk).1 = a ∧ (rN sk).2 = sa ∧ (rN sa).1 = b ∧ (rN sa).2 = sb ∧ (rX sb).1 = t ∧ (rX sb).2 = st := ⟨_, _, _, _, _, _, rfl, rfl, rfl, rfl, rfl, rfl⟩
              have HNX : Hid (rMany rWit (k + 1) s5 = (A ++ [⟨a, b, t⟩], st)) := show _ = _ by
                rw [rMany, hA, hsk]; unfold rWit; rw [hsa, hsb, ha, hb, ht, hst]
              have HAL : Hid (A.length = k) := show _ = _ by rw [← hA]; exact rMany_length _ _ _
              have HAK : Hid (∀ w, Rd w R N sk → Calls Tryz.prog 68 #[.pointer (some ⟨R, 0, none⟩)] w fun e w' => e = .returned (.int .i64 a) ∧ Rd w' R N sa ∧ Keep R w w') := fun w h => by
                have := HNUM.out sk w h
                rwa [ha, hsa] at this
              have HBK : Hid (∀ w, Rd w R N sa → Calls Tryz.prog 68 #[.pointer (some ⟨R, 0, none⟩)] w fun e w' => e = .returned (.int .i64 b) ∧ Rd w' R N sb ∧ Keep R w w') := fun w h => by
                have := HNUM.out sa w h
                rwa [hb, hsb] at this
              have HCK : Hid (∀ w, Rd w R N sb → Calls Tryz.prog 40 #[.pointer (some ⟨R, 0, none⟩)] w fun e w' => e = .returned (.string t) ∧ Rd w' R N st ∧ Keep R w w') := fun w h => by
                have := HTEXT.out sb w h
                rwa [ht, hst] at this
              have hbw : Tryz.prog.built 55 [(0, .int .i64 a), (1, .int .i64 b), (2, .string t)] = some #[.int .i64 a, .int .i64 b, .string t] := built_wit a b t
              rw [hA, zip_here I A k (by rw [HIL.out]; exact hlt2)] at HGj
              rw [hsk] at HSj
              have HZL : Hid ((List.zipWith putW I A).length = k) := show _ = _ by rw [zip_length _ _ (by rw [HAL.out, HIL.out]; omega)]; exact HAL.out
              have HZN : Hid (List.zipWith putW I (A ++ [⟨a, b, t⟩]) ++ I.drop (k + 1) = List.zipWith putW I A ++ putW (I.getD k default) ⟨a, b, t⟩ :: I.drop (k + 1)) := zip_next I A _ k HAL.out (by rw [HIL.out]; exact hlt2)
              clear hA hsk ha hsa hb hsb ht hst
              generalize I.getD k default = x at *
              obtain ⟨B, hBd⟩ : ∃ B, I.drop (k + 1) = B := ⟨_, rfl⟩
              rw [hBd] at HGj HZN
              have HBD : Hid (I.drop (k + 1) = B) := hBd
              clear hBd
              generalize List.zipWith putW I A = Z at *
              go_upto_region 20 with fail
              have c0 : wr.cell? ⟨T + 1, 0, none⟩ = some (.slice (some ⟨G, 0, none⟩) n n) := HSj.out.b1.one rfl
              refine wp_region_noPanic ?_
              refine wp_region_held_drew (S := fun w' => w'.cell? ⟨T + 1, 0, none⟩ = some (.slice (some ⟨G, 0, none⟩) n n)) HMO.out (c0) (fun hHeld => ?_)
              refine wpAnyH_take (i := 0) (oi := { dst := some 66, op := .fieldAddr 61 (.tmp 3) 0, type := 0, pos := "tx.go:189", after := #[], guard := none }) (v := ?_) rfl (by kernel_rfl) (by kernel_rfl) (by kernel_rfl) (fun _ _ _ h => h) (Or.inl ⟨by rfl, ?_⟩) (by assumption) ?_
              rotate_left
              · intro _ _; go_simp; first | done | with_reducible rfl
              simp only [Act.put, List.setIfInBounds_toArray, List.set_cons_zero, List.set_cons_succ]
              refine wpAnyH_take (i := 1) (oi := { dst := some 67, op := .load 58 (.tmp 66), type := 58, pos := "tx.go:189", after := #[{ on := 0, ground := .data }], guard := none }) (v := ?_) rfl (by kernel_rfl) (by kernel_rfl) (by kernel_rfl) (fun _ _ _ h => h) (Or.inl ⟨by rfl, ?_⟩) (by assumption) ?_
              rotate_left
              · intro _ _; go_simp; first | done | with_reducible rfl
              simp only [Act.put, List.setIfInBounds_toArray, List.set_cons_zero, List.set_cons_succ]
              refine wpAnyH_take (i := 2) (oi := { dst := some 68, op := .move (.tmp 6), type := 3, pos := "tx.go:189", after := #[], guard := none }) (v := ?_) rfl (by kernel_rfl) (by kernel_rfl) (by kernel_rfl) (fun _ _ _ h => h) (Or.inl ⟨by rfl, ?_⟩) (by assumption) ?_
              rotate_left
              · intro _ _; go_simp; first | done | with_reducible rfl
              simp only [Act.put, List.setIfInBounds_toArray, List.set_cons_zero, List.set_cons_succ]
              refine wpAnyH_take (i := 3) (oi := { dst := some 69, op := .move (.tmp 0), type := 82, pos := "tx.go:189", after := #[], guard := none }) (v := ?_) rfl (by kernel_rfl) (by kernel_rfl) (by kernel_rfl) (fun _ _ _ h => h) (Or.inl ⟨by rfl, ?_⟩) (by assumption) ?_
              rotate_left
              · intro _ _; go_simp; first | done | with_reducible rfl
              simp only [Act.put, List.setIfInBounds_toArray, List.set_cons_zero, List.set_cons_succ]
              refine wpAnyH_take (i := 5) (oi := { dst := some 71, op := .move (.tmp 0), type := 82, pos := "tx.go:189", after := #[], guard := none }) (v := ?_) rfl (by kernel_rfl) (by kernel_rfl) (by kernel_rfl) (fun _ _ _ h => h) (Or.inl ⟨by rfl, ?_⟩) (by assumption) ?_
              rotate_left
              · intro _ _; go_simp; first | done | with_reducible rfl
              simp only [Act.put, List.setIfInBounds_toArray, List.set_cons_zero, List.set_cons_succ]
              refine wpAnyH_take (i := 7) (oi := { dst := some 73, op := .move (.tmp 0), type := 82, pos := "tx.go:189", after := #[], guard := none }) (v := ?_) rfl (by kernel_rfl) (by kernel_rfl) (by kernel_rfl) (fun _ _ _ h => h) (Or.inl ⟨by rfl, ?_⟩) (by assumption) ?_
              rotate_left
              · intro _ _; go_simp; first | done | with_reducible rfl
              simp only [Act.put, List.setIfInBounds_toArray, List.set_cons_zero, List.set_cons_succ]
              refine wpAnyH_ready (rs := [4]) (by kernel_rfl) (by simp) ?_
              refine AllReadyH.cons (o := { dst := some 70, op := .call { callee := .value (.func 68), args := #[.tmp 69], argTypes := #[82] }, type := 3, pos := "tx.go:189", after := #[{ on := 3, ground := .data }], guard := none }) rfl (fun K hK => ?_) AllReadyH.nil
              go_simp
              refine Calls.mono (HAK.out _ HSj.out.drew.rd) ?_; rintro e z5 ⟨rfl, hR, hK⟩; have H5S : Hid (RdSt w z5 R N T sa [.slice (some ⟨G, 0, none⟩) n n, .slice (some ⟨J, 0, none⟩) m m, .int .i64 lk]) := HSj.out.drew.call hRT hR hK; have H5G : Hid (Blk z5 G (flatE (Z ++ x :: B))) := HGj.out.drew.keep hK (by omega); have H5J : Hid (Blk z5 J (flatE O)) := HJj.out.drew.keep hK (by omega); clear hR hK
              go_simp
              refine hK.out _ _ (H5S.out.b1.one rfl) (fun hHeld => ?_)
              clear hK K
              refine wpAnyH_ready (rs := [6]) (by kernel_rfl) (by simp) ?_
              refine AllReadyH.cons (o := { dst := some 72, op := .call { callee := .value (.func 68), args := #[.tmp 71], argTypes := #[82] }, type := 3, pos := "tx.go:189", after := #[{ on := 5, ground := .data }, { on := 4, ground := .chain }], guard := none }) rfl (fun K hK => ?_) AllReadyH.nil
              go_simp
              refine Calls.mono (HBK.out _ H5S.out.rd) ?_; rintro e z6 ⟨rfl, hR, hK⟩; have H6S : Hid (RdSt w z6 R N T sb [.slice (some ⟨G, 0, none⟩) n n, .slice (some ⟨J, 0, none⟩) m m, .int .i64 lk]) := H5S.out.call hRT hR hK; have H6G : Hid (Blk z6 G (flatE (Z ++ x :: B))) := H5G.out.keep hK (by omega); have H6J : Hid (Blk z6 J (flatE O)) := H5J.out.keep hK (by omega); clear hR hK H5S H5G H5J
              go_simp
              refine hK.out _ _ (H6S.out.b1.one rfl) (fun hHeld => ?_)
              clear hK K
              refine wpAnyH_ready (rs := [8]) (by kernel_rfl) (by simp) ?_
              refine AllReadyH.cons (o := { dst := some 74, op := .call { callee := .value (.func 40), args := #[.tmp 73], argTypes := #[82] }, type := 9, pos := "tx.go:189", after := #[{ on := 7, ground := .data }, { on := 6, ground := .chain }], guard := none }) rfl (fun K hK => ?_) AllReadyH.nil
              go_simp
              refine Calls.mono (HCK.out _ H6S.out.rd) ?_; rintro e z7 ⟨rfl, hR, hK⟩; have H7S : Hid (RdSt w z7 R N T st [.slice (some ⟨G, 0, none⟩) n n, .slice (some ⟨J, 0, none⟩) m m, .int .i64 lk]) := H6S.out.call hRT hR hK; have H7G : Hid (Blk z7 G (flatE (Z ++ x :: B))) := H6G.out.keep hK (by omega); have H7J : Hid (Blk z7 J (flatE O)) := H6J.out.keep hK (by omega); have HTH : Hid (z7.there G (k * 37 + 34) 3) := H7G.out.therePart k 34 3 HZL.out (by show 34 + 3 ≤ 37; omega); clear hR hK H6S H6G H6J
              go_simp
              refine hK.out _ _ (H7S.out.b1.one rfl) (fun hHeld => ?_)
              clear hK K
              refine wpAnyH_take (i := 9) (oi := { dst := some 75, op := .build 55 #[(0, .tmp 70), (1, .tmp 72), (2, .tmp 74)], type := 55, pos := "tx.go:189", after := #[{ on := 4, ground := .data }, { on := 6, ground := .data }, { on := 8, ground := .data }], guard := none }) (v := .agg #[.int .i64 a, .int .i64 b, .string t]) rfl (by kernel_rfl) (by kernel_rfl) (by kernel_rfl) (fun _ _ _ h => h) (Or.inl ⟨by rfl, ?_⟩) (by assumption) ?_
              · intro _ _; exact exec_build 55 _ rfl _ _ hbw (by rw [Array.toList_map]; rfl) _
              simp only [Act.put, List.setIfInBounds_toArray, List.set_cons_zero, List.set_cons_succ]
              refine wpAnyH_take (i := 10) (oi := { dst := some 76, op := .indexAddr 58 (.tmp 67) (.tmp 68), type := 0, pos := "tx.go:189", after := #[{ on := 1, ground := .data }, { on := 2, ground := .data }, { on := 0, ground := .phase }, { on := 1, ground := .phase }, { on := 2, ground := .phase }, { on := 3, ground := .phase }, { on := 4, ground := .phase }, { on := 5, ground := .phase }, { on := 6, ground := .phase }, { on := 7, ground := .phase }, { on := 8, ground := .phase }, { on := 9, ground := .phase }], guard := none }) (v := ?_) rfl (by kernel_rfl) (by kernel_rfl) (by kernel_rfl) (fun _ _ _ h => h) (Or.inl ⟨by rfl, ?_⟩) (by assumption) ?_
              rotate_left
              · intro _ _; go_simp; first | done | with_reducible rfl
              simp only [Act.put, List.setIfInBounds_toArray, List.set_cons_zero, List.set_cons_succ]
              refine wpAnyH_take (i := 11) (oi := { dst := some 77, op := .fieldAddr 57 (.tmp 76) 2, type := 0, pos := "tx.go:189", after := #[{ on := 10, ground := .data }, { on := 0, ground := .phase }, { on := 1, ground := .phase }, { on := 2, ground := .phase }, { on := 3, ground := .phase }, { on := 4, ground := .phase }, { on := 5, ground := .phase }, { on := 6, ground := .phase }, { on := 7, ground := .phase }, { on := 8, ground := .phase }, { on := 9, ground := .phase }], guard := none }) (v := ?_) rfl (by kernel_rfl) (by kernel_rfl) (by kernel_rfl) (fun _ _ _ h => h) (Or.inl ⟨by rfl, ?_⟩) (by assumption) ?_
              rotate_left
              · intro _ _; go_simp; first | done | with_reducible rfl
              simp only [Act.put, List.setIfInBounds_toArray, List.set_cons_zero, List.set_cons_succ]
              refine wpAnyH_ready (rs := [12]) (by kernel_rfl) (by simp) ?_
              refine AllReadyH.cons (o := { dst := none, op := .store 55 (.tmp 77) (.tmp 75), type := 0, pos := "tx.go:189", after := #[{ on := 11, ground := .data }, { on := 9, ground := .data }, { on := 8, ground := .chain }, { on := 0, ground := .phase }, { on := 1, ground := .phase }, { on := 2, ground := .phase }, { on := 3, ground := .phase }, { on := 4, ground := .phase }, { on := 5, ground := .phase }, { on := 6, ground := .phase }, { on := 7, ground := .phase }, { on := 8, ground := .phase }, { on := 9, ground := .phase }], guard := none }) rfl (fun K hK => ?_) AllReadyH.nil
              refine step_store_mid rfl 55 _ _ rfl G (k * 37 + 34) [.int .i64 a, .int .i64 b, .string t] rfl rfl HTH.out (by kernel_rfl) (by intro v hv; simp only [List.mem_cons, List.not_mem_nil, or_false] at hv; rcases hv with rfl | rfl | rfl <;> rfl) ?_
              simp only [Act.put]
              refine hK.out _ _ ((H7S.out.other ((Keep.refl G z7).setCells [.int .i64 a, .int .i64 b, .string t] (k * 37 + 34)) hRT hbs hT2 hT).b1.one rfl) (fun hHeld => ?_)
              clear hK K
              refine wpAnyH_done (by kernel_rfl) ?_ _
              refine NoPanic.normal ?_
              have HG8 : Hid (Blk (z7.setCells G (k * 37 + 34) [.int .i64 a, .int .i64 b, .string t]) G (flatE (Z ++ putW x ⟨a, b, t⟩ :: B))) := H7G.out.setPart k 34 HZL.out [.int .i64 a, .int .i64 b, .string t] (putW x ⟨a, b, t⟩) (by show 34 + 3 ≤ 37; omega) (in_wit x ⟨a, b, t⟩)
              have HS8 : Hid (RdSt w (z7.setCells G (k * 37 + 34) [.int .i64 a, .int .i64 b, .string t]) R N T st [.slice (some ⟨G, 0, none⟩) n n, .slice (some ⟨J, 0, none⟩) m m, .int .i64 lk]) := H7S.out.other ((Keep.refl G z7).setCells [.int .i64 a, .int .i64 b, .string t] (k * 37 + 34)) hRT hbs hT2 hT
              have HJ8 : Hid (Blk (z7.setCells G (k * 37 + 34) [.int .i64 a, .int .i64 b, .string t]) J (flatE O)) := H7J.out.keep ((Keep.refl G z7).setCells [.int .i64 a, .int .i64 b, .string t] (k * 37 + 34)) (by omega)
              clear H7G H7S H7J HAK HBK HCK HTH hHeld c0
              generalize z7.setCells G (k * 37 + 34) [.int .i64 a, .int .i64 b, .string t] = z8 at *
              go_wp2_with fail
              go_roundw
              case rel => exact ⟨k + 1, by omega, by go_num, by rw [HNX.out]; exact HS8.out, by show Blk _ _ _; rw [HNX.out, HBD.out]; show Blk _ _ (flatE (List.zipWith putW I (A ++ [⟨a, b, t⟩]) ++ B)); rw [HZN.out]; exact HG8.out, HJ8.out⟩
              case measure => simp [intOf]; omega
            · obtain rfl : n = k := by omega
              obtain ⟨V, hV⟩ : ∃ A, (rMany rWit n s5).1 = A := ⟨_, rfl⟩
              obtain ⟨s6, hs6⟩ : ∃ x, (rMany rWit n s5).2 = x := ⟨_, rfl⟩
              have HVE : Hid (rMany rWit n s5 = (V, s6)) := show _ = _ by rw [← hV, ← hs6]
              have HVL : Hid (V.length = n) := show _ = _ by rw [← hV]; exact rMany_length _ _ _
              rw [hV, List.drop_of_length_le (by rw [HIL.out]; exact Nat.le_refl _), List.append_nil] at HGj
              rw [hs6] at HSj
              clear hV hs6
              have HTX : Hid (rTx s = (⟨List.zipWith putW I V, O, lk⟩, s6)) := by
                have e1 : rC s 100 = ((n : Int), s1) := Prod.ext HN.out HS1.out
                have e2 : rC s2 100 = ((m : Int), s3) := Prod.ext HM.out HS3.out
                show _ = _
                simp only [rTx, e1, Int.toNat_natCast, HIE.out, e2, HOE.out, HLE.out, HVE.out]
              have HZL : Hid ((List.zipWith putW I V).length = n) := show _ = _ by rw [zip_length _ _ (by rw [HVL.out, HIL.out]; exact Nat.le_refl _)]; exact HVL.out
              have d0 : wr.cell? ⟨T, 0, none⟩ = some (.slice none 0 0) := HSj.out.b0.one rfl
              have d1 : wr.cell? ⟨T, 1, none⟩ = some (.slice none 0 0) := HSj.out.b0.one rfl
              have d2 : wr.cell? ⟨T, 2, none⟩ = some (.int .i64 0) := HSj.out.b0.one rfl
              have g0 : wr.frozen? ⟨T, 0, none⟩ = false := HSj.out.b0.frozen 0
              have g1 : wr.frozen? ⟨T, 1, none⟩ = false := HSj.out.b0.frozen 1
              have g2 : wr.frozen? ⟨T, 2, none⟩ = false := HSj.out.b0.frozen 2
              have c0 : wr.cell? ⟨T + 1, 0, none⟩ = some (.slice (some ⟨G, 0, none⟩) n n) := HSj.out.b1.one rfl
              have c1 : wr.cell? ⟨T + 1, 1, none⟩ = some (.slice (some ⟨J, 0, none⟩) m m) := HSj.out.b1.one rfl
              have c2 : wr.cell? ⟨T + 1, 2, none⟩ = some (.int .i64 lk) := HSj.out.b1.one rfl
              go_wp2_with fail
              generalize hu5 : World.setCell (World.setCell (World.setCell wr _ _) _ _) _ _ = u5'
              have HK5 : Hid (Keep T wr u5') := by rw [← hu5]; exact (((Keep.refl _ _).setCell 0 _).setCell 1 _).setCell 2 _
              have HB5 : Hid (Blk u5' T [.slice (some ⟨G, 0, none⟩) n n, .slice (some ⟨J, 0, none⟩) m m, .int .i64 lk]) := by rw [← hu5]; exact ((HSj.out.b0.set 0 _).set 1 _).set 2 _
              clear hu5
              refine bodyPost_ret (v := .agg #[.slice (some ⟨G, 0, none⟩) n n, .slice (some ⟨J, 0, none⟩) m m, .int .i64 lk]) ?_ rfl ⟨⟨some ⟨G, 0, none⟩, n, n, some ⟨J, 0, none⟩, m, m⟩, by rw [HTX.out]; rfl, ?_, ⟨fun x e => by injection e with e; rw [← e]; show w.heap.size ≤ G; omega, fun x e => by injection e with e; rw [← e]; show w.heap.size ≤ J; omega⟩, ?_, ?_⟩
              · obtain ⟨tt, hb⟩ := HB5.out
                exact results_cell_row Tryz.results70 _ _ T tt _ _ _ rfl hb Tryz.underlying61 rfl size_tx
              · rw [HTX.out]
                refine ⟨Els.of_blk (HGj.out.keep HK5.out (by omega)) HZL.out (Nat.le_refl _) (by show n ≤ maxLen; unfold maxLen; omega) ?_, Els.of_blk (HJj.out.keep HK5.out (by omega)) HOL.out (Nat.le_refl _) (by show m ≤ maxLen; unfold maxLen; omega) ?_⟩
                · exact List.take_of_length_le (by rw [flatE_length, HZL.out]; exact Nat.le_refl _)
                · exact List.take_of_length_le (by rw [flatE_length, HOL.out]; exact Nat.le_refl _)
              · rw [HTX.out]
                exact HSj.out.rd.other HK5.out (by omega) (by omega)
              · exact HSj.out.keep.other HK5.out (by omega)
end Go.Proofs.YtlaifphedhaemaaGreatDoor
