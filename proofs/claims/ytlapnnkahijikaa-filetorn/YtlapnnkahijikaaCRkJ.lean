/- The document's own files in memory: Crash (printed by tools/mkrkj.py). -/
import Derived.Test.YtlapnnkahijikaaZR3
namespace Go.Proofs.Ytlapnnkahijikaa
open Go.ChangeShapes Go.WideShapes Go.ChangeAt Go.RowKit Go.Lib

/-- Which picks are left behind a row. -/
def sleft : List Fil → List Int → List Int
  | [], ps => ps
  | p :: L, ps => sleft L (keepOf p.2 ps).2
theorem scrash_snoc (p : Fil) : ∀ (L : List Fil) (ps : List Int), scrash (L ++ [p]) ps = scrash L ps ++ [(p.1, ⟨p.2.b.take (keepOf p.2 (sleft L ps)).1, (keepOf p.2 (sleft L ps)).1⟩)]
  | [], ps => rfl
  | q :: L, ps => by
    rw [List.cons_append, scrash_cons, scrash_cons, scrash_snoc p L]; rfl
theorem sleft_snoc (p : Fil) : ∀ (L : List Fil) (ps : List Int), sleft (L ++ [p]) ps = (keepOf p.2 (sleft L ps)).2
  | [], _ => rfl
  | _ :: L, _ => sleft_snoc p L _
theorem scrash_length : ∀ (L : List Fil) (ps : List Int), (scrash L ps).length = L.length
  | [], _ => rfl
  | p :: L, ps => by rw [scrash_cons, List.length_cons, List.length_cons, scrash_length]
theorem keep_full {x : Fl} {ps : List Int} (h : ¬ x.safe < x.b.length) : keepOf x ps = (x.safe, ps) := by unfold keepOf; rw [if_neg h]
theorem keep_none {x : Fl} (h : x.safe < x.b.length) : keepOf x [] = (x.safe, []) := by unfold keepOf; rw [if_pos h]
theorem keep_one {x : Fl} {p : Int} {ps : List Int} (h : x.safe < x.b.length) : keepOf x (p :: ps) = (x.safe + remF p (x.b.length - x.safe), ps) := by unfold keepOf; rw [if_pos h]
theorem OwnE.raise {α : Type} [El α] {T : TypeId} {w : World} {N : Nat} {v : Value} {l : List α} (h : OwnE T w 0 v l) (hN : ∀ k, v.ownBlock = some k → N ≤ k) : OwnE T w N v l := by
  refine ⟨h.1, ?_⟩
  rcases h.2 with hn | ⟨g, cap, cur, hv, _, rest⟩
  · exact .inl hn
  · exact .inr ⟨g, cap, cur, hv, hN g (by rw [hv]; rfl), rest⟩
theorem Blk.grownJ {w w' : World} {b : Nat} {cs : List Value} {row : Option Nat} (h : Blk w b cs) (hg : w.grownBy w' row) (hn : some b ≠ row) : Blk w' b cs := by
  have hl := h.lt
  obtain ⟨t, ht⟩ := h
  exact ⟨t, by rw [hg.5 b hl hn]; exact ht⟩
theorem drop_at {Z : List Int} {k : Nat} (h : k < Z.length) : Z.drop k = Z.getD k 0 :: Z.drop (k + 1) := by
  rw [List.drop_eq_getElem_cons h, List.getD_eq_getElem?_getD, List.getElem?_eq_getElem h]; rfl
set_option maxRecDepth 100000 in
set_option maxHeartbeats 8000000 in
theorem rcrash_any (m : Nat) (v : Value) (R : RS) (a : Option Addr) (n c : Nat) (Z : List Int) (w : World) (h : RkAt w m v R) (hfit : ∀ p ∈ R.L, p.2.safe ≤ p.2.b.length ∧ p.2.b.length ≤ 16777216) (hl : R.L.length ≤ 99999) (hz : Ints w a Z) (hn : Z.length = n) (hc : n ≤ c) (hcm : c ≤ maxLen) :
    Calls Try.prog 12 #[.pointer (some ⟨m, 0, none⟩), .slice a n c] w fun e w' => ∃ g v', e = .returned (.pointer (some ⟨g, 0, none⟩)) ∧ RkAt w' g v' ⟨scrash R.L Z, -1, false, 0⟩ ∧ w.heap.size ≤ g ∧ (∀ k, v'.ownBlock = some k → w.heap.size ≤ k) ∧ Below w.heap.size w w' := by
  have HMO : Hid (Try.prog.follows .mixedOrders = true) := show _ = _ by kernel_rfl
  have HNF : Hid _ := newFS_any w
  obtain ⟨ar, cr, rfl, hels⟩ := h.shape
  obtain ⟨L, fuse, dark, ops⟩ := R
  simp only at hels hfit hl
  obtain ⟨z, hz0⟩ : ∃ z, z = L.length := ⟨_, rfl⟩
  have HC0 : Hid (w.cell? ⟨m, 0, none⟩ = some (.slice ar z cr)) := by rw [hz0]; exact h.blk.one rfl
  rw [← hz0] at hels
  have HE : Hid (Els w ar z cr L) := hels
  have HZL : Hid (z = L.length) := hz0
  have HF : Hid (∀ p ∈ L, p.2.safe ≤ p.2.b.length ∧ p.2.b.length ≤ 16777216) := hfit
  have HZ : Hid (Ints w a Z ∧ Z.length = n) := ⟨hz, hn⟩
  have hz5 : z ≤ 99999 := by rw [hz0]; exact hl
  have hn63 : n ≤ 9223372036854775807 := by unfold maxLen at hcm; omega
  have HW0 : Hid (m < w.heap.size) := h.blk.lt
  clear h hfit hl hz hn hc hcm hels hz0
  show Calls _ _ _ _ fun e w' => ∃ g v', e = .returned (.pointer (some ⟨g, 0, none⟩)) ∧ RkAt w' g v' ⟨scrash L Z, -1, false, 0⟩ ∧ w.heap.size ≤ g ∧ (∀ k, v'.ownBlock = some k → w.heap.size ≤ k) ∧ Below w.heap.size w w'
  go_enter Try.func12, Try.ntmps12
  go_wp2_with fail
  refine Calls.mono HNF.out ?_
  rintro e w1 ⟨rfl, hr1, hb1⟩
  have HR1 : Hid (RkAt w1 w.heap.size (.slice none 0 0) ⟨[], -1, false, 0⟩) := hr1
  have HB1 : Hid (Below w.heap.size w w1) := hb1
  clear hr1 hb1 HNF
  obtain ⟨g, hg⟩ : ∃ g, g = w.heap.size := ⟨_, rfl⟩
  rw [← hg] at HR1 ⊢
  have HG : Hid (g = w.heap.size) := hg
  clear hg
  go_wp2_with fail
  go_loopw [6, 7] (fun av i wr => ∃ (t j : Nat) (a3 : Option Addr) (c3 : Nat), t ≤ j ∧ j ≤ z ∧ av = .int .i64 t ∧ i = .int .i64 j ∧ Hid (RkAt wr g (.slice a3 j c3) ⟨scrash (L.take j) Z, -1, false, 0⟩) ∧ Hid (∀ k, (Value.slice a3 j c3).ownBlock = some k → w.heap.size ≤ k) ∧ Hid (Below w.heap.size w wr) ∧ Hid (sleft (L.take j) Z = Z.drop t)) (fun _ i _ => z - (intOf i).toNat)
  case atStart => exact ⟨0, 0, none, 0, Nat.le_refl _, Nat.zero_le _, rfl, rfl, HR1.out, (fun k e => by cases e), HB1.out, rfl⟩
  case round =>
    obtain ⟨t, j, a3, c3, htj, hj, rfl, rfl, HR, HO, HB, HS⟩ := hrel
    clear HR1 HB1
    have hc0 := cell_below HB.out HC0.out
    by_cases hlt : j < z
    · have e0 : (0 : Int) ≤ (j : Int) := by omega
      have e1 : (j : Int) < (z : Int) := by omega
      have hjL : j < L.length := by rw [← HZL.out]; exact hlt
      obtain ⟨b, o, rfl, c0, c1, c2⟩ := (HE.out.below HB.out).fil (k := j) hlt
      have hfj := HF.out (L.getD j default) (by rw [List.getD_eq_getElem?_getD, List.getElem?_eq_getElem hjL]; exact List.getElem_mem hjL)
      have hcr := scrash_snoc (L.getD j default) (L.take j) Z
      have hle := sleft_snoc (L.getD j default) (L.take j) Z
      have htk : L.take j ++ [L.getD j default] = L.take (j + 1) := by
        rw [List.take_add_one, List.getD_eq_getElem?_getD, List.getElem?_eq_getElem hjL]; rfl
      rw [htk, HS.out] at hcr hle
      generalize L.getD j default = el at *
      obtain ⟨nm, xb, xs⟩ := el
      simp only at c0 c1 c2 hfj hcr hle
      have HCR : Hid (scrash (L.take (j + 1)) Z = scrash (L.take j) Z ++ [(nm, ⟨xb.take (keepOf ⟨xb, xs⟩ (Z.drop t)).1, (keepOf ⟨xb, xs⟩ (Z.drop t)).1⟩)]) := hcr
      have HLE : Hid (sleft (L.take (j + 1)) Z = (keepOf ⟨xb, xs⟩ (Z.drop t)).2) := hle
      obtain ⟨hf1, hf2⟩ := hfj
      obtain ⟨lo, hlo⟩ : ∃ lo, lo = xb.length - xs := ⟨_, rfl⟩
      have HSX : Hid ((ofB xb).size = xb.length) := ofB_size xb
      clear hcr hle htk HS
      go_upto_region 7 with fail
      generalize hw2 : World.alloc wr _ = w2
      have hb2 : Below wr.heap.size wr w2 := by rw [← hw2]; exact (Below.refl _ _).alloc (Nat.le_refl _) _
      have HBX : Hid (Blk w2 wr.heap.size [.string nm, .string (ofB xb), .int .i64 xs]) := by rw [← hw2]; exact Blk.mk _ _ _ rfl rfl
      have HR2 : Hid (RkAt w2 g (.slice a3 j c3) ⟨scrash (L.take j) Z, -1, false, 0⟩) := HR.out.below hb2
      have HB2 : Hid (Below w.heap.size w w2) := HB.out.trans (hb2.mono HB.out.size)
      have HN0 : Hid (w.heap.size ≤ wr.heap.size ∧ wr.heap.size ≠ g ∧ ∀ k, (Value.slice a3 j c3).ownBlock = some k → k ≠ wr.heap.size) := ⟨HB.out.size, fun e => by have := HR.out.blk.lt; omega, fun k e => by have := (HR.out.own.lt k e).2; omega⟩
      clear hw2 hb2 c0 c1 c2 hc0 HR HB
      generalize wr.heap.size = B0 at *
      have hx1 : w2.cell? ⟨B0, 1, none⟩ = some (.string (ofB xb)) := HBX.out.one rfl
      have hx2 : w2.cell? ⟨B0, 2, none⟩ = some (.int .i64 xs) := HBX.out.one rfl
      have hls : ((ofB xb).size : Int) - (xs : Int) = (lo : Int) := by rw [HSX.out]; omega
      have hs1 : (ofB xb).size ≤ 16777216 := by rw [HSX.out]; exact hf2
      have hfz1 := HBX.out.frozen 1
      have HLO : Hid (lo = xb.length - xs) := hlo
      have hlo1 : lo ≤ 16777216 := by omega
      have hlo2 : xs < xb.length → lo > 0 := fun _ => by omega
      have hlo3 : ¬ xs < xb.length → ¬ lo > 0 := fun _ => by omega
      clear hlo
      by_cases hlo0 : xs < xb.length
      · have g0 : (lo : Int) > 0 := by have := hlo2 hlo0; omega
        clear hlo2 hlo3
        by_cases htn : t < n
        · have g1 : (t : Int) < (n : Int) := by omega
          have g2 : (0 : Int) ≤ (t : Int) := by omega
          obtain ⟨p, hp⟩ : ∃ p, p = Z.getD t 0 := ⟨_, rfl⟩
          have HDR : Hid (Z.drop t = p :: Z.drop (t + 1)) := show _ = _ by rw [hp]; exact drop_at (by rw [HZ.out.2]; exact htn)
          obtain ⟨ba, oa, rfl, hcz⟩ : ∃ ba oa, a = some ⟨ba, oa, none⟩ ∧ w2.cell? ⟨ba, oa + t, none⟩ = some (.int .i64 p) := by
            rcases HZ.out.1 with h1 | ⟨ba, oa, h1, h2⟩
            · have h3 := HZ.out.2; rw [h1] at h3; simp at h3; omega
            · exact ⟨ba, oa, h1, cell_below HB2.out (by rw [hp]; exact h2 t (by rw [HZ.out.2]; exact htn))⟩
          clear hp
          have HKP : Hid (keepOf ⟨xb, xs⟩ (Z.drop t) = (xs + remF p lo, Z.drop (t + 1))) := show _ = _ by rw [HDR.out, keep_one hlo0, HLO.out]
          have HRM := remF_tmod p lo
          have hrl := remF_le p lo
          have j1 : -((lo : Int) + 1) < p.tmod ((lo : Int) + 1) := by
            have := Int.lt_tmod_of_pos p (show 0 < (lo : Int) + 1 by omega); omega
          have j2 : p.tmod ((lo : Int) + 1) < (lo : Int) + 1 := Int.tmod_lt_of_pos p (by omega)
          generalize remF p lo = rho at *
          obtain ⟨hr1, hr2⟩ := HRM
          by_cases hng : p.tmod ((lo : Int) + 1) < 0
          · have hr3 : p.tmod ((lo : Int) + 1) + (lo : Int) + 1 = (rho : Int) := by have := hr1 hng; omega
            clear hr1 hr2
            have hq : xs + rho ≤ (ofB xb).size := by rw [HSX.out]; have := HLO.out; omega
            have HCUT : Hid ((ofB xb).extract 0 (xs + rho) = ofB (xb.take (xs + rho))) := ofB_cut xb (xs + rho)
            go_upto_region 16 with fail
            rw [HCUT.out]
            generalize hw3 : World.setCell w2 _ _ = w3
            obtain ⟨xk, hxk⟩ : ∃ l, l = xb.take (xs + rho) := ⟨_, rfl⟩
            have HXK : Hid (xk = xb.take (xs + rho)) := hxk
            have hkl : xs + rho ≤ xb.length := by have := HLO.out; omega
            have HBX3 : Hid (Blk w3 B0 [.string nm, .string (ofB xk), .int .i64 xs]) := by rw [← hw3, hxk]; exact HBX.out.set 1 _
            have hk3 : Keep B0 w2 w3 := by rw [← hw3]; exact (Keep.refl _ _).setCell _ _
            have HR3 : Hid (RkAt w3 g (.slice a3 j c3) ⟨scrash (L.take j) Z, -1, false, 0⟩) := HR2.out.far hk3 HN0.out.2
            have HB3 : Hid (Below w.heap.size w w3) := HB2.out.trans (hk3.below HN0.out.1 HB2.out.size)
            rw [← hxk]
            clear hw3 hk3 hx1 hx2 hfz1 HR2 HB2 HBX hxk HCUT
            have HSK : Hid ((ofB xk).size = xs + rho) := show _ = _ by rw [ofB_size, HXK.out, List.length_take]; omega
            have hx1 : w3.cell? ⟨B0, 1, none⟩ = some (.string (ofB xk)) := HBX3.out.one rfl
            have hx2 : w3.cell? ⟨B0, 2, none⟩ = some (.int .i64 xs) := HBX3.out.one rfl
            have hfz2 := HBX3.out.frozen 2
            go_upto_region 17 with fail
            rw [HSK.out]
            generalize hw4 : World.setCell w3 _ _ = w4
            have HBX4 : Hid (Blk w4 B0 [.string nm, .string (ofB xk), .int .i64 ((xs + rho : Nat) : Int)]) := by rw [← hw4]; exact HBX3.out.set 2 _
            have hk4 : Keep B0 w3 w4 := by rw [← hw4]; exact (Keep.refl _ _).setCell _ _
            have HR4 : Hid (RkAt w4 g (.slice a3 j c3) ⟨scrash (L.take j) Z, -1, false, 0⟩) := HR3.out.far hk4 HN0.out.2
            have HB4 : Hid (Below w.heap.size w w4) := HB3.out.trans (hk4.below HN0.out.1 HB3.out.size)
            clear hw4 hk4 hx1 hx2 hfz2 HR3 HB3 HBX3
            have HC4 : Hid (w4.cell? ⟨g, 0, none⟩ = some (.slice a3 j c3)) := HR4.out.blk.one rfl
            have HOW : Hid (OwnF w4 w.heap.size (.slice a3 j c3) (scrash (L.take j) Z)) := HR4.out.own.raise HO.out
            have HW : Hid (Below w4.heap.size w4 w4.drew) := (Below.refl _ _).drew
            have hcn : w4.drew.cell? ⟨g, 0, none⟩ = some (.slice a3 j c3) := HC4.out
            have HLS : Hid ((scrash (L.take j) Z).length = j) := show _ = _ by rw [scrash_length, List.length_take]; omega
            have HSC : Hid (scrash (L.take (j + 1)) Z = scrash (L.take j) Z ++ [(nm, (⟨xk, xs + rho⟩ : Fl))]) := show _ = _ by rw [HCR.out, HKP.out, HXK.out]
            have HSL : Hid (sleft (L.take (j + 1)) Z = Z.drop (t + 1)) := show _ = _ by rw [HLE.out, HKP.out]
            clear HCR HLE HKP HSK
            refine wp_region_noPanic ?_
            refine wp_region_held_drew (S := fun w' => w'.cell? ⟨B0, 0, none⟩ = some (.string nm) ∧ w'.cell? ⟨B0, 1, none⟩ = some (.string (ofB xk)) ∧ w'.cell? ⟨B0, 2, none⟩ = some (.int .i64 ((xs + rho : Nat) : Int))) HMO.out (⟨cell_below HW.out (HBX4.out.one rfl), cell_below HW.out (HBX4.out.one rfl), cell_below HW.out (HBX4.out.one rfl)⟩) (fun hHeld => ?_)
            refine wpAnyH_take (i := 0) (oi := { dst := some 67, op := .move (.tmp 5), type := 27, pos := "chain.go:200", after := #[], guard := none }) (v := ?_) rfl (by kernel_rfl) (by kernel_rfl) (by kernel_rfl) (fun _ _ _ h => h) (Or.inl ⟨by rfl, ?_⟩) (by assumption) ?_
            rotate_left
            · intro _ _; go_simp; first | done | with_reducible rfl
            simp only [Act.put, List.setIfInBounds_toArray, List.set_cons_zero, List.set_cons_succ]
            refine wpAnyH_take (i := 1) (oi := { dst := some 68, op := .move (.tmp 5), type := 27, pos := "chain.go:200", after := #[], guard := none }) (v := ?_) rfl (by kernel_rfl) (by kernel_rfl) (by kernel_rfl) (fun _ _ _ h => h) (Or.inl ⟨by rfl, ?_⟩) (by assumption) ?_
            rotate_left
            · intro _ _; go_simp; first | done | with_reducible rfl
            simp only [Act.put, List.setIfInBounds_toArray, List.set_cons_zero, List.set_cons_succ]
            refine wpAnyH_take (i := 2) (oi := { dst := some 69, op := .nilCheck (.tmp 68), type := 0, pos := "chain.go:200", after := #[{ on := 1, ground := .data }], guard := none }) (v := ?_) rfl (by kernel_rfl) (by kernel_rfl) (by kernel_rfl) (fun _ _ _ h => h) (Or.inl ⟨by rfl, ?_⟩) (by assumption) ?_
            rotate_left
            · intro _ _; go_simp; first | done | with_reducible rfl
            simp only [Act.put, List.setIfInBounds_toArray, List.set_cons_zero, List.set_cons_succ]
            refine wpAnyH_take (i := 3) (oi := { dst := some 70, op := .fieldAddr 50 (.tmp 69) 0, type := 0, pos := "chain.go:200", after := #[{ on := 2, ground := .data }], guard := none }) (v := ?_) rfl (by kernel_rfl) (by kernel_rfl) (by kernel_rfl) (fun _ _ _ h => h) (Or.inl ⟨by rfl, ?_⟩) (by assumption) ?_
            rotate_left
            · intro _ _; go_simp; first | done | with_reducible rfl
            simp only [Act.put, List.setIfInBounds_toArray, List.set_cons_zero, List.set_cons_succ]
            refine wpAnyH_take (i := 5) (oi := { dst := some 72, op := .load 60 (.tmp 8), type := 60, pos := "chain.go:200", after := #[], guard := none }) (v := .agg #[.string nm, .string (ofB xk), .int .i64 ((xs + rho : Nat) : Int)]) rfl (by kernel_rfl) (by kernel_rfl) (by kernel_rfl) (fun _ _ _ h => h) (Or.inl ⟨by rfl, ?_⟩) (by assumption) ?_
            · intro _ _; rename_i wz hz; obtain ⟨cz0, cz1, cz2⟩ := hz; go_simp
            simp only [Act.put, List.setIfInBounds_toArray, List.set_cons_zero, List.set_cons_succ]
            refine wpAnyH_ready (rs := [4, 6]) (by kernel_rfl) (by simp) ?_
            refine (AllReadyH.cons (o := { dst := some 71, op := .load 48 (.tmp 70), type := 48, pos := "chain.go:200", after := #[{ on := 3, ground := .data }], guard := none }) rfl (fun K hK => ?_) (AllReadyH.cons (o := { dst := some 73, op := .buildSlice 48 1 #[(0, .tmp 72)], type := 48, pos := "chain.go:200", after := #[{ on := 5, ground := .data }], guard := none }) rfl (fun K hK => ?_) AllReadyH.nil))
            · go_simp
              skip
              go_simp
              refine hK.out _ _ (⟨cell_below HW.out (HBX4.out.one rfl), cell_below HW.out (HBX4.out.one rfl), cell_below HW.out (HBX4.out.one rfl)⟩) (fun hHeld => ?_)
              clear hK K
              refine wpAnyH_ready (rs := [6]) (by kernel_rfl) (by simp) ?_
              refine AllReadyH.cons (o := { dst := some 73, op := .buildSlice 48 1 #[(0, .tmp 72)], type := 48, pos := "chain.go:200", after := #[{ on := 5, ground := .data }], guard := none }) rfl (fun K hK => ?_) AllReadyH.nil
              refine step_build_own elF rfl _ rfl (nm, ⟨xk, xs + rho⟩) rfl ?_; intro wn g10 HX HBn; replace HW : Hid (Below w4.heap.size w4 wn) := HW.out.trans (HBn.out.mono HW.out.size); clear HBn; have hcn := cell_below HW.out HC4.out
              simp only [Act.put, List.setIfInBounds_toArray, List.set_cons_zero, List.set_cons_succ]
              refine hK.out _ _ (⟨cell_below HW.out (HBX4.out.one rfl), cell_below HW.out (HBX4.out.one rfl), cell_below HW.out (HBX4.out.one rfl)⟩) (fun hHeld => ?_)
              clear hK K
              refine wpAnyH_ready (rs := [7]) (by kernel_rfl) (by simp) ?_
              refine AllReadyH.cons (o := { dst := some 74, op := .call { callee := .builtin Go.Builtin.append, args := #[.tmp 71, .tmp 73], argTypes := #[48, 48] }, type := 48, pos := "chain.go:200", after := #[{ on := 4, ground := .data }, { on := 6, ground := .data }], guard := none }) rfl (fun K hK => ?_) AllReadyH.nil
              refine step_append_e elF rfl _ _ rfl w.heap.size _ (scrash (L.take j) Z) rfl (HOW.out.below HW.out) _ 1 1 [(nm, (⟨xk, xs + rho⟩ : Fl))] rfl HX.out (by rw [HLS.out]; omega) (Nat.le_trans HB4.out.size HW.out.size) ?_; intro v5 w5 HO5 HG5 HM5; have HNG : Hid (∀ k, v5.ownBlock = some k → k ≠ g) := (fun k e => HM5.out.elim (fun e2 => HR4.out.ne k (by first | exact e2.symm.trans e | exact e2.trans e)) fun ⟨q, h1, h2⟩ => by (have h3 := HR4.out.blk.lt; have h4 := HW.out.size; rw [h2] at e; injection e with e; omega)); clear HM5; have HBG : Hid (Blk w5 g [.slice a3 j c3, .int .i64 (-1), .bool false, .int .i64 0]) := (HR4.out.blk.below HW.out HR4.out.blk.lt).grownJ HG5.out (fun e => HR4.out.ne g e.symm rfl); have HBX5 : Hid (Blk w5 B0 [.string nm, .string (ofB xk), .int .i64 ((xs + rho : Nat) : Int)]) := (HBX4.out.below HW.out HBX4.out.lt).grownJ HG5.out (fun e => HN0.out.2.2 B0 e.symm rfl); have HB5 : Hid (Below w.heap.size w w5) := (HB4.out.trans (HW.out.mono HB4.out.size)).grown HG5.out (Nat.le_trans HB4.out.size HW.out.size) HO.out; clear HG5; have hy5 := HBG.out.one (i := 0) rfl; have hf5 := HBG.out.frozen 0; obtain ⟨a5, c5, hv5, _⟩ := HO5.out.els; rw [List.length_append, HLS.out] at hv5; subst hv5; have HFK : Hid (∀ {q : Nat} {u : Value}, w5.cell? ⟨B0, q, none⟩ = some u → (w5.setCell ⟨g, 0, none⟩ (.slice a5 (j + 1) c5)).cell? ⟨B0, q, none⟩ = some u) := fun h => ((Keep.refl g w5).setCell 0 _).cell HN0.out.2.1 h
              simp only [Act.put, List.setIfInBounds_toArray, List.set_cons_zero, List.set_cons_succ]
              refine hK.out _ _ (⟨HBX5.out.one rfl, HBX5.out.one rfl, HBX5.out.one rfl⟩) (fun hHeld => ?_)
              clear hK K
              refine wpAnyH_take (i := 8) (oi := { dst := some 75, op := .nilCheck (.tmp 67), type := 0, pos := "chain.go:200", after := #[{ on := 0, ground := .data }, { on := 0, ground := .phase }, { on := 1, ground := .phase }, { on := 2, ground := .phase }, { on := 3, ground := .phase }, { on := 4, ground := .phase }, { on := 5, ground := .phase }, { on := 6, ground := .phase }, { on := 7, ground := .phase }], guard := none }) (v := ?_) rfl (by kernel_rfl) (by kernel_rfl) (by kernel_rfl) (fun _ _ _ h => h) (Or.inl ⟨by rfl, ?_⟩) (by assumption) ?_
              rotate_left
              · intro _ _; go_simp; first | done | with_reducible rfl
              simp only [Act.put, List.setIfInBounds_toArray, List.set_cons_zero, List.set_cons_succ]
              refine wpAnyH_take (i := 9) (oi := { dst := some 76, op := .fieldAddr 50 (.tmp 75) 0, type := 0, pos := "chain.go:200", after := #[{ on := 8, ground := .data }, { on := 0, ground := .phase }, { on := 1, ground := .phase }, { on := 2, ground := .phase }, { on := 3, ground := .phase }, { on := 4, ground := .phase }, { on := 5, ground := .phase }, { on := 6, ground := .phase }, { on := 7, ground := .phase }], guard := none }) (v := ?_) rfl (by kernel_rfl) (by kernel_rfl) (by kernel_rfl) (fun _ _ _ h => h) (Or.inl ⟨by rfl, ?_⟩) (by assumption) ?_
              rotate_left
              · intro _ _; go_simp; first | done | with_reducible rfl
              simp only [Act.put, List.setIfInBounds_toArray, List.set_cons_zero, List.set_cons_succ]
              refine wpAnyH_ready (rs := [10]) (by kernel_rfl) (by simp) ?_
              refine AllReadyH.cons (o := { dst := none, op := .store 48 (.tmp 76) (.tmp 74), type := 0, pos := "chain.go:200", after := #[{ on := 9, ground := .data }, { on := 7, ground := .data }, { on := 7, ground := .chain }, { on := 0, ground := .phase }, { on := 1, ground := .phase }, { on := 2, ground := .phase }, { on := 3, ground := .phase }, { on := 4, ground := .phase }, { on := 5, ground := .phase }, { on := 6, ground := .phase }, { on := 7, ground := .phase }], guard := none }) rfl (fun K hK => ?_) AllReadyH.nil
              go_simp
              skip
              go_simp
              refine hK.out _ _ (⟨HFK.out (HBX5.out.one rfl), HFK.out (HBX5.out.one rfl), HFK.out (HBX5.out.one rfl)⟩) (fun hHeld => ?_)
              clear hK K
              refine wpAnyH_done (by kernel_rfl) ?_ _
              refine NoPanic.normal ?_
              clear hHeld hy5 hf5 HFK
              generalize hw6 : World.setCell w5 _ _ = w6
              have HFIN : Hid (RkAt w6 g (.slice a5 (j + 1) c5) ⟨scrash (L.take (j + 1)) Z, -1, false, 0⟩ ∧ (∀ k, (Value.slice a5 (j + 1) c5).ownBlock = some k → w.heap.size ≤ k) ∧ Below w.heap.size w w6) := by
                have hk : Keep g w5 w6 := by rw [← hw6]; exact (Keep.refl _ _).setCell _ _
                have hb6 : Blk w6 g [.slice a5 (j + 1) c5, .int .i64 (-1), .bool false, .int .i64 0] := by rw [← hw6]; exact HBG.out.set 0 _
                have hlow : ∀ k, (Value.slice a5 (j + 1) c5).ownBlock = some k → w.heap.size ≤ k := fun k e => (HO5.out.lt k e).1
                have hne : ∀ k, (Value.slice a5 (j + 1) c5).ownBlock = some k → k ≠ g := HNG.out
                refine ⟨⟨hb6, ?_, hne⟩, hlow, HB5.out.trans (hk.below (by rw [HG.out]; exact Nat.le_refl _) HB5.out.size)⟩
                show OwnF w6 0 _ _
                rw [HSC.out]
                exact OwnE.same (OwnE.less0 HO5.out) fun k e => hk.block k (HO5.out.lt k e).2 (hne k e)
              clear hw6 HO5 HB5 HBG HBX5
              go_wp2_with fail
              go_roundw
              case rel => exact ⟨t + 1, j + 1, a5, c5, by omega, by omega, by go_num, by go_num, HFIN.out.1, HFIN.out.2.1, HFIN.out.2.2, HSL.out⟩
              case measure => simp [intOf]; omega
            · refine step_build_own elF rfl _ rfl (nm, ⟨xk, xs + rho⟩) rfl ?_; intro wn g10 HX HBn; replace HW : Hid (Below w4.heap.size w4 wn) := HW.out.trans (HBn.out.mono HW.out.size); clear HBn; have hcn := cell_below HW.out HC4.out
              simp only [Act.put, List.setIfInBounds_toArray, List.set_cons_zero, List.set_cons_succ]
              refine hK.out _ _ (⟨cell_below HW.out (HBX4.out.one rfl), cell_below HW.out (HBX4.out.one rfl), cell_below HW.out (HBX4.out.one rfl)⟩) (fun hHeld => ?_)
              clear hK K
              refine wpAnyH_ready (rs := [4]) (by kernel_rfl) (by simp) ?_
              refine AllReadyH.cons (o := { dst := some 71, op := .load 48 (.tmp 70), type := 48, pos := "chain.go:200", after := #[{ on := 3, ground := .data }], guard := none }) rfl (fun K hK => ?_) AllReadyH.nil
              go_simp
              skip
              go_simp
              refine hK.out _ _ (⟨cell_below HW.out (HBX4.out.one rfl), cell_below HW.out (HBX4.out.one rfl), cell_below HW.out (HBX4.out.one rfl)⟩) (fun hHeld => ?_)
              clear hK K
              refine wpAnyH_ready (rs := [7]) (by kernel_rfl) (by simp) ?_
              refine AllReadyH.cons (o := { dst := some 74, op := .call { callee := .builtin Go.Builtin.append, args := #[.tmp 71, .tmp 73], argTypes := #[48, 48] }, type := 48, pos := "chain.go:200", after := #[{ on := 4, ground := .data }, { on := 6, ground := .data }], guard := none }) rfl (fun K hK => ?_) AllReadyH.nil
              refine step_append_e elF rfl _ _ rfl w.heap.size _ (scrash (L.take j) Z) rfl (HOW.out.below HW.out) _ 1 1 [(nm, (⟨xk, xs + rho⟩ : Fl))] rfl HX.out (by rw [HLS.out]; omega) (Nat.le_trans HB4.out.size HW.out.size) ?_; intro v5 w5 HO5 HG5 HM5; have HNG : Hid (∀ k, v5.ownBlock = some k → k ≠ g) := (fun k e => HM5.out.elim (fun e2 => HR4.out.ne k (by first | exact e2.symm.trans e | exact e2.trans e)) fun ⟨q, h1, h2⟩ => by (have h3 := HR4.out.blk.lt; have h4 := HW.out.size; rw [h2] at e; injection e with e; omega)); clear HM5; have HBG : Hid (Blk w5 g [.slice a3 j c3, .int .i64 (-1), .bool false, .int .i64 0]) := (HR4.out.blk.below HW.out HR4.out.blk.lt).grownJ HG5.out (fun e => HR4.out.ne g e.symm rfl); have HBX5 : Hid (Blk w5 B0 [.string nm, .string (ofB xk), .int .i64 ((xs + rho : Nat) : Int)]) := (HBX4.out.below HW.out HBX4.out.lt).grownJ HG5.out (fun e => HN0.out.2.2 B0 e.symm rfl); have HB5 : Hid (Below w.heap.size w w5) := (HB4.out.trans (HW.out.mono HB4.out.size)).grown HG5.out (Nat.le_trans HB4.out.size HW.out.size) HO.out; clear HG5; have hy5 := HBG.out.one (i := 0) rfl; have hf5 := HBG.out.frozen 0; obtain ⟨a5, c5, hv5, _⟩ := HO5.out.els; rw [List.length_append, HLS.out] at hv5; subst hv5; have HFK : Hid (∀ {q : Nat} {u : Value}, w5.cell? ⟨B0, q, none⟩ = some u → (w5.setCell ⟨g, 0, none⟩ (.slice a5 (j + 1) c5)).cell? ⟨B0, q, none⟩ = some u) := fun h => ((Keep.refl g w5).setCell 0 _).cell HN0.out.2.1 h
              simp only [Act.put, List.setIfInBounds_toArray, List.set_cons_zero, List.set_cons_succ]
              refine hK.out _ _ (⟨HBX5.out.one rfl, HBX5.out.one rfl, HBX5.out.one rfl⟩) (fun hHeld => ?_)
              clear hK K
              refine wpAnyH_take (i := 8) (oi := { dst := some 75, op := .nilCheck (.tmp 67), type := 0, pos := "chain.go:200", after := #[{ on := 0, ground := .data }, { on := 0, ground := .phase }, { on := 1, ground := .phase }, { on := 2, ground := .phase }, { on := 3, ground := .phase }, { on := 4, ground := .phase }, { on := 5, ground := .phase }, { on := 6, ground := .phase }, { on := 7, ground := .phase }], guard := none }) (v := ?_) rfl (by kernel_rfl) (by kernel_rfl) (by kernel_rfl) (fun _ _ _ h => h) (Or.inl ⟨by rfl, ?_⟩) (by assumption) ?_
              rotate_left
              · intro _ _; go_simp; first | done | with_reducible rfl
              simp only [Act.put, List.setIfInBounds_toArray, List.set_cons_zero, List.set_cons_succ]
              refine wpAnyH_take (i := 9) (oi := { dst := some 76, op := .fieldAddr 50 (.tmp 75) 0, type := 0, pos := "chain.go:200", after := #[{ on := 8, ground := .data }, { on := 0, ground := .phase }, { on := 1, ground := .phase }, { on := 2, ground := .phase }, { on := 3, ground := .phase }, { on := 4, ground := .phase }, { on := 5, ground := .phase }, { on := 6, ground := .phase }, { on := 7, ground := .phase }], guard := none }) (v := ?_) rfl (by kernel_rfl) (by kernel_rfl) (by kernel_rfl) (fun _ _ _ h => h) (Or.inl ⟨by rfl, ?_⟩) (by assumption) ?_
              rotate_left
              · intro _ _; go_simp; first | done | with_reducible rfl
              simp only [Act.put, List.setIfInBounds_toArray, List.set_cons_zero, List.set_cons_succ]
              refine wpAnyH_ready (rs := [10]) (by kernel_rfl) (by simp) ?_
              refine AllReadyH.cons (o := { dst := none, op := .store 48 (.tmp 76) (.tmp 74), type := 0, pos := "chain.go:200", after := #[{ on := 9, ground := .data }, { on := 7, ground := .data }, { on := 7, ground := .chain }, { on := 0, ground := .phase }, { on := 1, ground := .phase }, { on := 2, ground := .phase }, { on := 3, ground := .phase }, { on := 4, ground := .phase }, { on := 5, ground := .phase }, { on := 6, ground := .phase }, { on := 7, ground := .phase }], guard := none }) rfl (fun K hK => ?_) AllReadyH.nil
              go_simp
              skip
              go_simp
              refine hK.out _ _ (⟨HFK.out (HBX5.out.one rfl), HFK.out (HBX5.out.one rfl), HFK.out (HBX5.out.one rfl)⟩) (fun hHeld => ?_)
              clear hK K
              refine wpAnyH_done (by kernel_rfl) ?_ _
              refine NoPanic.normal ?_
              clear hHeld hy5 hf5 HFK
              generalize hw6 : World.setCell w5 _ _ = w6
              have HFIN : Hid (RkAt w6 g (.slice a5 (j + 1) c5) ⟨scrash (L.take (j + 1)) Z, -1, false, 0⟩ ∧ (∀ k, (Value.slice a5 (j + 1) c5).ownBlock = some k → w.heap.size ≤ k) ∧ Below w.heap.size w w6) := by
                have hk : Keep g w5 w6 := by rw [← hw6]; exact (Keep.refl _ _).setCell _ _
                have hb6 : Blk w6 g [.slice a5 (j + 1) c5, .int .i64 (-1), .bool false, .int .i64 0] := by rw [← hw6]; exact HBG.out.set 0 _
                have hlow : ∀ k, (Value.slice a5 (j + 1) c5).ownBlock = some k → w.heap.size ≤ k := fun k e => (HO5.out.lt k e).1
                have hne : ∀ k, (Value.slice a5 (j + 1) c5).ownBlock = some k → k ≠ g := HNG.out
                refine ⟨⟨hb6, ?_, hne⟩, hlow, HB5.out.trans (hk.below (by rw [HG.out]; exact Nat.le_refl _) HB5.out.size)⟩
                show OwnF w6 0 _ _
                rw [HSC.out]
                exact OwnE.same (OwnE.less0 HO5.out) fun k e => hk.block k (HO5.out.lt k e).2 (hne k e)
              clear hw6 HO5 HB5 HBG HBX5
              go_wp2_with fail
              go_roundw
              case rel => exact ⟨t + 1, j + 1, a5, c5, by omega, by omega, by go_num, by go_num, HFIN.out.1, HFIN.out.2.1, HFIN.out.2.2, HSL.out⟩
              case measure => simp [intOf]; omega
          · have hr3 := hr2 hng
            clear hr1 hr2
            have hq : xs + rho ≤ (ofB xb).size := by rw [HSX.out]; have := HLO.out; omega
            have HCUT : Hid ((ofB xb).extract 0 (xs + rho) = ofB (xb.take (xs + rho))) := ofB_cut xb (xs + rho)
            go_upto_region 16 with fail
            rw [HCUT.out]
            generalize hw3 : World.setCell w2 _ _ = w3
            obtain ⟨xk, hxk⟩ : ∃ l, l = xb.take (xs + rho) := ⟨_, rfl⟩
            have HXK : Hid (xk = xb.take (xs + rho)) := hxk
            have hkl : xs + rho ≤ xb.length := by have := HLO.out; omega
            have HBX3 : Hid (Blk w3 B0 [.string nm, .string (ofB xk), .int .i64 xs]) := by rw [← hw3, hxk]; exact HBX.out.set 1 _
            have hk3 : Keep B0 w2 w3 := by rw [← hw3]; exact (Keep.refl _ _).setCell _ _
            have HR3 : Hid (RkAt w3 g (.slice a3 j c3) ⟨scrash (L.take j) Z, -1, false, 0⟩) := HR2.out.far hk3 HN0.out.2
            have HB3 : Hid (Below w.heap.size w w3) := HB2.out.trans (hk3.below HN0.out.1 HB2.out.size)
            rw [← hxk]
            clear hw3 hk3 hx1 hx2 hfz1 HR2 HB2 HBX hxk HCUT
            have HSK : Hid ((ofB xk).size = xs + rho) := show _ = _ by rw [ofB_size, HXK.out, List.length_take]; omega
            have hx1 : w3.cell? ⟨B0, 1, none⟩ = some (.string (ofB xk)) := HBX3.out.one rfl
            have hx2 : w3.cell? ⟨B0, 2, none⟩ = some (.int .i64 xs) := HBX3.out.one rfl
            have hfz2 := HBX3.out.frozen 2
            go_upto_region 17 with fail
            rw [HSK.out]
            generalize hw4 : World.setCell w3 _ _ = w4
            have HBX4 : Hid (Blk w4 B0 [.string nm, .string (ofB xk), .int .i64 ((xs + rho : Nat) : Int)]) := by rw [← hw4]; exact HBX3.out.set 2 _
            have hk4 : Keep B0 w3 w4 := by rw [← hw4]; exact (Keep.refl _ _).setCell _ _
            have HR4 : Hid (RkAt w4 g (.slice a3 j c3) ⟨scrash (L.take j) Z, -1, false, 0⟩) := HR3.out.far hk4 HN0.out.2
            have HB4 : Hid (Below w.heap.size w w4) := HB3.out.trans (hk4.below HN0.out.1 HB3.out.size)
            clear hw4 hk4 hx1 hx2 hfz2 HR3 HB3 HBX3
            have HC4 : Hid (w4.cell? ⟨g, 0, none⟩ = some (.slice a3 j c3)) := HR4.out.blk.one rfl
            have HOW : Hid (OwnF w4 w.heap.size (.slice a3 j c3) (scrash (L.take j) Z)) := HR4.out.own.raise HO.out
            have HW : Hid (Below w4.heap.size w4 w4.drew) := (Below.refl _ _).drew
            have hcn : w4.drew.cell? ⟨g, 0, none⟩ = some (.slice a3 j c3) := HC4.out
            have HLS : Hid ((scrash (L.take j) Z).length = j) := show _ = _ by rw [scrash_length, List.length_take]; omega
            have HSC : Hid (scrash (L.take (j + 1)) Z = scrash (L.take j) Z ++ [(nm, (⟨xk, xs + rho⟩ : Fl))]) := show _ = _ by rw [HCR.out, HKP.out, HXK.out]
            have HSL : Hid (sleft (L.take (j + 1)) Z = Z.drop (t + 1)) := show _ = _ by rw [HLE.out, HKP.out]
            clear HCR HLE HKP HSK
            refine wp_region_noPanic ?_
            refine wp_region_held_drew (S := fun w' => w'.cell? ⟨B0, 0, none⟩ = some (.string nm) ∧ w'.cell? ⟨B0, 1, none⟩ = some (.string (ofB xk)) ∧ w'.cell? ⟨B0, 2, none⟩ = some (.int .i64 ((xs + rho : Nat) : Int))) HMO.out (⟨cell_below HW.out (HBX4.out.one rfl), cell_below HW.out (HBX4.out.one rfl), cell_below HW.out (HBX4.out.one rfl)⟩) (fun hHeld => ?_)
            refine wpAnyH_take (i := 0) (oi := { dst := some 67, op := .move (.tmp 5), type := 27, pos := "chain.go:200", after := #[], guard := none }) (v := ?_) rfl (by kernel_rfl) (by kernel_rfl) (by kernel_rfl) (fun _ _ _ h => h) (Or.inl ⟨by rfl, ?_⟩) (by assumption) ?_
            rotate_left
            · intro _ _; go_simp; first | done | with_reducible rfl
            simp only [Act.put, List.setIfInBounds_toArray, List.set_cons_zero, List.set_cons_succ]
            refine wpAnyH_take (i := 1) (oi := { dst := some 68, op := .move (.tmp 5), type := 27, pos := "chain.go:200", after := #[], guard := none }) (v := ?_) rfl (by kernel_rfl) (by kernel_rfl) (by kernel_rfl) (fun _ _ _ h => h) (Or.inl ⟨by rfl, ?_⟩) (by assumption) ?_
            rotate_left
            · intro _ _; go_simp; first | done | with_reducible rfl
            simp only [Act.put, List.setIfInBounds_toArray, List.set_cons_zero, List.set_cons_succ]
            refine wpAnyH_take (i := 2) (oi := { dst := some 69, op := .nilCheck (.tmp 68), type := 0, pos := "chain.go:200", after := #[{ on := 1, ground := .data }], guard := none }) (v := ?_) rfl (by kernel_rfl) (by kernel_rfl) (by kernel_rfl) (fun _ _ _ h => h) (Or.inl ⟨by rfl, ?_⟩) (by assumption) ?_
            rotate_left
            · intro _ _; go_simp; first | done | with_reducible rfl
            simp only [Act.put, List.setIfInBounds_toArray, List.set_cons_zero, List.set_cons_succ]
            refine wpAnyH_take (i := 3) (oi := { dst := some 70, op := .fieldAddr 50 (.tmp 69) 0, type := 0, pos := "chain.go:200", after := #[{ on := 2, ground := .data }], guard := none }) (v := ?_) rfl (by kernel_rfl) (by kernel_rfl) (by kernel_rfl) (fun _ _ _ h => h) (Or.inl ⟨by rfl, ?_⟩) (by assumption) ?_
            rotate_left
            · intro _ _; go_simp; first | done | with_reducible rfl
            simp only [Act.put, List.setIfInBounds_toArray, List.set_cons_zero, List.set_cons_succ]
            refine wpAnyH_take (i := 5) (oi := { dst := some 72, op := .load 60 (.tmp 8), type := 60, pos := "chain.go:200", after := #[], guard := none }) (v := .agg #[.string nm, .string (ofB xk), .int .i64 ((xs + rho : Nat) : Int)]) rfl (by kernel_rfl) (by kernel_rfl) (by kernel_rfl) (fun _ _ _ h => h) (Or.inl ⟨by rfl, ?_⟩) (by assumption) ?_
            · intro _ _; rename_i wz hz; obtain ⟨cz0, cz1, cz2⟩ := hz; go_simp
            simp only [Act.put, List.setIfInBounds_toArray, List.set_cons_zero, List.set_cons_succ]
            refine wpAnyH_ready (rs := [4, 6]) (by kernel_rfl) (by simp) ?_
            refine (AllReadyH.cons (o := { dst := some 71, op := .load 48 (.tmp 70), type := 48, pos := "chain.go:200", after := #[{ on := 3, ground := .data }], guard := none }) rfl (fun K hK => ?_) (AllReadyH.cons (o := { dst := some 73, op := .buildSlice 48 1 #[(0, .tmp 72)], type := 48, pos := "chain.go:200", after := #[{ on := 5, ground := .data }], guard := none }) rfl (fun K hK => ?_) AllReadyH.nil))
            · go_simp
              skip
              go_simp
              refine hK.out _ _ (⟨cell_below HW.out (HBX4.out.one rfl), cell_below HW.out (HBX4.out.one rfl), cell_below HW.out (HBX4.out.one rfl)⟩) (fun hHeld => ?_)
              clear hK K
              refine wpAnyH_ready (rs := [6]) (by kernel_rfl) (by simp) ?_
              refine AllReadyH.cons (o := { dst := some 73, op := .buildSlice 48 1 #[(0, .tmp 72)], type := 48, pos := "chain.go:200", after := #[{ on := 5, ground := .data }], guard := none }) rfl (fun K hK => ?_) AllReadyH.nil
              refine step_build_own elF rfl _ rfl (nm, ⟨xk, xs + rho⟩) rfl ?_; intro wn g10 HX HBn; replace HW : Hid (Below w4.heap.size w4 wn) := HW.out.trans (HBn.out.mono HW.out.size); clear HBn; have hcn := cell_below HW.out HC4.out
              simp only [Act.put, List.setIfInBounds_toArray, List.set_cons_zero, List.set_cons_succ]
              refine hK.out _ _ (⟨cell_below HW.out (HBX4.out.one rfl), cell_below HW.out (HBX4.out.one rfl), cell_below HW.out (HBX4.out.one rfl)⟩) (fun hHeld => ?_)
              clear hK K
              refine wpAnyH_ready (rs := [7]) (by kernel_rfl) (by simp) ?_
              refine AllReadyH.cons (o := { dst := some 74, op := .call { callee := .builtin Go.Builtin.append, args := #[.tmp 71, .tmp 73], argTypes := #[48, 48] }, type := 48, pos := "chain.go:200", after := #[{ on := 4, ground := .data }, { on := 6, ground := .data }], guard := none }) rfl (fun K hK => ?_) AllReadyH.nil
              refine step_append_e elF rfl _ _ rfl w.heap.size _ (scrash (L.take j) Z) rfl (HOW.out.below HW.out) _ 1 1 [(nm, (⟨xk, xs + rho⟩ : Fl))] rfl HX.out (by rw [HLS.out]; omega) (Nat.le_trans HB4.out.size HW.out.size) ?_; intro v5 w5 HO5 HG5 HM5; have HNG : Hid (∀ k, v5.ownBlock = some k → k ≠ g) := (fun k e => HM5.out.elim (fun e2 => HR4.out.ne k (by first | exact e2.symm.trans e | exact e2.trans e)) fun ⟨q, h1, h2⟩ => by (have h3 := HR4.out.blk.lt; have h4 := HW.out.size; rw [h2] at e; injection e with e; omega)); clear HM5; have HBG : Hid (Blk w5 g [.slice a3 j c3, .int .i64 (-1), .bool false, .int .i64 0]) := (HR4.out.blk.below HW.out HR4.out.blk.lt).grownJ HG5.out (fun e => HR4.out.ne g e.symm rfl); have HBX5 : Hid (Blk w5 B0 [.string nm, .string (ofB xk), .int .i64 ((xs + rho : Nat) : Int)]) := (HBX4.out.below HW.out HBX4.out.lt).grownJ HG5.out (fun e => HN0.out.2.2 B0 e.symm rfl); have HB5 : Hid (Below w.heap.size w w5) := (HB4.out.trans (HW.out.mono HB4.out.size)).grown HG5.out (Nat.le_trans HB4.out.size HW.out.size) HO.out; clear HG5; have hy5 := HBG.out.one (i := 0) rfl; have hf5 := HBG.out.frozen 0; obtain ⟨a5, c5, hv5, _⟩ := HO5.out.els; rw [List.length_append, HLS.out] at hv5; subst hv5; have HFK : Hid (∀ {q : Nat} {u : Value}, w5.cell? ⟨B0, q, none⟩ = some u → (w5.setCell ⟨g, 0, none⟩ (.slice a5 (j + 1) c5)).cell? ⟨B0, q, none⟩ = some u) := fun h => ((Keep.refl g w5).setCell 0 _).cell HN0.out.2.1 h
              simp only [Act.put, List.setIfInBounds_toArray, List.set_cons_zero, List.set_cons_succ]
              refine hK.out _ _ (⟨HBX5.out.one rfl, HBX5.out.one rfl, HBX5.out.one rfl⟩) (fun hHeld => ?_)
              clear hK K
              refine wpAnyH_take (i := 8) (oi := { dst := some 75, op := .nilCheck (.tmp 67), type := 0, pos := "chain.go:200", after := #[{ on := 0, ground := .data }, { on := 0, ground := .phase }, { on := 1, ground := .phase }, { on := 2, ground := .phase }, { on := 3, ground := .phase }, { on := 4, ground := .phase }, { on := 5, ground := .phase }, { on := 6, ground := .phase }, { on := 7, ground := .phase }], guard := none }) (v := ?_) rfl (by kernel_rfl) (by kernel_rfl) (by kernel_rfl) (fun _ _ _ h => h) (Or.inl ⟨by rfl, ?_⟩) (by assumption) ?_
              rotate_left
              · intro _ _; go_simp; first | done | with_reducible rfl
              simp only [Act.put, List.setIfInBounds_toArray, List.set_cons_zero, List.set_cons_succ]
              refine wpAnyH_take (i := 9) (oi := { dst := some 76, op := .fieldAddr 50 (.tmp 75) 0, type := 0, pos := "chain.go:200", after := #[{ on := 8, ground := .data }, { on := 0, ground := .phase }, { on := 1, ground := .phase }, { on := 2, ground := .phase }, { on := 3, ground := .phase }, { on := 4, ground := .phase }, { on := 5, ground := .phase }, { on := 6, ground := .phase }, { on := 7, ground := .phase }], guard := none }) (v := ?_) rfl (by kernel_rfl) (by kernel_rfl) (by kernel_rfl) (fun _ _ _ h => h) (Or.inl ⟨by rfl, ?_⟩) (by assumption) ?_
              rotate_left
              · intro _ _; go_simp; first | done | with_reducible rfl
              simp only [Act.put, List.setIfInBounds_toArray, List.set_cons_zero, List.set_cons_succ]
              refine wpAnyH_ready (rs := [10]) (by kernel_rfl) (by simp) ?_
              refine AllReadyH.cons (o := { dst := none, op := .store 48 (.tmp 76) (.tmp 74), type := 0, pos := "chain.go:200", after := #[{ on := 9, ground := .data }, { on := 7, ground := .data }, { on := 7, ground := .chain }, { on := 0, ground := .phase }, { on := 1, ground := .phase }, { on := 2, ground := .phase }, { on := 3, ground := .phase }, { on := 4, ground := .phase }, { on := 5, ground := .phase }, { on := 6, ground := .phase }, { on := 7, ground := .phase }], guard := none }) rfl (fun K hK => ?_) AllReadyH.nil
              go_simp
              skip
              go_simp
              refine hK.out _ _ (⟨HFK.out (HBX5.out.one rfl), HFK.out (HBX5.out.one rfl), HFK.out (HBX5.out.one rfl)⟩) (fun hHeld => ?_)
              clear hK K
              refine wpAnyH_done (by kernel_rfl) ?_ _
              refine NoPanic.normal ?_
              clear hHeld hy5 hf5 HFK
              generalize hw6 : World.setCell w5 _ _ = w6
              have HFIN : Hid (RkAt w6 g (.slice a5 (j + 1) c5) ⟨scrash (L.take (j + 1)) Z, -1, false, 0⟩ ∧ (∀ k, (Value.slice a5 (j + 1) c5).ownBlock = some k → w.heap.size ≤ k) ∧ Below w.heap.size w w6) := by
                have hk : Keep g w5 w6 := by rw [← hw6]; exact (Keep.refl _ _).setCell _ _
                have hb6 : Blk w6 g [.slice a5 (j + 1) c5, .int .i64 (-1), .bool false, .int .i64 0] := by rw [← hw6]; exact HBG.out.set 0 _
                have hlow : ∀ k, (Value.slice a5 (j + 1) c5).ownBlock = some k → w.heap.size ≤ k := fun k e => (HO5.out.lt k e).1
                have hne : ∀ k, (Value.slice a5 (j + 1) c5).ownBlock = some k → k ≠ g := HNG.out
                refine ⟨⟨hb6, ?_, hne⟩, hlow, HB5.out.trans (hk.below (by rw [HG.out]; exact Nat.le_refl _) HB5.out.size)⟩
                show OwnF w6 0 _ _
                rw [HSC.out]
                exact OwnE.same (OwnE.less0 HO5.out) fun k e => hk.block k (HO5.out.lt k e).2 (hne k e)
              clear hw6 HO5 HB5 HBG HBX5
              go_wp2_with fail
              go_roundw
              case rel => exact ⟨t + 1, j + 1, a5, c5, by omega, by omega, by go_num, by go_num, HFIN.out.1, HFIN.out.2.1, HFIN.out.2.2, HSL.out⟩
              case measure => simp [intOf]; omega
            · refine step_build_own elF rfl _ rfl (nm, ⟨xk, xs + rho⟩) rfl ?_; intro wn g10 HX HBn; replace HW : Hid (Below w4.heap.size w4 wn) := HW.out.trans (HBn.out.mono HW.out.size); clear HBn; have hcn := cell_below HW.out HC4.out
              simp only [Act.put, List.setIfInBounds_toArray, List.set_cons_zero, List.set_cons_succ]
              refine hK.out _ _ (⟨cell_below HW.out (HBX4.out.one rfl), cell_below HW.out (HBX4.out.one rfl), cell_below HW.out (HBX4.out.one rfl)⟩) (fun hHeld => ?_)
              clear hK K
              refine wpAnyH_ready (rs := [4]) (by kernel_rfl) (by simp) ?_
              refine AllReadyH.cons (o := { dst := some 71, op := .load 48 (.tmp 70), type := 48, pos := "chain.go:200", after := #[{ on := 3, ground := .data }], guard := none }) rfl (fun K hK => ?_) AllReadyH.nil
              go_simp
              skip
              go_simp
              refine hK.out _ _ (⟨cell_below HW.out (HBX4.out.one rfl), cell_below HW.out (HBX4.out.one rfl), cell_below HW.out (HBX4.out.one rfl)⟩) (fun hHeld => ?_)
              clear hK K
              refine wpAnyH_ready (rs := [7]) (by kernel_rfl) (by simp) ?_
              refine AllReadyH.cons (o := { dst := some 74, op := .call { callee := .builtin Go.Builtin.append, args := #[.tmp 71, .tmp 73], argTypes := #[48, 48] }, type := 48, pos := "chain.go:200", after := #[{ on := 4, ground := .data }, { on := 6, ground := .data }], guard := none }) rfl (fun K hK => ?_) AllReadyH.nil
              refine step_append_e elF rfl _ _ rfl w.heap.size _ (scrash (L.take j) Z) rfl (HOW.out.below HW.out) _ 1 1 [(nm, (⟨xk, xs + rho⟩ : Fl))] rfl HX.out (by rw [HLS.out]; omega) (Nat.le_trans HB4.out.size HW.out.size) ?_; intro v5 w5 HO5 HG5 HM5; have HNG : Hid (∀ k, v5.ownBlock = some k → k ≠ g) := (fun k e => HM5.out.elim (fun e2 => HR4.out.ne k (by first | exact e2.symm.trans e | exact e2.trans e)) fun ⟨q, h1, h2⟩ => by (have h3 := HR4.out.blk.lt; have h4 := HW.out.size; rw [h2] at e; injection e with e; omega)); clear HM5; have HBG : Hid (Blk w5 g [.slice a3 j c3, .int .i64 (-1), .bool false, .int .i64 0]) := (HR4.out.blk.below HW.out HR4.out.blk.lt).grownJ HG5.out (fun e => HR4.out.ne g e.symm rfl); have HBX5 : Hid (Blk w5 B0 [.string nm, .string (ofB xk), .int .i64 ((xs + rho : Nat) : Int)]) := (HBX4.out.below HW.out HBX4.out.lt).grownJ HG5.out (fun e => HN0.out.2.2 B0 e.symm rfl); have HB5 : Hid (Below w.heap.size w w5) := (HB4.out.trans (HW.out.mono HB4.out.size)).grown HG5.out (Nat.le_trans HB4.out.size HW.out.size) HO.out; clear HG5; have hy5 := HBG.out.one (i := 0) rfl; have hf5 := HBG.out.frozen 0; obtain ⟨a5, c5, hv5, _⟩ := HO5.out.els; rw [List.length_append, HLS.out] at hv5; subst hv5; have HFK : Hid (∀ {q : Nat} {u : Value}, w5.cell? ⟨B0, q, none⟩ = some u → (w5.setCell ⟨g, 0, none⟩ (.slice a5 (j + 1) c5)).cell? ⟨B0, q, none⟩ = some u) := fun h => ((Keep.refl g w5).setCell 0 _).cell HN0.out.2.1 h
              simp only [Act.put, List.setIfInBounds_toArray, List.set_cons_zero, List.set_cons_succ]
              refine hK.out _ _ (⟨HBX5.out.one rfl, HBX5.out.one rfl, HBX5.out.one rfl⟩) (fun hHeld => ?_)
              clear hK K
              refine wpAnyH_take (i := 8) (oi := { dst := some 75, op := .nilCheck (.tmp 67), type := 0, pos := "chain.go:200", after := #[{ on := 0, ground := .data }, { on := 0, ground := .phase }, { on := 1, ground := .phase }, { on := 2, ground := .phase }, { on := 3, ground := .phase }, { on := 4, ground := .phase }, { on := 5, ground := .phase }, { on := 6, ground := .phase }, { on := 7, ground := .phase }], guard := none }) (v := ?_) rfl (by kernel_rfl) (by kernel_rfl) (by kernel_rfl) (fun _ _ _ h => h) (Or.inl ⟨by rfl, ?_⟩) (by assumption) ?_
              rotate_left
              · intro _ _; go_simp; first | done | with_reducible rfl
              simp only [Act.put, List.setIfInBounds_toArray, List.set_cons_zero, List.set_cons_succ]
              refine wpAnyH_take (i := 9) (oi := { dst := some 76, op := .fieldAddr 50 (.tmp 75) 0, type := 0, pos := "chain.go:200", after := #[{ on := 8, ground := .data }, { on := 0, ground := .phase }, { on := 1, ground := .phase }, { on := 2, ground := .phase }, { on := 3, ground := .phase }, { on := 4, ground := .phase }, { on := 5, ground := .phase }, { on := 6, ground := .phase }, { on := 7, ground := .phase }], guard := none }) (v := ?_) rfl (by kernel_rfl) (by kernel_rfl) (by kernel_rfl) (fun _ _ _ h => h) (Or.inl ⟨by rfl, ?_⟩) (by assumption) ?_
              rotate_left
              · intro _ _; go_simp; first | done | with_reducible rfl
              simp only [Act.put, List.setIfInBounds_toArray, List.set_cons_zero, List.set_cons_succ]
              refine wpAnyH_ready (rs := [10]) (by kernel_rfl) (by simp) ?_
              refine AllReadyH.cons (o := { dst := none, op := .store 48 (.tmp 76) (.tmp 74), type := 0, pos := "chain.go:200", after := #[{ on := 9, ground := .data }, { on := 7, ground := .data }, { on := 7, ground := .chain }, { on := 0, ground := .phase }, { on := 1, ground := .phase }, { on := 2, ground := .phase }, { on := 3, ground := .phase }, { on := 4, ground := .phase }, { on := 5, ground := .phase }, { on := 6, ground := .phase }, { on := 7, ground := .phase }], guard := none }) rfl (fun K hK => ?_) AllReadyH.nil
              go_simp
              skip
              go_simp
              refine hK.out _ _ (⟨HFK.out (HBX5.out.one rfl), HFK.out (HBX5.out.one rfl), HFK.out (HBX5.out.one rfl)⟩) (fun hHeld => ?_)
              clear hK K
              refine wpAnyH_done (by kernel_rfl) ?_ _
              refine NoPanic.normal ?_
              clear hHeld hy5 hf5 HFK
              generalize hw6 : World.setCell w5 _ _ = w6
              have HFIN : Hid (RkAt w6 g (.slice a5 (j + 1) c5) ⟨scrash (L.take (j + 1)) Z, -1, false, 0⟩ ∧ (∀ k, (Value.slice a5 (j + 1) c5).ownBlock = some k → w.heap.size ≤ k) ∧ Below w.heap.size w w6) := by
                have hk : Keep g w5 w6 := by rw [← hw6]; exact (Keep.refl _ _).setCell _ _
                have hb6 : Blk w6 g [.slice a5 (j + 1) c5, .int .i64 (-1), .bool false, .int .i64 0] := by rw [← hw6]; exact HBG.out.set 0 _
                have hlow : ∀ k, (Value.slice a5 (j + 1) c5).ownBlock = some k → w.heap.size ≤ k := fun k e => (HO5.out.lt k e).1
                have hne : ∀ k, (Value.slice a5 (j + 1) c5).ownBlock = some k → k ≠ g := HNG.out
                refine ⟨⟨hb6, ?_, hne⟩, hlow, HB5.out.trans (hk.below (by rw [HG.out]; exact Nat.le_refl _) HB5.out.size)⟩
                show OwnF w6 0 _ _
                rw [HSC.out]
                exact OwnE.same (OwnE.less0 HO5.out) fun k e => hk.block k (HO5.out.lt k e).2 (hne k e)
              clear hw6 HO5 HB5 HBG HBX5
              go_wp2_with fail
              go_roundw
              case rel => exact ⟨t + 1, j + 1, a5, c5, by omega, by omega, by go_num, by go_num, HFIN.out.1, HFIN.out.2.1, HFIN.out.2.2, HSL.out⟩
              case measure => simp [intOf]; omega
        · have g1 : ¬ (t : Int) < (n : Int) := by omega
          have HKP : Hid (keepOf ⟨xb, xs⟩ (Z.drop t) = (xs, Z.drop (t + 1))) := show _ = _ by rw [List.drop_of_length_le (by rw [HZ.out.2]; omega), List.drop_of_length_le (by rw [HZ.out.2]; omega), keep_none hlo0]
          have hq : xs ≤ (ofB xb).size := by rw [HSX.out]; have := HLO.out; omega
          have HCUT : Hid ((ofB xb).extract 0 (xs) = ofB (xb.take (xs))) := ofB_cut xb (xs)
          go_upto_region 16 with fail
          rw [HCUT.out]
          generalize hw3 : World.setCell w2 _ _ = w3
          obtain ⟨xk, hxk⟩ : ∃ l, l = xb.take (xs) := ⟨_, rfl⟩
          have HXK : Hid (xk = xb.take (xs)) := hxk
          have hkl : xs ≤ xb.length := by have := HLO.out; omega
          have HBX3 : Hid (Blk w3 B0 [.string nm, .string (ofB xk), .int .i64 xs]) := by rw [← hw3, hxk]; exact HBX.out.set 1 _
          have hk3 : Keep B0 w2 w3 := by rw [← hw3]; exact (Keep.refl _ _).setCell _ _
          have HR3 : Hid (RkAt w3 g (.slice a3 j c3) ⟨scrash (L.take j) Z, -1, false, 0⟩) := HR2.out.far hk3 HN0.out.2
          have HB3 : Hid (Below w.heap.size w w3) := HB2.out.trans (hk3.below HN0.out.1 HB2.out.size)
          rw [← hxk]
          clear hw3 hk3 hx1 hx2 hfz1 HR2 HB2 HBX hxk HCUT
          have HSK : Hid ((ofB xk).size = xs) := show _ = _ by rw [ofB_size, HXK.out, List.length_take]; omega
          have hx1 : w3.cell? ⟨B0, 1, none⟩ = some (.string (ofB xk)) := HBX3.out.one rfl
          have hx2 : w3.cell? ⟨B0, 2, none⟩ = some (.int .i64 xs) := HBX3.out.one rfl
          have hfz2 := HBX3.out.frozen 2
          go_upto_region 17 with fail
          rw [HSK.out]
          generalize hw4 : World.setCell w3 _ _ = w4
          have HBX4 : Hid (Blk w4 B0 [.string nm, .string (ofB xk), .int .i64 ((xs : Nat) : Int)]) := by rw [← hw4]; exact HBX3.out.set 2 _
          have hk4 : Keep B0 w3 w4 := by rw [← hw4]; exact (Keep.refl _ _).setCell _ _
          have HR4 : Hid (RkAt w4 g (.slice a3 j c3) ⟨scrash (L.take j) Z, -1, false, 0⟩) := HR3.out.far hk4 HN0.out.2
          have HB4 : Hid (Below w.heap.size w w4) := HB3.out.trans (hk4.below HN0.out.1 HB3.out.size)
          clear hw4 hk4 hx1 hx2 hfz2 HR3 HB3 HBX3
          have HC4 : Hid (w4.cell? ⟨g, 0, none⟩ = some (.slice a3 j c3)) := HR4.out.blk.one rfl
          have HOW : Hid (OwnF w4 w.heap.size (.slice a3 j c3) (scrash (L.take j) Z)) := HR4.out.own.raise HO.out
          have HW : Hid (Below w4.heap.size w4 w4.drew) := (Below.refl _ _).drew
          have hcn : w4.drew.cell? ⟨g, 0, none⟩ = some (.slice a3 j c3) := HC4.out
          have HLS : Hid ((scrash (L.take j) Z).length = j) := show _ = _ by rw [scrash_length, List.length_take]; omega
          have HSC : Hid (scrash (L.take (j + 1)) Z = scrash (L.take j) Z ++ [(nm, (⟨xk, xs⟩ : Fl))]) := show _ = _ by rw [HCR.out, HKP.out, HXK.out]
          have HSL : Hid (sleft (L.take (j + 1)) Z = Z.drop (t + 1)) := show _ = _ by rw [HLE.out, HKP.out]
          clear HCR HLE HKP HSK
          refine wp_region_noPanic ?_
          refine wp_region_held_drew (S := fun w' => w'.cell? ⟨B0, 0, none⟩ = some (.string nm) ∧ w'.cell? ⟨B0, 1, none⟩ = some (.string (ofB xk)) ∧ w'.cell? ⟨B0, 2, none⟩ = some (.int .i64 ((xs : Nat) : Int))) HMO.out (⟨cell_below HW.out (HBX4.out.one rfl), cell_below HW.out (HBX4.out.one rfl), cell_below HW.out (HBX4.out.one rfl)⟩) (fun hHeld => ?_)
          refine wpAnyH_take (i := 0) (oi := { dst := some 67, op := .move (.tmp 5), type := 27, pos := "chain.go:200", after := #[], guard := none }) (v := ?_) rfl (by kernel_rfl) (by kernel_rfl) (by kernel_rfl) (fun _ _ _ h => h) (Or.inl ⟨by rfl, ?_⟩) (by assumption) ?_
          rotate_left
          · intro _ _; go_simp; first | done | with_reducible rfl
          simp only [Act.put, List.setIfInBounds_toArray, List.set_cons_zero, List.set_cons_succ]
          refine wpAnyH_take (i := 1) (oi := { dst := some 68, op := .move (.tmp 5), type := 27, pos := "chain.go:200", after := #[], guard := none }) (v := ?_) rfl (by kernel_rfl) (by kernel_rfl) (by kernel_rfl) (fun _ _ _ h => h) (Or.inl ⟨by rfl, ?_⟩) (by assumption) ?_
          rotate_left
          · intro _ _; go_simp; first | done | with_reducible rfl
          simp only [Act.put, List.setIfInBounds_toArray, List.set_cons_zero, List.set_cons_succ]
          refine wpAnyH_take (i := 2) (oi := { dst := some 69, op := .nilCheck (.tmp 68), type := 0, pos := "chain.go:200", after := #[{ on := 1, ground := .data }], guard := none }) (v := ?_) rfl (by kernel_rfl) (by kernel_rfl) (by kernel_rfl) (fun _ _ _ h => h) (Or.inl ⟨by rfl, ?_⟩) (by assumption) ?_
          rotate_left
          · intro _ _; go_simp; first | done | with_reducible rfl
          simp only [Act.put, List.setIfInBounds_toArray, List.set_cons_zero, List.set_cons_succ]
          refine wpAnyH_take (i := 3) (oi := { dst := some 70, op := .fieldAddr 50 (.tmp 69) 0, type := 0, pos := "chain.go:200", after := #[{ on := 2, ground := .data }], guard := none }) (v := ?_) rfl (by kernel_rfl) (by kernel_rfl) (by kernel_rfl) (fun _ _ _ h => h) (Or.inl ⟨by rfl, ?_⟩) (by assumption) ?_
          rotate_left
          · intro _ _; go_simp; first | done | with_reducible rfl
          simp only [Act.put, List.setIfInBounds_toArray, List.set_cons_zero, List.set_cons_succ]
          refine wpAnyH_take (i := 5) (oi := { dst := some 72, op := .load 60 (.tmp 8), type := 60, pos := "chain.go:200", after := #[], guard := none }) (v := .agg #[.string nm, .string (ofB xk), .int .i64 ((xs : Nat) : Int)]) rfl (by kernel_rfl) (by kernel_rfl) (by kernel_rfl) (fun _ _ _ h => h) (Or.inl ⟨by rfl, ?_⟩) (by assumption) ?_
          · intro _ _; rename_i wz hz; obtain ⟨cz0, cz1, cz2⟩ := hz; go_simp
          simp only [Act.put, List.setIfInBounds_toArray, List.set_cons_zero, List.set_cons_succ]
          refine wpAnyH_ready (rs := [4, 6]) (by kernel_rfl) (by simp) ?_
          refine (AllReadyH.cons (o := { dst := some 71, op := .load 48 (.tmp 70), type := 48, pos := "chain.go:200", after := #[{ on := 3, ground := .data }], guard := none }) rfl (fun K hK => ?_) (AllReadyH.cons (o := { dst := some 73, op := .buildSlice 48 1 #[(0, .tmp 72)], type := 48, pos := "chain.go:200", after := #[{ on := 5, ground := .data }], guard := none }) rfl (fun K hK => ?_) AllReadyH.nil))
          · go_simp
            skip
            go_simp
            refine hK.out _ _ (⟨cell_below HW.out (HBX4.out.one rfl), cell_below HW.out (HBX4.out.one rfl), cell_below HW.out (HBX4.out.one rfl)⟩) (fun hHeld => ?_)
            clear hK K
            refine wpAnyH_ready (rs := [6]) (by kernel_rfl) (by simp) ?_
            refine AllReadyH.cons (o := { dst := some 73, op := .buildSlice 48 1 #[(0, .tmp 72)], type := 48, pos := "chain.go:200", after := #[{ on := 5, ground := .data }], guard := none }) rfl (fun K hK => ?_) AllReadyH.nil
            refine step_build_own elF rfl _ rfl (nm, ⟨xk, xs⟩) rfl ?_; intro wn g10 HX HBn; replace HW : Hid (Below w4.heap.size w4 wn) := HW.out.trans (HBn.out.mono HW.out.size); clear HBn; have hcn := cell_below HW.out HC4.out
            simp only [Act.put, List.setIfInBounds_toArray, List.set_cons_zero, List.set_cons_succ]
            refine hK.out _ _ (⟨cell_below HW.out (HBX4.out.one rfl), cell_below HW.out (HBX4.out.one rfl), cell_below HW.out (HBX4.out.one rfl)⟩) (fun hHeld => ?_)
            clear hK K
            refine wpAnyH_ready (rs := [7]) (by kernel_rfl) (by simp) ?_
            refine AllReadyH.cons (o := { dst := some 74, op := .call { callee := .builtin Go.Builtin.append, args := #[.tmp 71, .tmp 73], argTypes := #[48, 48] }, type := 48, pos := "chain.go:200", after := #[{ on := 4, ground := .data }, { on := 6, ground := .data }], guard := none }) rfl (fun K hK => ?_) AllReadyH.nil
            refine step_append_e elF rfl _ _ rfl w.heap.size _ (scrash (L.take j) Z) rfl (HOW.out.below HW.out) _ 1 1 [(nm, (⟨xk, xs⟩ : Fl))] rfl HX.out (by rw [HLS.out]; omega) (Nat.le_trans HB4.out.size HW.out.size) ?_; intro v5 w5 HO5 HG5 HM5; have HNG : Hid (∀ k, v5.ownBlock = some k → k ≠ g) := (fun k e => HM5.out.elim (fun e2 => HR4.out.ne k (by first | exact e2.symm.trans e | exact e2.trans e)) fun ⟨q, h1, h2⟩ => by (have h3 := HR4.out.blk.lt; have h4 := HW.out.size; rw [h2] at e; injection e with e; omega)); clear HM5; have HBG : Hid (Blk w5 g [.slice a3 j c3, .int .i64 (-1), .bool false, .int .i64 0]) := (HR4.out.blk.below HW.out HR4.out.blk.lt).grownJ HG5.out (fun e => HR4.out.ne g e.symm rfl); have HBX5 : Hid (Blk w5 B0 [.string nm, .string (ofB xk), .int .i64 ((xs : Nat) : Int)]) := (HBX4.out.below HW.out HBX4.out.lt).grownJ HG5.out (fun e => HN0.out.2.2 B0 e.symm rfl); have HB5 : Hid (Below w.heap.size w w5) := (HB4.out.trans (HW.out.mono HB4.out.size)).grown HG5.out (Nat.le_trans HB4.out.size HW.out.size) HO.out; clear HG5; have hy5 := HBG.out.one (i := 0) rfl; have hf5 := HBG.out.frozen 0; obtain ⟨a5, c5, hv5, _⟩ := HO5.out.els; rw [List.length_append, HLS.out] at hv5; subst hv5; have HFK : Hid (∀ {q : Nat} {u : Value}, w5.cell? ⟨B0, q, none⟩ = some u → (w5.setCell ⟨g, 0, none⟩ (.slice a5 (j + 1) c5)).cell? ⟨B0, q, none⟩ = some u) := fun h => ((Keep.refl g w5).setCell 0 _).cell HN0.out.2.1 h
            simp only [Act.put, List.setIfInBounds_toArray, List.set_cons_zero, List.set_cons_succ]
            refine hK.out _ _ (⟨HBX5.out.one rfl, HBX5.out.one rfl, HBX5.out.one rfl⟩) (fun hHeld => ?_)
            clear hK K
            refine wpAnyH_take (i := 8) (oi := { dst := some 75, op := .nilCheck (.tmp 67), type := 0, pos := "chain.go:200", after := #[{ on := 0, ground := .data }, { on := 0, ground := .phase }, { on := 1, ground := .phase }, { on := 2, ground := .phase }, { on := 3, ground := .phase }, { on := 4, ground := .phase }, { on := 5, ground := .phase }, { on := 6, ground := .phase }, { on := 7, ground := .phase }], guard := none }) (v := ?_) rfl (by kernel_rfl) (by kernel_rfl) (by kernel_rfl) (fun _ _ _ h => h) (Or.inl ⟨by rfl, ?_⟩) (by assumption) ?_
            rotate_left
            · intro _ _; go_simp; first | done | with_reducible rfl
            simp only [Act.put, List.setIfInBounds_toArray, List.set_cons_zero, List.set_cons_succ]
            refine wpAnyH_take (i := 9) (oi := { dst := some 76, op := .fieldAddr 50 (.tmp 75) 0, type := 0, pos := "chain.go:200", after := #[{ on := 8, ground := .data }, { on := 0, ground := .phase }, { on := 1, ground := .phase }, { on := 2, ground := .phase }, { on := 3, ground := .phase }, { on := 4, ground := .phase }, { on := 5, ground := .phase }, { on := 6, ground := .phase }, { on := 7, ground := .phase }], guard := none }) (v := ?_) rfl (by kernel_rfl) (by kernel_rfl) (by kernel_rfl) (fun _ _ _ h => h) (Or.inl ⟨by rfl, ?_⟩) (by assumption) ?_
            rotate_left
            · intro _ _; go_simp; first | done | with_reducible rfl
            simp only [Act.put, List.setIfInBounds_toArray, List.set_cons_zero, List.set_cons_succ]
            refine wpAnyH_ready (rs := [10]) (by kernel_rfl) (by simp) ?_
            refine AllReadyH.cons (o := { dst := none, op := .store 48 (.tmp 76) (.tmp 74), type := 0, pos := "chain.go:200", after := #[{ on := 9, ground := .data }, { on := 7, ground := .data }, { on := 7, ground := .chain }, { on := 0, ground := .phase }, { on := 1, ground := .phase }, { on := 2, ground := .phase }, { on := 3, ground := .phase }, { on := 4, ground := .phase }, { on := 5, ground := .phase }, { on := 6, ground := .phase }, { on := 7, ground := .phase }], guard := none }) rfl (fun K hK => ?_) AllReadyH.nil
            go_simp
            skip
            go_simp
            refine hK.out _ _ (⟨HFK.out (HBX5.out.one rfl), HFK.out (HBX5.out.one rfl), HFK.out (HBX5.out.one rfl)⟩) (fun hHeld => ?_)
            clear hK K
            refine wpAnyH_done (by kernel_rfl) ?_ _
            refine NoPanic.normal ?_
            clear hHeld hy5 hf5 HFK
            generalize hw6 : World.setCell w5 _ _ = w6
            have HFIN : Hid (RkAt w6 g (.slice a5 (j + 1) c5) ⟨scrash (L.take (j + 1)) Z, -1, false, 0⟩ ∧ (∀ k, (Value.slice a5 (j + 1) c5).ownBlock = some k → w.heap.size ≤ k) ∧ Below w.heap.size w w6) := by
              have hk : Keep g w5 w6 := by rw [← hw6]; exact (Keep.refl _ _).setCell _ _
              have hb6 : Blk w6 g [.slice a5 (j + 1) c5, .int .i64 (-1), .bool false, .int .i64 0] := by rw [← hw6]; exact HBG.out.set 0 _
              have hlow : ∀ k, (Value.slice a5 (j + 1) c5).ownBlock = some k → w.heap.size ≤ k := fun k e => (HO5.out.lt k e).1
              have hne : ∀ k, (Value.slice a5 (j + 1) c5).ownBlock = some k → k ≠ g := HNG.out
              refine ⟨⟨hb6, ?_, hne⟩, hlow, HB5.out.trans (hk.below (by rw [HG.out]; exact Nat.le_refl _) HB5.out.size)⟩
              show OwnF w6 0 _ _
              rw [HSC.out]
              exact OwnE.same (OwnE.less0 HO5.out) fun k e => hk.block k (HO5.out.lt k e).2 (hne k e)
            clear hw6 HO5 HB5 HBG HBX5
            go_wp2_with fail
            go_roundw
            case rel => exact ⟨t + 1, j + 1, a5, c5, by omega, by omega, by go_num, by go_num, HFIN.out.1, HFIN.out.2.1, HFIN.out.2.2, HSL.out⟩
            case measure => simp [intOf]; omega
          · refine step_build_own elF rfl _ rfl (nm, ⟨xk, xs⟩) rfl ?_; intro wn g10 HX HBn; replace HW : Hid (Below w4.heap.size w4 wn) := HW.out.trans (HBn.out.mono HW.out.size); clear HBn; have hcn := cell_below HW.out HC4.out
            simp only [Act.put, List.setIfInBounds_toArray, List.set_cons_zero, List.set_cons_succ]
            refine hK.out _ _ (⟨cell_below HW.out (HBX4.out.one rfl), cell_below HW.out (HBX4.out.one rfl), cell_below HW.out (HBX4.out.one rfl)⟩) (fun hHeld => ?_)
            clear hK K
            refine wpAnyH_ready (rs := [4]) (by kernel_rfl) (by simp) ?_
            refine AllReadyH.cons (o := { dst := some 71, op := .load 48 (.tmp 70), type := 48, pos := "chain.go:200", after := #[{ on := 3, ground := .data }], guard := none }) rfl (fun K hK => ?_) AllReadyH.nil
            go_simp
            skip
            go_simp
            refine hK.out _ _ (⟨cell_below HW.out (HBX4.out.one rfl), cell_below HW.out (HBX4.out.one rfl), cell_below HW.out (HBX4.out.one rfl)⟩) (fun hHeld => ?_)
            clear hK K
            refine wpAnyH_ready (rs := [7]) (by kernel_rfl) (by simp) ?_
            refine AllReadyH.cons (o := { dst := some 74, op := .call { callee := .builtin Go.Builtin.append, args := #[.tmp 71, .tmp 73], argTypes := #[48, 48] }, type := 48, pos := "chain.go:200", after := #[{ on := 4, ground := .data }, { on := 6, ground := .data }], guard := none }) rfl (fun K hK => ?_) AllReadyH.nil
            refine step_append_e elF rfl _ _ rfl w.heap.size _ (scrash (L.take j) Z) rfl (HOW.out.below HW.out) _ 1 1 [(nm, (⟨xk, xs⟩ : Fl))] rfl HX.out (by rw [HLS.out]; omega) (Nat.le_trans HB4.out.size HW.out.size) ?_; intro v5 w5 HO5 HG5 HM5; have HNG : Hid (∀ k, v5.ownBlock = some k → k ≠ g) := (fun k e => HM5.out.elim (fun e2 => HR4.out.ne k (by first | exact e2.symm.trans e | exact e2.trans e)) fun ⟨q, h1, h2⟩ => by (have h3 := HR4.out.blk.lt; have h4 := HW.out.size; rw [h2] at e; injection e with e; omega)); clear HM5; have HBG : Hid (Blk w5 g [.slice a3 j c3, .int .i64 (-1), .bool false, .int .i64 0]) := (HR4.out.blk.below HW.out HR4.out.blk.lt).grownJ HG5.out (fun e => HR4.out.ne g e.symm rfl); have HBX5 : Hid (Blk w5 B0 [.string nm, .string (ofB xk), .int .i64 ((xs : Nat) : Int)]) := (HBX4.out.below HW.out HBX4.out.lt).grownJ HG5.out (fun e => HN0.out.2.2 B0 e.symm rfl); have HB5 : Hid (Below w.heap.size w w5) := (HB4.out.trans (HW.out.mono HB4.out.size)).grown HG5.out (Nat.le_trans HB4.out.size HW.out.size) HO.out; clear HG5; have hy5 := HBG.out.one (i := 0) rfl; have hf5 := HBG.out.frozen 0; obtain ⟨a5, c5, hv5, _⟩ := HO5.out.els; rw [List.length_append, HLS.out] at hv5; subst hv5; have HFK : Hid (∀ {q : Nat} {u : Value}, w5.cell? ⟨B0, q, none⟩ = some u → (w5.setCell ⟨g, 0, none⟩ (.slice a5 (j + 1) c5)).cell? ⟨B0, q, none⟩ = some u) := fun h => ((Keep.refl g w5).setCell 0 _).cell HN0.out.2.1 h
            simp only [Act.put, List.setIfInBounds_toArray, List.set_cons_zero, List.set_cons_succ]
            refine hK.out _ _ (⟨HBX5.out.one rfl, HBX5.out.one rfl, HBX5.out.one rfl⟩) (fun hHeld => ?_)
            clear hK K
            refine wpAnyH_take (i := 8) (oi := { dst := some 75, op := .nilCheck (.tmp 67), type := 0, pos := "chain.go:200", after := #[{ on := 0, ground := .data }, { on := 0, ground := .phase }, { on := 1, ground := .phase }, { on := 2, ground := .phase }, { on := 3, ground := .phase }, { on := 4, ground := .phase }, { on := 5, ground := .phase }, { on := 6, ground := .phase }, { on := 7, ground := .phase }], guard := none }) (v := ?_) rfl (by kernel_rfl) (by kernel_rfl) (by kernel_rfl) (fun _ _ _ h => h) (Or.inl ⟨by rfl, ?_⟩) (by assumption) ?_
            rotate_left
            · intro _ _; go_simp; first | done | with_reducible rfl
            simp only [Act.put, List.setIfInBounds_toArray, List.set_cons_zero, List.set_cons_succ]
            refine wpAnyH_take (i := 9) (oi := { dst := some 76, op := .fieldAddr 50 (.tmp 75) 0, type := 0, pos := "chain.go:200", after := #[{ on := 8, ground := .data }, { on := 0, ground := .phase }, { on := 1, ground := .phase }, { on := 2, ground := .phase }, { on := 3, ground := .phase }, { on := 4, ground := .phase }, { on := 5, ground := .phase }, { on := 6, ground := .phase }, { on := 7, ground := .phase }], guard := none }) (v := ?_) rfl (by kernel_rfl) (by kernel_rfl) (by kernel_rfl) (fun _ _ _ h => h) (Or.inl ⟨by rfl, ?_⟩) (by assumption) ?_
            rotate_left
            · intro _ _; go_simp; first | done | with_reducible rfl
            simp only [Act.put, List.setIfInBounds_toArray, List.set_cons_zero, List.set_cons_succ]
            refine wpAnyH_ready (rs := [10]) (by kernel_rfl) (by simp) ?_
            refine AllReadyH.cons (o := { dst := none, op := .store 48 (.tmp 76) (.tmp 74), type := 0, pos := "chain.go:200", after := #[{ on := 9, ground := .data }, { on := 7, ground := .data }, { on := 7, ground := .chain }, { on := 0, ground := .phase }, { on := 1, ground := .phase }, { on := 2, ground := .phase }, { on := 3, ground := .phase }, { on := 4, ground := .phase }, { on := 5, ground := .phase }, { on := 6, ground := .phase }, { on := 7, ground := .phase }], guard := none }) rfl (fun K hK => ?_) AllReadyH.nil
            go_simp
            skip
            go_simp
            refine hK.out _ _ (⟨HFK.out (HBX5.out.one rfl), HFK.out (HBX5.out.one rfl), HFK.out (HBX5.out.one rfl)⟩) (fun hHeld => ?_)
            clear hK K
            refine wpAnyH_done (by kernel_rfl) ?_ _
            refine NoPanic.normal ?_
            clear hHeld hy5 hf5 HFK
            generalize hw6 : World.setCell w5 _ _ = w6
            have HFIN : Hid (RkAt w6 g (.slice a5 (j + 1) c5) ⟨scrash (L.take (j + 1)) Z, -1, false, 0⟩ ∧ (∀ k, (Value.slice a5 (j + 1) c5).ownBlock = some k → w.heap.size ≤ k) ∧ Below w.heap.size w w6) := by
              have hk : Keep g w5 w6 := by rw [← hw6]; exact (Keep.refl _ _).setCell _ _
              have hb6 : Blk w6 g [.slice a5 (j + 1) c5, .int .i64 (-1), .bool false, .int .i64 0] := by rw [← hw6]; exact HBG.out.set 0 _
              have hlow : ∀ k, (Value.slice a5 (j + 1) c5).ownBlock = some k → w.heap.size ≤ k := fun k e => (HO5.out.lt k e).1
              have hne : ∀ k, (Value.slice a5 (j + 1) c5).ownBlock = some k → k ≠ g := HNG.out
              refine ⟨⟨hb6, ?_, hne⟩, hlow, HB5.out.trans (hk.below (by rw [HG.out]; exact Nat.le_refl _) HB5.out.size)⟩
              show OwnF w6 0 _ _
              rw [HSC.out]
              exact OwnE.same (OwnE.less0 HO5.out) fun k e => hk.block k (HO5.out.lt k e).2 (hne k e)
            clear hw6 HO5 HB5 HBG HBX5
            go_wp2_with fail
            go_roundw
            case rel => exact ⟨t + 1, j + 1, a5, c5, by omega, by omega, by go_num, by go_num, HFIN.out.1, HFIN.out.2.1, HFIN.out.2.2, HSL.out⟩
            case measure => simp [intOf]; omega
      · have g0 : ¬ (lo : Int) > 0 := by have := hlo3 hlo0; omega
        clear hlo2 hlo3
        have HKP : Hid (keepOf ⟨xb, xs⟩ (Z.drop t) = (xs, Z.drop t)) := keep_full hlo0
        have hK : xb.take xs = xb := List.take_of_length_le (by omega)
        go_upto_region 16 with fail
        obtain ⟨w3, hw3⟩ : ∃ x, x = w2 := ⟨_, rfl⟩
        subst hw3
        obtain ⟨xk, hxk⟩ : ∃ l, l = xb.take xs := ⟨_, rfl⟩
        have HXK : Hid (xk = xb.take xs) := hxk
        have hkl : xs ≤ xb.length := by omega
        have HBX3 : Hid (Blk w3 B0 [.string nm, .string (ofB xk), .int .i64 xs]) := by rw [hxk, hK]; exact HBX.out
        have HR3 : Hid (RkAt w3 g (.slice a3 j c3) ⟨scrash (L.take j) Z, -1, false, 0⟩) := HR2.out
        have HB3 : Hid (Below w.heap.size w w3) := HB2.out
        clear hx1 hx2 hfz1 HR2 HB2 HBX hxk hK
        have HSK : Hid ((ofB xk).size = xs) := show _ = _ by rw [ofB_size, HXK.out, List.length_take]; omega
        have hx1 : w3.cell? ⟨B0, 1, none⟩ = some (.string (ofB xk)) := HBX3.out.one rfl
        have hx2 : w3.cell? ⟨B0, 2, none⟩ = some (.int .i64 xs) := HBX3.out.one rfl
        have hfz2 := HBX3.out.frozen 2
        go_upto_region 17 with fail
        rw [HSK.out]
        generalize hw4 : World.setCell w3 _ _ = w4
        have HBX4 : Hid (Blk w4 B0 [.string nm, .string (ofB xk), .int .i64 ((xs : Nat) : Int)]) := by rw [← hw4]; exact HBX3.out.set 2 _
        have hk4 : Keep B0 w3 w4 := by rw [← hw4]; exact (Keep.refl _ _).setCell _ _
        have HR4 : Hid (RkAt w4 g (.slice a3 j c3) ⟨scrash (L.take j) Z, -1, false, 0⟩) := HR3.out.far hk4 HN0.out.2
        have HB4 : Hid (Below w.heap.size w w4) := HB3.out.trans (hk4.below HN0.out.1 HB3.out.size)
        clear hw4 hk4 hx1 hx2 hfz2 HR3 HB3 HBX3
        have HC4 : Hid (w4.cell? ⟨g, 0, none⟩ = some (.slice a3 j c3)) := HR4.out.blk.one rfl
        have HOW : Hid (OwnF w4 w.heap.size (.slice a3 j c3) (scrash (L.take j) Z)) := HR4.out.own.raise HO.out
        have HW : Hid (Below w4.heap.size w4 w4.drew) := (Below.refl _ _).drew
        have hcn : w4.drew.cell? ⟨g, 0, none⟩ = some (.slice a3 j c3) := HC4.out
        have HLS : Hid ((scrash (L.take j) Z).length = j) := show _ = _ by rw [scrash_length, List.length_take]; omega
        have HSC : Hid (scrash (L.take (j + 1)) Z = scrash (L.take j) Z ++ [(nm, (⟨xk, xs⟩ : Fl))]) := show _ = _ by rw [HCR.out, HKP.out, HXK.out]
        have HSL : Hid (sleft (L.take (j + 1)) Z = Z.drop (t)) := show _ = _ by rw [HLE.out, HKP.out]
        clear HCR HLE HKP HSK
        refine wp_region_noPanic ?_
        refine wp_region_held_drew (S := fun w' => w'.cell? ⟨B0, 0, none⟩ = some (.string nm) ∧ w'.cell? ⟨B0, 1, none⟩ = some (.string (ofB xk)) ∧ w'.cell? ⟨B0, 2, none⟩ = some (.int .i64 ((xs : Nat) : Int))) HMO.out (⟨cell_below HW.out (HBX4.out.one rfl), cell_below HW.out (HBX4.out.one rfl), cell_below HW.out (HBX4.out.one rfl)⟩) (fun hHeld => ?_)
        refine wpAnyH_take (i := 0) (oi := { dst := some 67, op := .move (.tmp 5), type := 27, pos := "chain.go:200", after := #[], guard := none }) (v := ?_) rfl (by kernel_rfl) (by kernel_rfl) (by kernel_rfl) (fun _ _ _ h => h) (Or.inl ⟨by rfl, ?_⟩) (by assumption) ?_
        rotate_left
        · intro _ _; go_simp; first | done | with_reducible rfl
        simp only [Act.put, List.setIfInBounds_toArray, List.set_cons_zero, List.set_cons_succ]
        refine wpAnyH_take (i := 1) (oi := { dst := some 68, op := .move (.tmp 5), type := 27, pos := "chain.go:200", after := #[], guard := none }) (v := ?_) rfl (by kernel_rfl) (by kernel_rfl) (by kernel_rfl) (fun _ _ _ h => h) (Or.inl ⟨by rfl, ?_⟩) (by assumption) ?_
        rotate_left
        · intro _ _; go_simp; first | done | with_reducible rfl
        simp only [Act.put, List.setIfInBounds_toArray, List.set_cons_zero, List.set_cons_succ]
        refine wpAnyH_take (i := 2) (oi := { dst := some 69, op := .nilCheck (.tmp 68), type := 0, pos := "chain.go:200", after := #[{ on := 1, ground := .data }], guard := none }) (v := ?_) rfl (by kernel_rfl) (by kernel_rfl) (by kernel_rfl) (fun _ _ _ h => h) (Or.inl ⟨by rfl, ?_⟩) (by assumption) ?_
        rotate_left
        · intro _ _; go_simp; first | done | with_reducible rfl
        simp only [Act.put, List.setIfInBounds_toArray, List.set_cons_zero, List.set_cons_succ]
        refine wpAnyH_take (i := 3) (oi := { dst := some 70, op := .fieldAddr 50 (.tmp 69) 0, type := 0, pos := "chain.go:200", after := #[{ on := 2, ground := .data }], guard := none }) (v := ?_) rfl (by kernel_rfl) (by kernel_rfl) (by kernel_rfl) (fun _ _ _ h => h) (Or.inl ⟨by rfl, ?_⟩) (by assumption) ?_
        rotate_left
        · intro _ _; go_simp; first | done | with_reducible rfl
        simp only [Act.put, List.setIfInBounds_toArray, List.set_cons_zero, List.set_cons_succ]
        refine wpAnyH_take (i := 5) (oi := { dst := some 72, op := .load 60 (.tmp 8), type := 60, pos := "chain.go:200", after := #[], guard := none }) (v := .agg #[.string nm, .string (ofB xk), .int .i64 ((xs : Nat) : Int)]) rfl (by kernel_rfl) (by kernel_rfl) (by kernel_rfl) (fun _ _ _ h => h) (Or.inl ⟨by rfl, ?_⟩) (by assumption) ?_
        · intro _ _; rename_i wz hz; obtain ⟨cz0, cz1, cz2⟩ := hz; go_simp
        simp only [Act.put, List.setIfInBounds_toArray, List.set_cons_zero, List.set_cons_succ]
        refine wpAnyH_ready (rs := [4, 6]) (by kernel_rfl) (by simp) ?_
        refine (AllReadyH.cons (o := { dst := some 71, op := .load 48 (.tmp 70), type := 48, pos := "chain.go:200", after := #[{ on := 3, ground := .data }], guard := none }) rfl (fun K hK => ?_) (AllReadyH.cons (o := { dst := some 73, op := .buildSlice 48 1 #[(0, .tmp 72)], type := 48, pos := "chain.go:200", after := #[{ on := 5, ground := .data }], guard := none }) rfl (fun K hK => ?_) AllReadyH.nil))
        · go_simp
          skip
          go_simp
          refine hK.out _ _ (⟨cell_below HW.out (HBX4.out.one rfl), cell_below HW.out (HBX4.out.one rfl), cell_below HW.out (HBX4.out.one rfl)⟩) (fun hHeld => ?_)
          clear hK K
          refine wpAnyH_ready (rs := [6]) (by kernel_rfl) (by simp) ?_
          refine AllReadyH.cons (o := { dst := some 73, op := .buildSlice 48 1 #[(0, .tmp 72)], type := 48, pos := "chain.go:200", after := #[{ on := 5, ground := .data }], guard := none }) rfl (fun K hK => ?_) AllReadyH.nil
          refine step_build_own elF rfl _ rfl (nm, ⟨xk, xs⟩) rfl ?_; intro wn g10 HX HBn; replace HW : Hid (Below w4.heap.size w4 wn) := HW.out.trans (HBn.out.mono HW.out.size); clear HBn; have hcn := cell_below HW.out HC4.out
          simp only [Act.put, List.setIfInBounds_toArray, List.set_cons_zero, List.set_cons_succ]
          refine hK.out _ _ (⟨cell_below HW.out (HBX4.out.one rfl), cell_below HW.out (HBX4.out.one rfl), cell_below HW.out (HBX4.out.one rfl)⟩) (fun hHeld => ?_)
          clear hK K
          refine wpAnyH_ready (rs := [7]) (by kernel_rfl) (by simp) ?_
          refine AllReadyH.cons (o := { dst := some 74, op := .call { callee := .builtin Go.Builtin.append, args := #[.tmp 71, .tmp 73], argTypes := #[48, 48] }, type := 48, pos := "chain.go:200", after := #[{ on := 4, ground := .data }, { on := 6, ground := .data }], guard := none }) rfl (fun K hK => ?_) AllReadyH.nil
          refine step_append_e elF rfl _ _ rfl w.heap.size _ (scrash (L.take j) Z) rfl (HOW.out.below HW.out) _ 1 1 [(nm, (⟨xk, xs⟩ : Fl))] rfl HX.out (by rw [HLS.out]; omega) (Nat.le_trans HB4.out.size HW.out.size) ?_; intro v5 w5 HO5 HG5 HM5; have HNG : Hid (∀ k, v5.ownBlock = some k → k ≠ g) := (fun k e => HM5.out.elim (fun e2 => HR4.out.ne k (by first | exact e2.symm.trans e | exact e2.trans e)) fun ⟨q, h1, h2⟩ => by (have h3 := HR4.out.blk.lt; have h4 := HW.out.size; rw [h2] at e; injection e with e; omega)); clear HM5; have HBG : Hid (Blk w5 g [.slice a3 j c3, .int .i64 (-1), .bool false, .int .i64 0]) := (HR4.out.blk.below HW.out HR4.out.blk.lt).grownJ HG5.out (fun e => HR4.out.ne g e.symm rfl); have HBX5 : Hid (Blk w5 B0 [.string nm, .string (ofB xk), .int .i64 ((xs : Nat) : Int)]) := (HBX4.out.below HW.out HBX4.out.lt).grownJ HG5.out (fun e => HN0.out.2.2 B0 e.symm rfl); have HB5 : Hid (Below w.heap.size w w5) := (HB4.out.trans (HW.out.mono HB4.out.size)).grown HG5.out (Nat.le_trans HB4.out.size HW.out.size) HO.out; clear HG5; have hy5 := HBG.out.one (i := 0) rfl; have hf5 := HBG.out.frozen 0; obtain ⟨a5, c5, hv5, _⟩ := HO5.out.els; rw [List.length_append, HLS.out] at hv5; subst hv5; have HFK : Hid (∀ {q : Nat} {u : Value}, w5.cell? ⟨B0, q, none⟩ = some u → (w5.setCell ⟨g, 0, none⟩ (.slice a5 (j + 1) c5)).cell? ⟨B0, q, none⟩ = some u) := fun h => ((Keep.refl g w5).setCell 0 _).cell HN0.out.2.1 h
          simp only [Act.put, List.setIfInBounds_toArray, List.set_cons_zero, List.set_cons_succ]
          refine hK.out _ _ (⟨HBX5.out.one rfl, HBX5.out.one rfl, HBX5.out.one rfl⟩) (fun hHeld => ?_)
          clear hK K
          refine wpAnyH_take (i := 8) (oi := { dst := some 75, op := .nilCheck (.tmp 67), type := 0, pos := "chain.go:200", after := #[{ on := 0, ground := .data }, { on := 0, ground := .phase }, { on := 1, ground := .phase }, { on := 2, ground := .phase }, { on := 3, ground := .phase }, { on := 4, ground := .phase }, { on := 5, ground := .phase }, { on := 6, ground := .phase }, { on := 7, ground := .phase }], guard := none }) (v := ?_) rfl (by kernel_rfl) (by kernel_rfl) (by kernel_rfl) (fun _ _ _ h => h) (Or.inl ⟨by rfl, ?_⟩) (by assumption) ?_
          rotate_left
          · intro _ _; go_simp; first | done | with_reducible rfl
          simp only [Act.put, List.setIfInBounds_toArray, List.set_cons_zero, List.set_cons_succ]
          refine wpAnyH_take (i := 9) (oi := { dst := some 76, op := .fieldAddr 50 (.tmp 75) 0, type := 0, pos := "chain.go:200", after := #[{ on := 8, ground := .data }, { on := 0, ground := .phase }, { on := 1, ground := .phase }, { on := 2, ground := .phase }, { on := 3, ground := .phase }, { on := 4, ground := .phase }, { on := 5, ground := .phase }, { on := 6, ground := .phase }, { on := 7, ground := .phase }], guard := none }) (v := ?_) rfl (by kernel_rfl) (by kernel_rfl) (by kernel_rfl) (fun _ _ _ h => h) (Or.inl ⟨by rfl, ?_⟩) (by assumption) ?_
          rotate_left
          · intro _ _; go_simp; first | done | with_reducible rfl
          simp only [Act.put, List.setIfInBounds_toArray, List.set_cons_zero, List.set_cons_succ]
          refine wpAnyH_ready (rs := [10]) (by kernel_rfl) (by simp) ?_
          refine AllReadyH.cons (o := { dst := none, op := .store 48 (.tmp 76) (.tmp 74), type := 0, pos := "chain.go:200", after := #[{ on := 9, ground := .data }, { on := 7, ground := .data }, { on := 7, ground := .chain }, { on := 0, ground := .phase }, { on := 1, ground := .phase }, { on := 2, ground := .phase }, { on := 3, ground := .phase }, { on := 4, ground := .phase }, { on := 5, ground := .phase }, { on := 6, ground := .phase }, { on := 7, ground := .phase }], guard := none }) rfl (fun K hK => ?_) AllReadyH.nil
          go_simp
          skip
          go_simp
          refine hK.out _ _ (⟨HFK.out (HBX5.out.one rfl), HFK.out (HBX5.out.one rfl), HFK.out (HBX5.out.one rfl)⟩) (fun hHeld => ?_)
          clear hK K
          refine wpAnyH_done (by kernel_rfl) ?_ _
          refine NoPanic.normal ?_
          clear hHeld hy5 hf5 HFK
          generalize hw6 : World.setCell w5 _ _ = w6
          have HFIN : Hid (RkAt w6 g (.slice a5 (j + 1) c5) ⟨scrash (L.take (j + 1)) Z, -1, false, 0⟩ ∧ (∀ k, (Value.slice a5 (j + 1) c5).ownBlock = some k → w.heap.size ≤ k) ∧ Below w.heap.size w w6) := by
            have hk : Keep g w5 w6 := by rw [← hw6]; exact (Keep.refl _ _).setCell _ _
            have hb6 : Blk w6 g [.slice a5 (j + 1) c5, .int .i64 (-1), .bool false, .int .i64 0] := by rw [← hw6]; exact HBG.out.set 0 _
            have hlow : ∀ k, (Value.slice a5 (j + 1) c5).ownBlock = some k → w.heap.size ≤ k := fun k e => (HO5.out.lt k e).1
            have hne : ∀ k, (Value.slice a5 (j + 1) c5).ownBlock = some k → k ≠ g := HNG.out
            refine ⟨⟨hb6, ?_, hne⟩, hlow, HB5.out.trans (hk.below (by rw [HG.out]; exact Nat.le_refl _) HB5.out.size)⟩
            show OwnF w6 0 _ _
            rw [HSC.out]
            exact OwnE.same (OwnE.less0 HO5.out) fun k e => hk.block k (HO5.out.lt k e).2 (hne k e)
          clear hw6 HO5 HB5 HBG HBX5
          go_wp2_with fail
          go_roundw
          case rel => exact ⟨t, j + 1, a5, c5, by omega, by omega, by go_num, by go_num, HFIN.out.1, HFIN.out.2.1, HFIN.out.2.2, HSL.out⟩
          case measure => simp [intOf]; omega
        · refine step_build_own elF rfl _ rfl (nm, ⟨xk, xs⟩) rfl ?_; intro wn g10 HX HBn; replace HW : Hid (Below w4.heap.size w4 wn) := HW.out.trans (HBn.out.mono HW.out.size); clear HBn; have hcn := cell_below HW.out HC4.out
          simp only [Act.put, List.setIfInBounds_toArray, List.set_cons_zero, List.set_cons_succ]
          refine hK.out _ _ (⟨cell_below HW.out (HBX4.out.one rfl), cell_below HW.out (HBX4.out.one rfl), cell_below HW.out (HBX4.out.one rfl)⟩) (fun hHeld => ?_)
          clear hK K
          refine wpAnyH_ready (rs := [4]) (by kernel_rfl) (by simp) ?_
          refine AllReadyH.cons (o := { dst := some 71, op := .load 48 (.tmp 70), type := 48, pos := "chain.go:200", after := #[{ on := 3, ground := .data }], guard := none }) rfl (fun K hK => ?_) AllReadyH.nil
          go_simp
          skip
          go_simp
          refine hK.out _ _ (⟨cell_below HW.out (HBX4.out.one rfl), cell_below HW.out (HBX4.out.one rfl), cell_below HW.out (HBX4.out.one rfl)⟩) (fun hHeld => ?_)
          clear hK K
          refine wpAnyH_ready (rs := [7]) (by kernel_rfl) (by simp) ?_
          refine AllReadyH.cons (o := { dst := some 74, op := .call { callee := .builtin Go.Builtin.append, args := #[.tmp 71, .tmp 73], argTypes := #[48, 48] }, type := 48, pos := "chain.go:200", after := #[{ on := 4, ground := .data }, { on := 6, ground := .data }], guard := none }) rfl (fun K hK => ?_) AllReadyH.nil
          refine step_append_e elF rfl _ _ rfl w.heap.size _ (scrash (L.take j) Z) rfl (HOW.out.below HW.out) _ 1 1 [(nm, (⟨xk, xs⟩ : Fl))] rfl HX.out (by rw [HLS.out]; omega) (Nat.le_trans HB4.out.size HW.out.size) ?_; intro v5 w5 HO5 HG5 HM5; have HNG : Hid (∀ k, v5.ownBlock = some k → k ≠ g) := (fun k e => HM5.out.elim (fun e2 => HR4.out.ne k (by first | exact e2.symm.trans e | exact e2.trans e)) fun ⟨q, h1, h2⟩ => by (have h3 := HR4.out.blk.lt; have h4 := HW.out.size; rw [h2] at e; injection e with e; omega)); clear HM5; have HBG : Hid (Blk w5 g [.slice a3 j c3, .int .i64 (-1), .bool false, .int .i64 0]) := (HR4.out.blk.below HW.out HR4.out.blk.lt).grownJ HG5.out (fun e => HR4.out.ne g e.symm rfl); have HBX5 : Hid (Blk w5 B0 [.string nm, .string (ofB xk), .int .i64 ((xs : Nat) : Int)]) := (HBX4.out.below HW.out HBX4.out.lt).grownJ HG5.out (fun e => HN0.out.2.2 B0 e.symm rfl); have HB5 : Hid (Below w.heap.size w w5) := (HB4.out.trans (HW.out.mono HB4.out.size)).grown HG5.out (Nat.le_trans HB4.out.size HW.out.size) HO.out; clear HG5; have hy5 := HBG.out.one (i := 0) rfl; have hf5 := HBG.out.frozen 0; obtain ⟨a5, c5, hv5, _⟩ := HO5.out.els; rw [List.length_append, HLS.out] at hv5; subst hv5; have HFK : Hid (∀ {q : Nat} {u : Value}, w5.cell? ⟨B0, q, none⟩ = some u → (w5.setCell ⟨g, 0, none⟩ (.slice a5 (j + 1) c5)).cell? ⟨B0, q, none⟩ = some u) := fun h => ((Keep.refl g w5).setCell 0 _).cell HN0.out.2.1 h
          simp only [Act.put, List.setIfInBounds_toArray, List.set_cons_zero, List.set_cons_succ]
          refine hK.out _ _ (⟨HBX5.out.one rfl, HBX5.out.one rfl, HBX5.out.one rfl⟩) (fun hHeld => ?_)
          clear hK K
          refine wpAnyH_take (i := 8) (oi := { dst := some 75, op := .nilCheck (.tmp 67), type := 0, pos := "chain.go:200", after := #[{ on := 0, ground := .data }, { on := 0, ground := .phase }, { on := 1, ground := .phase }, { on := 2, ground := .phase }, { on := 3, ground := .phase }, { on := 4, ground := .phase }, { on := 5, ground := .phase }, { on := 6, ground := .phase }, { on := 7, ground := .phase }], guard := none }) (v := ?_) rfl (by kernel_rfl) (by kernel_rfl) (by kernel_rfl) (fun _ _ _ h => h) (Or.inl ⟨by rfl, ?_⟩) (by assumption) ?_
          rotate_left
          · intro _ _; go_simp; first | done | with_reducible rfl
          simp only [Act.put, List.setIfInBounds_toArray, List.set_cons_zero, List.set_cons_succ]
          refine wpAnyH_take (i := 9) (oi := { dst := some 76, op := .fieldAddr 50 (.tmp 75) 0, type := 0, pos := "chain.go:200", after := #[{ on := 8, ground := .data }, { on := 0, ground := .phase }, { on := 1, ground := .phase }, { on := 2, ground := .phase }, { on := 3, ground := .phase }, { on := 4, ground := .phase }, { on := 5, ground := .phase }, { on := 6, ground := .phase }, { on := 7, ground := .phase }], guard := none }) (v := ?_) rfl (by kernel_rfl) (by kernel_rfl) (by kernel_rfl) (fun _ _ _ h => h) (Or.inl ⟨by rfl, ?_⟩) (by assumption) ?_
          rotate_left
          · intro _ _; go_simp; first | done | with_reducible rfl
          simp only [Act.put, List.setIfInBounds_toArray, List.set_cons_zero, List.set_cons_succ]
          refine wpAnyH_ready (rs := [10]) (by kernel_rfl) (by simp) ?_
          refine AllReadyH.cons (o := { dst := none, op := .store 48 (.tmp 76) (.tmp 74), type := 0, pos := "chain.go:200", after := #[{ on := 9, ground := .data }, { on := 7, ground := .data }, { on := 7, ground := .chain }, { on := 0, ground := .phase }, { on := 1, ground := .phase }, { on := 2, ground := .phase }, { on := 3, ground := .phase }, { on := 4, ground := .phase }, { on := 5, ground := .phase }, { on := 6, ground := .phase }, { on := 7, ground := .phase }], guard := none }) rfl (fun K hK => ?_) AllReadyH.nil
          go_simp
          skip
          go_simp
          refine hK.out _ _ (⟨HFK.out (HBX5.out.one rfl), HFK.out (HBX5.out.one rfl), HFK.out (HBX5.out.one rfl)⟩) (fun hHeld => ?_)
          clear hK K
          refine wpAnyH_done (by kernel_rfl) ?_ _
          refine NoPanic.normal ?_
          clear hHeld hy5 hf5 HFK
          generalize hw6 : World.setCell w5 _ _ = w6
          have HFIN : Hid (RkAt w6 g (.slice a5 (j + 1) c5) ⟨scrash (L.take (j + 1)) Z, -1, false, 0⟩ ∧ (∀ k, (Value.slice a5 (j + 1) c5).ownBlock = some k → w.heap.size ≤ k) ∧ Below w.heap.size w w6) := by
            have hk : Keep g w5 w6 := by rw [← hw6]; exact (Keep.refl _ _).setCell _ _
            have hb6 : Blk w6 g [.slice a5 (j + 1) c5, .int .i64 (-1), .bool false, .int .i64 0] := by rw [← hw6]; exact HBG.out.set 0 _
            have hlow : ∀ k, (Value.slice a5 (j + 1) c5).ownBlock = some k → w.heap.size ≤ k := fun k e => (HO5.out.lt k e).1
            have hne : ∀ k, (Value.slice a5 (j + 1) c5).ownBlock = some k → k ≠ g := HNG.out
            refine ⟨⟨hb6, ?_, hne⟩, hlow, HB5.out.trans (hk.below (by rw [HG.out]; exact Nat.le_refl _) HB5.out.size)⟩
            show OwnF w6 0 _ _
            rw [HSC.out]
            exact OwnE.same (OwnE.less0 HO5.out) fun k e => hk.block k (HO5.out.lt k e).2 (hne k e)
          clear hw6 HO5 HB5 HBG HBX5
          go_wp2_with fail
          go_roundw
          case rel => exact ⟨t, j + 1, a5, c5, by omega, by omega, by go_num, by go_num, HFIN.out.1, HFIN.out.2.1, HFIN.out.2.2, HSL.out⟩
          case measure => simp [intOf]; omega
    · obtain rfl : j = z := by omega
      have e1 : ¬ (j : Int) < (j : Int) := by omega
      rw [List.take_of_length_le (by rw [← HZL.out]; exact Nat.le_refl _)] at HR
      go_wp2_with fail
      go_ret
      first | exact ⟨g, _, rfl, HR.out, by rw [HG.out]; exact Nat.le_refl _, HO.out, HB.out⟩ | exact ⟨g, rfl, _, HR.out, by rw [HG.out]; exact Nat.le_refl _, HO.out, HB.out⟩
end Go.Proofs.Ytlapnnkahijikaa
