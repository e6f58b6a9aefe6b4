/- wal: Records, what it tells being the call's own. Law 8: stores beside files and logs. -/
import Derived.Test.YtlapnnkahijikaaDoorZW7
namespace Go.Proofs.YtlapnnkahijikaaDoor
open Go.ChangeShapes Go.WideShapes Go.ChangeAt Go.RowKit Go.Lib

/-- Bytes stand there, whatever they are. -/
def Some8 (w : World) (g n : Nat) : Prop := ∀ j, j < n → (∃ z, w.cell? ⟨g, j, none⟩ = some (.int .u8 z)) ∧ w.frozen? ⟨g, j, none⟩ = false
theorem OwnB.some8 {w : World} {B : Nat} {v : Value} {bs : List (BitVec 8)} (h : OwnB w B v bs) : v = .slice none 0 0 ∧ bs = [] ∨ ∃ g c, v = .slice (some ⟨g, 0, none⟩) bs.length c ∧ B ≤ g ∧ g < w.heap.size ∧ Some8 w g bs.length := by
  have h0 := h
  rcases h.2 with ⟨hv, hn⟩ | ⟨g, cap, cur, hv, hg, hh, _⟩
  · exact .inl ⟨hv, List.eq_nil_of_length_eq_zero hn⟩
  · refine .inr ⟨g, cap, hv, hg, (Array.getElem?_eq_some_iff.1 hh).1, fun j hj => ⟨⟨Y (bs.getD j 0), ?_⟩, by simp [World.frozen?, hh]⟩⟩
    have := World.ownsRow.cells h0 (g := g) (by rw [hv]; rfl) j _ (u8s_get bs j hj)
    rwa [Addr.add_mid, Nat.zero_add] at this
section
variable {w wi : World} {f : Nat} {S : FS} {l : Nat} {nm : ByteArray} {X : List (List (BitVec 8))} {Bl : List (Nat × List Value)} {m : Nat}
/-- A store into a block that stands apart. -/
theorem Sys.apart (h : Sys w wi f S Bl) {k : Nat} (hk : Free f S (Bl.map Prod.fst) wi k) (hw : w.heap.size ≤ k) (i : Nat) (v : Value) : Sys w (wi.setCell ⟨k, i, none⟩ v) f S Bl := by
  have same : ∀ j, j ≠ k → (wi.setCell ⟨k, i, none⟩ v).heap[j]? = wi.heap[j]? := fun j hj => Below.heap_setCell wi ⟨k, i, none⟩ v j hj
  refine ⟨h.base.setCell hw _, h.fs.same fun j hj => same j fun e => hk.2.1 (by rw [← e]; exact hj), h.low, fun p hp => ⟨(h.blks p hp).1, (h.blks p hp).2.1, ?_⟩, h.nodup⟩
  exact (h.blks p hp).2.2.other (fun e => hk.2.2 (List.mem_map.2 ⟨p, hp, e⟩)) v
theorem Lg.apart (h : Lg w wi f S l nm X Bl m) {k : Nat} (hk : Free f S (((l, lgC f nm (frs X).length false) :: Bl).map Prod.fst) wi k) (hw : w.heap.size ≤ k) (i : Nat) (v : Value) : Lg w (wi.setCell ⟨k, i, none⟩ v) f S l nm X Bl m := ⟨h.sys.apart hk hw i v, h.file, h.good, h.live, h.small⟩
theorem Free.apart {ids : List Nat} {k j : Nat} (h : Free f S ids wi k) (i : Nat) (v : Value) : Free f S ids (wi.setCell ⟨j, i, none⟩ v) k := ⟨by have := h.1; simpa [World.setCell] using this, h.2⟩
theorem Some8.set {g n g' i : Nat} (h : Some8 w g n) (z : Int) : Some8 (w.setCell ⟨g', i, none⟩ (.int .u8 z)) g n := fun j hj => by
  obtain ⟨⟨y, hy⟩, hf⟩ := h j hj
  refine ⟨?_, ?_⟩
  · by_cases e : (⟨g', i, none⟩ : Addr) = ⟨g, j, none⟩
    · rw [e]; exact ⟨z, World.cell?_setCell_same _ _ _ hy⟩
    · exact ⟨y, (World.cell?_setCell_other _ _ _ _ e).trans hy⟩
  · have : ∀ a, (w.setCell ⟨g', i, none⟩ (.int .u8 z)).frozen? a = w.frozen? a := fun a => World.frozen?_setCell _ _ _ _
    rw [this]; exact hf
end
set_option maxRecDepth 100000 in
set_option maxHeartbeats 4000000 in
theorem records_own {w wi : World} {f : Nat} {S : FS} {Bl : List (Nat × List Value)} (hK : Kw w) (l : Nat) (nm : ByteArray) (size : Nat) (dead : Bool) (h : Sys w wi f S ((l, lgC f nm size dead) :: Bl)) :
    Calls Tryd.prog 16 #[.pointer (some ⟨l, 0, none⟩)] wi fun e w' => ∃ v xs, e = .returned v ∧ OwnX w' wi.heap.size v xs ∧ (∀ x ∈ xs, ∃ bs, OwnB w' wi.heap.size x bs ∧ ∀ k, x.ownBlock = some k → v.ownBlock ≠ some k) ∧ Below wi.heap.size wi w' := by
  have HK : Hid (Kw w) := hK
  have H : Hid (Sys w wi f S ((l, lgC f nm size dead) :: Bl)) := h
  have HMO : Hid (Tryd.prog.follows .mixedOrders = true) := show _ = _ by kernel_rfl
  have HRD0 := sys_read h.drew nm
  obtain ⟨b, hb⟩ : ∃ b, b = fileB S.abs nm := ⟨_, rfl⟩
  have hbl : b.length ≤ 16777216 := by rw [hb]; exact (h.fs.flOf_le nm).2
  obtain ⟨T, hT⟩ : ∃ T, T = (.int .i64 (if (alook nm S.abs.L).isSome = true then 0 else 5) : Value) := ⟨_, rfl⟩
  have HRD : Hid (Calls Tryd.prog 31 #[.pointer (some ⟨f, 0, none⟩), .string nm] wi.drew fun e w' => ∃ v, e = .returned (.tuple #[v, T]) ∧ OwnB w' wi.drew.heap.size v b ∧ Below wi.drew.heap.size wi.drew w') := by
    rw [hT, hb]; exact HRD0
  have HR : Hid (recR S.abs nm size = (wholeR (b.take (min size b.length))).1) := show _ = _ by rw [hb]; rfl
  clear hK h HRD0 hb hT
  generalize recR S.abs nm size = R at *
  have c0 : wi.cell? ⟨l, 0, none⟩ = some (.pointer (some ⟨f, 0, none⟩)) := H.out.blk.one rfl
  have c1 : wi.cell? ⟨l, 1, none⟩ = some (.string nm) := H.out.blk.one rfl
  go_enter Tryd.func16, Tryd.ntmps16
  go_upto_region 3 with fail
  clear c0 c1
  refine wp_region_noPanic ?_
  refine wp_region_held_drew (S := fun w' => w'.cell? ⟨l, 0, none⟩ = some (.pointer (some ⟨f, 0, none⟩)) ∧ w'.cell? ⟨l, 1, none⟩ = some (.string nm)) HMO.out (⟨H.out.drew.blk.one rfl, H.out.drew.blk.one rfl⟩) (fun hHeld => ?_)
  refine wpAnyH_take (i := 0) (oi := { dst := some 11, op := .move (.tmp 0), type := 27, pos := "wal.go:93", after := #[], guard := none }) (v := ?_) rfl (by kernel_rfl) (by kernel_rfl) (by kernel_rfl) (fun _ _ _ h => h) (Or.inl ⟨by rfl, ?_⟩) (by assumption) ?_
  rotate_left
  · intro _ _; go_simp; first | done | with_reducible rfl
  simp only [Act.put, List.setIfInBounds_toArray, List.set_cons_zero, List.set_cons_succ]
  refine wpAnyH_take (i := 1) (oi := { dst := some 12, op := .nilCheck (.tmp 11), type := 0, pos := "wal.go:93", after := #[{ on := 0, ground := .data }], guard := none }) (v := ?_) rfl (by kernel_rfl) (by kernel_rfl) (by kernel_rfl) (fun _ _ _ h => h) (Or.inl ⟨by rfl, ?_⟩) (by assumption) ?_
  rotate_left
  · intro _ _; go_simp; first | done | with_reducible rfl
  simp only [Act.put, List.setIfInBounds_toArray, List.set_cons_zero, List.set_cons_succ]
  refine wpAnyH_take (i := 2) (oi := { dst := some 13, op := .fieldAddr 50 (.tmp 12) 0, type := 0, pos := "wal.go:93", after := #[{ on := 1, ground := .data }], guard := none }) (v := ?_) rfl (by kernel_rfl) (by kernel_rfl) (by kernel_rfl) (fun _ _ _ h => h) (Or.inl ⟨by rfl, ?_⟩) (by assumption) ?_
  rotate_left
  · intro _ _; go_simp; first | done | with_reducible rfl
  simp only [Act.put, List.setIfInBounds_toArray, List.set_cons_zero, List.set_cons_succ]
  refine wpAnyH_take (i := 3) (oi := { dst := some 14, op := .load 25 (.tmp 13), type := 25, pos := "wal.go:93", after := #[{ on := 2, ground := .data }], guard := none }) (v := .pointer (some ⟨f, 0, none⟩)) rfl (by kernel_rfl) (by kernel_rfl) (by kernel_rfl) (fun _ _ _ h => h) (Or.inl ⟨by rfl, ?_⟩) (by assumption) ?_
  · intro _ _; rename_i wz hz; have cz := hz.1; go_simp
  simp only [Act.put, List.setIfInBounds_toArray, List.set_cons_zero, List.set_cons_succ]
  refine wpAnyH_take (i := 4) (oi := { dst := some 15, op := .move (.tmp 0), type := 27, pos := "wal.go:93", after := #[], guard := none }) (v := ?_) rfl (by kernel_rfl) (by kernel_rfl) (by kernel_rfl) (fun _ _ _ h => h) (Or.inl ⟨by rfl, ?_⟩) (by assumption) ?_
  rotate_left
  · intro _ _; go_simp; first | done | with_reducible rfl
  simp only [Act.put, List.setIfInBounds_toArray, List.set_cons_zero, List.set_cons_succ]
  refine wpAnyH_take (i := 5) (oi := { dst := some 16, op := .nilCheck (.tmp 15), type := 0, pos := "wal.go:93", after := #[{ on := 4, ground := .data }], guard := none }) (v := ?_) rfl (by kernel_rfl) (by kernel_rfl) (by kernel_rfl) (fun _ _ _ h => h) (Or.inl ⟨by rfl, ?_⟩) (by assumption) ?_
  rotate_left
  · intro _ _; go_simp; first | done | with_reducible rfl
  simp only [Act.put, List.setIfInBounds_toArray, List.set_cons_zero, List.set_cons_succ]
  refine wpAnyH_take (i := 6) (oi := { dst := some 17, op := .fieldAddr 50 (.tmp 16) 1, type := 0, pos := "wal.go:93", after := #[{ on := 5, ground := .data }], guard := none }) (v := ?_) rfl (by kernel_rfl) (by kernel_rfl) (by kernel_rfl) (fun _ _ _ h => h) (Or.inl ⟨by rfl, ?_⟩) (by assumption) ?_
  rotate_left
  · intro _ _; go_simp; first | done | with_reducible rfl
  simp only [Act.put, List.setIfInBounds_toArray, List.set_cons_zero, List.set_cons_succ]
  refine wpAnyH_take (i := 7) (oi := { dst := some 18, op := .load 9 (.tmp 17), type := 9, pos := "wal.go:93", after := #[{ on := 6, ground := .data }], guard := none }) (v := .string nm) rfl (by kernel_rfl) (by kernel_rfl) (by kernel_rfl) (fun _ _ _ h => h) (Or.inl ⟨by rfl, ?_⟩) (by assumption) ?_
  · intro _ _; rename_i wz hz; have cz := hz.2; go_simp
  simp only [Act.put, List.setIfInBounds_toArray, List.set_cons_zero, List.set_cons_succ]
  refine wpAnyH_ready (rs := [8]) (by kernel_rfl) (by simp) ?_
  refine AllReadyH.cons (o := { dst := some 19, op := .call { callee := .value (.func 31), args := #[.tmp 14, .tmp 18], argTypes := #[25, 9] }, type := 65, pos := "wal.go:93", after := #[{ on := 3, ground := .data }, { on := 7, ground := .data }], guard := none }) rfl (fun K hK => ?_) AllReadyH.nil
  go_simp
  refine Calls.mono HRD.out ?_; rintro e w3 ⟨v3, rfl, ho3, hb3⟩; obtain ⟨a3, c3, rfl⟩ := ho3.shape; have HO3 : Hid (OwnB w3 wi.heap.size (.slice a3 b.length c3) b) := ho3; have HS3 : Hid (Sys w w3 f S ((l, lgC f nm size dead) :: Bl)) := H.out.drew.below hb3; have HB3 : Hid (Below wi.heap.size wi w3) := below_undrew hb3; clear ho3 hb3
  go_simp
  refine hK.out _ _ (⟨HS3.out.blk.one rfl, HS3.out.blk.one rfl⟩) (fun hHeld => ?_)
  clear hK K
  refine wpAnyH_take (i := 9) (oi := { dst := some 10, op := .move (.tmp 19), type := 65, pos := "wal.go:93", after := #[{ on := 8, ground := .data }], guard := none }) (v := ?_) rfl (by kernel_rfl) (by kernel_rfl) (by kernel_rfl) (fun _ _ _ h => h) (Or.inl ⟨by rfl, ?_⟩) (by assumption) ?_
  rotate_left
  · intro _ _; go_simp; first | done | with_reducible rfl
  simp only [Act.put, List.setIfInBounds_toArray, List.set_cons_zero, List.set_cons_succ]
  refine wpAnyH_take (i := 10) (oi := { dst := some 20, op := .extract (.tmp 10) 0, type := 40, pos := "wal.go:93", after := #[{ on := 9, ground := .data }], guard := none }) (v := ?_) rfl (by kernel_rfl) (by kernel_rfl) (by kernel_rfl) (fun _ _ _ h => h) (Or.inl ⟨by rfl, ?_⟩) (by assumption) ?_
  rotate_left
  · intro _ _; go_simp; first | done | with_reducible rfl
  simp only [Act.put, List.setIfInBounds_toArray, List.set_cons_zero, List.set_cons_succ]
  refine wpAnyH_take (i := 11) (oi := { dst := some 21, op := .extract (.tmp 10) 1, type := 28, pos := "wal.go:93", after := #[{ on := 9, ground := .data }, { on := 12, ground := .gcOnly Go.Departure.lateStores }], guard := none }) (v := ?_) rfl (by kernel_rfl) (by kernel_rfl) (by kernel_rfl) (fun _ _ _ h => h) (Or.inl ⟨by rfl, ?_⟩) (by assumption) ?_
  rotate_left
  · intro _ _; go_simp; first | done | with_reducible rfl
  simp only [Act.put, List.setIfInBounds_toArray, List.set_cons_zero, List.set_cons_succ]
  refine wpAnyH_take (i := 12) (oi := { dst := some 3, op := .assign (.tmp 20), type := 40, pos := "wal.go:93", after := #[{ on := 10, ground := .data }, { on := 8, ground := .chain }, { on := 0, ground := .phase }, { on := 1, ground := .phase }, { on := 2, ground := .phase }, { on := 3, ground := .phase }, { on := 4, ground := .phase }, { on := 5, ground := .phase }, { on := 6, ground := .phase }, { on := 7, ground := .phase }, { on := 8, ground := .phase }, { on := 9, ground := .phase }, { on := 10, ground := .phase }, { on := 11, ground := .textOnly Go.Departure.lateStores }], guard := none }) (v := ?_) rfl (by kernel_rfl) (by kernel_rfl) (by kernel_rfl) (fun _ _ _ h => h) (Or.inl ⟨by rfl, ?_⟩) (by assumption) ?_
  rotate_left
  · intro _ _; go_simp; first | done | with_reducible rfl
  simp only [Act.put, List.setIfInBounds_toArray, List.set_cons_zero, List.set_cons_succ]
  refine wpAnyH_take (i := 13) (oi := { dst := some 4, op := .assign (.tmp 21), type := 28, pos := "wal.go:93", after := #[{ on := 11, ground := .data }, { on := 12, ground := .chain }, { on := 0, ground := .phase }, { on := 1, ground := .phase }, { on := 2, ground := .phase }, { on := 3, ground := .phase }, { on := 4, ground := .phase }, { on := 5, ground := .phase }, { on := 6, ground := .phase }, { on := 7, ground := .phase }, { on := 8, ground := .phase }, { on := 9, ground := .phase }, { on := 10, ground := .phase }, { on := 11, ground := .phase }, { on := 12, ground := .phase }], guard := none }) (v := ?_) rfl (by kernel_rfl) (by kernel_rfl) (by kernel_rfl) (fun _ _ _ h => h) (Or.inl ⟨by rfl, ?_⟩) (by assumption) ?_
  rotate_left
  · intro _ _; go_simp; first | done | with_reducible rfl
  simp only [Act.put, List.setIfInBounds_toArray, List.set_cons_zero, List.set_cons_succ]
  refine wpAnyH_done (by kernel_rfl) ?_ _
  refine NoPanic.normal ?_
  clear hHeld HRD
  obtain ⟨q, hq⟩ : ∃ q, q = min size b.length := ⟨_, rfl⟩
  rw [← hq] at HR
  have hqi : min (size : Int) (b.length : Int) = (q : Int) := by omega
  have hqb : q ≤ b.length := by omega
  obtain ⟨_, _, hv, hlc, hcm, _, htk⟩ := HO3.out.take hqb
  injection hv with e1 _ e3
  subst e1
  subst e3
  have hbt := htk.toBs
  have hwh := whole_any _ (b.take q) w3 (HS3.out.kw HK.out) hbt (by rw [List.length_take]; omega)
  rw [← HR.out] at hwh
  obtain ⟨Z, hZ⟩ : ∃ Z, Z = (wholeR (b.take q)).2 := ⟨_, rfl⟩
  rw [← hZ] at hwh
  have HWH : Hid (Calls Tryd.prog 32 #[.slice a3 q c3] w3 fun e w' => ∃ v' xs, e = .returned (.tuple #[v', .int .i64 Z]) ∧ OwnX w' w3.heap.size v' xs ∧ All2 w3 xs R ∧ Below w3.heap.size w3 w') := hwh
  have hlc' : (b.length : Int) ≤ (c3 : Int) := by omega
  have hcm' : (c3 : Int) ≤ 9223372036854775807 := by unfold maxLen at hcm; omega
  have hRl : R.length ≤ 16777216 ∧ ∀ r ∈ R, r.length ≤ 16777216 := by
    have := wholeR_le _ (b.take q) rfl
    rw [List.length_take, ← HR.out] at this
    exact ⟨by omega, fun r hr => by have := this.2.2 r hr; omega⟩
  have HRL : Hid (R.length ≤ 16777216 ∧ ∀ r ∈ R, r.length ≤ 16777216) := hRl
  have c2 : w3.cell? ⟨l, 2, none⟩ = some (.int .i64 size) := HS3.out.blk.one rfl
  have HHI : Hid (q ≤ b.length) := hqb
  clear hwh hZ hbt htk hq hcm hlc hRl
  generalize b.length = bl at *
  go_wp2_with fail
  refine Calls.mono HWH.out ?_
  rintro e w4 ⟨v4, xs, rfl, hx4, ha4, hb4⟩
  obtain ⟨a4, c4, rfl⟩ := hx4.shape
  obtain ⟨n, hn⟩ : ∃ n, n = xs.length := ⟨_, rfl⟩
  rw [← hn] at hx4 ⊢
  have HN : Hid (n = xs.length ∧ n = R.length) := ⟨hn, hn.trans ha4.1⟩
  have hnl : n ≤ 16777216 := by have := HRL.out.1; have := HN.out.2; omega
  have HX4 : Hid (OwnX w4 w3.heap.size (.slice a4 n c4) xs) := hx4
  have HA4 : Hid (All2 w3 xs R) := ha4
  have HB4 : Hid (Below w3.heap.size w3 w4) := hb4
  have HBI : Hid (Below w3.heap.size w3 w4 → Below wi.heap.size wi w4) := fun h => HB3.out.trans (h.mono HB3.out.size)
  clear hx4 ha4 hb4 HWH hn c2 hqi hqb hlc' hcm' HHI
  go_wp2_with fail
  go_loopw [37] (fun i wr => ∃ (k : Nat) (ys : List Value), k ≤ n ∧ i = .int .i64 k ∧ ys.length = n ∧ Hid (OwnX wr w3.heap.size (.slice a4 n c4) ys) ∧ Hid (Below w3.heap.size w3 wr) ∧ Hid (∀ i x, k ≤ i → ys[i]? = some x → xs[i]? = some x) ∧ Hid (∀ i x, i < k → ys[i]? = some x → OwnB wr w3.heap.size x (R.getD i []) ∧ ∀ j, x.ownBlock = some j → w3.heap.size ≤ j ∧ ∀ g, a4 = some ⟨g, 0, none⟩ → j ≠ g)) (fun i _ => n - (intOf i).toNat)
  case atStart => exact ⟨0, xs, Nat.zero_le _, rfl, HN.out.1.symm, HX4.out, HB4.out, fun i x _ h => h, fun i x h => absurd h (Nat.not_lt_zero _)⟩
  case round =>
    obtain ⟨k, ys, hk, rfl, hyl, HO, HB, HL, HD⟩ := hrel
    clear HX4 HB4
    by_cases hlt : k < n
    · have e0 : (0 : Int) ≤ (k : Int) := by omega
      have e1 : (k : Int) < (n : Int) := by omega
      obtain ⟨g, c, hv, hg, hgl, hfz, hcell⟩ := HO.out.block (by omega)
      injection hv with ea en ec
      subst ea
      obtain ⟨x, hx⟩ : ∃ x, ys[k]? = some x := ⟨_, List.getElem?_eq_getElem (by omega)⟩
      have ck := hcell k x hx
      have hbx := (HA4.out.2 k x (HL.out k x (Nat.le_refl _) hx)).below HB.out
      obtain ⟨ax, cx, rfl, _⟩ := hbx.shape
      have hrl : (R.getD k []).length ≤ 16777216 := by
        refine HRL.out.2 _ ?_
        rw [List.getD_eq_getElem?_getD, List.getElem?_eq_getElem (by rw [← HN.out.2]; exact hlt)]
        exact List.getElem_mem _
      have HBC : Hid (Calls Tryd.prog 28 #[.slice ax (R.getD k []).length cx] wr fun e w' => ∃ v', e = .returned v' ∧ OwnB w' wr.heap.size v' (R.getD k []) ∧ Below wr.heap.size wr w') := bclone_any _ _ wr hbx.src (by omega)
      obtain ⟨r, hr⟩ : ∃ r, r = R.getD k [] := ⟨_, rfl⟩
      rw [← hr] at HBC ck
      have HR2 : Hid (r = R.getD k []) := hr
      have HCE : Hid (∀ i x, ys[i]? = some x → wr.cell? ⟨g, i, none⟩ = some x) := hcell
      have HKX : Hid (k < ys.length) := show _ < _ by omega
      clear hx hbx hr hrl hcell hfz ec en
      generalize r.length = rl at *
      go_wp2_with fail
      refine Calls.mono HBC.out ?_
      rintro e w5 ⟨v5, rfl, ho5, hb5⟩
      obtain ⟨a5, c5, rfl⟩ := ho5.shape
      have HO5 : Hid (OwnB w5 wr.heap.size (.slice a5 r.length c5) r) := ho5
      have HB5 : Hid (Below wr.heap.size wr w5) := hb5
      have HX5 : Hid (OwnX w5 w3.heap.size (.slice (some ⟨g, 0, none⟩) n c4) ys) := HO.out.below hb5
      have ck5 := cell_below hb5 ck
      have fk5 : w5.frozen? ⟨g, k, none⟩ = false := by
        obtain ⟨g', c', hv', _, _, hf', _⟩ := HX5.out.block (by omega)
        injection hv' with e1' _ _
        injection e1' with e1'
        injection e1' with e1'
        subst e1'
        exact hf' k
      clear ho5 hb5 HBC ck
      generalize hrl : r.length = rl2 at *
      have HRL2 : Hid (r.length = rl2) := hrl
      clear hrl
      go_wp2_with fail
      go_roundw
      case rel =>
        refine ⟨k + 1, ys.set k (.slice a5 rl2 c5), by omega, by go_num, by rw [List.length_set]; exact hyl, HX5.out.set k _, ?_, fun i x hi hx => ?_, fun i x hi hx => ?_⟩
        · exact (HB.out.trans (HB5.out.mono HB.out.size)).setCell hg _
        · rw [List.getElem?_set_ne (by omega)] at hx
          exact HL.out i x (by omega) hx
        · by_cases e : i = k
          · subst e
            rw [List.getElem?_set_self HKX.out] at hx
            injection hx with hx
            subst hx
            have hlt5 := HO5.out.lt
            refine ⟨?_, fun j hj => ?_⟩
            · rw [← HR2.out]
              have hb := HO5.out.less HB.out.size
              refine hb.same fun j hj => ?_
              have := (hlt5 j hj).1
              exact Below.heap_setCell _ _ _ _ (by simp only [ne_eq]; omega)
            · have := (hlt5 j hj).1
              have := HB.out.size
              exact ⟨by omega, fun g' hg' => by injection hg' with hg'; injection hg' with hg'; omega⟩
          · rw [List.getElem?_set_ne (Ne.symm e)] at hx
            obtain ⟨h1, h2⟩ := HD.out i x (by omega) hx
            refine ⟨(h1.below HB5.out).same fun j hj => ?_, h2⟩
            exact Below.heap_setCell _ _ _ _ (by simp only [ne_eq]; exact (h2 j hj).2 g rfl)
      case measure => simp [intOf]; omega
    · obtain rfl : k = n := by omega
      have e1 : ¬ (k : Int) < (k : Int) := by omega
      go_wp2_with fail
      go_ret
      refine ⟨.slice a4 k c4, rfl, ys, HO.out.less HB3.out.size, fun x hx => ?_, HB3.out.trans (HB.out.mono HB3.out.size)⟩
      obtain ⟨i, hi, rfl⟩ := List.getElem_of_mem hx
      obtain ⟨h1, h2⟩ := HD.out i _ (by omega) (List.getElem?_eq_getElem hi)
      refine ⟨⟨_, h1.less HB3.out.size⟩, fun j hj e => ?_⟩
      obtain ⟨g, c, hv, _⟩ := HO.out.block (by omega)
      injection hv with ea _ _
      rw [ea] at e
      injection e with e
      exact (h2 j hj).2 g ea e.symm
end Go.Proofs.YtlapnnkahijikaaDoor
