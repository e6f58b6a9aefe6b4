/- wal: mend. wal: Open. wal: Records. -/
import Derived.Test.YtlapnnkahijikaaDoorZW3
namespace Go.Proofs.YtlapnnkahijikaaDoor
open Go.ChangeShapes Go.WideShapes Go.ChangeAt Go.RowKit Go.Lib

/-- What a file has. -/
def fileB (A : Abs) (nm : ByteArray) : List (BitVec 8) := (flOf (alook nm A.L)).b
def mnd1 (A : Abs) (nm : ByteArray) : Abs := A.rem (bes nm)
def mnd2 (A : Abs) (nm : ByteArray) : Abs := (mnd1 A nm).app nm []
def mndZ (A : Abs) (nm : ByteArray) : Nat := (wholeR (fileB (mnd2 A nm) nm)).2
def mnd3 (A : Abs) (nm : ByteArray) : Abs := (mnd2 A nm).tru nm (mndZ A nm)
/-- What mend tells, what it leaves, how many bytes there are. -/
def mend (A : Abs) (nm : ByteArray) : Int × Abs × Nat :=
  if A.opn [bes nm] (bes nm) = 0 ∨ A.opn [bes nm] (bes nm) = 5 then
    (if (mnd1 A nm).appE nm [] = 0 then
      (if (mnd2 A nm).truE nm (mndZ A nm) = 0 then ((mnd3 A nm).opn [nm] nm, (mnd3 A nm).syn nm, mndZ A nm)
       else ((mnd2 A nm).truE nm (mndZ A nm), mnd3 A nm, mndZ A nm))
     else ((mnd1 A nm).appE nm [], mnd2 A nm, 0))
  else (A.opn [bes nm] (bes nm), mnd1 A nm, 0)
set_option maxRecDepth 100000 in
set_option maxHeartbeats 4000000 in
theorem mend_any {w wi : World} {f : Nat} {S : FS} {Bl : List (Nat × List Value)} {m : Nat} (hK : Kw w) (l : Nat) (nm : ByteArray) (h : Sys w wi f S ((l, lgC f nm 0 false) :: Bl)) (hOK : S.abs.OK m) (hm : m ≤ 4611686018427387000) (hnm : nm.size ≤ 40) :
    Calls Tryd.prog 18 #[.pointer (some ⟨l, 0, none⟩)] wi fun e w' => e = .returned (.int .i64 (mend S.abs nm).1) ∧ Step w wi f S (((l, lgC f nm 0 false) :: Bl).map Prod.fst) (mend S.abs nm).2.1 ((l, lgC f nm (mend S.abs nm).2.2 false) :: Bl) w' := by
  have HK : Hid (Kw w) := hK
  have H : Hid (Sys w wi f S ((l, lgC f nm 0 false) :: Bl)) := h
  have HOK : Hid (S.abs.OK m) := hOK
  have HMO : Hid (Tryd.prog.follows .mixedOrders = true) := show _ = _ by kernel_rfl
  have HM : Hid (mend S.abs nm = if S.abs.opn [bes nm] (bes nm) = 0 ∨ S.abs.opn [bes nm] (bes nm) = 5 then
    (if (mnd1 S.abs nm).appE nm [] = 0 then
      (if (mnd2 S.abs nm).truE nm (mndZ S.abs nm) = 0 then ((mnd3 S.abs nm).opn [nm] nm, (mnd3 S.abs nm).syn nm, mndZ S.abs nm)
       else ((mnd2 S.abs nm).truE nm (mndZ S.abs nm), mnd3 S.abs nm, mndZ S.abs nm))
     else ((mnd1 S.abs nm).appE nm [], mnd2 S.abs nm, 0))
  else (S.abs.opn [bes nm] (bes nm), mnd1 S.abs nm, 0)) := show _ = _ from rfl
  have HRM : Hid (Calls Tryd.prog 34 #[.pointer (some ⟨f, 0, none⟩), .string (bes nm)] wi.drew fun e w' => e = .returned (.int .i64 (S.abs.opn [bes nm] (bes nm))) ∧ Step w wi.drew f S (((l, lgC f nm 0 false) :: Bl).map Prod.fst) (mnd1 S.abs nm) ((l, lgC f nm 0 false) :: Bl) w') := sys_remove H.out.drew hOK (by omega) (bes nm)
  have HOK1 : Hid ((mnd1 S.abs nm).OK (m + 1)) := hOK.rem
  have HOK2 : Hid ((mnd2 S.abs nm).OK (m + 2)) := hOK.rem.app
  have HOK3 : Hid ((mnd3 S.abs nm).OK (m + 3)) := hOK.rem.app.tru
  clear hK h hOK
  generalize mend S.abs nm = M at *
  obtain ⟨E1, hE1⟩ : ∃ E, E = S.abs.opn [bes nm] (bes nm) := ⟨_, rfl⟩
  rw [← hE1] at HM HRM
  clear hE1
  have c0 : wi.cell? ⟨l, 0, none⟩ = some (.pointer (some ⟨f, 0, none⟩)) := H.out.blk.one rfl
  have c1 : wi.cell? ⟨l, 1, none⟩ = some (.string nm) := H.out.blk.one rfl
  go_enter Tryd.func18, Tryd.ntmps18
  go_wp2_with fail
  refine wp_scope_hops 1 ?_
  go_hide hQ
  go_upto_region 2 with fail
  clear c0 c1
  refine wp_region_noPanic ?_
  refine wp_region_held_drew (S := fun w' => w'.cell? ⟨l, 0, none⟩ = some (.pointer (some ⟨f, 0, none⟩))) HMO.out (H.out.drew.blk.one rfl) (fun hHeld => ?_)
  refine wpAnyH_take (i := 0) (oi := { dst := some 5, op := .move (.tmp 0), type := 27, pos := "wal.go:157", after := #[], guard := none }) (v := ?_) rfl (by kernel_rfl) (by kernel_rfl) (by kernel_rfl) (fun _ _ _ h => h) (Or.inl ⟨by rfl, ?_⟩) (by assumption) ?_
  rotate_left
  · intro _ _; go_simp; first | done | with_reducible rfl
  simp only [Act.put, List.setIfInBounds_toArray, List.set_cons_zero, List.set_cons_succ]
  refine wpAnyH_take (i := 1) (oi := { dst := some 6, op := .nilCheck (.tmp 5), type := 0, pos := "wal.go:157", after := #[{ on := 0, ground := .data }], guard := none }) (v := ?_) rfl (by kernel_rfl) (by kernel_rfl) (by kernel_rfl) (fun _ _ _ h => h) (Or.inl ⟨by rfl, ?_⟩) (by assumption) ?_
  rotate_left
  · intro _ _; go_simp; first | done | with_reducible rfl
  simp only [Act.put, List.setIfInBounds_toArray, List.set_cons_zero, List.set_cons_succ]
  refine wpAnyH_take (i := 2) (oi := { dst := some 7, op := .fieldAddr 50 (.tmp 6) 0, type := 0, pos := "wal.go:157", after := #[{ on := 1, ground := .data }], guard := none }) (v := ?_) rfl (by kernel_rfl) (by kernel_rfl) (by kernel_rfl) (fun _ _ _ h => h) (Or.inl ⟨by rfl, ?_⟩) (by assumption) ?_
  rotate_left
  · intro _ _; go_simp; first | done | with_reducible rfl
  simp only [Act.put, List.setIfInBounds_toArray, List.set_cons_zero, List.set_cons_succ]
  refine wpAnyH_take (i := 3) (oi := { dst := some 8, op := .load 25 (.tmp 7), type := 25, pos := "wal.go:157", after := #[{ on := 2, ground := .data }], guard := none }) (v := .pointer (some ⟨f, 0, none⟩)) rfl (by kernel_rfl) (by kernel_rfl) (by kernel_rfl) (fun _ _ _ h => h) (Or.inl ⟨by rfl, ?_⟩) (by assumption) ?_
  · intro _ _; rename_i wz hz; have cz := hz; go_simp
  simp only [Act.put, List.setIfInBounds_toArray, List.set_cons_zero, List.set_cons_succ]
  refine wpAnyH_take (i := 4) (oi := { dst := some 9, op := .move (.tmp 0), type := 27, pos := "wal.go:157", after := #[], guard := none }) (v := ?_) rfl (by kernel_rfl) (by kernel_rfl) (by kernel_rfl) (fun _ _ _ h => h) (Or.inl ⟨by rfl, ?_⟩) (by assumption) ?_
  rotate_left
  · intro _ _; go_simp; first | done | with_reducible rfl
  simp only [Act.put, List.setIfInBounds_toArray, List.set_cons_zero, List.set_cons_succ]
  refine wpAnyH_ready (rs := [5]) (by kernel_rfl) (by simp) ?_
  refine AllReadyH.cons (o := { dst := some 10, op := .call { callee := .value (.func 29), args := #[.tmp 9], argTypes := #[27] }, type := 9, pos := "wal.go:157", after := #[{ on := 4, ground := .data }], guard := none }) rfl (fun K hK => ?_) AllReadyH.nil
  go_simp
  refine Calls.mono (beside_any l f nm 0 false _ H.out.drew.blk hnm) ?_; rintro e w6 ⟨rfl, rfl⟩
  go_simp
  refine hK.out _ _ (H.out.drew.blk.one rfl) (fun hHeld => ?_)
  clear hK K
  refine wpAnyH_ready (rs := [6]) (by kernel_rfl) (by simp) ?_
  refine AllReadyH.cons (o := { dst := some 11, op := .call { callee := .value (.func 34), args := #[.tmp 8, .tmp 10], argTypes := #[25, 9] }, type := 28, pos := "wal.go:157", after := #[{ on := 3, ground := .data }, { on := 5, ground := .data }, { on := 5, ground := .chain }], guard := none }) rfl (fun K hK => ?_) AllReadyH.nil
  go_simp
  refine Calls.mono HRM.out ?_; rintro e w1 ⟨rfl, S1, hS1, hs1, hg1⟩; have HS1 : Hid (Sys w w1 f S1 ((l, lgC f nm 0 false) :: Bl)) := hs1; have HG1 : Hid (GrB f (((l, lgC f nm 0 false) :: Bl).map Prod.fst) S S1 wi w1) := (GrB.of_below (Below.refl _ _).drew).trans hg1; have HA1 : Hid (S1.abs = mnd1 S.abs nm) := hS1; clear hS1 hs1 hg1
  go_simp
  refine hK.out _ _ (HS1.out.blk.one rfl) (fun hHeld => ?_)
  clear hK K
  refine wpAnyH_take (i := 7) (oi := { dst := some 4, op := .assign (.tmp 11), type := 28, pos := "wal.go:157", after := #[{ on := 6, ground := .data }, { on := 6, ground := .chain }, { on := 0, ground := .phase }, { on := 1, ground := .phase }, { on := 2, ground := .phase }, { on := 3, ground := .phase }, { on := 4, ground := .phase }, { on := 5, ground := .phase }, { on := 6, ground := .phase }], guard := none }) (v := ?_) rfl (by kernel_rfl) (by kernel_rfl) (by kernel_rfl) (fun _ _ _ h => h) (Or.inl ⟨by rfl, ?_⟩) (by assumption) ?_
  rotate_left
  · intro _ _; go_simp; first | done | with_reducible rfl
  simp only [Act.put, List.setIfInBounds_toArray, List.set_cons_zero, List.set_cons_succ]
  refine wpAnyH_done (by kernel_rfl) ?_ _
  refine NoPanic.normal ?_
  clear hHeld HRM H HOK
  by_cases hz1 : E1 = 0 ∨ E1 = 5
  · have hM1 := HM.out
    rw [if_pos hz1, ← HA1.out] at hM1
    have HM1 : Hid (M = (if S1.abs.appE nm [] = 0 then
      (if (mnd2 S.abs nm).truE nm (mndZ S.abs nm) = 0 then ((mnd3 S.abs nm).opn [nm] nm, (mnd3 S.abs nm).syn nm, mndZ S.abs nm)
       else ((mnd2 S.abs nm).truE nm (mndZ S.abs nm), mnd3 S.abs nm, mndZ S.abs nm))
     else (S1.abs.appE nm [], mnd2 S.abs nm, 0))) := hM1
    have HAP : Hid (Calls Tryd.prog 35 #[.pointer (some ⟨f, 0, none⟩), .string nm, .slice none 0 0] w1.drew fun e w' => e = .returned (.int .i64 (S1.abs.appE nm [])) ∧ Step w w1.drew f S1 (((l, lgC f nm 0 false) :: Bl).map Prod.fst) (S1.abs.app nm []) ((l, lgC f nm 0 false) :: Bl) w') :=
      sys_append HS1.out.drew (HA1.out ▸ HOK1.out) (by omega) (Below.refl _ _) nm (.slice none 0 0) [] (.inl ⟨rfl, rfl⟩) (by simp) (fun k hk => by cases hk)
    obtain ⟨E2, hE2⟩ : ∃ E, E = S1.abs.appE nm [] := ⟨_, rfl⟩
    rw [← hE2] at HM1 HAP
    clear hE2 hM1 HM
    have c0 : w1.cell? ⟨l, 0, none⟩ = some (.pointer (some ⟨f, 0, none⟩)) := HS1.out.blk.one rfl
    have c1 : w1.cell? ⟨l, 1, none⟩ = some (.string nm) := HS1.out.blk.one rfl
    rcases hz1 with rfl | rfl
    all_goals
      go_upto_region 4 with fail
      clear c0 c1
      refine wp_region_noPanic ?_
      refine wp_region_held_drew (S := fun w' => w'.cell? ⟨l, 0, none⟩ = some (.pointer (some ⟨f, 0, none⟩)) ∧ w'.cell? ⟨l, 1, none⟩ = some (.string nm)) HMO.out (⟨HS1.out.drew.blk.one rfl, HS1.out.drew.blk.one rfl⟩) (fun hHeld => ?_)
      refine wpAnyH_take (i := 0) (oi := { dst := some 18, op := .move (.tmp 0), type := 27, pos := "wal.go:162", after := #[], guard := none }) (v := ?_) rfl (by kernel_rfl) (by kernel_rfl) (by kernel_rfl) (fun _ _ _ h => h) (Or.inl ⟨by rfl, ?_⟩) (by assumption) ?_
      rotate_left
      · intro _ _; go_simp; first | done | with_reducible rfl
      simp only [Act.put, List.setIfInBounds_toArray, List.set_cons_zero, List.set_cons_succ]
      refine wpAnyH_take (i := 1) (oi := { dst := some 19, op := .nilCheck (.tmp 18), type := 0, pos := "wal.go:162", after := #[{ on := 0, ground := .data }], guard := none }) (v := ?_) rfl (by kernel_rfl) (by kernel_rfl) (by kernel_rfl) (fun _ _ _ h => h) (Or.inl ⟨by rfl, ?_⟩) (by assumption) ?_
      rotate_left
      · intro _ _; go_simp; first | done | with_reducible rfl
      simp only [Act.put, List.setIfInBounds_toArray, List.set_cons_zero, List.set_cons_succ]
      refine wpAnyH_take (i := 2) (oi := { dst := some 20, op := .fieldAddr 50 (.tmp 19) 0, type := 0, pos := "wal.go:162", after := #[{ on := 1, ground := .data }], guard := none }) (v := ?_) rfl (by kernel_rfl) (by kernel_rfl) (by kernel_rfl) (fun _ _ _ h => h) (Or.inl ⟨by rfl, ?_⟩) (by assumption) ?_
      rotate_left
      · intro _ _; go_simp; first | done | with_reducible rfl
      simp only [Act.put, List.setIfInBounds_toArray, List.set_cons_zero, List.set_cons_succ]
      refine wpAnyH_take (i := 3) (oi := { dst := some 21, op := .load 25 (.tmp 20), type := 25, pos := "wal.go:162", after := #[{ on := 2, ground := .data }], guard := none }) (v := .pointer (some ⟨f, 0, none⟩)) rfl (by kernel_rfl) (by kernel_rfl) (by kernel_rfl) (fun _ _ _ h => h) (Or.inl ⟨by rfl, ?_⟩) (by assumption) ?_
      · intro _ _; rename_i wz hz; have cz := hz.1; go_simp
      simp only [Act.put, List.setIfInBounds_toArray, List.set_cons_zero, List.set_cons_succ]
      refine wpAnyH_take (i := 4) (oi := { dst := some 22, op := .move (.tmp 0), type := 27, pos := "wal.go:162", after := #[], guard := none }) (v := ?_) rfl (by kernel_rfl) (by kernel_rfl) (by kernel_rfl) (fun _ _ _ h => h) (Or.inl ⟨by rfl, ?_⟩) (by assumption) ?_
      rotate_left
      · intro _ _; go_simp; first | done | with_reducible rfl
      simp only [Act.put, List.setIfInBounds_toArray, List.set_cons_zero, List.set_cons_succ]
      refine wpAnyH_take (i := 5) (oi := { dst := some 23, op := .nilCheck (.tmp 22), type := 0, pos := "wal.go:162", after := #[{ on := 4, ground := .data }], guard := none }) (v := ?_) rfl (by kernel_rfl) (by kernel_rfl) (by kernel_rfl) (fun _ _ _ h => h) (Or.inl ⟨by rfl, ?_⟩) (by assumption) ?_
      rotate_left
      · intro _ _; go_simp; first | done | with_reducible rfl
      simp only [Act.put, List.setIfInBounds_toArray, List.set_cons_zero, List.set_cons_succ]
      refine wpAnyH_take (i := 6) (oi := { dst := some 24, op := .fieldAddr 50 (.tmp 23) 1, type := 0, pos := "wal.go:162", after := #[{ on := 5, ground := .data }], guard := none }) (v := ?_) rfl (by kernel_rfl) (by kernel_rfl) (by kernel_rfl) (fun _ _ _ h => h) (Or.inl ⟨by rfl, ?_⟩) (by assumption) ?_
      rotate_left
      · intro _ _; go_simp; first | done | with_reducible rfl
      simp only [Act.put, List.setIfInBounds_toArray, List.set_cons_zero, List.set_cons_succ]
      refine wpAnyH_take (i := 7) (oi := { dst := some 25, op := .load 9 (.tmp 24), type := 9, pos := "wal.go:162", after := #[{ on := 6, ground := .data }], guard := none }) (v := .string nm) rfl (by kernel_rfl) (by kernel_rfl) (by kernel_rfl) (fun _ _ _ h => h) (Or.inl ⟨by rfl, ?_⟩) (by assumption) ?_
      · intro _ _; rename_i wz hz; have cz := hz.2; go_simp
      simp only [Act.put, List.setIfInBounds_toArray, List.set_cons_zero, List.set_cons_succ]
      refine wpAnyH_ready (rs := [8]) (by kernel_rfl) (by simp) ?_
      refine AllReadyH.cons (o := { dst := some 26, op := .call { callee := .value (.func 35), args := #[.tmp 21, .tmp 25, .const (.slice none 0 0)], argTypes := #[25, 9, 40] }, type := 28, pos := "wal.go:162", after := #[{ on := 3, ground := .data }, { on := 7, ground := .data }], guard := none }) rfl (fun K hK => ?_) AllReadyH.nil
      go_simp
      refine Calls.mono HAP.out ?_; rintro e w2 ⟨rfl, S2, hS2, hs2, hg2⟩; have HS2 : Hid (Sys w w2 f S2 ((l, lgC f nm 0 false) :: Bl)) := hs2; have HG2 : Hid (GrB f (((l, lgC f nm 0 false) :: Bl).map Prod.fst) S S2 wi w2) := (HG1.out.trans (GrB.of_below (Below.refl _ _).drew)).trans hg2; have HA2 : Hid (S2.abs = mnd2 S.abs nm) := show _ = _ by { rw [hS2, HA1.out]; rfl }; clear hS2 hs2 hg2
      go_simp
      refine hK.out _ _ (⟨HS2.out.blk.one rfl, HS2.out.blk.one rfl⟩) (fun hHeld => ?_)
      clear hK K
      refine wpAnyH_take (i := 9) (oi := { dst := some 4, op := .assign (.tmp 26), type := 28, pos := "wal.go:162", after := #[{ on := 8, ground := .data }, { on := 8, ground := .chain }, { on := 0, ground := .phase }, { on := 1, ground := .phase }, { on := 2, ground := .phase }, { on := 3, ground := .phase }, { on := 4, ground := .phase }, { on := 5, ground := .phase }, { on := 6, ground := .phase }, { on := 7, ground := .phase }, { on := 8, ground := .phase }], guard := none }) (v := ?_) rfl (by kernel_rfl) (by kernel_rfl) (by kernel_rfl) (fun _ _ _ h => h) (Or.inl ⟨by rfl, ?_⟩) (by assumption) ?_
      rotate_left
      · intro _ _; go_simp; first | done | with_reducible rfl
      simp only [Act.put, List.setIfInBounds_toArray, List.set_cons_zero, List.set_cons_succ]
      refine wpAnyH_done (by kernel_rfl) ?_ _
      refine NoPanic.normal ?_
      clear hHeld HAP HS1 HG1 HA1
      by_cases hz2 : E2 = 0
      · subst hz2
        have hM2 := HM1.out
        rw [if_pos rfl] at hM2
        have HRD := sys_read HS2.out.drew nm
        rw [HA2.out] at HRD
        obtain ⟨z, hz⟩ : ∃ z, z = mndZ S.abs nm := ⟨_, rfl⟩
        rw [← hz] at hM2
        have HZ : Hid (z = mndZ S.abs nm) := hz
        obtain ⟨E3, hE3⟩ : ∃ E, E = (mnd2 S.abs nm).truE nm z := ⟨_, rfl⟩
        rw [← hE3] at hM2
        have HE3 : Hid (E3 = (mnd2 S.abs nm).truE nm z) := hE3
        have HM2 : Hid (M = (if E3 = 0 then ((mnd3 S.abs nm).opn [nm] nm, (mnd3 S.abs nm).syn nm, z) else (E3, mnd3 S.abs nm, z))) := hM2
        have hbl : (fileB (mnd2 S.abs nm) nm).length ≤ 16777216 := by
          have := (HS2.out.fs.flOf_le nm).2
          rw [HA2.out] at this
          exact this
        obtain ⟨T, hT⟩ : ∃ T, T = (.int .i64 (if (alook nm (mnd2 S.abs nm).L).isSome = true then 0 else 5) : Value) := ⟨_, rfl⟩
        obtain ⟨b, hb⟩ : ∃ b, b = fileB (mnd2 S.abs nm) nm := ⟨_, rfl⟩
        have HRD2 : Hid (Calls Tryd.prog 31 #[.pointer (some ⟨f, 0, none⟩), .string nm] w2.drew fun e w' => ∃ v, e = .returned (.tuple #[v, T]) ∧ OwnB w' w2.drew.heap.size v b ∧ Below w2.drew.heap.size w2.drew w') := by
          rw [hT, hb]; exact HRD
        have HB : Hid (b = fileB (mnd2 S.abs nm) nm) := hb
        rw [← hb] at hbl
        clear HRD hM2 hE3 hb HM1 hT hz
        have c0 : w2.cell? ⟨l, 0, none⟩ = some (.pointer (some ⟨f, 0, none⟩)) := HS2.out.blk.one rfl
        have c1 : w2.cell? ⟨l, 1, none⟩ = some (.string nm) := HS2.out.blk.one rfl
        go_upto_region 6 with fail
        clear c0 c1
        refine wp_region_noPanic ?_
        refine wp_region_held_drew (S := fun w' => w'.cell? ⟨l, 0, none⟩ = some (.pointer (some ⟨f, 0, none⟩)) ∧ w'.cell? ⟨l, 1, none⟩ = some (.string nm)) HMO.out (⟨HS2.out.drew.blk.one rfl, HS2.out.drew.blk.one rfl⟩) (fun hHeld => ?_)
        refine wpAnyH_take (i := 0) (oi := { dst := some 30, op := .move (.tmp 0), type := 27, pos := "wal.go:166", after := #[], guard := none }) (v := ?_) rfl (by kernel_rfl) (by kernel_rfl) (by kernel_rfl) (fun _ _ _ h => h) (Or.inl ⟨by rfl, ?_⟩) (by assumption) ?_
        rotate_left
        · intro _ _; go_simp; first | done | with_reducible rfl
        simp only [Act.put, List.setIfInBounds_toArray, List.set_cons_zero, List.set_cons_succ]
        refine wpAnyH_take (i := 1) (oi := { dst := some 31, op := .nilCheck (.tmp 30), type := 0, pos := "wal.go:166", after := #[{ on := 0, ground := .data }], guard := none }) (v := ?_) rfl (by kernel_rfl) (by kernel_rfl) (by kernel_rfl) (fun _ _ _ h => h) (Or.inl ⟨by rfl, ?_⟩) (by assumption) ?_
        rotate_left
        · intro _ _; go_simp; first | done | with_reducible rfl
        simp only [Act.put, List.setIfInBounds_toArray, List.set_cons_zero, List.set_cons_succ]
        refine wpAnyH_take (i := 2) (oi := { dst := some 32, op := .fieldAddr 50 (.tmp 31) 0, type := 0, pos := "wal.go:166", after := #[{ on := 1, ground := .data }], guard := none }) (v := ?_) rfl (by kernel_rfl) (by kernel_rfl) (by kernel_rfl) (fun _ _ _ h => h) (Or.inl ⟨by rfl, ?_⟩) (by assumption) ?_
        rotate_left
        · intro _ _; go_simp; first | done | with_reducible rfl
        simp only [Act.put, List.setIfInBounds_toArray, List.set_cons_zero, List.set_cons_succ]
        refine wpAnyH_take (i := 3) (oi := { dst := some 33, op := .load 25 (.tmp 32), type := 25, pos := "wal.go:166", after := #[{ on := 2, ground := .data }], guard := none }) (v := .pointer (some ⟨f, 0, none⟩)) rfl (by kernel_rfl) (by kernel_rfl) (by kernel_rfl) (fun _ _ _ h => h) (Or.inl ⟨by rfl, ?_⟩) (by assumption) ?_
        · intro _ _; rename_i wz hz; have cz := hz.1; go_simp
        simp only [Act.put, List.setIfInBounds_toArray, List.set_cons_zero, List.set_cons_succ]
        refine wpAnyH_take (i := 4) (oi := { dst := some 34, op := .move (.tmp 0), type := 27, pos := "wal.go:166", after := #[], guard := none }) (v := ?_) rfl (by kernel_rfl) (by kernel_rfl) (by kernel_rfl) (fun _ _ _ h => h) (Or.inl ⟨by rfl, ?_⟩) (by assumption) ?_
        rotate_left
        · intro _ _; go_simp; first | done | with_reducible rfl
        simp only [Act.put, List.setIfInBounds_toArray, List.set_cons_zero, List.set_cons_succ]
        refine wpAnyH_take (i := 5) (oi := { dst := some 35, op := .nilCheck (.tmp 34), type := 0, pos := "wal.go:166", after := #[{ on := 4, ground := .data }], guard := none }) (v := ?_) rfl (by kernel_rfl) (by kernel_rfl) (by kernel_rfl) (fun _ _ _ h => h) (Or.inl ⟨by rfl, ?_⟩) (by assumption) ?_
        rotate_left
        · intro _ _; go_simp; first | done | with_reducible rfl
        simp only [Act.put, List.setIfInBounds_toArray, List.set_cons_zero, List.set_cons_succ]
        refine wpAnyH_take (i := 6) (oi := { dst := some 36, op := .fieldAddr 50 (.tmp 35) 1, type := 0, pos := "wal.go:166", after := #[{ on := 5, ground := .data }], guard := none }) (v := ?_) rfl (by kernel_rfl) (by kernel_rfl) (by kernel_rfl) (fun _ _ _ h => h) (Or.inl ⟨by rfl, ?_⟩) (by assumption) ?_
        rotate_left
        · intro _ _; go_simp; first | done | with_reducible rfl
        simp only [Act.put, List.setIfInBounds_toArray, List.set_cons_zero, List.set_cons_succ]
        refine wpAnyH_take (i := 7) (oi := { dst := some 37, op := .load 9 (.tmp 36), type := 9, pos := "wal.go:166", after := #[{ on := 6, ground := .data }], guard := none }) (v := .string nm) rfl (by kernel_rfl) (by kernel_rfl) (by kernel_rfl) (fun _ _ _ h => h) (Or.inl ⟨by rfl, ?_⟩) (by assumption) ?_
        · intro _ _; rename_i wz hz; have cz := hz.2; go_simp
        simp only [Act.put, List.setIfInBounds_toArray, List.set_cons_zero, List.set_cons_succ]
        refine wpAnyH_ready (rs := [8]) (by kernel_rfl) (by simp) ?_
        refine AllReadyH.cons (o := { dst := some 38, op := .call { callee := .value (.func 31), args := #[.tmp 33, .tmp 37], argTypes := #[25, 9] }, type := 65, pos := "wal.go:166", after := #[{ on := 3, ground := .data }, { on := 7, ground := .data }], guard := none }) rfl (fun K hK => ?_) AllReadyH.nil
        go_simp
        refine Calls.mono HRD2.out ?_; rintro e w3 ⟨v3, rfl, ho3, hb3⟩; obtain ⟨a3, c3, rfl⟩ := ho3.shape; have HO3 : Hid (OwnB w3 w2.heap.size (.slice a3 b.length c3) b) := ho3; have HS3 : Hid (Sys w w3 f S2 ((l, lgC f nm 0 false) :: Bl)) := HS2.out.drew.below hb3; have HG3 : Hid (GrB f (((l, lgC f nm 0 false) :: Bl).map Prod.fst) S S2 wi w3) := HG2.out.trans (GrB.of_below (below_undrew hb3)); clear ho3 hb3
        go_simp
        refine hK.out _ _ (⟨HS3.out.blk.one rfl, HS3.out.blk.one rfl⟩) (fun hHeld => ?_)
        clear hK K
        refine wpAnyH_take (i := 9) (oi := { dst := some 29, op := .move (.tmp 38), type := 65, pos := "wal.go:166", after := #[{ on := 8, ground := .data }], guard := none }) (v := ?_) rfl (by kernel_rfl) (by kernel_rfl) (by kernel_rfl) (fun _ _ _ h => h) (Or.inl ⟨by rfl, ?_⟩) (by assumption) ?_
        rotate_left
        · intro _ _; go_simp; first | done | with_reducible rfl
        simp only [Act.put, List.setIfInBounds_toArray, List.set_cons_zero, List.set_cons_succ]
        refine wpAnyH_take (i := 10) (oi := { dst := some 39, op := .extract (.tmp 29) 0, type := 40, pos := "wal.go:166", after := #[{ on := 9, ground := .data }], guard := none }) (v := ?_) rfl (by kernel_rfl) (by kernel_rfl) (by kernel_rfl) (fun _ _ _ h => h) (Or.inl ⟨by rfl, ?_⟩) (by assumption) ?_
        rotate_left
        · intro _ _; go_simp; first | done | with_reducible rfl
        simp only [Act.put, List.setIfInBounds_toArray, List.set_cons_zero, List.set_cons_succ]
        refine wpAnyH_take (i := 11) (oi := { dst := some 40, op := .extract (.tmp 29) 1, type := 28, pos := "wal.go:166", after := #[{ on := 9, ground := .data }, { on := 12, ground := .gcOnly Go.Departure.lateStores }], guard := none }) (v := ?_) rfl (by kernel_rfl) (by kernel_rfl) (by kernel_rfl) (fun _ _ _ h => h) (Or.inl ⟨by rfl, ?_⟩) (by assumption) ?_
        rotate_left
        · intro _ _; go_simp; first | done | with_reducible rfl
        simp only [Act.put, List.setIfInBounds_toArray, List.set_cons_zero, List.set_cons_succ]
        refine wpAnyH_take (i := 12) (oi := { dst := some 3, op := .assign (.tmp 39), type := 40, pos := "wal.go:166", after := #[{ on := 10, ground := .data }, { on := 8, ground := .chain }, { on := 0, ground := .phase }, { on := 1, ground := .phase }, { on := 2, ground := .phase }, { on := 3, ground := .phase }, { on := 4, ground := .phase }, { on := 5, ground := .phase }, { on := 6, ground := .phase }, { on := 7, ground := .phase }, { on := 8, ground := .phase }, { on := 9, ground := .phase }, { on := 10, ground := .phase }, { on := 11, ground := .textOnly Go.Departure.lateStores }], guard := none }) (v := ?_) rfl (by kernel_rfl) (by kernel_rfl) (by kernel_rfl) (fun _ _ _ h => h) (Or.inl ⟨by rfl, ?_⟩) (by assumption) ?_
        rotate_left
        · intro _ _; go_simp; first | done | with_reducible rfl
        simp only [Act.put, List.setIfInBounds_toArray, List.set_cons_zero, List.set_cons_succ]
        refine wpAnyH_done (by kernel_rfl) ?_ _
        refine NoPanic.normal ?_
        clear hHeld HRD2 HS2 HG2
        have hwh := whole_any _ b w3 (HS3.out.kw HK.out) HO3.out.toBs (by omega)
        have HZW : Hid ((wholeR b).2 = z) := show _ = _ by rw [HZ.out, HB.out]; rfl
        rw [HZW.out] at hwh
        have HWH : Hid (Calls Tryd.prog 32 #[.slice a3 b.length c3] w3 fun e w' => ∃ v' xs, e = .returned (.tuple #[v', .int .i64 z]) ∧ OwnX w' w3.heap.size v' xs ∧ All2 w3 xs (wholeR b).1 ∧ Below w3.heap.size w3 w') := hwh
        clear hwh
        generalize b.length = bl at *
        go_upto_region 7 with fail
        go_wp2_with fail
        refine Calls.mono HWH.out ?_
        rintro e w4 ⟨v4, xs, rfl, hx4, _, hb4⟩
        obtain ⟨a4, c4, rfl⟩ := hx4.shape
        have HS4 : Hid (Sys w w4 f S2 ((l, lgC f nm 0 false) :: Bl)) := HS3.out.below hb4
        have HG4 : Hid (GrB f (((l, lgC f nm 0 false) :: Bl).map Prod.fst) S S2 wi w4) := HG3.out.trans (GrB.of_below hb4)
        clear hx4 hb4 HWH HS3 HG3 HO3
        have c2 : w4.cell? ⟨l, 2, none⟩ = some (.int .i64 0) := HS4.out.blk.one rfl
        have g2 : w4.frozen? ⟨l, 2, none⟩ = false := HS4.out.blk.frozen 2
        go_upto_region 8 with fail
        generalize hw5 : World.setCell w4 _ _ = w5
        have HS5 : Hid (Sys w w5 f S2 ((l, lgC f nm z false) :: Bl) ∧ GrB f (((l, lgC f nm 0 false) :: Bl).map Prod.fst) S S2 wi w5) := by
          obtain ⟨h1, h2⟩ := HS4.out.keep (wj := w5) (cs' := lgC f nm z false) (by rw [← hw5]; exact (Keep.refl _ _).setCell 2 _) (by rw [← hw5]; exact HS4.out.blk.set 2 (.int .i64 (z : Int)))
          exact ⟨h1, HG4.out.trans h2⟩
        clear hw5 c2 g2 HS4 HG4
        have HTR : Hid (Calls Tryd.prog 36 #[.pointer (some ⟨f, 0, none⟩), .string nm, .int .i64 z] w5.drew fun e w' => e = .returned (.int .i64 E3) ∧ Step w w5.drew f S2 (((l, lgC f nm z false) :: Bl).map Prod.fst) (mnd3 S.abs nm) ((l, lgC f nm z false) :: Bl) w') := by
          have := sys_truncate HS5.out.1.drew (HA2.out ▸ HOK2.out) (by omega) nm z
          rw [HA2.out, ← HE3.out] at this
          rw [show mnd3 S.abs nm = (mnd2 S.abs nm).tru nm z by rw [HZ.out]; rfl]
          exact this
        refine wp_region_noPanic ?_
        refine wp_region_held_drew (S := fun w' => w'.cell? ⟨l, 0, none⟩ = some (.pointer (some ⟨f, 0, none⟩)) ∧ w'.cell? ⟨l, 1, none⟩ = some (.string nm) ∧ w'.cell? ⟨l, 2, none⟩ = some (.int .i64 z)) HMO.out (⟨HS5.out.1.drew.blk.one rfl, HS5.out.1.drew.blk.one rfl, HS5.out.1.drew.blk.one rfl⟩) (fun hHeld => ?_)
        refine wpAnyH_take (i := 0) (oi := { dst := some 49, op := .move (.tmp 0), type := 27, pos := "wal.go:168", after := #[], guard := none }) (v := ?_) rfl (by kernel_rfl) (by kernel_rfl) (by kernel_rfl) (fun _ _ _ h => h) (Or.inl ⟨by rfl, ?_⟩) (by assumption) ?_
        rotate_left
        · intro _ _; go_simp; first | done | with_reducible rfl
        simp only [Act.put, List.setIfInBounds_toArray, List.set_cons_zero, List.set_cons_succ]
        refine wpAnyH_take (i := 1) (oi := { dst := some 50, op := .nilCheck (.tmp 49), type := 0, pos := "wal.go:168", after := #[{ on := 0, ground := .data }], guard := none }) (v := ?_) rfl (by kernel_rfl) (by kernel_rfl) (by kernel_rfl) (fun _ _ _ h => h) (Or.inl ⟨by rfl, ?_⟩) (by assumption) ?_
        rotate_left
        · intro _ _; go_simp; first | done | with_reducible rfl
        simp only [Act.put, List.setIfInBounds_toArray, List.set_cons_zero, List.set_cons_succ]
        refine wpAnyH_take (i := 2) (oi := { dst := some 51, op := .fieldAddr 50 (.tmp 50) 0, type := 0, pos := "wal.go:168", after := #[{ on := 1, ground := .data }], guard := none }) (v := ?_) rfl (by kernel_rfl) (by kernel_rfl) (by kernel_rfl) (fun _ _ _ h => h) (Or.inl ⟨by rfl, ?_⟩) (by assumption) ?_
        rotate_left
        · intro _ _; go_simp; first | done | with_reducible rfl
        simp only [Act.put, List.setIfInBounds_toArray, List.set_cons_zero, List.set_cons_succ]
        refine wpAnyH_take (i := 3) (oi := { dst := some 52, op := .load 25 (.tmp 51), type := 25, pos := "wal.go:168", after := #[{ on := 2, ground := .data }], guard := none }) (v := .pointer (some ⟨f, 0, none⟩)) rfl (by kernel_rfl) (by kernel_rfl) (by kernel_rfl) (fun _ _ _ h => h) (Or.inl ⟨by rfl, ?_⟩) (by assumption) ?_
        · intro _ _; rename_i wz hz; have cz := hz.1; go_simp
        simp only [Act.put, List.setIfInBounds_toArray, List.set_cons_zero, List.set_cons_succ]
        refine wpAnyH_take (i := 4) (oi := { dst := some 53, op := .move (.tmp 0), type := 27, pos := "wal.go:168", after := #[], guard := none }) (v := ?_) rfl (by kernel_rfl) (by kernel_rfl) (by kernel_rfl) (fun _ _ _ h => h) (Or.inl ⟨by rfl, ?_⟩) (by assumption) ?_
        rotate_left
        · intro _ _; go_simp; first | done | with_reducible rfl
        simp only [Act.put, List.setIfInBounds_toArray, List.set_cons_zero, List.set_cons_succ]
        refine wpAnyH_take (i := 5) (oi := { dst := some 54, op := .nilCheck (.tmp 53), type := 0, pos := "wal.go:168", after := #[{ on := 4, ground := .data }], guard := none }) (v := ?_) rfl (by kernel_rfl) (by kernel_rfl) (by kernel_rfl) (fun _ _ _ h => h) (Or.inl ⟨by rfl, ?_⟩) (by assumption) ?_
        rotate_left
        · intro _ _; go_simp; first | done | with_reducible rfl
        simp only [Act.put, List.setIfInBounds_toArray, List.set_cons_zero, List.set_cons_succ]
        refine wpAnyH_take (i := 6) (oi := { dst := some 55, op := .fieldAddr 50 (.tmp 54) 1, type := 0, pos := "wal.go:168", after := #[{ on := 5, ground := .data }], guard := none }) (v := ?_) rfl (by kernel_rfl) (by kernel_rfl) (by kernel_rfl) (fun _ _ _ h => h) (Or.inl ⟨by rfl, ?_⟩) (by assumption) ?_
        rotate_left
        · intro _ _; go_simp; first | done | with_reducible rfl
        simp only [Act.put, List.setIfInBounds_toArray, List.set_cons_zero, List.set_cons_succ]
        refine wpAnyH_take (i := 7) (oi := { dst := some 56, op := .load 9 (.tmp 55), type := 9, pos := "wal.go:168", after := #[{ on := 6, ground := .data }], guard := none }) (v := .string nm) rfl (by kernel_rfl) (by kernel_rfl) (by kernel_rfl) (fun _ _ _ h => h) (Or.inl ⟨by rfl, ?_⟩) (by assumption) ?_
        · intro _ _; rename_i wz hz; have cz := hz.2.1; go_simp
        simp only [Act.put, List.setIfInBounds_toArray, List.set_cons_zero, List.set_cons_succ]
        refine wpAnyH_take (i := 8) (oi := { dst := some 57, op := .move (.tmp 0), type := 27, pos := "wal.go:168", after := #[], guard := none }) (v := ?_) rfl (by kernel_rfl) (by kernel_rfl) (by kernel_rfl) (fun _ _ _ h => h) (Or.inl ⟨by rfl, ?_⟩) (by assumption) ?_
        rotate_left
        · intro _ _; go_simp; first | done | with_reducible rfl
        simp only [Act.put, List.setIfInBounds_toArray, List.set_cons_zero, List.set_cons_succ]
        refine wpAnyH_take (i := 9) (oi := { dst := some 58, op := .nilCheck (.tmp 57), type := 0, pos := "wal.go:168", after := #[{ on := 8, ground := .data }], guard := none }) (v := ?_) rfl (by kernel_rfl) (by kernel_rfl) (by kernel_rfl) (fun _ _ _ h => h) (Or.inl ⟨by rfl, ?_⟩) (by assumption) ?_
        rotate_left
        · intro _ _; go_simp; first | done | with_reducible rfl
        simp only [Act.put, List.setIfInBounds_toArray, List.set_cons_zero, List.set_cons_succ]
        refine wpAnyH_take (i := 10) (oi := { dst := some 59, op := .fieldAddr 50 (.tmp 58) 2, type := 0, pos := "wal.go:168", after := #[{ on := 9, ground := .data }], guard := none }) (v := ?_) rfl (by kernel_rfl) (by kernel_rfl) (by kernel_rfl) (fun _ _ _ h => h) (Or.inl ⟨by rfl, ?_⟩) (by assumption) ?_
        rotate_left
        · intro _ _; go_simp; first | done | with_reducible rfl
        simp only [Act.put, List.setIfInBounds_toArray, List.set_cons_zero, List.set_cons_succ]
        refine wpAnyH_take (i := 11) (oi := { dst := some 60, op := .load 3 (.tmp 59), type := 3, pos := "wal.go:168", after := #[{ on := 10, ground := .data }], guard := none }) (v := .int .i64 z) rfl (by kernel_rfl) (by kernel_rfl) (by kernel_rfl) (fun _ _ _ h => h) (Or.inl ⟨by rfl, ?_⟩) (by assumption) ?_
        · intro _ _; rename_i wz hz; have cz := hz.2.2; go_simp
        simp only [Act.put, List.setIfInBounds_toArray, List.set_cons_zero, List.set_cons_succ]
        refine wpAnyH_ready (rs := [12]) (by kernel_rfl) (by simp) ?_
        refine AllReadyH.cons (o := { dst := some 61, op := .call { callee := .value (.func 36), args := #[.tmp 52, .tmp 56, .tmp 60], argTypes := #[25, 9, 3] }, type := 28, pos := "wal.go:168", after := #[{ on := 3, ground := .data }, { on := 7, ground := .data }, { on := 11, ground := .data }], guard := none }) rfl (fun K hK => ?_) AllReadyH.nil
        go_simp
        refine Calls.mono HTR.out ?_; rintro e w6 ⟨rfl, S6, hS6, hs6, hg6⟩; have HS6 : Hid (Sys w w6 f S6 ((l, lgC f nm z false) :: Bl)) := hs6; have HG6 : Hid (GrB f (((l, lgC f nm 0 false) :: Bl).map Prod.fst) S S6 wi w6) := (HS5.out.2.trans (GrB.of_below (Below.refl _ _).drew)).trans hg6; have HA6 : Hid (S6.abs = mnd3 S.abs nm) := hS6; clear hS6 hs6 hg6
        go_simp
        refine hK.out _ _ (⟨HS6.out.blk.one rfl, HS6.out.blk.one rfl, HS6.out.blk.one rfl⟩) (fun hHeld => ?_)
        clear hK K
        refine wpAnyH_take (i := 13) (oi := { dst := some 4, op := .assign (.tmp 61), type := 28, pos := "wal.go:168", after := #[{ on := 12, ground := .data }, { on := 12, ground := .chain }, { on := 0, ground := .phase }, { on := 1, ground := .phase }, { on := 2, ground := .phase }, { on := 3, ground := .phase }, { on := 4, ground := .phase }, { on := 5, ground := .phase }, { on := 6, ground := .phase }, { on := 7, ground := .phase }, { on := 8, ground := .phase }, { on := 9, ground := .phase }, { on := 10, ground := .phase }, { on := 11, ground := .phase }, { on := 12, ground := .phase }], guard := none }) (v := ?_) rfl (by kernel_rfl) (by kernel_rfl) (by kernel_rfl) (fun _ _ _ h => h) (Or.inl ⟨by rfl, ?_⟩) (by assumption) ?_
        rotate_left
        · intro _ _; go_simp; first | done | with_reducible rfl
        simp only [Act.put, List.setIfInBounds_toArray, List.set_cons_zero, List.set_cons_succ]
        refine wpAnyH_done (by kernel_rfl) ?_ _
        refine NoPanic.normal ?_
        clear hHeld HTR HS5
        by_cases hz3 : E3 = 0
        · have hM3 := HM2.out
          rw [if_pos hz3] at hM3
          subst hz3
          obtain ⟨E4, hE4⟩ : ∃ E, E = (mnd3 S.abs nm).opn [nm] nm := ⟨_, rfl⟩
          rw [← hE4] at hM3
          have HM3 : Hid (M = (E4, (mnd3 S.abs nm).syn nm, z)) := hM3
          have HSY : Hid (Calls Tryd.prog 37 #[.pointer (some ⟨f, 0, none⟩), .string nm] w6.drew fun e w' => e = .returned (.int .i64 E4) ∧ Step w w6.drew f S6 (((l, lgC f nm z false) :: Bl).map Prod.fst) ((mnd3 S.abs nm).syn nm) ((l, lgC f nm z false) :: Bl) w') := by
            have := sys_sync HS6.out.drew (HA6.out ▸ HOK3.out) (by omega) nm
            rw [HA6.out, ← hE4] at this
            exact this
          clear hM3 hE4 HM2
          have c0 : w6.cell? ⟨l, 0, none⟩ = some (.pointer (some ⟨f, 0, none⟩)) := HS6.out.blk.one rfl
          have c1 : w6.cell? ⟨l, 1, none⟩ = some (.string nm) := HS6.out.blk.one rfl
          go_upto_region 10 with fail
          clear c0 c1
          refine wp_region_noPanic ?_
          refine wp_region_held_drew (S := fun w' => w'.cell? ⟨l, 0, none⟩ = some (.pointer (some ⟨f, 0, none⟩)) ∧ w'.cell? ⟨l, 1, none⟩ = some (.string nm)) HMO.out (⟨HS6.out.drew.blk.one rfl, HS6.out.drew.blk.one rfl⟩) (fun hHeld => ?_)
          refine wpAnyH_take (i := 0) (oi := { dst := some 64, op := .move (.tmp 0), type := 27, pos := "wal.go:173", after := #[], guard := none }) (v := ?_) rfl (by kernel_rfl) (by kernel_rfl) (by kernel_rfl) (fun _ _ _ h => h) (Or.inl ⟨by rfl, ?_⟩) (by assumption) ?_
          rotate_left
          · intro _ _; go_simp; first | done | with_reducible rfl
          simp only [Act.put, List.setIfInBounds_toArray, List.set_cons_zero, List.set_cons_succ]
          refine wpAnyH_take (i := 1) (oi := { dst := some 65, op := .nilCheck (.tmp 64), type := 0, pos := "wal.go:173", after := #[{ on := 0, ground := .data }], guard := none }) (v := ?_) rfl (by kernel_rfl) (by kernel_rfl) (by kernel_rfl) (fun _ _ _ h => h) (Or.inl ⟨by rfl, ?_⟩) (by assumption) ?_
          rotate_left
          · intro _ _; go_simp; first | done | with_reducible rfl
          simp only [Act.put, List.setIfInBounds_toArray, List.set_cons_zero, List.set_cons_succ]
          refine wpAnyH_take (i := 2) (oi := { dst := some 66, op := .fieldAddr 50 (.tmp 65) 0, type := 0, pos := "wal.go:173", after := #[{ on := 1, ground := .data }], guard := none }) (v := ?_) rfl (by kernel_rfl) (by kernel_rfl) (by kernel_rfl) (fun _ _ _ h => h) (Or.inl ⟨by rfl, ?_⟩) (by assumption) ?_
          rotate_left
          · intro _ _; go_simp; first | done | with_reducible rfl
          simp only [Act.put, List.setIfInBounds_toArray, List.set_cons_zero, List.set_cons_succ]
          refine wpAnyH_take (i := 3) (oi := { dst := some 67, op := .load 25 (.tmp 66), type := 25, pos := "wal.go:173", after := #[{ on := 2, ground := .data }], guard := none }) (v := .pointer (some ⟨f, 0, none⟩)) rfl (by kernel_rfl) (by kernel_rfl) (by kernel_rfl) (fun _ _ _ h => h) (Or.inl ⟨by rfl, ?_⟩) (by assumption) ?_
          · intro _ _; rename_i wz hz; have cz := hz.1; go_simp
          simp only [Act.put, List.setIfInBounds_toArray, List.set_cons_zero, List.set_cons_succ]
          refine wpAnyH_take (i := 4) (oi := { dst := some 68, op := .move (.tmp 0), type := 27, pos := "wal.go:173", after := #[], guard := none }) (v := ?_) rfl (by kernel_rfl) (by kernel_rfl) (by kernel_rfl) (fun _ _ _ h => h) (Or.inl ⟨by rfl, ?_⟩) (by assumption) ?_
          rotate_left
          · intro _ _; go_simp; first | done | with_reducible rfl
          simp only [Act.put, List.setIfInBounds_toArray, List.set_cons_zero, List.set_cons_succ]
          refine wpAnyH_take (i := 5) (oi := { dst := some 69, op := .nilCheck (.tmp 68), type := 0, pos := "wal.go:173", after := #[{ on := 4, ground := .data }], guard := none }) (v := ?_) rfl (by kernel_rfl) (by kernel_rfl) (by kernel_rfl) (fun _ _ _ h => h) (Or.inl ⟨by rfl, ?_⟩) (by assumption) ?_
          rotate_left
          · intro _ _; go_simp; first | done | with_reducible rfl
          simp only [Act.put, List.setIfInBounds_toArray, List.set_cons_zero, List.set_cons_succ]
          refine wpAnyH_take (i := 6) (oi := { dst := some 70, op := .fieldAddr 50 (.tmp 69) 1, type := 0, pos := "wal.go:173", after := #[{ on := 5, ground := .data }], guard := none }) (v := ?_) rfl (by kernel_rfl) (by kernel_rfl) (by kernel_rfl) (fun _ _ _ h => h) (Or.inl ⟨by rfl, ?_⟩) (by assumption) ?_
          rotate_left
          · intro _ _; go_simp; first | done | with_reducible rfl
          simp only [Act.put, List.setIfInBounds_toArray, List.set_cons_zero, List.set_cons_succ]
          refine wpAnyH_take (i := 7) (oi := { dst := some 71, op := .load 9 (.tmp 70), type := 9, pos := "wal.go:173", after := #[{ on := 6, ground := .data }], guard := none }) (v := .string nm) rfl (by kernel_rfl) (by kernel_rfl) (by kernel_rfl) (fun _ _ _ h => h) (Or.inl ⟨by rfl, ?_⟩) (by assumption) ?_
          · intro _ _; rename_i wz hz; have cz := hz.2; go_simp
          simp only [Act.put, List.setIfInBounds_toArray, List.set_cons_zero, List.set_cons_succ]
          refine wpAnyH_ready (rs := [8]) (by kernel_rfl) (by simp) ?_
          refine AllReadyH.cons (o := { dst := some 72, op := .call { callee := .value (.func 37), args := #[.tmp 67, .tmp 71], argTypes := #[25, 9] }, type := 28, pos := "wal.go:173", after := #[{ on := 3, ground := .data }, { on := 7, ground := .data }], guard := none }) rfl (fun K hK => ?_) AllReadyH.nil
          go_simp
          refine Calls.mono HSY.out ?_; rintro e w7 ⟨rfl, S7, hS7, hs7, hg7⟩; have HS7 : Hid (Sys w w7 f S7 ((l, lgC f nm z false) :: Bl)) := hs7; have HG7 : Hid (GrB f (((l, lgC f nm 0 false) :: Bl).map Prod.fst) S S7 wi w7) := (HG6.out.trans (GrB.of_below (Below.refl _ _).drew)).trans hg7; have HA7 : Hid (S7.abs = (mnd3 S.abs nm).syn nm) := hS7; clear hS7 hs7 hg7
          go_simp
          refine hK.out _ _ (⟨HS7.out.blk.one rfl, HS7.out.blk.one rfl⟩) (fun hHeld => ?_)
          clear hK K
          refine wpAnyH_take (i := 9) (oi := { dst := some 4, op := .assign (.tmp 72), type := 28, pos := "wal.go:173", after := #[{ on := 8, ground := .data }, { on := 8, ground := .chain }, { on := 0, ground := .phase }, { on := 1, ground := .phase }, { on := 2, ground := .phase }, { on := 3, ground := .phase }, { on := 4, ground := .phase }, { on := 5, ground := .phase }, { on := 6, ground := .phase }, { on := 7, ground := .phase }, { on := 8, ground := .phase }], guard := none }) (v := ?_) rfl (by kernel_rfl) (by kernel_rfl) (by kernel_rfl) (fun _ _ _ h => h) (Or.inl ⟨by rfl, ?_⟩) (by assumption) ?_
          rotate_left
          · intro _ _; go_simp; first | done | with_reducible rfl
          simp only [Act.put, List.setIfInBounds_toArray, List.set_cons_zero, List.set_cons_succ]
          refine wpAnyH_done (by kernel_rfl) ?_ _
          refine NoPanic.normal ?_
          clear hHeld HSY
          go_wp2_with fail
          go_step3
          go_wp2_with fail
          subst hQ
          rw [hops_ret]
          go_ret
          rw [HM3.out]
          exact ⟨rfl, S7, HA7.out, HS7.out, HG7.out⟩
        · have hz' : (E3 != 0) = true := bne_iff_ne.2 hz3
          have HM3 : Hid (M = (E3, mnd3 S.abs nm, z)) := by have := HM2.out; rw [if_neg hz3] at this; exact this
          clear HM2
          go_wp2_with fail
          go_step3
          simp only [Exit.then]
          subst hQ
          rw [hops_goto]
          refine ⟨_, rfl, ?_⟩
          go_hide hQ
          go_wp2_with fail
          subst hQ
          rw [hops_ret]
          go_ret
          rw [HM3.out]
          exact ⟨rfl, S6, HA6.out, HS6.out, HG6.out⟩
      · have hz' : (E2 != 0) = true := bne_iff_ne.2 hz2
        have HM3 : Hid (M = (E2, mnd2 S.abs nm, 0)) := by have := HM1.out; rw [if_neg hz2] at this; exact this
        clear HM1
        go_wp2_with fail
        go_step3
        simp only [Exit.then]
        subst hQ
        rw [hops_goto]
        refine ⟨_, rfl, ?_⟩
        go_hide hQ
        go_wp2_with fail
        subst hQ
        rw [hops_ret]
        go_ret
        rw [HM3.out]
        exact ⟨rfl, S2, HA2.out, HS2.out, HG2.out⟩
  · have hz' : (E1 != 0) = true := bne_iff_ne.2 fun h => hz1 (.inl h)
    have hz5 : (E1 != 5) = true := bne_iff_ne.2 fun h => hz1 (.inr h)
    have HM3 : Hid (M = (E1, mnd1 S.abs nm, 0)) := by have := HM.out; rw [if_neg hz1] at this; exact this
    clear HM
    go_wp2_with fail
    go_step3
    simp only [Exit.then]
    subst hQ
    rw [hops_goto]
    refine ⟨_, rfl, ?_⟩
    go_hide hQ
    go_wp2_with fail
    subst hQ
    rw [hops_ret]
    go_ret
    rw [HM3.out]
    exact ⟨rfl, S1, HA1.out, HS1.out, HG1.out⟩
end Go.Proofs.YtlapnnkahijikaaDoor
namespace Go.Proofs.YtlapnnkahijikaaDoor
open Go.ChangeShapes Go.WideShapes Go.ChangeAt Go.RowKit Go.Lib

theorem GrB.drop {f : Nat} {ids : List Nat} {S S' : FS} {w wi wj : World} {l : Nat} (hb : Below w.heap.size w wi) (hl : w.heap.size ≤ l) (h : GrB f (l :: ids) S S' wi wj) : GrB f ids S S' w wj :=
  ⟨Nat.le_trans hb.size h.size, fun k hk hf hn => (h.block k (by have := hb.size; omega) hf (by
    intro e
    rcases List.mem_cons.1 e with e | e
    · omega
    · exact hn e)).trans (hb.block k hk), fun k e => (h.foot k e).elim .inl fun e => .inr (by have := hb.size; omega)⟩
set_option maxRecDepth 100000 in
set_option maxHeartbeats 4000000 in
theorem wopen_bad (f : Option Addr) (nm : ByteArray) (w : World) (h : f = none ∨ nm.size = 0 ∨ (40 < nm.size ∧ nm.size ≤ 1000)) (hs : nm.size ≤ 1000) :
    Calls Tryd.prog 6 #[.pointer f, .string nm] w fun e w' => e = .returned (.tuple #[.pointer none, .int .i64 1]) ∧ Below w.heap.size w w' := by
  have h3 : f = none ∨ (f ≠ none ∧ nm.size = 0) ∨ (f ≠ none ∧ nm.size ≠ 0 ∧ 40 < nm.size) := by
    rcases h with h | h | h
    · exact .inl h
    · cases f with
      | none => exact .inl rfl
      | some a => exact .inr (.inl ⟨by simp, h⟩)
    · cases f with
      | none => exact .inl rfl
      | some a => exact .inr (.inr ⟨by simp, by omega, h.1⟩)
  clear h
  have HC : Hid (Calls Tryd.prog 17 #[.string nm] w fun e w' => e = .returned (.string nm) ∧ Below w.heap.size w w') := sclone_any nm w (by omega)
  rcases h3 with rfl | ⟨hf, hz⟩ | ⟨hf, hz, hg⟩
  · go_enter Tryd.func6, Tryd.ntmps6
    go_wp2_with fail
    refine wp_scope_hops 1 ?_
    go_hide hQ
    go_wp2_with fail
    refine Calls.mono HC.out ?_
    rintro e w1 ⟨rfl, hb1⟩
    go_wp2_with fail
    go_step3
    simp only [Exit.then]
    subst hQ
    rw [hops_goto]
    refine ⟨_, rfl, ?_⟩
    go_hide hQ
    go_wp2_with fail
    subst hQ
    rw [hops_ret]
    go_ret2
    exact ⟨rfl, hb1.alloc hb1.size _⟩
  · obtain ⟨fa, rfl⟩ : ∃ a, f = some a := by
      cases f with
      | none => exact absurd rfl hf
      | some a => exact ⟨a, rfl⟩
    have hz' : ((nm.size : Int) == 0) = true := by simp [hz]
    go_enter Tryd.func6, Tryd.ntmps6
    go_wp2_with fail
    refine wp_scope_hops 1 ?_
    go_hide hQ
    go_wp2_with fail
    refine Calls.mono HC.out ?_
    rintro e w1 ⟨rfl, hb1⟩
    go_wp2_with fail
    go_step3
    simp only [Exit.then]
    subst hQ
    rw [hops_goto]
    refine ⟨_, rfl, ?_⟩
    go_hide hQ
    go_wp2_with fail
    subst hQ
    rw [hops_ret]
    go_ret2
    exact ⟨rfl, hb1.alloc hb1.size _⟩
  · obtain ⟨fa, rfl⟩ : ∃ a, f = some a := by
      cases f with
      | none => exact absurd rfl hf
      | some a => exact ⟨a, rfl⟩
    have hz' : ((nm.size : Int) == 0) = false := beq_eq_false_iff_ne.2 (by omega)
    have hg' : (nm.size : Int) > 40 := by omega
    go_enter Tryd.func6, Tryd.ntmps6
    go_wp2_with fail
    refine wp_scope_hops 1 ?_
    go_hide hQ
    go_wp2_with fail
    refine Calls.mono HC.out ?_
    rintro e w1 ⟨rfl, hb1⟩
    go_wp2_with fail
    go_step3
    simp only [Exit.then]
    subst hQ
    rw [hops_goto]
    refine ⟨_, rfl, ?_⟩
    go_hide hQ
    go_wp2_with fail
    subst hQ
    rw [hops_ret]
    go_ret2
    exact ⟨rfl, hb1.alloc hb1.size _⟩
set_option maxRecDepth 100000 in
set_option maxHeartbeats 4000000 in
theorem wopen_any {w wi : World} {f : Nat} {S : FS} {Bl : List (Nat × List Value)} {m : Nat} (hK : Kw w) (nm : ByteArray) (h : Sys w wi f S Bl) (hOK : S.abs.OK m) (hm : m ≤ 4611686018427387000) (h0 : 1 ≤ nm.size) (hnm : nm.size ≤ 40) :
    Calls Tryd.prog 6 #[.pointer (some ⟨f, 0, none⟩), .string nm] wi fun e w' =>
      ((mend S.abs nm).1 = 0 ∧ ∃ l, e = .returned (.tuple #[.pointer (some ⟨l, 0, none⟩), .int .i64 0]) ∧ wi.heap.size ≤ l ∧ Step w wi f S (Bl.map Prod.fst) (mend S.abs nm).2.1 ((l, lgC f nm (mend S.abs nm).2.2 false) :: Bl) w') ∨
      ((mend S.abs nm).1 ≠ 0 ∧ e = .returned (.tuple #[.pointer none, .int .i64 (mend S.abs nm).1]) ∧ Step w wi f S (Bl.map Prod.fst) (mend S.abs nm).2.1 Bl w') := by
  have H : Hid (Sys w wi f S Bl) := h
  have HC : Hid (Calls Tryd.prog 17 #[.string nm] wi fun e w' => e = .returned (.string nm) ∧ Below wi.heap.size wi w') := sclone_any nm wi (by omega)
  have HMN : Hid (∀ (l : Nat) (wj : World), Sys w wj f S ((l, lgC f nm 0 false) :: Bl) → Calls Tryd.prog 18 #[.pointer (some ⟨l, 0, none⟩)] wj fun e w' => e = .returned (.int .i64 (mend S.abs nm).1) ∧ Step w wj f S (((l, lgC f nm 0 false) :: Bl).map Prod.fst) (mend S.abs nm).2.1 ((l, lgC f nm (mend S.abs nm).2.2 false) :: Bl) w') := fun l wj hj => mend_any hK l nm hj hOK hm hnm
  clear hOK h hK
  generalize mend S.abs nm = M at *
  obtain ⟨E, A', z⟩ := M
  simp only at HMN ⊢
  have hz' : ((nm.size : Int) == 0) = false := beq_eq_false_iff_ne.2 (by omega)
  have hg' : ¬ ((nm.size : Int) > 40) := by omega
  go_enter Tryd.func6, Tryd.ntmps6
  go_wp2_with fail
  refine wp_scope_hops 1 ?_
  go_hide hQ
  go_wp2_with fail
  refine Calls.mono HC.out ?_
  rintro e w1 ⟨rfl, hb1⟩
  have HB1 : Hid (Below wi.heap.size wi w1) := hb1
  clear hb1 HC
  go_upto_region 2 with fail
  generalize hw2 : World.alloc _ _ = w2
  have HC2 : Hid (Blk w2 w1.heap.size (lgC f nm 0 false)) := by rw [← hw2]; exact Blk.mk w1 _ _ rfl rfl
  have HB2 : Hid (Below wi.heap.size wi w2) := by rw [← hw2]; exact HB1.out.alloc HB1.out.size _
  have HS2 : Hid (Sys w w2 f S ((w1.heap.size, lgC f nm 0 false) :: Bl)) := H.out.more HB2.out HB1.out.size HC2.out
  clear hw2
  obtain ⟨l, hl⟩ : ∃ l, l = w1.heap.size := ⟨_, rfl⟩
  have hll : wi.heap.size ≤ l := by rw [hl]; exact HB1.out.size
  rw [← hl] at HS2 ⊢
  clear HC2 HB1 hl
  go_wp2_with fail
  refine Calls.mono (HMN.out l w2 HS2.out) ?_
  rintro e w3 ⟨rfl, S3, hS3, hs3, hg3⟩
  have HS3 : Hid (Sys w w3 f S3 ((l, lgC f nm z false) :: Bl)) := hs3
  have HA3 : Hid (S3.abs = A') := hS3
  have HG3 : Hid (GrB f (Bl.map Prod.fst) S S3 wi w3) := GrB.drop HB2.out hll hg3
  clear hs3 hg3 hS3 HMN HS2
  by_cases hz : E = 0
  · subst hz
    go_wp2_with fail
    subst hQ
    rw [hops_ret]
    go_ret2
    exact .inl ⟨rfl, l, rfl, hll, S3, HA3.out, HS3.out, HG3.out⟩
  · have hz2 : (E != 0) = true := bne_iff_ne.2 hz
    go_wp2_with fail
    go_step3
    simp only [Exit.then]
    subst hQ
    rw [hops_goto]
    refine ⟨_, rfl, ?_⟩
    go_hide hQ
    go_wp2_with fail
    subst hQ
    rw [hops_ret]
    go_ret2
    exact .inr ⟨hz, rfl, S3, HA3.out, HS3.out.less, HG3.out⟩
end Go.Proofs.YtlapnnkahijikaaDoor
namespace Go.Proofs.YtlapnnkahijikaaDoor
open Go.ChangeShapes Go.WideShapes Go.ChangeAt Go.RowKit Go.Lib

theorem OwnX.block {w : World} {B : Nat} {v : Value} {xs : List Value} (h : OwnX w B v xs) (hn : 0 < xs.length) : ∃ g c, v = .slice (some ⟨g, 0, none⟩) xs.length c ∧ B ≤ g ∧ g < w.heap.size ∧ (∀ i, w.frozen? ⟨g, i, none⟩ = false) ∧ ∀ i x, xs[i]? = some x → w.cell? ⟨g, i, none⟩ = some x := by
  have h0 := h
  rcases h.2 with ⟨_, h1⟩ | ⟨g, cap, cur, hv, hg, hh, hl, hm, hc, ht⟩
  · omega
  · refine ⟨g, cap, hv, hg, (Array.getElem?_eq_some_iff.1 hh).1, fun i => by simp [World.frozen?, hh], fun i x hx => ?_⟩
    have := World.ownsRow.cells h0 (g := g) (by rw [hv]; rfl) i x hx
    rwa [Addr.add_mid, Nat.zero_add] at this
theorem OwnX.set {w : World} {B : Nat} {g n c : Nat} {xs : List Value} (h : OwnX w B (.slice (some ⟨g, 0, none⟩) n c) xs) (i : Nat) (y : Value) : OwnX (w.setCell ⟨g, i, none⟩ y) B (.slice (some ⟨g, 0, none⟩) n c) (xs.set i y) := by
  refine ⟨by simp, ?_⟩
  rcases h.2 with ⟨hv, _⟩ | ⟨g', cap, cur, hv, hg, hh, hl, hm, hc, ht⟩
  · cases hv
  · injection hv with e1 e2 e3
    injection e1 with e1
    injection e1 with e1
    subst e1
    subst e3
    refine .inr ⟨g, c, cur.set! i y, by rw [List.length_set, e2], hg, ?_, by rw [List.length_set]; exact hl, hm, by simpa using hc, ?_⟩
    · have hlt := (Array.getElem?_eq_some_iff.1 hh).1
      simp [World.setCell, Array.getElem?_modify, hh]
    · rw [List.length_set]
      simp only [Nat.mul_one] at ht ⊢
      rw [Array.set!_eq_setIfInBounds, Array.toList_setIfInBounds, List.take_set, ht]
/-- The first records of a row lie in bytes of the call's own. -/
structure Cloned (w : World) (B : Nat) (xs : List Value) (rs : List (List (BitVec 8))) : Prop where
  all : All2 w xs rs
  own : ∀ x ∈ xs, ∀ k, x.ownBlock = some k → B ≤ k
set_option maxRecDepth 100000 in
set_option maxHeartbeats 4000000 in
theorem records_nil (w : World) :
    Calls Tryd.prog 16 #[.pointer none] w fun e w' => e = .returned (.slice none 0 0) ∧ w' = w := by
  go_enter Tryd.func16, Tryd.ntmps16
  go_wp2_with fail
  go_ret
  exact ⟨rfl, rfl⟩
/-- What Records tells. -/
def recR (A : Abs) (nm : ByteArray) (size : Nat) : List (List (BitVec 8)) := (wholeR ((fileB A nm).take (min size (fileB A nm).length))).1
set_option maxRecDepth 100000 in
set_option maxHeartbeats 4000000 in
theorem records_any {w wi : World} {f : Nat} {S : FS} {Bl : List (Nat × List Value)} (hK : Kw w) (l : Nat) (nm : ByteArray) (size : Nat) (dead : Bool) (h : Sys w wi f S ((l, lgC f nm size dead) :: Bl)) :
    Calls Tryd.prog 16 #[.pointer (some ⟨l, 0, none⟩)] wi fun e w' => ∃ v xs, e = .returned v ∧ OwnX w' wi.heap.size v xs ∧ Cloned w' wi.heap.size xs (recR S.abs nm size) ∧ Below wi.heap.size wi w' := by
  have HK : Hid (Kw w) := hK
  have H : Hid (Sys w wi f S ((l, lgC f nm size dead) :: Bl)) := h
  have HMO : Hid (Tryd.prog.follows .mixedOrders = true) := show _ = _ by kernel_rfl
  have HRD0 := sys_read h.drew nm
  obtain ⟨b, hb⟩ : ∃ b, b = fileB S.abs nm := ⟨_, rfl⟩
  have hbl : b.length ≤ 16777216 := by rw [hb]; exact (h.fs.flOf_le nm).2
  obtain ⟨T, hT⟩ : ∃ T, T = (.int .i64 (if (alook nm S.abs.L).isSome = true then 0 else 5) : Value) := ⟨_, rfl⟩
  have HRD : Hid (Calls Tryd.prog 31 #[.pointer (some ⟨f, 0, none⟩), .string nm] wi.drew fun e w' => ∃ v, e = .returned (.tuple #[v, T]) ∧ OwnB w' wi.drew.heap.size v b ∧ Below wi.drew.heap.size wi.drew w') := by
    rw [hT, hb]; exact HRD0
  have HR : Hid (recR S.abs nm size = (wholeR (b.take (min size b.length))).1) := show _ = _ by rw [hb]; rfl
  clear hK h HRD0 hb hT
  generalize recR S.abs nm size = R at *
  have c0 : wi.cell? ⟨l, 0, none⟩ = some (.pointer (some ⟨f, 0, none⟩)) := H.out.blk.one rfl
  have c1 : wi.cell? ⟨l, 1, none⟩ = some (.string nm) := H.out.blk.one rfl
  go_enter Tryd.func16, Tryd.ntmps16
  go_upto_region 3 with fail
  clear c0 c1
  refine wp_region_noPanic ?_
  refine wp_region_held_drew (S := fun w' => w'.cell? ⟨l, 0, none⟩ = some (.pointer (some ⟨f, 0, none⟩)) ∧ w'.cell? ⟨l, 1, none⟩ = some (.string nm)) HMO.out (⟨H.out.drew.blk.one rfl, H.out.drew.blk.one rfl⟩) (fun hHeld => ?_)
  refine wpAnyH_take (i := 0) (oi := { dst := some 11, op := .move (.tmp 0), type := 27, pos := "wal.go:93", after := #[], guard := none }) (v := ?_) rfl (by kernel_rfl) (by kernel_rfl) (by kernel_rfl) (fun _ _ _ h => h) (Or.inl ⟨by rfl, ?_⟩) (by assumption) ?_
  rotate_left
  · intro _ _; go_simp; first | done | with_reducible rfl
  simp only [Act.put, List.setIfInBounds_toArray, List.set_cons_zero, List.set_cons_succ]
  refine wpAnyH_take (i := 1) (oi := { dst := some 12, op := .nilCheck (.tmp 11), type := 0, pos := "wal.go:93", after := #[{ on := 0, ground := .data }], guard := none }) (v := ?_) rfl (by kernel_rfl) (by kernel_rfl) (by kernel_rfl) (fun _ _ _ h => h) (Or.inl ⟨by rfl, ?_⟩) (by assumption) ?_
  rotate_left
  · intro _ _; go_simp; first | done | with_reducible rfl
  simp only [Act.put, List.setIfInBounds_toArray, List.set_cons_zero, List.set_cons_succ]
  refine wpAnyH_take (i := 2) (oi := { dst := some 13, op := .fieldAddr 50 (.tmp 12) 0, type := 0, pos := "wal.go:93", after := #[{ on := 1, ground := .data }], guard := none }) (v := ?_) rfl (by kernel_rfl) (by kernel_rfl) (by kernel_rfl) (fun _ _ _ h => h) (Or.inl ⟨by rfl, ?_⟩) (by assumption) ?_
  rotate_left
  · intro _ _; go_simp; first | done | with_reducible rfl
  simp only [Act.put, List.setIfInBounds_toArray, List.set_cons_zero, List.set_cons_succ]
  refine wpAnyH_take (i := 3) (oi := { dst := some 14, op := .load 25 (.tmp 13), type := 25, pos := "wal.go:93", after := #[{ on := 2, ground := .data }], guard := none }) (v := .pointer (some ⟨f, 0, none⟩)) rfl (by kernel_rfl) (by kernel_rfl) (by kernel_rfl) (fun _ _ _ h => h) (Or.inl ⟨by rfl, ?_⟩) (by assumption) ?_
  · intro _ _; rename_i wz hz; have cz := hz.1; go_simp
  simp only [Act.put, List.setIfInBounds_toArray, List.set_cons_zero, List.set_cons_succ]
  refine wpAnyH_take (i := 4) (oi := { dst := some 15, op := .move (.tmp 0), type := 27, pos := "wal.go:93", after := #[], guard := none }) (v := ?_) rfl (by kernel_rfl) (by kernel_rfl) (by kernel_rfl) (fun _ _ _ h => h) (Or.inl ⟨by rfl, ?_⟩) (by assumption) ?_
  rotate_left
  · intro _ _; go_simp; first | done | with_reducible rfl
  simp only [Act.put, List.setIfInBounds_toArray, List.set_cons_zero, List.set_cons_succ]
  refine wpAnyH_take (i := 5) (oi := { dst := some 16, op := .nilCheck (.tmp 15), type := 0, pos := "wal.go:93", after := #[{ on := 4, ground := .data }], guard := none }) (v := ?_) rfl (by kernel_rfl) (by kernel_rfl) (by kernel_rfl) (fun _ _ _ h => h) (Or.inl ⟨by rfl, ?_⟩) (by assumption) ?_
  rotate_left
  · intro _ _; go_simp; first | done | with_reducible rfl
  simp only [Act.put, List.setIfInBounds_toArray, List.set_cons_zero, List.set_cons_succ]
  refine wpAnyH_take (i := 6) (oi := { dst := some 17, op := .fieldAddr 50 (.tmp 16) 1, type := 0, pos := "wal.go:93", after := #[{ on := 5, ground := .data }], guard := none }) (v := ?_) rfl (by kernel_rfl) (by kernel_rfl) (by kernel_rfl) (fun _ _ _ h => h) (Or.inl ⟨by rfl, ?_⟩) (by assumption) ?_
  rotate_left
  · intro _ _; go_simp; first | done | with_reducible rfl
  simp only [Act.put, List.setIfInBounds_toArray, List.set_cons_zero, List.set_cons_succ]
  refine wpAnyH_take (i := 7) (oi := { dst := some 18, op := .load 9 (.tmp 17), type := 9, pos := "wal.go:93", after := #[{ on := 6, ground := .data }], guard := none }) (v := .string nm) rfl (by kernel_rfl) (by kernel_rfl) (by kernel_rfl) (fun _ _ _ h => h) (Or.inl ⟨by rfl, ?_⟩) (by assumption) ?_
  · intro _ _; rename_i wz hz; have cz := hz.2; go_simp
  simp only [Act.put, List.setIfInBounds_toArray, List.set_cons_zero, List.set_cons_succ]
  refine wpAnyH_ready (rs := [8]) (by kernel_rfl) (by simp) ?_
  refine AllReadyH.cons (o := { dst := some 19, op := .call { callee := .value (.func 31), args := #[.tmp 14, .tmp 18], argTypes := #[25, 9] }, type := 65, pos := "wal.go:93", after := #[{ on := 3, ground := .data }, { on := 7, ground := .data }], guard := none }) rfl (fun K hK => ?_) AllReadyH.nil
  go_simp
  refine Calls.mono HRD.out ?_; rintro e w3 ⟨v3, rfl, ho3, hb3⟩; obtain ⟨a3, c3, rfl⟩ := ho3.shape; have HO3 : Hid (OwnB w3 wi.heap.size (.slice a3 b.length c3) b) := ho3; have HS3 : Hid (Sys w w3 f S ((l, lgC f nm size dead) :: Bl)) := H.out.drew.below hb3; have HB3 : Hid (Below wi.heap.size wi w3) := below_undrew hb3; clear ho3 hb3
  go_simp
  refine hK.out _ _ (⟨HS3.out.blk.one rfl, HS3.out.blk.one rfl⟩) (fun hHeld => ?_)
  clear hK K
  refine wpAnyH_take (i := 9) (oi := { dst := some 10, op := .move (.tmp 19), type := 65, pos := "wal.go:93", after := #[{ on := 8, ground := .data }], guard := none }) (v := ?_) rfl (by kernel_rfl) (by kernel_rfl) (by kernel_rfl) (fun _ _ _ h => h) (Or.inl ⟨by rfl, ?_⟩) (by assumption) ?_
  rotate_left
  · intro _ _; go_simp; first | done | with_reducible rfl
  simp only [Act.put, List.setIfInBounds_toArray, List.set_cons_zero, List.set_cons_succ]
  refine wpAnyH_take (i := 10) (oi := { dst := some 20, op := .extract (.tmp 10) 0, type := 40, pos := "wal.go:93", after := #[{ on := 9, ground := .data }], guard := none }) (v := ?_) rfl (by kernel_rfl) (by kernel_rfl) (by kernel_rfl) (fun _ _ _ h => h) (Or.inl ⟨by rfl, ?_⟩) (by assumption) ?_
  rotate_left
  · intro _ _; go_simp; first | done | with_reducible rfl
  simp only [Act.put, List.setIfInBounds_toArray, List.set_cons_zero, List.set_cons_succ]
  refine wpAnyH_take (i := 11) (oi := { dst := some 21, op := .extract (.tmp 10) 1, type := 28, pos := "wal.go:93", after := #[{ on := 9, ground := .data }, { on := 12, ground := .gcOnly Go.Departure.lateStores }], guard := none }) (v := ?_) rfl (by kernel_rfl) (by kernel_rfl) (by kernel_rfl) (fun _ _ _ h => h) (Or.inl ⟨by rfl, ?_⟩) (by assumption) ?_
  rotate_left
  · intro _ _; go_simp; first | done | with_reducible rfl
  simp only [Act.put, List.setIfInBounds_toArray, List.set_cons_zero, List.set_cons_succ]
  refine wpAnyH_take (i := 12) (oi := { dst := some 3, op := .assign (.tmp 20), type := 40, pos := "wal.go:93", after := #[{ on := 10, ground := .data }, { on := 8, ground := .chain }, { on := 0, ground := .phase }, { on := 1, ground := .phase }, { on := 2, ground := .phase }, { on := 3, ground := .phase }, { on := 4, ground := .phase }, { on := 5, ground := .phase }, { on := 6, ground := .phase }, { on := 7, ground := .phase }, { on := 8, ground := .phase }, { on := 9, ground := .phase }, { on := 10, ground := .phase }, { on := 11, ground := .textOnly Go.Departure.lateStores }], guard := none }) (v := ?_) rfl (by kernel_rfl) (by kernel_rfl) (by kernel_rfl) (fun _ _ _ h => h) (Or.inl ⟨by rfl, ?_⟩) (by assumption) ?_
  rotate_left
  · intro _ _; go_simp; first | done | with_reducible rfl
  simp only [Act.put, List.setIfInBounds_toArray, List.set_cons_zero, List.set_cons_succ]
  refine wpAnyH_take (i := 13) (oi := { dst := some 4, op := .assign (.tmp 21), type := 28, pos := "wal.go:93", after := #[{ on := 11, ground := .data }, { on := 12, ground := .chain }, { on := 0, ground := .phase }, { on := 1, ground := .phase }, { on := 2, ground := .phase }, { on := 3, ground := .phase }, { on := 4, ground := .phase }, { on := 5, ground := .phase }, { on := 6, ground := .phase }, { on := 7, ground := .phase }, { on := 8, ground := .phase }, { on := 9, ground := .phase }, { on := 10, ground := .phase }, { on := 11, ground := .phase }, { on := 12, ground := .phase }], guard := none }) (v := ?_) rfl (by kernel_rfl) (by kernel_rfl) (by kernel_rfl) (fun _ _ _ h => h) (Or.inl ⟨by rfl, ?_⟩) (by assumption) ?_
  rotate_left
  · intro _ _; go_simp; first | done | with_reducible rfl
  simp only [Act.put, List.setIfInBounds_toArray, List.set_cons_zero, List.set_cons_succ]
  refine wpAnyH_done (by kernel_rfl) ?_ _
  refine NoPanic.normal ?_
  clear hHeld HRD
  obtain ⟨q, hq⟩ : ∃ q, q = min size b.length := ⟨_, rfl⟩
  rw [← hq] at HR
  have hqi : min (size : Int) (b.length : Int) = (q : Int) := by omega
  have hqb : q ≤ b.length := by omega
  obtain ⟨_, _, hv, hlc, hcm, _, htk⟩ := HO3.out.take hqb
  injection hv with e1 _ e3
  subst e1
  subst e3
  have hbt := htk.toBs
  have hwh := whole_any _ (b.take q) w3 (HS3.out.kw HK.out) hbt (by rw [List.length_take]; omega)
  rw [← HR.out] at hwh
  obtain ⟨Z, hZ⟩ : ∃ Z, Z = (wholeR (b.take q)).2 := ⟨_, rfl⟩
  rw [← hZ] at hwh
  have HWH : Hid (Calls Tryd.prog 32 #[.slice a3 q c3] w3 fun e w' => ∃ v' xs, e = .returned (.tuple #[v', .int .i64 Z]) ∧ OwnX w' w3.heap.size v' xs ∧ All2 w3 xs R ∧ Below w3.heap.size w3 w') := hwh
  have hlc' : (b.length : Int) ≤ (c3 : Int) := by omega
  have hcm' : (c3 : Int) ≤ 9223372036854775807 := by unfold maxLen at hcm; omega
  have hRl : R.length ≤ 16777216 ∧ ∀ r ∈ R, r.length ≤ 16777216 := by
    have := wholeR_le _ (b.take q) rfl
    rw [List.length_take, ← HR.out] at this
    exact ⟨by omega, fun r hr => by have := this.2.2 r hr; omega⟩
  have HRL : Hid (R.length ≤ 16777216 ∧ ∀ r ∈ R, r.length ≤ 16777216) := hRl
  have c2 : w3.cell? ⟨l, 2, none⟩ = some (.int .i64 size) := HS3.out.blk.one rfl
  have HHI : Hid (q ≤ b.length) := hqb
  clear hwh hZ hbt htk hq hcm hlc hRl
  generalize b.length = bl at *
  go_wp2_with fail
  refine Calls.mono HWH.out ?_
  rintro e w4 ⟨v4, xs, rfl, hx4, ha4, hb4⟩
  obtain ⟨a4, c4, rfl⟩ := hx4.shape
  obtain ⟨n, hn⟩ : ∃ n, n = xs.length := ⟨_, rfl⟩
  rw [← hn] at hx4 ⊢
  have HN : Hid (n = xs.length ∧ n = R.length) := ⟨hn, hn.trans ha4.1⟩
  have hnl : n ≤ 16777216 := by have := HRL.out.1; have := HN.out.2; omega
  have HX4 : Hid (OwnX w4 w3.heap.size (.slice a4 n c4) xs) := hx4
  have HA4 : Hid (All2 w3 xs R) := ha4
  have HB4 : Hid (Below w3.heap.size w3 w4) := hb4
  have HBI : Hid (Below w3.heap.size w3 w4 → Below wi.heap.size wi w4) := fun h => HB3.out.trans (h.mono HB3.out.size)
  clear hx4 ha4 hb4 HWH hn c2 hqi hqb hlc' hcm' HHI
  go_wp2_with fail
  go_loopw [37] (fun i wr => ∃ (k : Nat) (ys : List Value), k ≤ n ∧ i = .int .i64 k ∧ ys.length = n ∧ Hid (OwnX wr w3.heap.size (.slice a4 n c4) ys) ∧ Hid (Below w3.heap.size w3 wr) ∧ Hid (∀ i x, k ≤ i → ys[i]? = some x → xs[i]? = some x) ∧ Hid (∀ i x, i < k → ys[i]? = some x → Bs wr x (R.getD i []) ∧ ∀ j, x.ownBlock = some j → w3.heap.size ≤ j ∧ ∀ g, a4 = some ⟨g, 0, none⟩ → j ≠ g)) (fun i _ => n - (intOf i).toNat)
  case atStart => exact ⟨0, xs, Nat.zero_le _, rfl, HN.out.1.symm, HX4.out, HB4.out, fun i x _ h => h, fun i x h => absurd h (Nat.not_lt_zero _)⟩
  case round =>
    obtain ⟨k, ys, hk, rfl, hyl, HO, HB, HL, HD⟩ := hrel
    clear HX4 HB4
    by_cases hlt : k < n
    · have e0 : (0 : Int) ≤ (k : Int) := by omega
      have e1 : (k : Int) < (n : Int) := by omega
      obtain ⟨g, c, hv, hg, hgl, hfz, hcell⟩ := HO.out.block (by omega)
      injection hv with ea en ec
      subst ea
      obtain ⟨x, hx⟩ : ∃ x, ys[k]? = some x := ⟨_, List.getElem?_eq_getElem (by omega)⟩
      have ck := hcell k x hx
      have hbx := (HA4.out.2 k x (HL.out k x (Nat.le_refl _) hx)).below HB.out
      obtain ⟨ax, cx, rfl, _⟩ := hbx.shape
      have hrl : (R.getD k []).length ≤ 16777216 := by
        refine HRL.out.2 _ ?_
        rw [List.getD_eq_getElem?_getD, List.getElem?_eq_getElem (by rw [← HN.out.2]; exact hlt)]
        exact List.getElem_mem _
      have HBC : Hid (Calls Tryd.prog 28 #[.slice ax (R.getD k []).length cx] wr fun e w' => ∃ v', e = .returned v' ∧ OwnB w' wr.heap.size v' (R.getD k []) ∧ Below wr.heap.size wr w') := bclone_any _ _ wr hbx.src (by omega)
      obtain ⟨r, hr⟩ : ∃ r, r = R.getD k [] := ⟨_, rfl⟩
      rw [← hr] at HBC ck
      have HR2 : Hid (r = R.getD k []) := hr
      have HCE : Hid (∀ i x, ys[i]? = some x → wr.cell? ⟨g, i, none⟩ = some x) := hcell
      have HKX : Hid (k < ys.length) := show _ < _ by omega
      clear hx hbx hr hrl hcell hfz ec en
      generalize r.length = rl at *
      go_wp2_with fail
      refine Calls.mono HBC.out ?_
      rintro e w5 ⟨v5, rfl, ho5, hb5⟩
      obtain ⟨a5, c5, rfl⟩ := ho5.shape
      have HO5 : Hid (OwnB w5 wr.heap.size (.slice a5 r.length c5) r) := ho5
      have HB5 : Hid (Below wr.heap.size wr w5) := hb5
      have HX5 : Hid (OwnX w5 w3.heap.size (.slice (some ⟨g, 0, none⟩) n c4) ys) := HO.out.below hb5
      have ck5 := cell_below hb5 ck
      have fk5 : w5.frozen? ⟨g, k, none⟩ = false := by
        obtain ⟨g', c', hv', _, _, hf', _⟩ := HX5.out.block (by omega)
        injection hv' with e1' _ _
        injection e1' with e1'
        injection e1' with e1'
        subst e1'
        exact hf' k
      clear ho5 hb5 HBC ck
      generalize hrl : r.length = rl2 at *
      have HRL2 : Hid (r.length = rl2) := hrl
      clear hrl
      go_wp2_with fail
      go_roundw
      case rel =>
        refine ⟨k + 1, ys.set k (.slice a5 rl2 c5), by omega, by go_num, by rw [List.length_set]; exact hyl, HX5.out.set k _, ?_, fun i x hi hx => ?_, fun i x hi hx => ?_⟩
        · exact (HB.out.trans (HB5.out.mono HB.out.size)).setCell hg _
        · rw [List.getElem?_set_ne (by omega)] at hx
          exact HL.out i x (by omega) hx
        · by_cases e : i = k
          · subst e
            rw [List.getElem?_set_self HKX.out] at hx
            injection hx with hx
            subst hx
            have hlt5 := HO5.out.lt
            refine ⟨?_, fun j hj => ?_⟩
            · rw [← HR2.out]
              have hb := HO5.out.toBs
              refine hb.same fun j hj => ?_
              have := (hlt5 j hj).1
              exact Below.heap_setCell _ _ _ _ (by simp only [ne_eq]; omega)
            · have := (hlt5 j hj).1
              have := HB.out.size
              exact ⟨by omega, fun g' hg' => by injection hg' with hg'; injection hg' with hg'; omega⟩
          · rw [List.getElem?_set_ne (Ne.symm e)] at hx
            obtain ⟨h1, h2⟩ := HD.out i x (by omega) hx
            refine ⟨(h1.below HB5.out).same fun j hj => ?_, h2⟩
            exact Below.heap_setCell _ _ _ _ (by simp only [ne_eq]; exact (h2 j hj).2 g rfl)
      case measure => simp [intOf]; omega
    · obtain rfl : k = n := by omega
      have e1 : ¬ (k : Int) < (k : Int) := by omega
      go_wp2_with fail
      go_ret
      refine ⟨.slice a4 k c4, rfl, ys, HO.out.less HB3.out.size, ⟨⟨by rw [hyl]; exact HN.out.2, fun i x hx => ?_⟩, fun x hx j hj => ?_⟩, HB3.out.trans (HB.out.mono HB3.out.size)⟩
      · have hi := (List.getElem?_eq_some_iff.1 hx).1
        exact (HD.out i x (by omega) hx).1
      · obtain ⟨i, hi, rfl⟩ := List.getElem_of_mem hx
        have := ((HD.out i _ (by omega) (List.getElem?_eq_getElem hi)).2 j hj).1
        have := HB3.out.size
        omega
end Go.Proofs.YtlapnnkahijikaaDoor
