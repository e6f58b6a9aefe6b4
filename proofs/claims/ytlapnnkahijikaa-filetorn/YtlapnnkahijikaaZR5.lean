/- coraclelaw7.both: a deed, by the program and by the document (printed by tools/mkrkg.py). coraclelaw7.shows: the program's files against the document's own. -/
import Derived.Test.YtlapnnkahijikaaZR4
import Derived.Test.YtlapnnkahijikaaZL1
namespace Go.Proofs.Ytlapnnkahijikaa
open Go.ChangeShapes Go.WideShapes Go.ChangeAt Go.RowKit Go.Lib

theorem step_toBytesR {ops : Array Oper} {o : Oper} {a : Act} {w : World} {K : Act → World → Prop} {Q : Exit → Act → World → Prop} {E : Prop} (hg : o.guard = none) (x : Operand) (ho : o.op = .convert 9 40 x) (s : ByteArray) (hx : a.eval x = .string s)
    (hK : ∀ b c w', Hid (SrcB w' (.slice (some ⟨b, 0, none⟩) s.size c) (strB s)) → Hid (w.heap.size ≤ b) → Hid (Below w.heap.size w w') → K (a.put o.dst (.slice (some ⟨b, 0, none⟩) s.size c)) w') : if Region.wanted o (yielded ops a.tmps) = true then Oper.wp Try.prog o a w K Q else E := by
  have hw : Region.wanted o (yielded ops a.tmps) = true := by simp [Region.wanted, hg]
  rw [if_pos hw]
  unfold Oper.wp execOp
  simp only [ho, hx, Sem.run_bind, Sem.run_pure, Go.Lib.run_convert_string_bytes w 9 40 5 s Try.underlying9 Try.underlying40 Try.underlying5, Result.andThen_ok]
  refine hK _ _ _ ?_ ?_ ?_
  · show SrcB _ _ _
    refine .inr ⟨w.heap.size, 0, grownCap w s.size 0 5, ?_, fun j u hu => ?_⟩
    · rw [show (strB s).length = s.size from strB_length s]
    · have hj : j < (strB s).length := by have := (List.getElem?_eq_some_iff.1 hu).1; rwa [u8s_length] at this
      have hj' : j < s.size := by rwa [strB_length] at hj
      rw [u8s_get _ j hj] at hu
      rw [Nat.zero_add, Go.Lib.bytesWorld_cell w 5 s j hj', ← hu]
      have hd : j < s.data.toList.length := by simpa using hj'
      unfold strB Y
      rw [List.getD_eq_getElem?_getD, List.getD_eq_getElem?_getD, List.getElem?_map, List.getElem?_eq_getElem hd]
      rfl
  · exact Nat.le_refl _
  · show Below _ _ _
    exact ⟨rfl, rfl, rfl, by rw [Go.Lib.bytesWorld_size]; omega, fun k hk => Go.Lib.bytesWorld_at_old w _ s k hk⟩
theorem sys_cutR {w wi : World} {f : Nat} {S : FS} {Bl : List (Nat × List Value)} (h : Sys w wi f S Bl) (n : Int) :
    Calls Try.prog 25 #[.pointer (some ⟨f, 0, none⟩), .int .i64 n] wi fun e w' => e = .returned (.tuple #[]) ∧ Step w wi f S (Bl.map Prod.fst) { S.abs with counted := true, left := n } Bl w' := by
  refine (cut_any f S n wi h.fs).mono ?_
  rintro _ w' ⟨rfl, h1, h2, _⟩
  exact ⟨rfl, _, rfl, h.grown (Below.refl _ _) h1 h2, GrB.of_grown h2⟩
section
variable {R : RS} {n d : ByteArray} {bs : List (BitVec 8)} {t : Int}
/-- What an act may make of the row and of the power. -/
def RS.By (R R' : RS) : Prop := R'.L.length ≤ R.L.length + 1 ∧ (-1 ≤ R.fuse → -1 ≤ R'.fuse) ∧ R'.fuse ≤ R.fuse
theorem RS.by_pow (R : RS) : R.By R.pow := ⟨by rw [RS.pow_L]; omega, R.pow_fuse.2, R.pow_fuse.1⟩
theorem RS.by_lay {L : List Fil} (R : RS) (h : L.length ≤ R.L.length + 1) : R.By { R.pow with L := L } := ⟨h, R.pow_fuse.2, R.pow_fuse.1⟩
theorem RS.by_app : R.By (R.app n bs) := by unfold RS.app; split; exact R.by_lay (sput_length _ _ _); exact R.by_pow
theorem RS.by_syn : R.By (R.syn n) := by unfold RS.syn; split; exact R.by_lay (sput_length _ _ _); exact R.by_pow
theorem RS.by_rem : R.By (R.rem n) := by unfold RS.rem; split; exact R.by_lay (Nat.le_succ_of_le (sdel_length _ _)); exact R.by_pow
theorem RS.by_ren : R.By (R.ren n d) := by unfold RS.ren; split; exact R.by_lay (Nat.le_trans (sput_length _ _ _) (Nat.succ_le_succ (sdel_length _ _))); exact R.by_pow
theorem RS.by_tru : R.By (R.tru n t) := by unfold RS.tru; split; exact R.by_lay (sput_length _ _ _); exact R.by_pow
theorem Bo.next {w w1 w2 w3 : World} {f : Nat} {S S2 : FS} {m : Nat} {v v3 : Value} {R' : RS} {q : Nat} (h : Bo w w1 f S m v R q) (hs2 : Sys w w2 f S2 []) (hm2 : ¬ S2.foot f m ∧ w.heap.size ≤ m) (hv2 : ∀ k, v.ownBlock = some k → ¬ S2.foot f k ∧ w.heap.size ≤ k) (hr : RkAt w3 m v3 R') (hk : Keep m w2 w3) (hm : Mvd w2 v v3) (ht : Twin S2.abs R') (ho : S2.abs.OK (q + 1)) (hb : R.By R') (hsm : Small S2.abs.L) : Bo w w3 f S2 m v3 R' (q + 1) :=
  ⟨sys_rk hs2 hm2 hk, hr, hm2, own_rk hs2 hv2 hm, ht, ho, by have h1 := h.len; have h2 := hb.1; omega, ⟨hb.2.1 h.fuse.1, Int.le_trans hb.2.2 h.fuse.2⟩, hsm⟩
end
theorem Bo.more {w w1 : World} {f : Nat} {S : FS} {m : Nat} {v : Value} {R : RS} {q : Nat} (h : Bo w w1 f S m v R q) : Bo w w1 f S m v R (q + 1) := ⟨h.sys, h.rk, h.fm, h.fv, h.tw, h.ok.mono (Nat.le_succ _), Nat.le_succ_of_le h.len, h.fuse, h.small⟩
theorem sys_appendR {w wi : World} {f : Nat} {S : FS} {q : Nat} (h : Sys w wi f S []) (hOK : S.abs.OK q) (hm : q ≤ 4611686018427387904) (name : ByteArray) (v : Value) (bs : List (BitVec 8)) (hv : SrcB wi v bs) (hl : bs.length ≤ 50000000) (hn : ∀ k, v.ownBlock = some k → ¬ S.foot f k) :
    Calls Try.prog 13 #[.pointer (some ⟨f, 0, none⟩), .string name, v] wi fun e w' => e = .returned (.int .i64 (S.abs.appE name bs)) ∧ Step w wi f S [] (S.abs.app name bs) [] w' := by
  refine (append_any f S name v bs wi h.fs (hOK.sane hm) hv hl hn).mono ?_
  rintro e w' ⟨rfl, ha⟩; exact ⟨rfl, Step.of h (Below.refl _ _) ha⟩
theorem SrcB.grB {w w' : World} {f : Nat} {S S' : FS} {b n c : Nat} {bs : List (BitVec 8)} (h : SrcB w (.slice (some ⟨b, 0, none⟩) n c) bs) (hg : GrB f [] S S' w w') (hf : ¬ S.foot f b) : SrcB w' (.slice (some ⟨b, 0, none⟩) n c) bs := by
  rcases h with ⟨e, _⟩ | ⟨b', o, cap, e, hc⟩
  · cases e
  · refine .inr ⟨b', o, cap, e, fun j u hu => ?_⟩
    have h1 := hc j u hu
    have hl := World.block_lt_of_cell? w _ h1
    injection e with e
    injection e with e
    injection e with e _ _
    subst e
    unfold World.cell? at *
    rw [hg.block b hl hf List.not_mem_nil]; exact h1
set_option maxRecDepth 100000 in
set_option maxHeartbeats 8000000 in
theorem both_any (w wi : World) (f : Nat) (S : FS) (m : Nat) (v : Value) (R : RS) (q : Nat) (d : Deed) (h : Bo w wi f S m v R q) (hq : q ≤ 90000) (hb : d.b.size ≤ 200) (hn0 : -9223372036854775808 ≤ d.n) (hn1 : d.n ≤ 9223372036854775807) :
    Calls Try.prog 9 #[.pointer (some ⟨f, 0, none⟩), .pointer (some ⟨m, 0, none⟩), .agg #[.int .i64 d.k, .string d.a, .string d.b, .int .i64 d.n]] wi fun e w' => ∃ x S' v' R', e = .returned (.tuple #[.int .i64 x, .int .i64 x]) ∧ Bo w w' f S' m v' R' (q + 1) := by
  have HMO : Hid (Try.prog.follows .mixedOrders = true) := show _ = _ by kernel_rfl
  obtain ⟨kd, a, b, n⟩ := d
  simp only at hb hn0 hn1
  have H : Hid (Bo w wi f S m v R q) := h
  have HN : Hid (-9223372036854775808 ≤ n ∧ n ≤ 9223372036854775807 ∧ b.size ≤ 200 ∧ q ≤ 90000) := ⟨hn0, hn1, hb, hq⟩
  have HNE : Hid (∀ k, v.ownBlock = some k → k ≠ m) := h.rk.ne
  clear h hq hb hn0 hn1
  go_enter Try.func9, Try.ntmps9
  go_upto_region 1 with fail
  generalize hw1 : World.alloc wi _ = w1
  have hb1 : Below wi.heap.size wi w1 := by rw [← hw1]; exact (Below.refl _ _).alloc (Nat.le_refl _) _
  have H1 : Hid (Bo w w1 f S m v R q) := H.out.below hb1
  have HBX : Hid (Blk w1 wi.heap.size [.int .i64 kd, .string a, .string b, .int .i64 n]) := by rw [← hw1]; exact Blk.mk _ _ _ rfl rfl
  have HB0 : Hid (¬ S.foot f wi.heap.size ∧ wi.heap.size ≠ m ∧ w.heap.size ≤ wi.heap.size) := ⟨fun e => by have := H.out.sys.fs.lt e; omega, fun e => by have := H.out.rk.blk.lt; omega, H.out.sys.base.size⟩
  clear hw1 hb1 H
  generalize wi.heap.size = B0 at *
  have hx0 : w1.cell? ⟨B0, 0, none⟩ = some (.int .i64 kd) := HBX.out.one rfl
  by_cases h2 : kd = 2
  · subst h2
    go_upto_region 5 with fail
    refine wp_region_noPanic ?_
    refine wp_region_held_drew (S := fun w' => w'.cell? ⟨B0, 1, none⟩ = some (.string a) ∧ w'.cell? ⟨B0, 2, none⟩ = some (.string b) ∧ w'.cell? ⟨B0, 3, none⟩ = some (.int .i64 n)) HMO.out (⟨HBX.out.one rfl, HBX.out.one rfl, HBX.out.one rfl⟩) (fun hHeld => ?_)
    refine wpAnyH_take (i := 0) (oi := { dst := some 28, op := .move (.tmp 0), type := 25, pos := "law.go:25", after := #[], guard := none }) (v := ?_) rfl (by kernel_rfl) (by kernel_rfl) (by kernel_rfl) (fun _ _ _ h => h) (Or.inl ⟨by rfl, ?_⟩) (by assumption) ?_
    rotate_left
    · intro _ _; go_simp; first | done | with_reducible rfl
    simp only [Act.put, List.setIfInBounds_toArray, List.set_cons_zero, List.set_cons_succ]
    refine wpAnyH_take (i := 1) (oi := { dst := some 29, op := .fieldAddr 32 (.tmp 5) 1, type := 0, pos := "law.go:25", after := #[], guard := none }) (v := ?_) rfl (by kernel_rfl) (by kernel_rfl) (by kernel_rfl) (fun _ _ _ h => h) (Or.inl ⟨by rfl, ?_⟩) (by assumption) ?_
    rotate_left
    · intro _ _; go_simp; first | done | with_reducible rfl
    simp only [Act.put, List.setIfInBounds_toArray, List.set_cons_zero, List.set_cons_succ]
    refine wpAnyH_take (i := 2) (oi := { dst := some 30, op := .load 9 (.tmp 29), type := 9, pos := "law.go:25", after := #[{ on := 1, ground := .data }], guard := none }) (v := .string a) rfl (by kernel_rfl) (by kernel_rfl) (by kernel_rfl) (fun _ _ _ h => h) (Or.inl ⟨by rfl, ?_⟩) (by assumption) ?_
    · intro _ _; rename_i wz hz; obtain ⟨cz0, cz1, cz2⟩ := hz; go_simp
    simp only [Act.put, List.setIfInBounds_toArray, List.set_cons_zero, List.set_cons_succ]
    refine wpAnyH_take (i := 4) (oi := { dst := some 32, op := .move (.tmp 1), type := 27, pos := "law.go:25", after := #[], guard := none }) (v := ?_) rfl (by kernel_rfl) (by kernel_rfl) (by kernel_rfl) (fun _ _ _ h => h) (Or.inl ⟨by rfl, ?_⟩) (by assumption) ?_
    rotate_left
    · intro _ _; go_simp; first | done | with_reducible rfl
    simp only [Act.put, List.setIfInBounds_toArray, List.set_cons_zero, List.set_cons_succ]
    refine wpAnyH_take (i := 5) (oi := { dst := some 33, op := .fieldAddr 32 (.tmp 5) 1, type := 0, pos := "law.go:25", after := #[], guard := none }) (v := ?_) rfl (by kernel_rfl) (by kernel_rfl) (by kernel_rfl) (fun _ _ _ h => h) (Or.inl ⟨by rfl, ?_⟩) (by assumption) ?_
    rotate_left
    · intro _ _; go_simp; first | done | with_reducible rfl
    simp only [Act.put, List.setIfInBounds_toArray, List.set_cons_zero, List.set_cons_succ]
    refine wpAnyH_take (i := 6) (oi := { dst := some 34, op := .load 9 (.tmp 33), type := 9, pos := "law.go:25", after := #[{ on := 5, ground := .data }], guard := none }) (v := .string a) rfl (by kernel_rfl) (by kernel_rfl) (by kernel_rfl) (fun _ _ _ h => h) (Or.inl ⟨by rfl, ?_⟩) (by assumption) ?_
    · intro _ _; rename_i wz hz; obtain ⟨cz0, cz1, cz2⟩ := hz; go_simp
    simp only [Act.put, List.setIfInBounds_toArray, List.set_cons_zero, List.set_cons_succ]
    refine wpAnyH_ready (rs := [3]) (by kernel_rfl) (by simp) ?_
    refine AllReadyH.cons (o := { dst := some 31, op := .call { callee := .value (.func 16), args := #[.tmp 28, .tmp 30], argTypes := #[25, 9] }, type := 38, pos := "law.go:25", after := #[{ on := 0, ground := .data }, { on := 2, ground := .data }], guard := none }) rfl (fun K hK => ?_) AllReadyH.nil
    go_simp
    refine (sys_sync (H1.out.below (Below.refl _ _).drew).sys H1.out.ok (by have := HN.out; omega) a).mono ?_; rintro e w2 ⟨rfl, S2, hS2, hs2, hg2⟩; have HS2 : Hid (S2.abs = S.abs.syn a) := hS2; have HSY : Hid (Sys w w2 f S2 []) := hs2; have HPR : Hid _ := (H1.out.below (Below.refl _ _).drew).prog (Below.refl _ _) hs2 hg2; have HBY : Hid (Blk w2 B0 [.int .i64 2, .string a, .string b, .int .i64 n]) := (by (obtain ⟨t, ht⟩ := HBX.out; exact ⟨t, by rw [hg2.block B0 HBX.out.lt HB0.out.1 List.not_mem_nil]; exact ht⟩)); clear hS2 hs2 hg2
    go_simp
    refine hK.out _ _ (⟨HBY.out.one rfl, HBY.out.one rfl, HBY.out.one rfl⟩) (fun hHeld => ?_)
    clear hK K
    refine wpAnyH_ready (rs := [7]) (by kernel_rfl) (by simp) ?_
    refine AllReadyH.cons (o := { dst := some 35, op := .call { callee := .value (.func 18), args := #[.tmp 32, .tmp 34], argTypes := #[27, 9] }, type := 3, pos := "law.go:25", after := #[{ on := 4, ground := .data }, { on := 6, ground := .data }, { on := 3, ground := .chain }], guard := none }) rfl (fun K hK => ?_) AllReadyH.nil
    go_simp
    refine (rsyn_any m v R a w2 HPR.out.1 (H1.out.rok (by have := HN.out; omega))).mono ?_; rintro e w3 ⟨rfl, v3, hr3, hk3, hm3⟩; have HR3 : Hid (RkAt w3 m v3 (R.syn a) ∧ Keep m w2 w3 ∧ Mvd w2 v v3) := ⟨hr3, hk3, hm3⟩; have HBZ : Hid (Blk w3 B0 [.int .i64 2, .string a, .string b, .int .i64 n]) := HBY.out.keep hk3 HB0.out.2.1; clear hr3 hk3 hm3
    go_simp
    refine hK.out _ _ (⟨HBZ.out.one rfl, HBZ.out.one rfl, HBZ.out.one rfl⟩) (fun hHeld => ?_)
    clear hK K
    refine wpAnyH_take (i := 8) (oi := { dst := some 6, op := .assign (.tmp 31), type := 3, pos := "law.go:25", after := #[{ on := 3, ground := .data }, { on := 7, ground := .chain }, { on := 0, ground := .phase }, { on := 1, ground := .phase }, { on := 2, ground := .phase }, { on := 3, ground := .phase }, { on := 4, ground := .textOnly Go.Departure.lateStores }, { on := 5, ground := .textOnly Go.Departure.lateStores }, { on := 6, ground := .textOnly Go.Departure.lateStores }, { on := 7, ground := .textOnly Go.Departure.lateStoresUnsure }], guard := none }) (v := ?_) rfl (by kernel_rfl) (by kernel_rfl) (by kernel_rfl) (fun _ _ _ h => h) (Or.inl ⟨by rfl, ?_⟩) (by assumption) ?_
    rotate_left
    · intro _ _; go_simp; first | done | with_reducible rfl
    simp only [Act.put, List.setIfInBounds_toArray, List.set_cons_zero, List.set_cons_succ]
    refine wpAnyH_take (i := 9) (oi := { dst := some 7, op := .assign (.tmp 35), type := 3, pos := "law.go:25", after := #[{ on := 7, ground := .data }, { on := 8, ground := .chain }, { on := 0, ground := .phase }, { on := 1, ground := .phase }, { on := 2, ground := .phase }, { on := 3, ground := .phase }, { on := 4, ground := .phase }, { on := 5, ground := .phase }, { on := 6, ground := .phase }, { on := 7, ground := .phase }, { on := 8, ground := .phase }], guard := none }) (v := ?_) rfl (by kernel_rfl) (by kernel_rfl) (by kernel_rfl) (fun _ _ _ h => h) (Or.inl ⟨by rfl, ?_⟩) (by assumption) ?_
    rotate_left
    · intro _ _; go_simp; first | done | with_reducible rfl
    simp only [Act.put, List.setIfInBounds_toArray, List.set_cons_zero, List.set_cons_succ]
    refine wpAnyH_done (by kernel_rfl) ?_ _
    refine NoPanic.normal ?_
    clear hHeld
    have HFIN : Hid (Bo w w3 f S2 m v3 (R.syn a) (q + 1)) := H1.out.next HSY.out HPR.out.2.1 HPR.out.2.2 HR3.out.1 HR3.out.2.1 HR3.out.2.2 (by rw [HS2.out]; exact (H1.out.tw.syn (n := a)).2) (by rw [HS2.out]; exact H1.out.ok.syn) RS.by_syn (by rw [HS2.out]; exact small_syn H1.out.small)
    have HEQ : Hid (_ = _) := (H1.out.tw.syn (n := a)).1
    clear HS2 HSY HPR HBY HR3 HBZ
    go_wp2_with fail
    go_ret2
    exact ⟨_, S2, v3, _, by rw [HEQ.out]; rfl, HFIN.out⟩
  have n2 : (kd == 2) = false := beq_eq_false_iff_ne.2 h2
  by_cases h3 : kd = 3
  · subst h3
    go_upto_region 7 with fail
    refine wp_region_noPanic ?_
    refine wp_region_held_drew (S := fun w' => w'.cell? ⟨B0, 1, none⟩ = some (.string a) ∧ w'.cell? ⟨B0, 2, none⟩ = some (.string b) ∧ w'.cell? ⟨B0, 3, none⟩ = some (.int .i64 n)) HMO.out (⟨HBX.out.one rfl, HBX.out.one rfl, HBX.out.one rfl⟩) (fun hHeld => ?_)
    refine wpAnyH_take (i := 0) (oi := { dst := some 38, op := .move (.tmp 0), type := 25, pos := "law.go:27", after := #[], guard := none }) (v := ?_) rfl (by kernel_rfl) (by kernel_rfl) (by kernel_rfl) (fun _ _ _ h => h) (Or.inl ⟨by rfl, ?_⟩) (by assumption) ?_
    rotate_left
    · intro _ _; go_simp; first | done | with_reducible rfl
    simp only [Act.put, List.setIfInBounds_toArray, List.set_cons_zero, List.set_cons_succ]
    refine wpAnyH_take (i := 1) (oi := { dst := some 39, op := .fieldAddr 32 (.tmp 5) 1, type := 0, pos := "law.go:27", after := #[], guard := none }) (v := ?_) rfl (by kernel_rfl) (by kernel_rfl) (by kernel_rfl) (fun _ _ _ h => h) (Or.inl ⟨by rfl, ?_⟩) (by assumption) ?_
    rotate_left
    · intro _ _; go_simp; first | done | with_reducible rfl
    simp only [Act.put, List.setIfInBounds_toArray, List.set_cons_zero, List.set_cons_succ]
    refine wpAnyH_take (i := 2) (oi := { dst := some 40, op := .load 9 (.tmp 39), type := 9, pos := "law.go:27", after := #[{ on := 1, ground := .data }], guard := none }) (v := .string a) rfl (by kernel_rfl) (by kernel_rfl) (by kernel_rfl) (fun _ _ _ h => h) (Or.inl ⟨by rfl, ?_⟩) (by assumption) ?_
    · intro _ _; rename_i wz hz; obtain ⟨cz0, cz1, cz2⟩ := hz; go_simp
    simp only [Act.put, List.setIfInBounds_toArray, List.set_cons_zero, List.set_cons_succ]
    refine wpAnyH_take (i := 3) (oi := { dst := some 41, op := .fieldAddr 32 (.tmp 5) 2, type := 0, pos := "law.go:27", after := #[], guard := none }) (v := ?_) rfl (by kernel_rfl) (by kernel_rfl) (by kernel_rfl) (fun _ _ _ h => h) (Or.inl ⟨by rfl, ?_⟩) (by assumption) ?_
    rotate_left
    · intro _ _; go_simp; first | done | with_reducible rfl
    simp only [Act.put, List.setIfInBounds_toArray, List.set_cons_zero, List.set_cons_succ]
    refine wpAnyH_take (i := 4) (oi := { dst := some 42, op := .load 9 (.tmp 41), type := 9, pos := "law.go:27", after := #[{ on := 3, ground := .data }], guard := none }) (v := .string b) rfl (by kernel_rfl) (by kernel_rfl) (by kernel_rfl) (fun _ _ _ h => h) (Or.inl ⟨by rfl, ?_⟩) (by assumption) ?_
    · intro _ _; rename_i wz hz; obtain ⟨cz0, cz1, cz2⟩ := hz; go_simp
    simp only [Act.put, List.setIfInBounds_toArray, List.set_cons_zero, List.set_cons_succ]
    refine wpAnyH_take (i := 6) (oi := { dst := some 44, op := .move (.tmp 1), type := 27, pos := "law.go:27", after := #[], guard := none }) (v := ?_) rfl (by kernel_rfl) (by kernel_rfl) (by kernel_rfl) (fun _ _ _ h => h) (Or.inl ⟨by rfl, ?_⟩) (by assumption) ?_
    rotate_left
    · intro _ _; go_simp; first | done | with_reducible rfl
    simp only [Act.put, List.setIfInBounds_toArray, List.set_cons_zero, List.set_cons_succ]
    refine wpAnyH_take (i := 7) (oi := { dst := some 45, op := .fieldAddr 32 (.tmp 5) 1, type := 0, pos := "law.go:27", after := #[], guard := none }) (v := ?_) rfl (by kernel_rfl) (by kernel_rfl) (by kernel_rfl) (fun _ _ _ h => h) (Or.inl ⟨by rfl, ?_⟩) (by assumption) ?_
    rotate_left
    · intro _ _; go_simp; first | done | with_reducible rfl
    simp only [Act.put, List.setIfInBounds_toArray, List.set_cons_zero, List.set_cons_succ]
    refine wpAnyH_take (i := 8) (oi := { dst := some 46, op := .load 9 (.tmp 45), type := 9, pos := "law.go:27", after := #[{ on := 7, ground := .data }], guard := none }) (v := .string a) rfl (by kernel_rfl) (by kernel_rfl) (by kernel_rfl) (fun _ _ _ h => h) (Or.inl ⟨by rfl, ?_⟩) (by assumption) ?_
    · intro _ _; rename_i wz hz; obtain ⟨cz0, cz1, cz2⟩ := hz; go_simp
    simp only [Act.put, List.setIfInBounds_toArray, List.set_cons_zero, List.set_cons_succ]
    refine wpAnyH_take (i := 9) (oi := { dst := some 47, op := .fieldAddr 32 (.tmp 5) 2, type := 0, pos := "law.go:27", after := #[], guard := none }) (v := ?_) rfl (by kernel_rfl) (by kernel_rfl) (by kernel_rfl) (fun _ _ _ h => h) (Or.inl ⟨by rfl, ?_⟩) (by assumption) ?_
    rotate_left
    · intro _ _; go_simp; first | done | with_reducible rfl
    simp only [Act.put, List.setIfInBounds_toArray, List.set_cons_zero, List.set_cons_succ]
    refine wpAnyH_take (i := 10) (oi := { dst := some 48, op := .load 9 (.tmp 47), type := 9, pos := "law.go:27", after := #[{ on := 9, ground := .data }], guard := none }) (v := .string b) rfl (by kernel_rfl) (by kernel_rfl) (by kernel_rfl) (fun _ _ _ h => h) (Or.inl ⟨by rfl, ?_⟩) (by assumption) ?_
    · intro _ _; rename_i wz hz; obtain ⟨cz0, cz1, cz2⟩ := hz; go_simp
    simp only [Act.put, List.setIfInBounds_toArray, List.set_cons_zero, List.set_cons_succ]
    refine wpAnyH_ready (rs := [5]) (by kernel_rfl) (by simp) ?_
    refine AllReadyH.cons (o := { dst := some 43, op := .call { callee := .value (.func 19), args := #[.tmp 38, .tmp 40, .tmp 42], argTypes := #[25, 9, 9] }, type := 38, pos := "law.go:27", after := #[{ on := 0, ground := .data }, { on := 2, ground := .data }, { on := 4, ground := .data }], guard := none }) rfl (fun K hK => ?_) AllReadyH.nil
    go_simp
    refine (sys_rename (H1.out.below (Below.refl _ _).drew).sys H1.out.ok (by have := HN.out; omega) a b).mono ?_; rintro e w2 ⟨rfl, S2, hS2, hs2, hg2⟩; have HS2 : Hid (S2.abs = S.abs.ren a b) := hS2; have HSY : Hid (Sys w w2 f S2 []) := hs2; have HPR : Hid _ := (H1.out.below (Below.refl _ _).drew).prog (Below.refl _ _) hs2 hg2; have HBY : Hid (Blk w2 B0 [.int .i64 3, .string a, .string b, .int .i64 n]) := (by (obtain ⟨t, ht⟩ := HBX.out; exact ⟨t, by rw [hg2.block B0 HBX.out.lt HB0.out.1 List.not_mem_nil]; exact ht⟩)); clear hS2 hs2 hg2
    go_simp
    refine hK.out _ _ (⟨HBY.out.one rfl, HBY.out.one rfl, HBY.out.one rfl⟩) (fun hHeld => ?_)
    clear hK K
    refine wpAnyH_ready (rs := [11]) (by kernel_rfl) (by simp) ?_
    refine AllReadyH.cons (o := { dst := some 49, op := .call { callee := .value (.func 20), args := #[.tmp 44, .tmp 46, .tmp 48], argTypes := #[27, 9, 9] }, type := 3, pos := "law.go:27", after := #[{ on := 6, ground := .data }, { on := 8, ground := .data }, { on := 10, ground := .data }, { on := 5, ground := .chain }], guard := none }) rfl (fun K hK => ?_) AllReadyH.nil
    go_simp
    refine (rren_any m v R a b w2 HPR.out.1 (H1.out.rok (by have := HN.out; omega))).mono ?_; rintro e w3 ⟨rfl, v3, hr3, hk3, hm3⟩; have HR3 : Hid (RkAt w3 m v3 (R.ren a b) ∧ Keep m w2 w3 ∧ Mvd w2 v v3) := ⟨hr3, hk3, hm3⟩; have HBZ : Hid (Blk w3 B0 [.int .i64 3, .string a, .string b, .int .i64 n]) := HBY.out.keep hk3 HB0.out.2.1; clear hr3 hk3 hm3
    go_simp
    refine hK.out _ _ (⟨HBZ.out.one rfl, HBZ.out.one rfl, HBZ.out.one rfl⟩) (fun hHeld => ?_)
    clear hK K
    refine wpAnyH_take (i := 12) (oi := { dst := some 6, op := .assign (.tmp 43), type := 3, pos := "law.go:27", after := #[{ on := 5, ground := .data }, { on := 11, ground := .chain }, { on := 0, ground := .phase }, { on := 1, ground := .phase }, { on := 2, ground := .phase }, { on := 3, ground := .phase }, { on := 4, ground := .phase }, { on := 5, ground := .phase }, { on := 6, ground := .textOnly Go.Departure.lateStores }, { on := 7, ground := .textOnly Go.Departure.lateStores }, { on := 8, ground := .textOnly Go.Departure.lateStores }, { on := 9, ground := .textOnly Go.Departure.lateStores }, { on := 10, ground := .textOnly Go.Departure.lateStores }, { on := 11, ground := .textOnly Go.Departure.lateStoresUnsure }], guard := none }) (v := ?_) rfl (by kernel_rfl) (by kernel_rfl) (by kernel_rfl) (fun _ _ _ h => h) (Or.inl ⟨by rfl, ?_⟩) (by assumption) ?_
    rotate_left
    · intro _ _; go_simp; first | done | with_reducible rfl
    simp only [Act.put, List.setIfInBounds_toArray, List.set_cons_zero, List.set_cons_succ]
    refine wpAnyH_take (i := 13) (oi := { dst := some 7, op := .assign (.tmp 49), type := 3, pos := "law.go:27", after := #[{ on := 11, ground := .data }, { on := 12, ground := .chain }, { on := 0, ground := .phase }, { on := 1, ground := .phase }, { on := 2, ground := .phase }, { on := 3, ground := .phase }, { on := 4, ground := .phase }, { on := 5, ground := .phase }, { on := 6, ground := .phase }, { on := 7, ground := .phase }, { on := 8, ground := .phase }, { on := 9, ground := .phase }, { on := 10, ground := .phase }, { on := 11, ground := .phase }, { on := 12, ground := .phase }], guard := none }) (v := ?_) rfl (by kernel_rfl) (by kernel_rfl) (by kernel_rfl) (fun _ _ _ h => h) (Or.inl ⟨by rfl, ?_⟩) (by assumption) ?_
    rotate_left
    · intro _ _; go_simp; first | done | with_reducible rfl
    simp only [Act.put, List.setIfInBounds_toArray, List.set_cons_zero, List.set_cons_succ]
    refine wpAnyH_done (by kernel_rfl) ?_ _
    refine NoPanic.normal ?_
    clear hHeld
    have HFIN : Hid (Bo w w3 f S2 m v3 (R.ren a b) (q + 1)) := H1.out.next HSY.out HPR.out.2.1 HPR.out.2.2 HR3.out.1 HR3.out.2.1 HR3.out.2.2 (by rw [HS2.out]; exact (H1.out.tw.ren (n := a) (d := b)).2) (by rw [HS2.out]; exact H1.out.ok.ren) RS.by_ren (by rw [HS2.out]; exact small_ren H1.out.small)
    have HEQ : Hid (_ = _) := (H1.out.tw.ren (n := a) (d := b)).1
    clear HS2 HSY HPR HBY HR3 HBZ
    go_wp2_with fail
    go_ret2
    exact ⟨_, S2, v3, _, by rw [HEQ.out]; rfl, HFIN.out⟩
  have n3 : (kd == 3) = false := beq_eq_false_iff_ne.2 h3
  by_cases h4 : kd = 4
  · subst h4
    go_upto_region 9 with fail
    refine wp_region_noPanic ?_
    refine wp_region_held_drew (S := fun w' => w'.cell? ⟨B0, 1, none⟩ = some (.string a) ∧ w'.cell? ⟨B0, 2, none⟩ = some (.string b) ∧ w'.cell? ⟨B0, 3, none⟩ = some (.int .i64 n)) HMO.out (⟨HBX.out.one rfl, HBX.out.one rfl, HBX.out.one rfl⟩) (fun hHeld => ?_)
    refine wpAnyH_take (i := 0) (oi := { dst := some 52, op := .move (.tmp 0), type := 25, pos := "law.go:29", after := #[], guard := none }) (v := ?_) rfl (by kernel_rfl) (by kernel_rfl) (by kernel_rfl) (fun _ _ _ h => h) (Or.inl ⟨by rfl, ?_⟩) (by assumption) ?_
    rotate_left
    · intro _ _; go_simp; first | done | with_reducible rfl
    simp only [Act.put, List.setIfInBounds_toArray, List.set_cons_zero, List.set_cons_succ]
    refine wpAnyH_take (i := 1) (oi := { dst := some 53, op := .fieldAddr 32 (.tmp 5) 1, type := 0, pos := "law.go:29", after := #[], guard := none }) (v := ?_) rfl (by kernel_rfl) (by kernel_rfl) (by kernel_rfl) (fun _ _ _ h => h) (Or.inl ⟨by rfl, ?_⟩) (by assumption) ?_
    rotate_left
    · intro _ _; go_simp; first | done | with_reducible rfl
    simp only [Act.put, List.setIfInBounds_toArray, List.set_cons_zero, List.set_cons_succ]
    refine wpAnyH_take (i := 2) (oi := { dst := some 54, op := .load 9 (.tmp 53), type := 9, pos := "law.go:29", after := #[{ on := 1, ground := .data }], guard := none }) (v := .string a) rfl (by kernel_rfl) (by kernel_rfl) (by kernel_rfl) (fun _ _ _ h => h) (Or.inl ⟨by rfl, ?_⟩) (by assumption) ?_
    · intro _ _; rename_i wz hz; obtain ⟨cz0, cz1, cz2⟩ := hz; go_simp
    simp only [Act.put, List.setIfInBounds_toArray, List.set_cons_zero, List.set_cons_succ]
    refine wpAnyH_take (i := 4) (oi := { dst := some 56, op := .move (.tmp 1), type := 27, pos := "law.go:29", after := #[], guard := none }) (v := ?_) rfl (by kernel_rfl) (by kernel_rfl) (by kernel_rfl) (fun _ _ _ h => h) (Or.inl ⟨by rfl, ?_⟩) (by assumption) ?_
    rotate_left
    · intro _ _; go_simp; first | done | with_reducible rfl
    simp only [Act.put, List.setIfInBounds_toArray, List.set_cons_zero, List.set_cons_succ]
    refine wpAnyH_take (i := 5) (oi := { dst := some 57, op := .fieldAddr 32 (.tmp 5) 1, type := 0, pos := "law.go:29", after := #[], guard := none }) (v := ?_) rfl (by kernel_rfl) (by kernel_rfl) (by kernel_rfl) (fun _ _ _ h => h) (Or.inl ⟨by rfl, ?_⟩) (by assumption) ?_
    rotate_left
    · intro _ _; go_simp; first | done | with_reducible rfl
    simp only [Act.put, List.setIfInBounds_toArray, List.set_cons_zero, List.set_cons_succ]
    refine wpAnyH_take (i := 6) (oi := { dst := some 58, op := .load 9 (.tmp 57), type := 9, pos := "law.go:29", after := #[{ on := 5, ground := .data }], guard := none }) (v := .string a) rfl (by kernel_rfl) (by kernel_rfl) (by kernel_rfl) (fun _ _ _ h => h) (Or.inl ⟨by rfl, ?_⟩) (by assumption) ?_
    · intro _ _; rename_i wz hz; obtain ⟨cz0, cz1, cz2⟩ := hz; go_simp
    simp only [Act.put, List.setIfInBounds_toArray, List.set_cons_zero, List.set_cons_succ]
    refine wpAnyH_ready (rs := [3]) (by kernel_rfl) (by simp) ?_
    refine AllReadyH.cons (o := { dst := some 55, op := .call { callee := .value (.func 21), args := #[.tmp 52, .tmp 54], argTypes := #[25, 9] }, type := 38, pos := "law.go:29", after := #[{ on := 0, ground := .data }, { on := 2, ground := .data }], guard := none }) rfl (fun K hK => ?_) AllReadyH.nil
    go_simp
    refine (sys_remove (H1.out.below (Below.refl _ _).drew).sys H1.out.ok (by have := HN.out; omega) a).mono ?_; rintro e w2 ⟨rfl, S2, hS2, hs2, hg2⟩; have HS2 : Hid (S2.abs = S.abs.rem a) := hS2; have HSY : Hid (Sys w w2 f S2 []) := hs2; have HPR : Hid _ := (H1.out.below (Below.refl _ _).drew).prog (Below.refl _ _) hs2 hg2; have HBY : Hid (Blk w2 B0 [.int .i64 4, .string a, .string b, .int .i64 n]) := (by (obtain ⟨t, ht⟩ := HBX.out; exact ⟨t, by rw [hg2.block B0 HBX.out.lt HB0.out.1 List.not_mem_nil]; exact ht⟩)); clear hS2 hs2 hg2
    go_simp
    refine hK.out _ _ (⟨HBY.out.one rfl, HBY.out.one rfl, HBY.out.one rfl⟩) (fun hHeld => ?_)
    clear hK K
    refine wpAnyH_ready (rs := [7]) (by kernel_rfl) (by simp) ?_
    refine AllReadyH.cons (o := { dst := some 59, op := .call { callee := .value (.func 22), args := #[.tmp 56, .tmp 58], argTypes := #[27, 9] }, type := 3, pos := "law.go:29", after := #[{ on := 4, ground := .data }, { on := 6, ground := .data }, { on := 3, ground := .chain }], guard := none }) rfl (fun K hK => ?_) AllReadyH.nil
    go_simp
    refine (rrem_any m v R a w2 HPR.out.1 (H1.out.rok (by have := HN.out; omega))).mono ?_; rintro e w3 ⟨rfl, v3, hr3, hk3, hm3⟩; have HR3 : Hid (RkAt w3 m v3 (R.rem a) ∧ Keep m w2 w3 ∧ Mvd w2 v v3) := ⟨hr3, hk3, hm3⟩; have HBZ : Hid (Blk w3 B0 [.int .i64 4, .string a, .string b, .int .i64 n]) := HBY.out.keep hk3 HB0.out.2.1; clear hr3 hk3 hm3
    go_simp
    refine hK.out _ _ (⟨HBZ.out.one rfl, HBZ.out.one rfl, HBZ.out.one rfl⟩) (fun hHeld => ?_)
    clear hK K
    refine wpAnyH_take (i := 8) (oi := { dst := some 6, op := .assign (.tmp 55), type := 3, pos := "law.go:29", after := #[{ on := 3, ground := .data }, { on := 7, ground := .chain }, { on := 0, ground := .phase }, { on := 1, ground := .phase }, { on := 2, ground := .phase }, { on := 3, ground := .phase }, { on := 4, ground := .textOnly Go.Departure.lateStores }, { on := 5, ground := .textOnly Go.Departure.lateStores }, { on := 6, ground := .textOnly Go.Departure.lateStores }, { on := 7, ground := .textOnly Go.Departure.lateStoresUnsure }], guard := none }) (v := ?_) rfl (by kernel_rfl) (by kernel_rfl) (by kernel_rfl) (fun _ _ _ h => h) (Or.inl ⟨by rfl, ?_⟩) (by assumption) ?_
    rotate_left
    · intro _ _; go_simp; first | done | with_reducible rfl
    simp only [Act.put, List.setIfInBounds_toArray, List.set_cons_zero, List.set_cons_succ]
    refine wpAnyH_take (i := 9) (oi := { dst := some 7, op := .assign (.tmp 59), type := 3, pos := "law.go:29", after := #[{ on := 7, ground := .data }, { on := 8, ground := .chain }, { on := 0, ground := .phase }, { on := 1, ground := .phase }, { on := 2, ground := .phase }, { on := 3, ground := .phase }, { on := 4, ground := .phase }, { on := 5, ground := .phase }, { on := 6, ground := .phase }, { on := 7, ground := .phase }, { on := 8, ground := .phase }], guard := none }) (v := ?_) rfl (by kernel_rfl) (by kernel_rfl) (by kernel_rfl) (fun _ _ _ h => h) (Or.inl ⟨by rfl, ?_⟩) (by assumption) ?_
    rotate_left
    · intro _ _; go_simp; first | done | with_reducible rfl
    simp only [Act.put, List.setIfInBounds_toArray, List.set_cons_zero, List.set_cons_succ]
    refine wpAnyH_done (by kernel_rfl) ?_ _
    refine NoPanic.normal ?_
    clear hHeld
    have HFIN : Hid (Bo w w3 f S2 m v3 (R.rem a) (q + 1)) := H1.out.next HSY.out HPR.out.2.1 HPR.out.2.2 HR3.out.1 HR3.out.2.1 HR3.out.2.2 (by rw [HS2.out]; exact (H1.out.tw.rem (n := a)).2) (by rw [HS2.out]; exact H1.out.ok.rem) RS.by_rem (by rw [HS2.out]; exact small_rem H1.out.small)
    have HEQ : Hid (_ = _) := (H1.out.tw.rem (n := a)).1
    clear HS2 HSY HPR HBY HR3 HBZ
    go_wp2_with fail
    go_ret2
    exact ⟨_, S2, v3, _, by rw [HEQ.out]; rfl, HFIN.out⟩
  have n4 : (kd == 4) = false := beq_eq_false_iff_ne.2 h4
  by_cases h5 : kd = 5
  · subst h5
    go_upto_region 11 with fail
    refine wp_region_noPanic ?_
    refine wp_region_held_drew (S := fun w' => w'.cell? ⟨B0, 1, none⟩ = some (.string a) ∧ w'.cell? ⟨B0, 2, none⟩ = some (.string b) ∧ w'.cell? ⟨B0, 3, none⟩ = some (.int .i64 n)) HMO.out (⟨HBX.out.one rfl, HBX.out.one rfl, HBX.out.one rfl⟩) (fun hHeld => ?_)
    refine wpAnyH_take (i := 0) (oi := { dst := some 62, op := .move (.tmp 0), type := 25, pos := "law.go:31", after := #[], guard := none }) (v := ?_) rfl (by kernel_rfl) (by kernel_rfl) (by kernel_rfl) (fun _ _ _ h => h) (Or.inl ⟨by rfl, ?_⟩) (by assumption) ?_
    rotate_left
    · intro _ _; go_simp; first | done | with_reducible rfl
    simp only [Act.put, List.setIfInBounds_toArray, List.set_cons_zero, List.set_cons_succ]
    refine wpAnyH_take (i := 1) (oi := { dst := some 63, op := .fieldAddr 32 (.tmp 5) 1, type := 0, pos := "law.go:31", after := #[], guard := none }) (v := ?_) rfl (by kernel_rfl) (by kernel_rfl) (by kernel_rfl) (fun _ _ _ h => h) (Or.inl ⟨by rfl, ?_⟩) (by assumption) ?_
    rotate_left
    · intro _ _; go_simp; first | done | with_reducible rfl
    simp only [Act.put, List.setIfInBounds_toArray, List.set_cons_zero, List.set_cons_succ]
    refine wpAnyH_take (i := 2) (oi := { dst := some 64, op := .load 9 (.tmp 63), type := 9, pos := "law.go:31", after := #[{ on := 1, ground := .data }], guard := none }) (v := .string a) rfl (by kernel_rfl) (by kernel_rfl) (by kernel_rfl) (fun _ _ _ h => h) (Or.inl ⟨by rfl, ?_⟩) (by assumption) ?_
    · intro _ _; rename_i wz hz; obtain ⟨cz0, cz1, cz2⟩ := hz; go_simp
    simp only [Act.put, List.setIfInBounds_toArray, List.set_cons_zero, List.set_cons_succ]
    refine wpAnyH_take (i := 3) (oi := { dst := some 65, op := .fieldAddr 32 (.tmp 5) 3, type := 0, pos := "law.go:31", after := #[], guard := none }) (v := ?_) rfl (by kernel_rfl) (by kernel_rfl) (by kernel_rfl) (fun _ _ _ h => h) (Or.inl ⟨by rfl, ?_⟩) (by assumption) ?_
    rotate_left
    · intro _ _; go_simp; first | done | with_reducible rfl
    simp only [Act.put, List.setIfInBounds_toArray, List.set_cons_zero, List.set_cons_succ]
    refine wpAnyH_take (i := 4) (oi := { dst := some 66, op := .load 3 (.tmp 65), type := 3, pos := "law.go:31", after := #[{ on := 3, ground := .data }], guard := none }) (v := .int .i64 n) rfl (by kernel_rfl) (by kernel_rfl) (by kernel_rfl) (fun _ _ _ h => h) (Or.inl ⟨by rfl, ?_⟩) (by assumption) ?_
    · intro _ _; rename_i wz hz; obtain ⟨cz0, cz1, cz2⟩ := hz; go_simp
    simp only [Act.put, List.setIfInBounds_toArray, List.set_cons_zero, List.set_cons_succ]
    refine wpAnyH_take (i := 6) (oi := { dst := some 68, op := .move (.tmp 1), type := 27, pos := "law.go:31", after := #[], guard := none }) (v := ?_) rfl (by kernel_rfl) (by kernel_rfl) (by kernel_rfl) (fun _ _ _ h => h) (Or.inl ⟨by rfl, ?_⟩) (by assumption) ?_
    rotate_left
    · intro _ _; go_simp; first | done | with_reducible rfl
    simp only [Act.put, List.setIfInBounds_toArray, List.set_cons_zero, List.set_cons_succ]
    refine wpAnyH_take (i := 7) (oi := { dst := some 69, op := .fieldAddr 32 (.tmp 5) 1, type := 0, pos := "law.go:31", after := #[], guard := none }) (v := ?_) rfl (by kernel_rfl) (by kernel_rfl) (by kernel_rfl) (fun _ _ _ h => h) (Or.inl ⟨by rfl, ?_⟩) (by assumption) ?_
    rotate_left
    · intro _ _; go_simp; first | done | with_reducible rfl
    simp only [Act.put, List.setIfInBounds_toArray, List.set_cons_zero, List.set_cons_succ]
    refine wpAnyH_take (i := 8) (oi := { dst := some 70, op := .load 9 (.tmp 69), type := 9, pos := "law.go:31", after := #[{ on := 7, ground := .data }], guard := none }) (v := .string a) rfl (by kernel_rfl) (by kernel_rfl) (by kernel_rfl) (fun _ _ _ h => h) (Or.inl ⟨by rfl, ?_⟩) (by assumption) ?_
    · intro _ _; rename_i wz hz; obtain ⟨cz0, cz1, cz2⟩ := hz; go_simp
    simp only [Act.put, List.setIfInBounds_toArray, List.set_cons_zero, List.set_cons_succ]
    refine wpAnyH_take (i := 9) (oi := { dst := some 71, op := .fieldAddr 32 (.tmp 5) 3, type := 0, pos := "law.go:31", after := #[], guard := none }) (v := ?_) rfl (by kernel_rfl) (by kernel_rfl) (by kernel_rfl) (fun _ _ _ h => h) (Or.inl ⟨by rfl, ?_⟩) (by assumption) ?_
    rotate_left
    · intro _ _; go_simp; first | done | with_reducible rfl
    simp only [Act.put, List.setIfInBounds_toArray, List.set_cons_zero, List.set_cons_succ]
    refine wpAnyH_take (i := 10) (oi := { dst := some 72, op := .load 3 (.tmp 71), type := 3, pos := "law.go:31", after := #[{ on := 9, ground := .data }], guard := none }) (v := .int .i64 n) rfl (by kernel_rfl) (by kernel_rfl) (by kernel_rfl) (fun _ _ _ h => h) (Or.inl ⟨by rfl, ?_⟩) (by assumption) ?_
    · intro _ _; rename_i wz hz; obtain ⟨cz0, cz1, cz2⟩ := hz; go_simp
    simp only [Act.put, List.setIfInBounds_toArray, List.set_cons_zero, List.set_cons_succ]
    refine wpAnyH_ready (rs := [5]) (by kernel_rfl) (by simp) ?_
    refine AllReadyH.cons (o := { dst := some 67, op := .call { callee := .value (.func 23), args := #[.tmp 62, .tmp 64, .tmp 66], argTypes := #[25, 9, 3] }, type := 38, pos := "law.go:31", after := #[{ on := 0, ground := .data }, { on := 2, ground := .data }, { on := 4, ground := .data }], guard := none }) rfl (fun K hK => ?_) AllReadyH.nil
    go_simp
    refine (sys_truncate (H1.out.below (Below.refl _ _).drew).sys H1.out.ok (by have := HN.out; omega) a n).mono ?_; rintro e w2 ⟨rfl, S2, hS2, hs2, hg2⟩; have HS2 : Hid (S2.abs = S.abs.tru a n) := hS2; have HSY : Hid (Sys w w2 f S2 []) := hs2; have HPR : Hid _ := (H1.out.below (Below.refl _ _).drew).prog (Below.refl _ _) hs2 hg2; have HBY : Hid (Blk w2 B0 [.int .i64 5, .string a, .string b, .int .i64 n]) := (by (obtain ⟨t, ht⟩ := HBX.out; exact ⟨t, by rw [hg2.block B0 HBX.out.lt HB0.out.1 List.not_mem_nil]; exact ht⟩)); clear hS2 hs2 hg2
    go_simp
    refine hK.out _ _ (⟨HBY.out.one rfl, HBY.out.one rfl, HBY.out.one rfl⟩) (fun hHeld => ?_)
    clear hK K
    refine wpAnyH_ready (rs := [11]) (by kernel_rfl) (by simp) ?_
    refine AllReadyH.cons (o := { dst := some 73, op := .call { callee := .value (.func 24), args := #[.tmp 68, .tmp 70, .tmp 72], argTypes := #[27, 9, 3] }, type := 3, pos := "law.go:31", after := #[{ on := 6, ground := .data }, { on := 8, ground := .data }, { on := 10, ground := .data }, { on := 5, ground := .chain }], guard := none }) rfl (fun K hK => ?_) AllReadyH.nil
    go_simp
    refine (rtru_any m v R a n w2 HPR.out.1 (H1.out.rok (by have := HN.out; omega))).mono ?_; rintro e w3 ⟨rfl, v3, hr3, hk3, hm3⟩; have HR3 : Hid (RkAt w3 m v3 (R.tru a n) ∧ Keep m w2 w3 ∧ Mvd w2 v v3) := ⟨hr3, hk3, hm3⟩; have HBZ : Hid (Blk w3 B0 [.int .i64 5, .string a, .string b, .int .i64 n]) := HBY.out.keep hk3 HB0.out.2.1; clear hr3 hk3 hm3
    go_simp
    refine hK.out _ _ (⟨HBZ.out.one rfl, HBZ.out.one rfl, HBZ.out.one rfl⟩) (fun hHeld => ?_)
    clear hK K
    refine wpAnyH_take (i := 12) (oi := { dst := some 6, op := .assign (.tmp 67), type := 3, pos := "law.go:31", after := #[{ on := 5, ground := .data }, { on := 11, ground := .chain }, { on := 0, ground := .phase }, { on := 1, ground := .phase }, { on := 2, ground := .phase }, { on := 3, ground := .phase }, { on := 4, ground := .phase }, { on := 5, ground := .phase }, { on := 6, ground := .textOnly Go.Departure.lateStores }, { on := 7, ground := .textOnly Go.Departure.lateStores }, { on := 8, ground := .textOnly Go.Departure.lateStores }, { on := 9, ground := .textOnly Go.Departure.lateStores }, { on := 10, ground := .textOnly Go.Departure.lateStores }, { on := 11, ground := .textOnly Go.Departure.lateStoresUnsure }], guard := none }) (v := ?_) rfl (by kernel_rfl) (by kernel_rfl) (by kernel_rfl) (fun _ _ _ h => h) (Or.inl ⟨by rfl, ?_⟩) (by assumption) ?_
    rotate_left
    · intro _ _; go_simp; first | done | with_reducible rfl
    simp only [Act.put, List.setIfInBounds_toArray, List.set_cons_zero, List.set_cons_succ]
    refine wpAnyH_take (i := 13) (oi := { dst := some 7, op := .assign (.tmp 73), type := 3, pos := "law.go:31", after := #[{ on := 11, ground := .data }, { on := 12, ground := .chain }, { on := 0, ground := .phase }, { on := 1, ground := .phase }, { on := 2, ground := .phase }, { on := 3, ground := .phase }, { on := 4, ground := .phase }, { on := 5, ground := .phase }, { on := 6, ground := .phase }, { on := 7, ground := .phase }, { on := 8, ground := .phase }, { on := 9, ground := .phase }, { on := 10, ground := .phase }, { on := 11, ground := .phase }, { on := 12, ground := .phase }], guard := none }) (v := ?_) rfl (by kernel_rfl) (by kernel_rfl) (by kernel_rfl) (fun _ _ _ h => h) (Or.inl ⟨by rfl, ?_⟩) (by assumption) ?_
    rotate_left
    · intro _ _; go_simp; first | done | with_reducible rfl
    simp only [Act.put, List.setIfInBounds_toArray, List.set_cons_zero, List.set_cons_succ]
    refine wpAnyH_done (by kernel_rfl) ?_ _
    refine NoPanic.normal ?_
    clear hHeld
    have HFIN : Hid (Bo w w3 f S2 m v3 (R.tru a n) (q + 1)) := H1.out.next HSY.out HPR.out.2.1 HPR.out.2.2 HR3.out.1 HR3.out.2.1 HR3.out.2.2 (by rw [HS2.out]; exact (H1.out.tw.tru (n := a) (t := n)).2) (by rw [HS2.out]; exact H1.out.ok.tru) RS.by_tru (by rw [HS2.out]; exact small_tru H1.out.small)
    have HEQ : Hid (_ = _) := (H1.out.tw.tru (n := a) (t := n)).1
    clear HS2 HSY HPR HBY HR3 HBZ
    go_wp2_with fail
    go_ret2
    exact ⟨_, S2, v3, _, by rw [HEQ.out]; rfl, HFIN.out⟩
  have n5 : (kd == 5) = false := beq_eq_false_iff_ne.2 h5
  by_cases h1 : kd = 1
  · subst h1
    have HC : Hid (Bo w w1.drew f S m v R q) := H1.out.below (Below.refl _ _).drew
    have HBC : Hid (Blk w1.drew B0 [.int .i64 1, .string a, .string b, .int .i64 n]) := HBX.out.drew
    have HS1 : Hid True := trivial
    have HS2 : Hid True := trivial
    have HF2 : Hid True := trivial
    have HPR : Hid True := trivial
    have HSY : Hid True := trivial
    go_upto_region 3 with fail
    refine wp_region_noPanic ?_
    refine wp_region_held_drew (S := fun w' => w'.cell? ⟨B0, 1, none⟩ = some (.string a) ∧ w'.cell? ⟨B0, 2, none⟩ = some (.string b) ∧ w'.cell? ⟨B0, 3, none⟩ = some (.int .i64 n)) HMO.out (⟨HBC.out.one rfl, HBC.out.one rfl, HBC.out.one rfl⟩) (fun hHeld => ?_)
    refine wpAnyH_take (i := 0) (oi := { dst := some 12, op := .move (.tmp 0), type := 25, pos := "law.go:23", after := #[], guard := none }) (v := ?_) rfl (by kernel_rfl) (by kernel_rfl) (by kernel_rfl) (fun _ _ _ h => h) (Or.inl ⟨by rfl, ?_⟩) (by assumption) ?_
    rotate_left
    · intro _ _; go_simp; first | done | with_reducible rfl
    simp only [Act.put, List.setIfInBounds_toArray, List.set_cons_zero, List.set_cons_succ]
    refine wpAnyH_take (i := 1) (oi := { dst := some 13, op := .fieldAddr 32 (.tmp 5) 1, type := 0, pos := "law.go:23", after := #[], guard := none }) (v := ?_) rfl (by kernel_rfl) (by kernel_rfl) (by kernel_rfl) (fun _ _ _ h => h) (Or.inl ⟨by rfl, ?_⟩) (by assumption) ?_
    rotate_left
    · intro _ _; go_simp; first | done | with_reducible rfl
    simp only [Act.put, List.setIfInBounds_toArray, List.set_cons_zero, List.set_cons_succ]
    refine wpAnyH_take (i := 2) (oi := { dst := some 14, op := .load 9 (.tmp 13), type := 9, pos := "law.go:23", after := #[{ on := 1, ground := .data }], guard := none }) (v := .string a) rfl (by kernel_rfl) (by kernel_rfl) (by kernel_rfl) (fun _ _ _ h => h) (Or.inl ⟨by rfl, ?_⟩) (by assumption) ?_
    · intro _ _; rename_i wz hz; obtain ⟨cz0, cz1, cz2⟩ := hz; go_simp
    simp only [Act.put, List.setIfInBounds_toArray, List.set_cons_zero, List.set_cons_succ]
    refine wpAnyH_take (i := 3) (oi := { dst := some 15, op := .fieldAddr 32 (.tmp 5) 2, type := 0, pos := "law.go:23", after := #[], guard := none }) (v := ?_) rfl (by kernel_rfl) (by kernel_rfl) (by kernel_rfl) (fun _ _ _ h => h) (Or.inl ⟨by rfl, ?_⟩) (by assumption) ?_
    rotate_left
    · intro _ _; go_simp; first | done | with_reducible rfl
    simp only [Act.put, List.setIfInBounds_toArray, List.set_cons_zero, List.set_cons_succ]
    refine wpAnyH_take (i := 4) (oi := { dst := some 16, op := .load 9 (.tmp 15), type := 9, pos := "law.go:23", after := #[{ on := 3, ground := .data }], guard := none }) (v := .string b) rfl (by kernel_rfl) (by kernel_rfl) (by kernel_rfl) (fun _ _ _ h => h) (Or.inl ⟨by rfl, ?_⟩) (by assumption) ?_
    · intro _ _; rename_i wz hz; obtain ⟨cz0, cz1, cz2⟩ := hz; go_simp
    simp only [Act.put, List.setIfInBounds_toArray, List.set_cons_zero, List.set_cons_succ]
    refine wpAnyH_take (i := 7) (oi := { dst := some 19, op := .move (.tmp 1), type := 27, pos := "law.go:23", after := #[], guard := none }) (v := ?_) rfl (by kernel_rfl) (by kernel_rfl) (by kernel_rfl) (fun _ _ _ h => h) (Or.inl ⟨by rfl, ?_⟩) (by assumption) ?_
    rotate_left
    · intro _ _; go_simp; first | done | with_reducible rfl
    simp only [Act.put, List.setIfInBounds_toArray, List.set_cons_zero, List.set_cons_succ]
    refine wpAnyH_take (i := 8) (oi := { dst := some 20, op := .fieldAddr 32 (.tmp 5) 1, type := 0, pos := "law.go:23", after := #[], guard := none }) (v := ?_) rfl (by kernel_rfl) (by kernel_rfl) (by kernel_rfl) (fun _ _ _ h => h) (Or.inl ⟨by rfl, ?_⟩) (by assumption) ?_
    rotate_left
    · intro _ _; go_simp; first | done | with_reducible rfl
    simp only [Act.put, List.setIfInBounds_toArray, List.set_cons_zero, List.set_cons_succ]
    refine wpAnyH_take (i := 9) (oi := { dst := some 21, op := .load 9 (.tmp 20), type := 9, pos := "law.go:23", after := #[{ on := 8, ground := .data }], guard := none }) (v := .string a) rfl (by kernel_rfl) (by kernel_rfl) (by kernel_rfl) (fun _ _ _ h => h) (Or.inl ⟨by rfl, ?_⟩) (by assumption) ?_
    · intro _ _; rename_i wz hz; obtain ⟨cz0, cz1, cz2⟩ := hz; go_simp
    simp only [Act.put, List.setIfInBounds_toArray, List.set_cons_zero, List.set_cons_succ]
    refine wpAnyH_take (i := 10) (oi := { dst := some 22, op := .fieldAddr 32 (.tmp 5) 2, type := 0, pos := "law.go:23", after := #[], guard := none }) (v := ?_) rfl (by kernel_rfl) (by kernel_rfl) (by kernel_rfl) (fun _ _ _ h => h) (Or.inl ⟨by rfl, ?_⟩) (by assumption) ?_
    rotate_left
    · intro _ _; go_simp; first | done | with_reducible rfl
    simp only [Act.put, List.setIfInBounds_toArray, List.set_cons_zero, List.set_cons_succ]
    refine wpAnyH_take (i := 11) (oi := { dst := some 23, op := .load 9 (.tmp 22), type := 9, pos := "law.go:23", after := #[{ on := 10, ground := .data }], guard := none }) (v := .string b) rfl (by kernel_rfl) (by kernel_rfl) (by kernel_rfl) (fun _ _ _ h => h) (Or.inl ⟨by rfl, ?_⟩) (by assumption) ?_
    · intro _ _; rename_i wz hz; obtain ⟨cz0, cz1, cz2⟩ := hz; go_simp
    simp only [Act.put, List.setIfInBounds_toArray, List.set_cons_zero, List.set_cons_succ]
    refine wpAnyH_ready (rs := [5, 12]) (by kernel_rfl) (by simp) ?_
    refine (AllReadyH.cons (o := { dst := some 17, op := .convert 9 40 (.tmp 16), type := 40, pos := "law.go:23", after := #[{ on := 4, ground := .data }], guard := none }) rfl (fun K hK => ?_) (AllReadyH.cons (o := { dst := some 24, op := .convert 9 40 (.tmp 23), type := 40, pos := "law.go:23", after := #[{ on := 11, ground := .data }], guard := none }) rfl (fun K hK => ?_) AllReadyH.nil))
    · refine step_toBytesR rfl _ rfl b rfl ?_; intro b1 c1 wn HS1' HG1 HBn; (try replace HS2 : Hid _ := SrcB.below HS2.out HBn.out); clear HS1; have HS1 := HS1'; clear HS1'; have HF1 : Hid (¬ S.foot f b1) := (fun e => by (have := HC.out.sys.fs.lt e; have := HG1.out; omega)); replace HC : Hid (Bo w wn f S m v R q) := HC.out.below HBn.out; replace HBC : Hid (Blk wn B0 [.int .i64 1, .string a, .string b, .int .i64 n]) := HBC.out.below HBn.out HBC.out.lt; clear HBn HG1
      simp only [Act.put, List.setIfInBounds_toArray, List.set_cons_zero, List.set_cons_succ]
      refine hK.out _ _ (⟨HBC.out.one rfl, HBC.out.one rfl, HBC.out.one rfl⟩) (fun hHeld => ?_)
      clear hK K
      refine wpAnyH_ready (rs := [6, 12]) (by kernel_rfl) (by simp) ?_
      refine (AllReadyH.cons (o := { dst := some 18, op := .call { callee := .value (.func 13), args := #[.tmp 12, .tmp 14, .tmp 17], argTypes := #[25, 9, 40] }, type := 38, pos := "law.go:23", after := #[{ on := 0, ground := .data }, { on := 2, ground := .data }, { on := 5, ground := .data }], guard := none }) rfl (fun K hK => ?_) (AllReadyH.cons (o := { dst := some 24, op := .convert 9 40 (.tmp 23), type := 40, pos := "law.go:23", after := #[{ on := 11, ground := .data }], guard := none }) rfl (fun K hK => ?_) AllReadyH.nil))
      · go_simp
        refine (sys_appendR HC.out.sys HC.out.ok (by have := HN.out; omega) a _ (strB b) HS1.out (by rw [strB_length]; have := HN.out; omega) (fun k e => by injection e with e; simp only at e; rw [← e]; exact HF1.out)).mono ?_; rintro e w2 ⟨rfl, S2, hS2, hs2, hg2⟩; have HSA : Hid (S2.abs = S.abs.app a (strB b)) := hS2; clear HSY HPR; have HSY : Hid (Sys w w2 f S2 []) := hs2; have HPR : Hid _ := HC.out.prog (Below.refl _ _) hs2 hg2; (try replace HS2 : Hid _ := SrcB.grB HS2.out hg2 HF2.out); replace HBC : Hid (Blk w2 B0 [.int .i64 1, .string a, .string b, .int .i64 n]) := (by (obtain ⟨t, ht⟩ := HBC.out; exact ⟨t, by rw [hg2.block B0 HBC.out.lt HB0.out.1 List.not_mem_nil]; exact ht⟩)); clear HC hS2 hs2 hg2; have HC : Hid True := trivial
        go_simp
        refine hK.out _ _ (⟨HBC.out.one rfl, HBC.out.one rfl, HBC.out.one rfl⟩) (fun hHeld => ?_)
        clear hK K
        refine wpAnyH_ready (rs := [12]) (by kernel_rfl) (by simp) ?_
        refine AllReadyH.cons (o := { dst := some 24, op := .convert 9 40 (.tmp 23), type := 40, pos := "law.go:23", after := #[{ on := 11, ground := .data }], guard := none }) rfl (fun K hK => ?_) AllReadyH.nil
        refine step_toBytesR rfl _ rfl b rfl ?_; intro b2 c2 wn HS2' HG2 HBn; clear HS2; have HS2 := HS2'; clear HS2'; have HM2 : Hid (b2 ≠ m) := (fun e => by (first | (have := HC.out.rk.blk.lt; have := HG2.out; omega) | (have := HPR.out.1.blk.lt; have := HG2.out; omega))); (try replace HF2 : Hid (¬ S.foot f b2) := (fun e => by (have := HC.out.sys.fs.lt e; have := HG2.out; omega))); (try replace HS1 : Hid _ := SrcB.below HS1.out HBn.out); (try replace HC : Hid _ := HC.out.below HBn.out); (try replace HPR : Hid _ := And.intro (HPR.out.1.below HBn.out) HPR.out.2); (try replace HSY : Hid _ := HSY.out.below HBn.out); replace HBC : Hid (Blk wn B0 [.int .i64 1, .string a, .string b, .int .i64 n]) := HBC.out.below HBn.out HBC.out.lt; clear HBn HG2
        simp only [Act.put, List.setIfInBounds_toArray, List.set_cons_zero, List.set_cons_succ]
        refine hK.out _ _ (⟨HBC.out.one rfl, HBC.out.one rfl, HBC.out.one rfl⟩) (fun hHeld => ?_)
        clear hK K
        refine wpAnyH_ready (rs := [13]) (by kernel_rfl) (by simp) ?_
        refine AllReadyH.cons (o := { dst := some 25, op := .call { callee := .value (.func 17), args := #[.tmp 19, .tmp 21, .tmp 24], argTypes := #[27, 9, 40] }, type := 3, pos := "law.go:23", after := #[{ on := 7, ground := .data }, { on := 9, ground := .data }, { on := 12, ground := .data }, { on := 6, ground := .chain }], guard := none }) rfl (fun K hK => ?_) AllReadyH.nil
        go_simp
        refine (rapp_any m v R a _ _ _ (strB b) _ HPR.out.1 (H1.out.rok (by have := HN.out; omega)) HS2.out (strB_length b).symm (by have := HN.out; omega) (fun k e => by injection e with e; simp only at e; rw [← e]; exact HM2.out)).mono ?_; rintro e w3 ⟨rfl, v3, hr3, hk3, hm3⟩; have HR3 : Hid _ := And.intro hr3 (And.intro hk3 hm3); have HBZ : Hid (Blk w3 B0 [.int .i64 1, .string a, .string b, .int .i64 n]) := HBC.out.keep hk3 HB0.out.2.1; clear hr3 hk3 hm3
        go_simp
        refine hK.out _ _ (⟨HBZ.out.one rfl, HBZ.out.one rfl, HBZ.out.one rfl⟩) (fun hHeld => ?_)
        clear hK K
        refine wpAnyH_take (i := 14) (oi := { dst := some 6, op := .assign (.tmp 18), type := 3, pos := "law.go:23", after := #[{ on := 6, ground := .data }, { on := 13, ground := .chain }, { on := 0, ground := .phase }, { on := 1, ground := .phase }, { on := 2, ground := .phase }, { on := 3, ground := .phase }, { on := 4, ground := .phase }, { on := 5, ground := .phase }, { on := 6, ground := .phase }, { on := 7, ground := .textOnly Go.Departure.lateStores }, { on := 8, ground := .textOnly Go.Departure.lateStores }, { on := 9, ground := .textOnly Go.Departure.lateStores }, { on := 10, ground := .textOnly Go.Departure.lateStores }, { on := 11, ground := .textOnly Go.Departure.lateStores }, { on := 12, ground := .textOnly Go.Departure.lateStores }, { on := 13, ground := .textOnly Go.Departure.lateStoresUnsure }], guard := none }) (v := ?_) rfl (by kernel_rfl) (by kernel_rfl) (by kernel_rfl) (fun _ _ _ h => h) (Or.inl ⟨by rfl, ?_⟩) (by assumption) ?_
        rotate_left
        · intro _ _; go_simp; first | done | with_reducible rfl
        simp only [Act.put, List.setIfInBounds_toArray, List.set_cons_zero, List.set_cons_succ]
        refine wpAnyH_take (i := 15) (oi := { dst := some 7, op := .assign (.tmp 25), type := 3, pos := "law.go:23", after := #[{ on := 13, ground := .data }, { on := 14, ground := .chain }, { on := 0, ground := .phase }, { on := 1, ground := .phase }, { on := 2, ground := .phase }, { on := 3, ground := .phase }, { on := 4, ground := .phase }, { on := 5, ground := .phase }, { on := 6, ground := .phase }, { on := 7, ground := .phase }, { on := 8, ground := .phase }, { on := 9, ground := .phase }, { on := 10, ground := .phase }, { on := 11, ground := .phase }, { on := 12, ground := .phase }, { on := 13, ground := .phase }, { on := 14, ground := .phase }], guard := none }) (v := ?_) rfl (by kernel_rfl) (by kernel_rfl) (by kernel_rfl) (fun _ _ _ h => h) (Or.inl ⟨by rfl, ?_⟩) (by assumption) ?_
        rotate_left
        · intro _ _; go_simp; first | done | with_reducible rfl
        simp only [Act.put, List.setIfInBounds_toArray, List.set_cons_zero, List.set_cons_succ]
        refine wpAnyH_done (by kernel_rfl) ?_ _
        refine NoPanic.normal ?_
        clear hHeld
        have HFIN : Hid (Bo w w3 f S2 m v3 (R.app a (strB b)) (q + 1)) := H1.out.next HSY.out HPR.out.2.1 HPR.out.2.2 HR3.out.1 HR3.out.2.1 HR3.out.2.2 (by rw [HSA.out]; exact (H1.out.tw.app (n := a) (bs := strB b)).2) (by rw [HSA.out]; exact H1.out.ok.app) RS.by_app (by rw [HSA.out]; exact small_app H1.out.small)
        have HEQ : Hid (_ = _) := (H1.out.tw.app (n := a) (bs := strB b)).1
        clear HSA HSY HPR HR3 HBZ HS1 HS2
        go_wp2_with fail
        go_ret2
        exact ⟨_, S2, v3, _, by rw [HEQ.out]; rfl, HFIN.out⟩
      · refine step_toBytesR rfl _ rfl b rfl ?_; intro b2 c2 wn HS2' HG2 HBn; clear HS2; have HS2 := HS2'; clear HS2'; have HM2 : Hid (b2 ≠ m) := (fun e => by (first | (have := HC.out.rk.blk.lt; have := HG2.out; omega) | (have := HPR.out.1.blk.lt; have := HG2.out; omega))); (try replace HF2 : Hid (¬ S.foot f b2) := (fun e => by (have := HC.out.sys.fs.lt e; have := HG2.out; omega))); (try replace HS1 : Hid _ := SrcB.below HS1.out HBn.out); (try replace HC : Hid _ := HC.out.below HBn.out); (try replace HPR : Hid _ := And.intro (HPR.out.1.below HBn.out) HPR.out.2); (try replace HSY : Hid _ := HSY.out.below HBn.out); replace HBC : Hid (Blk wn B0 [.int .i64 1, .string a, .string b, .int .i64 n]) := HBC.out.below HBn.out HBC.out.lt; clear HBn HG2
        simp only [Act.put, List.setIfInBounds_toArray, List.set_cons_zero, List.set_cons_succ]
        refine hK.out _ _ (⟨HBC.out.one rfl, HBC.out.one rfl, HBC.out.one rfl⟩) (fun hHeld => ?_)
        clear hK K
        refine wpAnyH_ready (rs := [6]) (by kernel_rfl) (by simp) ?_
        refine AllReadyH.cons (o := { dst := some 18, op := .call { callee := .value (.func 13), args := #[.tmp 12, .tmp 14, .tmp 17], argTypes := #[25, 9, 40] }, type := 38, pos := "law.go:23", after := #[{ on := 0, ground := .data }, { on := 2, ground := .data }, { on := 5, ground := .data }], guard := none }) rfl (fun K hK => ?_) AllReadyH.nil
        go_simp
        refine (sys_appendR HC.out.sys HC.out.ok (by have := HN.out; omega) a _ (strB b) HS1.out (by rw [strB_length]; have := HN.out; omega) (fun k e => by injection e with e; simp only at e; rw [← e]; exact HF1.out)).mono ?_; rintro e w2 ⟨rfl, S2, hS2, hs2, hg2⟩; have HSA : Hid (S2.abs = S.abs.app a (strB b)) := hS2; clear HSY HPR; have HSY : Hid (Sys w w2 f S2 []) := hs2; have HPR : Hid _ := HC.out.prog (Below.refl _ _) hs2 hg2; (try replace HS2 : Hid _ := SrcB.grB HS2.out hg2 HF2.out); replace HBC : Hid (Blk w2 B0 [.int .i64 1, .string a, .string b, .int .i64 n]) := (by (obtain ⟨t, ht⟩ := HBC.out; exact ⟨t, by rw [hg2.block B0 HBC.out.lt HB0.out.1 List.not_mem_nil]; exact ht⟩)); clear HC hS2 hs2 hg2; have HC : Hid True := trivial
        go_simp
        refine hK.out _ _ (⟨HBC.out.one rfl, HBC.out.one rfl, HBC.out.one rfl⟩) (fun hHeld => ?_)
        clear hK K
        refine wpAnyH_ready (rs := [13]) (by kernel_rfl) (by simp) ?_
        refine AllReadyH.cons (o := { dst := some 25, op := .call { callee := .value (.func 17), args := #[.tmp 19, .tmp 21, .tmp 24], argTypes := #[27, 9, 40] }, type := 3, pos := "law.go:23", after := #[{ on := 7, ground := .data }, { on := 9, ground := .data }, { on := 12, ground := .data }, { on := 6, ground := .chain }], guard := none }) rfl (fun K hK => ?_) AllReadyH.nil
        go_simp
        refine (rapp_any m v R a _ _ _ (strB b) _ HPR.out.1 (H1.out.rok (by have := HN.out; omega)) HS2.out (strB_length b).symm (by have := HN.out; omega) (fun k e => by injection e with e; simp only at e; rw [← e]; exact HM2.out)).mono ?_; rintro e w3 ⟨rfl, v3, hr3, hk3, hm3⟩; have HR3 : Hid _ := And.intro hr3 (And.intro hk3 hm3); have HBZ : Hid (Blk w3 B0 [.int .i64 1, .string a, .string b, .int .i64 n]) := HBC.out.keep hk3 HB0.out.2.1; clear hr3 hk3 hm3
        go_simp
        refine hK.out _ _ (⟨HBZ.out.one rfl, HBZ.out.one rfl, HBZ.out.one rfl⟩) (fun hHeld => ?_)
        clear hK K
        refine wpAnyH_take (i := 14) (oi := { dst := some 6, op := .assign (.tmp 18), type := 3, pos := "law.go:23", after := #[{ on := 6, ground := .data }, { on := 13, ground := .chain }, { on := 0, ground := .phase }, { on := 1, ground := .phase }, { on := 2, ground := .phase }, { on := 3, ground := .phase }, { on := 4, ground := .phase }, { on := 5, ground := .phase }, { on := 6, ground := .phase }, { on := 7, ground := .textOnly Go.Departure.lateStores }, { on := 8, ground := .textOnly Go.Departure.lateStores }, { on := 9, ground := .textOnly Go.Departure.lateStores }, { on := 10, ground := .textOnly Go.Departure.lateStores }, { on := 11, ground := .textOnly Go.Departure.lateStores }, { on := 12, ground := .textOnly Go.Departure.lateStores }, { on := 13, ground := .textOnly Go.Departure.lateStoresUnsure }], guard := none }) (v := ?_) rfl (by kernel_rfl) (by kernel_rfl) (by kernel_rfl) (fun _ _ _ h => h) (Or.inl ⟨by rfl, ?_⟩) (by assumption) ?_
        rotate_left
        · intro _ _; go_simp; first | done | with_reducible rfl
        simp only [Act.put, List.setIfInBounds_toArray, List.set_cons_zero, List.set_cons_succ]
        refine wpAnyH_take (i := 15) (oi := { dst := some 7, op := .assign (.tmp 25), type := 3, pos := "law.go:23", after := #[{ on := 13, ground := .data }, { on := 14, ground := .chain }, { on := 0, ground := .phase }, { on := 1, ground := .phase }, { on := 2, ground := .phase }, { on := 3, ground := .phase }, { on := 4, ground := .phase }, { on := 5, ground := .phase }, { on := 6, ground := .phase }, { on := 7, ground := .phase }, { on := 8, ground := .phase }, { on := 9, ground := .phase }, { on := 10, ground := .phase }, { on := 11, ground := .phase }, { on := 12, ground := .phase }, { on := 13, ground := .phase }, { on := 14, ground := .phase }], guard := none }) (v := ?_) rfl (by kernel_rfl) (by kernel_rfl) (by kernel_rfl) (fun _ _ _ h => h) (Or.inl ⟨by rfl, ?_⟩) (by assumption) ?_
        rotate_left
        · intro _ _; go_simp; first | done | with_reducible rfl
        simp only [Act.put, List.setIfInBounds_toArray, List.set_cons_zero, List.set_cons_succ]
        refine wpAnyH_done (by kernel_rfl) ?_ _
        refine NoPanic.normal ?_
        clear hHeld
        have HFIN : Hid (Bo w w3 f S2 m v3 (R.app a (strB b)) (q + 1)) := H1.out.next HSY.out HPR.out.2.1 HPR.out.2.2 HR3.out.1 HR3.out.2.1 HR3.out.2.2 (by rw [HSA.out]; exact (H1.out.tw.app (n := a) (bs := strB b)).2) (by rw [HSA.out]; exact H1.out.ok.app) RS.by_app (by rw [HSA.out]; exact small_app H1.out.small)
        have HEQ : Hid (_ = _) := (H1.out.tw.app (n := a) (bs := strB b)).1
        clear HSA HSY HPR HR3 HBZ HS1 HS2
        go_wp2_with fail
        go_ret2
        exact ⟨_, S2, v3, _, by rw [HEQ.out]; rfl, HFIN.out⟩
    · refine step_toBytesR rfl _ rfl b rfl ?_; intro b2 c2 wn HS2' HG2 HBn; clear HS2; have HS2 := HS2'; clear HS2'; have HM2 : Hid (b2 ≠ m) := (fun e => by (first | (have := HC.out.rk.blk.lt; have := HG2.out; omega) | (have := HPR.out.1.blk.lt; have := HG2.out; omega))); (try replace HF2 : Hid (¬ S.foot f b2) := (fun e => by (have := HC.out.sys.fs.lt e; have := HG2.out; omega))); (try replace HS1 : Hid _ := SrcB.below HS1.out HBn.out); (try replace HC : Hid _ := HC.out.below HBn.out); (try replace HPR : Hid _ := And.intro (HPR.out.1.below HBn.out) HPR.out.2); (try replace HSY : Hid _ := HSY.out.below HBn.out); replace HBC : Hid (Blk wn B0 [.int .i64 1, .string a, .string b, .int .i64 n]) := HBC.out.below HBn.out HBC.out.lt; clear HBn HG2
      simp only [Act.put, List.setIfInBounds_toArray, List.set_cons_zero, List.set_cons_succ]
      refine hK.out _ _ (⟨HBC.out.one rfl, HBC.out.one rfl, HBC.out.one rfl⟩) (fun hHeld => ?_)
      clear hK K
      refine wpAnyH_ready (rs := [5]) (by kernel_rfl) (by simp) ?_
      refine AllReadyH.cons (o := { dst := some 17, op := .convert 9 40 (.tmp 16), type := 40, pos := "law.go:23", after := #[{ on := 4, ground := .data }], guard := none }) rfl (fun K hK => ?_) AllReadyH.nil
      refine step_toBytesR rfl _ rfl b rfl ?_; intro b1 c1 wn HS1' HG1 HBn; (try replace HS2 : Hid _ := SrcB.below HS2.out HBn.out); clear HS1; have HS1 := HS1'; clear HS1'; have HF1 : Hid (¬ S.foot f b1) := (fun e => by (have := HC.out.sys.fs.lt e; have := HG1.out; omega)); replace HC : Hid (Bo w wn f S m v R q) := HC.out.below HBn.out; replace HBC : Hid (Blk wn B0 [.int .i64 1, .string a, .string b, .int .i64 n]) := HBC.out.below HBn.out HBC.out.lt; clear HBn HG1
      simp only [Act.put, List.setIfInBounds_toArray, List.set_cons_zero, List.set_cons_succ]
      refine hK.out _ _ (⟨HBC.out.one rfl, HBC.out.one rfl, HBC.out.one rfl⟩) (fun hHeld => ?_)
      clear hK K
      refine wpAnyH_ready (rs := [6]) (by kernel_rfl) (by simp) ?_
      refine AllReadyH.cons (o := { dst := some 18, op := .call { callee := .value (.func 13), args := #[.tmp 12, .tmp 14, .tmp 17], argTypes := #[25, 9, 40] }, type := 38, pos := "law.go:23", after := #[{ on := 0, ground := .data }, { on := 2, ground := .data }, { on := 5, ground := .data }], guard := none }) rfl (fun K hK => ?_) AllReadyH.nil
      go_simp
      refine (sys_appendR HC.out.sys HC.out.ok (by have := HN.out; omega) a _ (strB b) HS1.out (by rw [strB_length]; have := HN.out; omega) (fun k e => by injection e with e; simp only at e; rw [← e]; exact HF1.out)).mono ?_; rintro e w2 ⟨rfl, S2, hS2, hs2, hg2⟩; have HSA : Hid (S2.abs = S.abs.app a (strB b)) := hS2; clear HSY HPR; have HSY : Hid (Sys w w2 f S2 []) := hs2; have HPR : Hid _ := HC.out.prog (Below.refl _ _) hs2 hg2; (try replace HS2 : Hid _ := SrcB.grB HS2.out hg2 HF2.out); replace HBC : Hid (Blk w2 B0 [.int .i64 1, .string a, .string b, .int .i64 n]) := (by (obtain ⟨t, ht⟩ := HBC.out; exact ⟨t, by rw [hg2.block B0 HBC.out.lt HB0.out.1 List.not_mem_nil]; exact ht⟩)); clear HC hS2 hs2 hg2; have HC : Hid True := trivial
      go_simp
      refine hK.out _ _ (⟨HBC.out.one rfl, HBC.out.one rfl, HBC.out.one rfl⟩) (fun hHeld => ?_)
      clear hK K
      refine wpAnyH_ready (rs := [13]) (by kernel_rfl) (by simp) ?_
      refine AllReadyH.cons (o := { dst := some 25, op := .call { callee := .value (.func 17), args := #[.tmp 19, .tmp 21, .tmp 24], argTypes := #[27, 9, 40] }, type := 3, pos := "law.go:23", after := #[{ on := 7, ground := .data }, { on := 9, ground := .data }, { on := 12, ground := .data }, { on := 6, ground := .chain }], guard := none }) rfl (fun K hK => ?_) AllReadyH.nil
      go_simp
      refine (rapp_any m v R a _ _ _ (strB b) _ HPR.out.1 (H1.out.rok (by have := HN.out; omega)) HS2.out (strB_length b).symm (by have := HN.out; omega) (fun k e => by injection e with e; simp only at e; rw [← e]; exact HM2.out)).mono ?_; rintro e w3 ⟨rfl, v3, hr3, hk3, hm3⟩; have HR3 : Hid _ := And.intro hr3 (And.intro hk3 hm3); have HBZ : Hid (Blk w3 B0 [.int .i64 1, .string a, .string b, .int .i64 n]) := HBC.out.keep hk3 HB0.out.2.1; clear hr3 hk3 hm3
      go_simp
      refine hK.out _ _ (⟨HBZ.out.one rfl, HBZ.out.one rfl, HBZ.out.one rfl⟩) (fun hHeld => ?_)
      clear hK K
      refine wpAnyH_take (i := 14) (oi := { dst := some 6, op := .assign (.tmp 18), type := 3, pos := "law.go:23", after := #[{ on := 6, ground := .data }, { on := 13, ground := .chain }, { on := 0, ground := .phase }, { on := 1, ground := .phase }, { on := 2, ground := .phase }, { on := 3, ground := .phase }, { on := 4, ground := .phase }, { on := 5, ground := .phase }, { on := 6, ground := .phase }, { on := 7, ground := .textOnly Go.Departure.lateStores }, { on := 8, ground := .textOnly Go.Departure.lateStores }, { on := 9, ground := .textOnly Go.Departure.lateStores }, { on := 10, ground := .textOnly Go.Departure.lateStores }, { on := 11, ground := .textOnly Go.Departure.lateStores }, { on := 12, ground := .textOnly Go.Departure.lateStores }, { on := 13, ground := .textOnly Go.Departure.lateStoresUnsure }], guard := none }) (v := ?_) rfl (by kernel_rfl) (by kernel_rfl) (by kernel_rfl) (fun _ _ _ h => h) (Or.inl ⟨by rfl, ?_⟩) (by assumption) ?_
      rotate_left
      · intro _ _; go_simp; first | done | with_reducible rfl
      simp only [Act.put, List.setIfInBounds_toArray, List.set_cons_zero, List.set_cons_succ]
      refine wpAnyH_take (i := 15) (oi := { dst := some 7, op := .assign (.tmp 25), type := 3, pos := "law.go:23", after := #[{ on := 13, ground := .data }, { on := 14, ground := .chain }, { on := 0, ground := .phase }, { on := 1, ground := .phase }, { on := 2, ground := .phase }, { on := 3, ground := .phase }, { on := 4, ground := .phase }, { on := 5, ground := .phase }, { on := 6, ground := .phase }, { on := 7, ground := .phase }, { on := 8, ground := .phase }, { on := 9, ground := .phase }, { on := 10, ground := .phase }, { on := 11, ground := .phase }, { on := 12, ground := .phase }, { on := 13, ground := .phase }, { on := 14, ground := .phase }], guard := none }) (v := ?_) rfl (by kernel_rfl) (by kernel_rfl) (by kernel_rfl) (fun _ _ _ h => h) (Or.inl ⟨by rfl, ?_⟩) (by assumption) ?_
      rotate_left
      · intro _ _; go_simp; first | done | with_reducible rfl
      simp only [Act.put, List.setIfInBounds_toArray, List.set_cons_zero, List.set_cons_succ]
      refine wpAnyH_done (by kernel_rfl) ?_ _
      refine NoPanic.normal ?_
      clear hHeld
      have HFIN : Hid (Bo w w3 f S2 m v3 (R.app a (strB b)) (q + 1)) := H1.out.next HSY.out HPR.out.2.1 HPR.out.2.2 HR3.out.1 HR3.out.2.1 HR3.out.2.2 (by rw [HSA.out]; exact (H1.out.tw.app (n := a) (bs := strB b)).2) (by rw [HSA.out]; exact H1.out.ok.app) RS.by_app (by rw [HSA.out]; exact small_app H1.out.small)
      have HEQ : Hid (_ = _) := (H1.out.tw.app (n := a) (bs := strB b)).1
      clear HSA HSY HPR HR3 HBZ HS1 HS2
      go_wp2_with fail
      go_ret2
      exact ⟨_, S2, v3, _, by rw [HEQ.out]; rfl, HFIN.out⟩
  have n1 : (kd == 1) = false := beq_eq_false_iff_ne.2 h1
  by_cases h6 : kd = 6
  · subst h6
    have hx3 : w1.cell? ⟨B0, 3, none⟩ = some (.int .i64 n) := HBX.out.one rfl
    go_wp2_with fail
    refine Calls.mono (sys_cutR H1.out.sys n) ?_
    rintro e w2 ⟨rfl, S2, hS2, hs2, hg2⟩
    have HSA : Hid (S2.abs = { S.abs with counted := true, left := n }) := hS2
    have HSY : Hid (Sys w w2 f S2 []) := hs2
    have HPR : Hid _ := H1.out.prog (Below.refl _ _) hs2 hg2
    have HBY : Hid (Blk w2 B0 [.int .i64 6, .string a, .string b, .int .i64 n]) := by
      obtain ⟨t, ht⟩ := HBX.out
      exact ⟨t, by rw [hg2.block B0 HBX.out.lt HB0.out.1 List.not_mem_nil]; exact ht⟩
    clear hS2 hs2 hg2 hx3 hx0
    have hx3 : w2.cell? ⟨B0, 3, none⟩ = some (.int .i64 n) := HBY.out.one rfl
    have hm1 : w2.cell? ⟨m, 1, none⟩ = some (.int .i64 R.fuse) := HPR.out.1.blk.one rfl
    have hf1 := HPR.out.1.blk.frozen 1
    go_upto_region 15 with fail
    generalize hw3 : World.setCell w2 _ _ = w3
    have HFIN : Hid (Bo w w3 f S2 m v { R with fuse := max n 0 } (q + 1)) := by
      have hk : Keep m w2 w3 := by rw [← hw3]; exact (Keep.refl _ _).setCell _ _
      have hb3 : Blk w3 m [v, .int .i64 (max n 0), .bool R.dark, .int .i64 R.ops] := by rw [← hw3]; exact HPR.out.1.blk.set 1 _
      have hr3 : RkAt w3 m v { R with fuse := max n 0 } := HPR.out.1.keep hk hb3 rfl
      have h1 := H1.out.ok
      refine ⟨sys_rk HSY.out HPR.out.2.1 hk, hr3, HPR.out.2.1, HPR.out.2.2, by rw [HSA.out]; exact H1.out.tw.cut n, by rw [HSA.out]; exact ⟨h1.ops0, by have := h1.ops1; simp only; omega, HN.out.1, HN.out.2.1⟩, Nat.le_succ_of_le H1.out.len, ?_, by rw [HSA.out]; exact H1.out.small⟩
      have := HN.out
      simp only
      omega
    clear hw3 hx3 hm1 hf1 HSY HPR HSA HBY
    go_wp2_with fail
    go_ret2
    exact ⟨0, S2, v, _, rfl, HFIN.out⟩
  have n6 : (kd == 6) = false := beq_eq_false_iff_ne.2 h6
  go_wp2_with fail
  go_ret2
  exact ⟨0, S, v, R, rfl, H1.out.more⟩
end Go.Proofs.Ytlapnnkahijikaa
namespace Go.Proofs.Ytlapnnkahijikaa
open Go.ChangeShapes Go.WideShapes Go.ChangeAt Go.RowKit Go.Lib

theorem srcS_oneR (w : World) (k : ByteArray) (t : TypeId) : SrcS (w.alloc (.cells #[.string k] t)) (.slice (some ⟨w.heap.size, 0, none⟩) 1 1) [k] := by
  refine .inr ⟨w.heap.size, 1, rfl, fun j x hx => ?_⟩
  have hb : Blk (w.alloc (.cells #[.string k] t)) w.heap.size [.string k] := Blk.mk _ _ _ rfl rfl
  match j, hx with
  | 0, hx => rw [hb.one (i := 0) rfl]; injection hx with hx; rw [hx]
  | j + 1, hx => simp at hx
theorem OwnS.shapeR {w : World} {B : Nat} {v : Value} {ss : List ByteArray} (h : OwnS w B v ss) : ∃ a c, v = .slice a ss.length c := by
  rcases h.2 with ⟨rfl, hn⟩ | ⟨g, cap, cur, rfl, _⟩
  · exact ⟨none, 0, by rw [hn]⟩
  · exact ⟨_, _, rfl⟩
theorem Bo.names {w wi : World} {f : Nat} {S : FS} {m : Nat} {v : Value} {R : RS} {q : Nat} (h : Bo w wi f S m v R q) (hq : q ≤ 1000000) :
    Calls Try.prog 28 #[.pointer (some ⟨f, 0, none⟩)] wi fun e w' => ∃ v, e = .returned v ∧ OwnS w' wi.heap.size v (R.L.map Prod.fst) ∧ Below wi.heap.size wi w' := by
  have hl : S.L.length ≤ 1000000 := by
    have h1 := congrArg List.length h.tw.names
    rw [sortN_length, List.length_map, List.length_map] at h1
    have h2 : S.abs.L.length = S.L.length := rfl
    have := h.len
    omega
  have := names_any f S wi h.sys.fs h.small hl
  rw [show S.L = S.abs.L from rfl, h.tw.names] at this
  exact this
theorem Bo.file {w wi : World} {f : Nat} {S : FS} {m : Nat} {v : Value} {R : RS} {q : Nat} (h : Bo w wi f S m v R q) {k : Nat} (hk : k < R.L.length) : alook (R.L.getD k default).1 S.abs.L = some (R.L.getD k default).2 := by
  rw [← h.tw.look]
  refine alook_of_mem h.tw.srt.nodup ?_
  rw [List.getD_eq_getElem?_getD, List.getElem?_eq_getElem hk]
  exact List.getElem_mem hk
theorem Blk.grownR {w w' : World} {b : Nat} {cs : List Value} {row : Option Nat} (h : Blk w b cs) (hg : w.grownBy w' row) (hn : some b ≠ row) : Blk w' b cs := by
  have hl := h.lt
  obtain ⟨t, ht⟩ := h
  exact ⟨t, by rw [hg.5 b hl hn]; exact ht⟩
theorem below_undrewR {w w' : World} (h : Below w.drew.heap.size w.drew w') : Below w.heap.size w w' := ((Below.refl _ _).drew).trans h
set_option maxRecDepth 100000 in
set_option maxHeartbeats 4000000 in
theorem shows_any7 (w wi : World) (f : Nat) (S : FS) (m : Nat) (v : Value) (R : RS) (q : Nat) (h : Bo w wi f S m v R q) (hq : q ≤ 90000) :
    Calls Try.prog 10 #[.pointer (some ⟨f, 0, none⟩), .pointer (some ⟨m, 0, none⟩)] wi fun e w' => e = .returned (.bool true) ∧ Below wi.heap.size wi w' := by
  have HMO : Hid (Try.prog.follows .mixedOrders = true) := show _ = _ by kernel_rfl
  have HQ : Hid (q ≤ 90000) := hq
  obtain ⟨a, c, rfl, hels⟩ := h.rk.shape
  obtain ⟨z, hz⟩ : ∃ z, z = R.L.length := ⟨_, rfl⟩
  rw [← hz] at h hels
  have hz9 : z ≤ 90000 := by rw [hz]; exact Nat.le_trans h.len hq
  have H : Hid (Bo w wi f S m (.slice a z c) R q) := h
  have HZ : Hid (z = R.L.length) := hz
  have HE : Hid (Els wi a z c R.L) := hels
  have HOP : Hid (S.ops = R.ops) := h.tw.ops
  have HM3 : Hid (wi.cell? ⟨m, 3, none⟩ = some (.int .i64 R.ops)) := h.rk.blk.one rfl
  have HM0 : Hid (wi.cell? ⟨m, 0, none⟩ = some (.slice a z c)) := h.rk.blk.one rfl
  have HOPS : Hid _ := ops_any f S wi.drew h.sys.drew.fs
  clear h hz hels hq
  go_enter Try.func10, Try.ntmps10
  go_upto_region 1 with fail
  refine wp_region_noPanic ?_
  refine wp_region_held_drew (S := fun w' => w'.cell? ⟨m, 3, none⟩ = some (.int .i64 R.ops)) HMO.out (HM3.out) (fun hHeld => ?_)
  refine wpAnyH_take (i := 0) (oi := { dst := some 10, op := .move (.tmp 0), type := 25, pos := "law.go:53", after := #[], guard := none }) (v := ?_) rfl (by kernel_rfl) (by kernel_rfl) (by kernel_rfl) (fun _ _ _ h => h) (Or.inl ⟨by rfl, ?_⟩) (by assumption) ?_
  rotate_left
  · intro _ _; go_simp; first | done | with_reducible rfl
  simp only [Act.put, List.setIfInBounds_toArray, List.set_cons_zero, List.set_cons_succ]
  refine wpAnyH_take (i := 1) (oi := { dst := some 11, op := .binOp Go.BinOp.eql 25 (.tmp 10) (.const (.pointer none)) 25, type := 4, pos := "law.go:53", after := #[{ on := 0, ground := .data }], guard := none }) (v := .bool false) rfl (by kernel_rfl) (by kernel_rfl) (by kernel_rfl) (fun _ _ _ h => h) (Or.inl ⟨by rfl, ?_⟩) (by assumption) ?_
  · intro _ _; go_simp
  simp only [Act.put, List.setIfInBounds_toArray, List.set_cons_zero, List.set_cons_succ]
  refine wpAnyH_take (i := 2) (oi := { dst := some 12, op := .move (.tmp 11), type := 4, pos := "law.go:53", after := #[{ on := 1, ground := .data }], guard := none }) (v := ?_) rfl (by kernel_rfl) (by kernel_rfl) (by kernel_rfl) (fun _ _ _ h => h) (Or.inl ⟨by rfl, ?_⟩) (by assumption) ?_
  rotate_left
  · intro _ _; go_simp; first | done | with_reducible rfl
  simp only [Act.put, List.setIfInBounds_toArray, List.set_cons_zero, List.set_cons_succ]
  refine wpAnyH_take (i := 3) (oi := { dst := some 13, op := .move (.tmp 1), type := 27, pos := "law.go:53", after := #[{ on := 2, ground := .guard }], guard := some (2, false) }) (v := ?_) rfl (by kernel_rfl) (by kernel_rfl) (by kernel_rfl) (fun _ _ _ h => h) (Or.inl ⟨by rfl, ?_⟩) (by assumption) ?_
  rotate_left
  · intro _ _; go_simp; first | done | with_reducible rfl
  simp only [Act.put, List.setIfInBounds_toArray, List.set_cons_zero, List.set_cons_succ]
  refine wpAnyH_take (i := 4) (oi := { dst := some 14, op := .binOp Go.BinOp.eql 27 (.tmp 13) (.const (.pointer none)) 27, type := 4, pos := "law.go:53", after := #[{ on := 3, ground := .data }, { on := 2, ground := .guard }], guard := some (2, false) }) (v := .bool false) rfl (by kernel_rfl) (by kernel_rfl) (by kernel_rfl) (fun _ _ _ h => h) (Or.inl ⟨by rfl, ?_⟩) (by assumption) ?_
  · intro _ _; go_simp
  simp only [Act.put, List.setIfInBounds_toArray, List.set_cons_zero, List.set_cons_succ]
  refine wpAnyH_take (i := 5) (oi := { dst := some 15, op := .pick (.tmp 12) (.const (.bool true)) (.tmp 14), type := 4, pos := "law.go:53", after := #[{ on := 2, ground := .data }, { on := 4, ground := .data }], guard := none }) (v := .bool false) rfl (by kernel_rfl) (by kernel_rfl) (by kernel_rfl) (fun _ _ _ h => h) (Or.inl ⟨by rfl, ?_⟩) (by assumption) ?_
  · intro _ _; go_simp
  simp only [Act.put, List.setIfInBounds_toArray, List.set_cons_zero, List.set_cons_succ]
  refine wpAnyH_take (i := 6) (oi := { dst := some 16, op := .move (.tmp 15), type := 4, pos := "law.go:53", after := #[{ on := 5, ground := .data }, { on := 2, ground := .chain }], guard := none }) (v := .bool false) rfl (by kernel_rfl) (by kernel_rfl) (by kernel_rfl) (fun _ _ _ h => h) (Or.inl ⟨by rfl, ?_⟩) (by assumption) ?_
  · intro _ _; go_simp
  simp only [Act.put, List.setIfInBounds_toArray, List.set_cons_zero, List.set_cons_succ]
  refine wpAnyH_take (i := 7) (oi := { dst := some 17, op := .move (.tmp 0), type := 25, pos := "law.go:53", after := #[{ on := 6, ground := .guard }], guard := some (6, false) }) (v := ?_) rfl (by kernel_rfl) (by kernel_rfl) (by kernel_rfl) (fun _ _ _ h => h) (Or.inl ⟨by rfl, ?_⟩) (by assumption) ?_
  rotate_left
  · intro _ _; go_simp; first | done | with_reducible rfl
  simp only [Act.put, List.setIfInBounds_toArray, List.set_cons_zero, List.set_cons_succ]
  refine wpAnyH_take (i := 9) (oi := { dst := some 19, op := .move (.tmp 1), type := 27, pos := "law.go:53", after := #[{ on := 6, ground := .guard }], guard := some (6, false) }) (v := ?_) rfl (by kernel_rfl) (by kernel_rfl) (by kernel_rfl) (fun _ _ _ h => h) (Or.inl ⟨by rfl, ?_⟩) (by assumption) ?_
  rotate_left
  · intro _ _; go_simp; first | done | with_reducible rfl
  simp only [Act.put, List.setIfInBounds_toArray, List.set_cons_zero, List.set_cons_succ]
  refine wpAnyH_take (i := 10) (oi := { dst := some 20, op := .nilCheck (.tmp 19), type := 0, pos := "law.go:53", after := #[{ on := 9, ground := .data }, { on := 6, ground := .guard }], guard := some (6, false) }) (v := ?_) rfl (by kernel_rfl) (by kernel_rfl) (by kernel_rfl) (fun _ _ _ h => h) (Or.inl ⟨by rfl, ?_⟩) (by assumption) ?_
  rotate_left
  · intro _ _; go_simp; first | done | with_reducible rfl
  simp only [Act.put, List.setIfInBounds_toArray, List.set_cons_zero, List.set_cons_succ]
  refine wpAnyH_take (i := 11) (oi := { dst := some 21, op := .fieldAddr 50 (.tmp 20) 3, type := 0, pos := "law.go:53", after := #[{ on := 10, ground := .data }, { on := 6, ground := .guard }], guard := some (6, false) }) (v := ?_) rfl (by kernel_rfl) (by kernel_rfl) (by kernel_rfl) (fun _ _ _ h => h) (Or.inl ⟨by rfl, ?_⟩) (by assumption) ?_
  rotate_left
  · intro _ _; go_simp; first | done | with_reducible rfl
  simp only [Act.put, List.setIfInBounds_toArray, List.set_cons_zero, List.set_cons_succ]
  refine wpAnyH_take (i := 12) (oi := { dst := some 22, op := .load 3 (.tmp 21), type := 3, pos := "law.go:53", after := #[{ on := 11, ground := .data }, { on := 6, ground := .guard }], guard := some (6, false) }) (v := .int .i64 R.ops) rfl (by kernel_rfl) (by kernel_rfl) (by kernel_rfl) (fun _ _ _ h => h) (Or.inl ⟨by rfl, ?_⟩) (by assumption) ?_
  · intro _ _; rename_i wz hz; have cz := hz; go_simp
  simp only [Act.put, List.setIfInBounds_toArray, List.set_cons_zero, List.set_cons_succ]
  refine wpAnyH_ready (rs := [8]) (by kernel_rfl) (by simp) ?_
  refine AllReadyH.cons (o := { dst := some 18, op := .call { callee := .value (.func 26), args := #[.tmp 17], argTypes := #[25] }, type := 3, pos := "law.go:53", after := #[{ on := 7, ground := .data }, { on := 6, ground := .chain }, { on := 6, ground := .guard }], guard := some (6, false) }) rfl (fun K hK => ?_) AllReadyH.nil
  go_simp
  refine Calls.mono HOPS.out ?_; rintro e w1 ⟨rfl, rfl⟩; rw [HOP.out]
  go_simp
  refine hK.out _ _ (HM3.out) (fun hHeld => ?_)
  clear hK K
  refine wpAnyH_take (i := 13) (oi := { dst := some 23, op := .binOp Go.BinOp.neq 3 (.tmp 18) (.tmp 22) 3, type := 4, pos := "law.go:53", after := #[{ on := 8, ground := .data }, { on := 12, ground := .data }, { on := 6, ground := .guard }], guard := some (6, false) }) (v := .bool false) rfl (by kernel_rfl) (by kernel_rfl) (by kernel_rfl) (fun _ _ _ h => h) (Or.inl ⟨by rfl, ?_⟩) (by assumption) ?_
  · intro _ _; go_simp
  simp only [Act.put, List.setIfInBounds_toArray, List.set_cons_zero, List.set_cons_succ]
  refine wpAnyH_take (i := 14) (oi := { dst := some 24, op := .pick (.tmp 16) (.const (.bool true)) (.tmp 23), type := 4, pos := "law.go:53", after := #[{ on := 6, ground := .data }, { on := 13, ground := .data }], guard := none }) (v := .bool false) rfl (by kernel_rfl) (by kernel_rfl) (by kernel_rfl) (fun _ _ _ h => h) (Or.inl ⟨by rfl, ?_⟩) (by assumption) ?_
  · intro _ _; go_simp
  simp only [Act.put, List.setIfInBounds_toArray, List.set_cons_zero, List.set_cons_succ]
  refine wpAnyH_done (by kernel_rfl) ?_ _
  refine NoPanic.normal ?_
  clear hHeld HOPS HM3
  have H1 : Hid (Bo w wi.drew f S m (.slice a z c) R q) := H.out.below (Below.refl _ _).drew
  have HE1 : Hid (Els wi.drew a z c R.L) := HE.out.below (Below.refl _ _).drew
  have HBB : Hid (∀ w', Below wi.drew.heap.size wi.drew w' → Below wi.heap.size wi w') := fun w' hb => below_undrewR hb
  have HC0 : Hid (wi.drew.cell? ⟨m, 0, none⟩ = some (.slice a z c)) := HM0.out
  clear H HE HM0
  generalize wi.drew = wb at *
  go_wp2_with fail
  go_loopw [5, 6] (fun nv i wr => ∃ (j : Nat) (ab : Option Addr) (cb : Nat), j ≤ z ∧ i = .int .i64 j ∧ nv = .slice ab j cb ∧ Hid (OwnS wr wb.heap.size (.slice ab j cb) ((R.L.take j).map Prod.fst)) ∧ Hid (Below wb.heap.size wb wr)) (fun _ i _ => z - (intOf i).toNat)
  case atStart => exact ⟨0, none, 0, Nat.zero_le _, rfl, rfl, OwnS.nil _ _, Below.refl _ _⟩
  case round =>
    obtain ⟨j, ab, cb, hj, rfl, rfl, HO, HB⟩ := hrel
    have hc0 := cell_below HB.out HC0.out
    by_cases hlt : j < z
    · have e0 : (0 : Int) ≤ (j : Int) := by omega
      have e1 : (j : Int) < (z : Int) := by omega
      have hjL : j < R.L.length := by rw [← HZ.out]; exact hlt
      obtain ⟨b, o, rfl, c0, c1, c2⟩ := (HE1.out.below HB.out).fil (k := j) hlt
      have hfile := H1.out.file hjL
      have HTK : Hid ((R.L.take (j + 1)).map Prod.fst = (R.L.take j).map Prod.fst ++ [(R.L.getD j default).1]) := show _ = _ by
        rw [List.take_add_one, List.map_append, List.getD_eq_getElem?_getD, List.getElem?_eq_getElem hjL]; rfl
      have HLN : Hid (((R.L.take j).map Prod.fst).length = j) := show _ = _ by rw [List.length_map, List.length_take]; omega
      generalize R.L.getD j default = el at *
      obtain ⟨nm, xb, xs⟩ := el
      simp only at c0 c1 c2 hfile
      go_upto_region 8 with fail
      generalize hw2 : World.alloc wr _ = w2
      have hb2 : Below wr.heap.size wr w2 := by rw [← hw2]; exact (Below.refl _ _).alloc (Nat.le_refl _) _
      have HBX : Hid (Blk w2 wr.heap.size [.string nm, .string (ofB xb), .int .i64 xs]) := by rw [← hw2]; exact Blk.mk _ _ _ rfl rfl
      have HO2 : Hid (OwnS w2 wb.heap.size (.slice ab j cb) ((R.L.take j).map Prod.fst)) := HO.out.below hb2
      have HB2 : Hid (Below wb.heap.size wb w2) := HB.out.trans (hb2.mono HB.out.size)
      have HBN : Hid (∀ k, (Value.slice ab j cb).ownBlock = some k → k ≠ wr.heap.size) := fun k e => by have := (HO.out.lt k e).2; omega
      clear hw2 hb2 c0 c1 c2 hc0 HO HB
      generalize wr.heap.size = B0 at *
      have hx0 : w2.cell? ⟨B0, 0, none⟩ = some (.string nm) := HBX.out.one rfl
      have HBA : Hid (Below w2.heap.size w2 (w2.alloc (.cells #[.string nm] 9))) := (Below.refl _ _).alloc (Nat.le_refl _) _
      go_wp2_with (at_builtin; refine wpList_append_s rfl _ _ rfl wb.heap.size (.slice ab j cb) ((R.L.take j).map Prod.fst) rfl (HO2.out.below HBA.out) _ [nm] rfl (srcS_oneR _ _ _) (by have := HLN.out; simp only [List.length_cons, List.length_nil]; omega) (by have := HB2.out.size; simp; omega) ?_; intro v4 w4 HO4 HG4; obtain ⟨a4, c4, hv4⟩ := HO4.out.shapeR; rw [List.length_append, HLN.out] at hv4; subst hv4; have HBX4 : Hid (Blk w4 B0 [.string nm, .string (ofB xb), .int .i64 xs]) := (HBX.out.alloc _).grownR HG4.out (fun e => HBN.out B0 e.symm rfl); have hx4 : w4.cell? ⟨B0, 0, none⟩ = some (.string nm) := HBX4.out.one rfl; have HB4 : Hid (Below wb.heap.size wb w4) := (HB2.out.trans (HBA.out.mono HB2.out.size)).grown HG4.out (by have := HB2.out.size; simp; omega) (fun k e => (HO2.out.lt k e).1); have HRD : Hid _ := sys_read (H1.out.sys.below HB4.out) nm)
      rw [hfile] at HRD
      clear HG4 HBA HO2 HB2 HBX HBN hx0
      refine Calls.mono HRD.out ?_
      rintro e w5 ⟨v5, rfl, ho5, hb5⟩
      obtain ⟨a5, c5, hv5⟩ := ho5.shape
      subst hv5
      have HS5 : Hid (SrcB w5 (.slice a5 (flOf (some ⟨xb, xs⟩)).b.length c5) xb) := ho5.src
      have HB5 : Hid (Below wb.heap.size wb w5) := HB4.out.trans (hb5.mono HB4.out.size)
      have HBX5 : Hid (Blk w5 B0 [.string nm, .string (ofB xb), .int .i64 xs]) := HBX4.out.below hb5 HBX4.out.lt
      have HO5 : Hid (OwnS w5 wb.heap.size (.slice a4 (j + [nm].length) c4) ((R.L.take j).map Prod.fst ++ [nm])) := HO4.out.below hb5
      have HSV : Hid (safeOf (alook nm S.L) = (xs : Int)) := show _ = _ by rw [show S.L = S.abs.L from rfl, hfile]; rfl
      clear ho5 hb5 HRD HB4 HBX4 HO4 hx4
      generalize (flOf (some (⟨xb, xs⟩ : Fl))).b.length = n5 at *
      go_upto_region 10 with fail
      refine wp_region_noPanic ?_
      refine wp_region_held_drew (S := fun w' => SrcB w' (.slice a5 n5 c5) xb ∧ w'.cell? ⟨B0, 0, none⟩ = some (.string nm) ∧ w'.cell? ⟨B0, 1, none⟩ = some (.string (ofB xb)) ∧ w'.cell? ⟨B0, 2, none⟩ = some (.int .i64 xs)) HMO.out (⟨HS5.out, HBX5.out.one rfl, HBX5.out.one rfl, HBX5.out.one rfl⟩) (fun hHeld => ?_)
      refine wpAnyH_take (i := 0) (oi := { dst := some 53, op := .move (.tmp 8), type := 40, pos := "law.go:61", after := #[], guard := none }) (v := ?_) rfl (by kernel_rfl) (by kernel_rfl) (by kernel_rfl) (fun _ _ _ h => h) (Or.inl ⟨by rfl, ?_⟩) (by assumption) ?_
      rotate_left
      · intro _ _; go_simp; first | done | with_reducible rfl
      simp only [Act.put, List.setIfInBounds_toArray, List.set_cons_zero, List.set_cons_succ]
      refine wpAnyH_take (i := 1) (oi := { dst := some 54, op := .convert 40 9 (.tmp 53), type := 9, pos := "law.go:61", after := #[{ on := 0, ground := .data }], guard := none }) (v := .string (ofB xb)) rfl (by kernel_rfl) (by kernel_rfl) (by kernel_rfl) (fun _ _ _ h => h) (Or.inl ⟨by rfl, ?_⟩) (by assumption) ?_
      · intro _ _; rename_i wz hz; obtain ⟨cz, cz0, cz1, cz2⟩ := hz; have hs := SrcB.str cz; go_simp
      simp only [Act.put, List.setIfInBounds_toArray, List.set_cons_zero, List.set_cons_succ]
      refine wpAnyH_take (i := 2) (oi := { dst := some 55, op := .fieldAddr 60 (.tmp 7) 1, type := 0, pos := "law.go:61", after := #[], guard := none }) (v := ?_) rfl (by kernel_rfl) (by kernel_rfl) (by kernel_rfl) (fun _ _ _ h => h) (Or.inl ⟨by rfl, ?_⟩) (by assumption) ?_
      rotate_left
      · intro _ _; go_simp; first | done | with_reducible rfl
      simp only [Act.put, List.setIfInBounds_toArray, List.set_cons_zero, List.set_cons_succ]
      refine wpAnyH_take (i := 3) (oi := { dst := some 56, op := .load 9 (.tmp 55), type := 9, pos := "law.go:61", after := #[{ on := 2, ground := .data }], guard := none }) (v := .string (ofB xb)) rfl (by kernel_rfl) (by kernel_rfl) (by kernel_rfl) (fun _ _ _ h => h) (Or.inl ⟨by rfl, ?_⟩) (by assumption) ?_
      · intro _ _; rename_i wz hz; obtain ⟨cz, cz0, cz1, cz2⟩ := hz; go_simp
      simp only [Act.put, List.setIfInBounds_toArray, List.set_cons_zero, List.set_cons_succ]
      refine wpAnyH_take (i := 4) (oi := { dst := some 57, op := .binOp Go.BinOp.neq 9 (.tmp 54) (.tmp 56) 9, type := 4, pos := "law.go:61", after := #[{ on := 1, ground := .data }, { on := 3, ground := .data }], guard := none }) (v := .bool false) rfl (by kernel_rfl) (by kernel_rfl) (by kernel_rfl) (fun _ _ _ h => h) (Or.inl ⟨by rfl, ?_⟩) (by assumption) ?_
      · intro _ _; go_simp
      simp only [Act.put, List.setIfInBounds_toArray, List.set_cons_zero, List.set_cons_succ]
      refine wpAnyH_take (i := 5) (oi := { dst := some 58, op := .move (.tmp 57), type := 4, pos := "law.go:61", after := #[{ on := 4, ground := .data }], guard := none }) (v := .bool false) rfl (by kernel_rfl) (by kernel_rfl) (by kernel_rfl) (fun _ _ _ h => h) (Or.inl ⟨by rfl, ?_⟩) (by assumption) ?_
      · intro _ _; go_simp
      simp only [Act.put, List.setIfInBounds_toArray, List.set_cons_zero, List.set_cons_succ]
      refine wpAnyH_take (i := 6) (oi := { dst := some 59, op := .move (.tmp 9), type := 38, pos := "law.go:61", after := #[{ on := 5, ground := .guard }], guard := some (5, false) }) (v := ?_) rfl (by kernel_rfl) (by kernel_rfl) (by kernel_rfl) (fun _ _ _ h => h) (Or.inl ⟨by rfl, ?_⟩) (by assumption) ?_
      rotate_left
      · intro _ _; go_simp; first | done | with_reducible rfl
      simp only [Act.put, List.setIfInBounds_toArray, List.set_cons_zero, List.set_cons_succ]
      refine wpAnyH_take (i := 7) (oi := { dst := some 60, op := .binOp Go.BinOp.neq 38 (.tmp 59) (.const (.int .i64 0)) 38, type := 4, pos := "law.go:61", after := #[{ on := 6, ground := .data }, { on := 5, ground := .guard }], guard := some (5, false) }) (v := .bool false) rfl (by kernel_rfl) (by kernel_rfl) (by kernel_rfl) (fun _ _ _ h => h) (Or.inl ⟨by rfl, ?_⟩) (by assumption) ?_
      · intro _ _; go_simp
      simp only [Act.put, List.setIfInBounds_toArray, List.set_cons_zero, List.set_cons_succ]
      refine wpAnyH_take (i := 8) (oi := { dst := some 61, op := .pick (.tmp 58) (.const (.bool true)) (.tmp 60), type := 4, pos := "law.go:61", after := #[{ on := 5, ground := .data }, { on := 7, ground := .data }], guard := none }) (v := .bool false) rfl (by kernel_rfl) (by kernel_rfl) (by kernel_rfl) (fun _ _ _ h => h) (Or.inl ⟨by rfl, ?_⟩) (by assumption) ?_
      · intro _ _; go_simp
      simp only [Act.put, List.setIfInBounds_toArray, List.set_cons_zero, List.set_cons_succ]
      refine wpAnyH_take (i := 9) (oi := { dst := some 62, op := .move (.tmp 61), type := 4, pos := "law.go:61", after := #[{ on := 8, ground := .data }, { on := 5, ground := .chain }], guard := none }) (v := .bool false) rfl (by kernel_rfl) (by kernel_rfl) (by kernel_rfl) (fun _ _ _ h => h) (Or.inl ⟨by rfl, ?_⟩) (by assumption) ?_
      · intro _ _; go_simp
      simp only [Act.put, List.setIfInBounds_toArray, List.set_cons_zero, List.set_cons_succ]
      refine wpAnyH_take (i := 10) (oi := { dst := some 63, op := .move (.tmp 0), type := 25, pos := "law.go:61", after := #[{ on := 9, ground := .guard }], guard := some (9, false) }) (v := ?_) rfl (by kernel_rfl) (by kernel_rfl) (by kernel_rfl) (fun _ _ _ h => h) (Or.inl ⟨by rfl, ?_⟩) (by assumption) ?_
      rotate_left
      · intro _ _; go_simp; first | done | with_reducible rfl
      simp only [Act.put, List.setIfInBounds_toArray, List.set_cons_zero, List.set_cons_succ]
      refine wpAnyH_take (i := 11) (oi := { dst := some 64, op := .fieldAddr 60 (.tmp 7) 0, type := 0, pos := "law.go:61", after := #[{ on := 9, ground := .guard }], guard := some (9, false) }) (v := ?_) rfl (by kernel_rfl) (by kernel_rfl) (by kernel_rfl) (fun _ _ _ h => h) (Or.inl ⟨by rfl, ?_⟩) (by assumption) ?_
      rotate_left
      · intro _ _; go_simp; first | done | with_reducible rfl
      simp only [Act.put, List.setIfInBounds_toArray, List.set_cons_zero, List.set_cons_succ]
      refine wpAnyH_take (i := 12) (oi := { dst := some 65, op := .load 9 (.tmp 64), type := 9, pos := "law.go:61", after := #[{ on := 11, ground := .data }, { on := 9, ground := .guard }], guard := some (9, false) }) (v := .string nm) rfl (by kernel_rfl) (by kernel_rfl) (by kernel_rfl) (fun _ _ _ h => h) (Or.inl ⟨by rfl, ?_⟩) (by assumption) ?_
      · intro _ _; rename_i wz hz; obtain ⟨cz, cz0, cz1, cz2⟩ := hz; go_simp
      simp only [Act.put, List.setIfInBounds_toArray, List.set_cons_zero, List.set_cons_succ]
      refine wpAnyH_take (i := 14) (oi := { dst := some 67, op := .fieldAddr 60 (.tmp 7) 2, type := 0, pos := "law.go:61", after := #[{ on := 9, ground := .guard }], guard := some (9, false) }) (v := ?_) rfl (by kernel_rfl) (by kernel_rfl) (by kernel_rfl) (fun _ _ _ h => h) (Or.inl ⟨by rfl, ?_⟩) (by assumption) ?_
      rotate_left
      · intro _ _; go_simp; first | done | with_reducible rfl
      simp only [Act.put, List.setIfInBounds_toArray, List.set_cons_zero, List.set_cons_succ]
      refine wpAnyH_take (i := 15) (oi := { dst := some 68, op := .load 3 (.tmp 67), type := 3, pos := "law.go:61", after := #[{ on := 14, ground := .data }, { on := 9, ground := .guard }], guard := some (9, false) }) (v := .int .i64 xs) rfl (by kernel_rfl) (by kernel_rfl) (by kernel_rfl) (fun _ _ _ h => h) (Or.inl ⟨by rfl, ?_⟩) (by assumption) ?_
      · intro _ _; rename_i wz hz; obtain ⟨cz, cz0, cz1, cz2⟩ := hz; go_simp
      simp only [Act.put, List.setIfInBounds_toArray, List.set_cons_zero, List.set_cons_succ]
      refine wpAnyH_ready (rs := [13]) (by kernel_rfl) (by simp) ?_
      refine AllReadyH.cons (o := { dst := some 66, op := .call { callee := .value (.func 15), args := #[.tmp 63, .tmp 65], argTypes := #[25, 9] }, type := 3, pos := "law.go:61", after := #[{ on := 10, ground := .data }, { on := 12, ground := .data }, { on := 9, ground := .chain }, { on := 9, ground := .guard }], guard := some (9, false) }) rfl (fun K hK => ?_) AllReadyH.nil
      go_simp
      refine Calls.mono (safe_any f S nm _ (H1.out.sys.below HB5.out.drew).fs) ?_; rintro e w6 ⟨rfl, hb6⟩; rw [HSV.out]; have HB6 : Hid (Below w5.heap.size w5 w6) := below_undrewR hb6; clear hb6
      go_simp
      refine hK.out _ _ (⟨SrcB.below HS5.out HB6.out, cell_below HB6.out (HBX5.out.one rfl), cell_below HB6.out (HBX5.out.one rfl), cell_below HB6.out (HBX5.out.one rfl)⟩) (fun hHeld => ?_)
      clear hK K
      refine wpAnyH_take (i := 16) (oi := { dst := some 69, op := .binOp Go.BinOp.neq 3 (.tmp 66) (.tmp 68) 3, type := 4, pos := "law.go:61", after := #[{ on := 13, ground := .data }, { on := 15, ground := .data }, { on := 9, ground := .guard }], guard := some (9, false) }) (v := .bool false) rfl (by kernel_rfl) (by kernel_rfl) (by kernel_rfl) (fun _ _ _ h => h) (Or.inl ⟨by rfl, ?_⟩) (by assumption) ?_
      · intro _ _; go_simp
      simp only [Act.put, List.setIfInBounds_toArray, List.set_cons_zero, List.set_cons_succ]
      refine wpAnyH_take (i := 17) (oi := { dst := some 70, op := .pick (.tmp 62) (.const (.bool true)) (.tmp 69), type := 4, pos := "law.go:61", after := #[{ on := 9, ground := .data }, { on := 16, ground := .data }], guard := none }) (v := ?_) rfl (by kernel_rfl) (by kernel_rfl) (by kernel_rfl) (fun _ _ _ h => h) (Or.inl ⟨by rfl, ?_⟩) (by assumption) ?_
      rotate_left
      · intro _ _; go_simp; first | done | with_reducible rfl
      simp only [Act.put, List.setIfInBounds_toArray, List.set_cons_zero, List.set_cons_succ]
      refine wpAnyH_done (by kernel_rfl) ?_ _
      refine NoPanic.normal ?_
      clear hHeld
      have HO6 : Hid (OwnS w6 wb.heap.size (.slice a4 (j + 1) c4) ((R.L.take (j + 1)).map Prod.fst)) := by rw [HTK.out]; exact HO5.out.below HB6.out
      have HBF : Hid (Below wb.heap.size wb w6) := HB5.out.trans (HB6.out.mono HB5.out.size)
      clear HO5 HB6 HBX5 HS5 HB5
      go_wp2_with fail
      go_roundw
      case rel => exact ⟨j + 1, a4, c4, by omega, by go_num, rfl, HO6.out, HBF.out⟩
      case measure => simp [intOf]; omega
    · obtain rfl : j = z := by omega
      have e1 : ¬ (j : Int) < (j : Int) := by omega
      rw [List.take_of_length_le (by rw [← HZ.out]; exact Nat.le_refl _)] at HO
      have HNM : Hid _ := (H1.out.below HB.out).names (by have := HQ.out; omega)
      go_wp2_with fail
      refine Calls.mono HNM.out ?_
      rintro e w4 ⟨v4, rfl, ho4, hb4⟩
      have HST : Hid _ := strings_eq v4 (.slice ab j cb) (R.L.map Prod.fst) w4 (OwnS.src ho4) (OwnS.src (HO.out.below hb4)) (by rw [List.length_map, ← HZ.out]; omega)
      have HB4 : Hid (Below wb.heap.size wb w4) := HB.out.trans (hb4.mono HB.out.size)
      clear ho4 hb4 HNM
      go_wp2_with fail
      refine Calls.mono HST.out ?_
      rintro e w5 ⟨rfl, hb5⟩
      have HB5 : Hid (Below wb.heap.size wb w5) := HB4.out.trans (hb5.mono HB4.out.size)
      clear hb5 HST
      go_wp2_with fail
      go_ret
      exact ⟨rfl, HBB.out _ HB5.out⟩
end Go.Proofs.Ytlapnnkahijikaa
