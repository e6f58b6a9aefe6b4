/- coraclelaw9: (table).put. -/
import Derived.Test.YtlapnnkahijikaaGreatDoorZKD
namespace Go.Proofs.YtlapnnkahijikaaGreatDoor
open Go.ChangeShapes Go.WideShapes Go.ChangeAt Go.RowKit Go.Lib

theorem OwnS.lit0 (w : World) : OwnS (w.alloc (.cells #[] 9)) w.heap.size (.slice (some ⟨w.heap.size, 0, none⟩) 0 0) [] :=
  ⟨rfl, .inr ⟨w.heap.size, 0, #[], rfl, Nat.le_refl _, World.alloc_heap_new w _, Nat.le_refl _, Nat.zero_le _, rfl, rfl⟩⟩
theorem SrcU.one (w : World) (k : ByteArray) (t : TypeId) : SrcU (w.alloc (.cells #[.string k] t)) (.slice (some ⟨w.heap.size, 0, none⟩) 1 1) [k] := by
  refine .inr ⟨w.heap.size, 0, 1, rfl, fun j x hx => ?_⟩
  have hb : Blk (w.alloc (.cells #[.string k] t)) w.heap.size [.string k] := Blk.mk _ _ _ rfl rfl
  match j, hx with
  | 0, hx =>
    have hx : k = x := by simpa using hx
    rw [← hx]; exact hb.one rfl
/-- Two rows of the call's own, apart from each other, from block B on. -/
structure Two (w : World) (B : Nat) (k v : Value) (K V : List ByteArray) : Prop where
  one : OwnS w B k K
  two : OwnS w B v V
  apart : ∀ j, k.ownBlock = some j → v.ownBlock ≠ some j
section
variable {w w' : World} {B : Nat} {k k' v v' : Value} {K V R : List ByteArray}
theorem Two.below (h : Two w B k v K V) (hb : Below w.heap.size w w') : Two w' B k v K V := ⟨h.one.below hb, h.two.below hb, h.apart⟩
theorem Two.first (h : Two w B k v K V) (ho : OwnS w' B k' R) (hg : w.grownBy w' k.ownBlock) (hm : Moved w k k') : Two w' B k' v R V := by
  refine ⟨ho, h.two.same fun j e => hg.block j (h.two.lt j e).2 fun e' => h.apart j e'.symm e, fun j e e' => ?_⟩
  rcases hm with hm | ⟨g, hg, hm⟩
  · rw [hm] at e; exact h.apart j e e'
  · rw [hm] at e
    injection e with e
    have := (h.two.lt j e').2
    omega
theorem Two.second (h : Two w B k v K V) (ho : OwnS w' B v' R) (hg : w.grownBy w' v.ownBlock) (hm : Moved w v v') : Two w' B k v' K R := by
  refine ⟨h.one.same fun j e => hg.block j (h.one.lt j e).2 fun e' => h.apart j e e'.symm, ho, fun j e e' => ?_⟩
  rcases hm with hm | ⟨g, hg, hm⟩
  · rw [hm] at e'; exact h.apart j e e'
  · rw [hm] at e'
    injection e' with e'
    have := (h.one.lt j e).2
    omega
end
/-- What the loop of put keeps: the table's box, and the other one. -/
structure PutSt (w0 w : World) (X : Nat) (kv vv : Value) (T : List Pr) (N : Nat) : Prop where
  box : Blk w X [kv, vv]
  res : Blk w (X + 1) [.slice none 0 0, .slice none 0 0]
  tab : TabAt w N kv vv T
  base : Below X w0 w
  apart : ∀ j, (kv.ownBlock = some j ∨ vv.ownBlock = some j) → j ≠ X + 1
theorem PutSt.below {w0 w w' : World} {X N : Nat} {kv vv : Value} {T : List Pr} (h : PutSt w0 w X kv vv T N) (hb : Below w.heap.size w w') : PutSt w0 w' X kv vv T N :=
  ⟨h.box.below hb h.box.lt, h.res.below hb h.res.lt, h.tab.below hb, h.base.trans (hb.mono (by have := h.box.lt; omega)), h.apart⟩
theorem PutSt.grown {w0 w w' : World} {X N : Nat} {kv vv : Value} {T : List Pr} {row : Option Nat} (h : PutSt w0 w X kv vv T N) (hg : w.grownBy w' row) (hr : ∀ j, row = some j → X + 1 < j ∧ kv.ownBlock ≠ some j ∧ vv.ownBlock ≠ some j) : PutSt w0 w' X kv vv T N := by
  refine ⟨h.box.grownBy hg fun e => by have := (hr X e).1; omega, h.res.grownBy hg fun e => by have := (hr (X + 1) e).1; omega, ⟨h.tab.keys.same fun j e => hg.block j (h.tab.keys.lt j e).2 fun e' => (hr j e'.symm).2.1 e, h.tab.vals.same fun j e => hg.block j (h.tab.vals.lt j e).2 fun e' => (hr j e'.symm).2.2 e⟩, ?_, h.apart⟩
  exact h.base.grown hg (by have := h.box.lt; omega) fun j e => by have := (hr j e).1; omega
theorem PutSt.stored {w0 w w' : World} {X N M B : Nat} {kv vv k v : Value} {U T : List Pr} {K V : List ByteArray} (h : PutSt w0 w X kv vv U M) (ht : Two w B k v K V) (hX : X + 1 < B) (hN : N ≤ B) (hK : K = T.map Pr.k) (hV : V = T.map Pr.v)
    (e : (w.setCell ⟨X, 0, none⟩ k).setCell ⟨X, 1, none⟩ v = w') : PutSt w0 w' X k v T N := by
  subst e
  have hs : ∀ j, j ≠ X → ((w.setCell ⟨X, 0, none⟩ k).setCell ⟨X, 1, none⟩ v).heap[j]? = w.heap[j]? := fun j hj => by
    rw [Below.heap_setCell _ _ _ j (by simpa using hj), Below.heap_setCell _ _ _ j (by simpa using hj)]
  refine ⟨(h.box.set 0 k).set 1 v, ?_, ⟨?_, ?_⟩, ?_, fun j hj => ?_⟩
  · obtain ⟨t, hr⟩ := h.res
    exact ⟨t, by rw [hs _ (by omega)]; exact hr⟩
  · rw [← hK]
    exact (ht.one.less hN).same fun j hj => hs j (by have := (ht.one.lt j hj).1; omega)
  · rw [← hV]
    exact (ht.two.less hN).same fun j hj => hs j (by have := (ht.two.lt j hj).1; omega)
  · exact (h.base.setCell (Nat.le_refl _) _).setCell (Nat.le_refl _) _
  · rcases hj with hj | hj
    · have := (ht.one.lt j hj).1; omega
    · have := (ht.two.lt j hj).1; omega
theorem own_lt {w : World} {B N : Nat} {v u : Value} {ss : List ByteArray} (h : OwnS w N v ss) (hB : w.heap.size ≤ B) (hu : ∀ j, u.ownBlock = some j → B ≤ j) : ∀ j, u.ownBlock = some j → v.ownBlock ≠ some j := fun j e e' => by
  have := (h.lt j e').2
  have := hu j e
  omega
/-- Where a table's rows begin, behind so many pairs. -/
def tabN (k N X : Nat) : Nat := if k = 0 then N else X
set_option maxRecDepth 100000 in
set_option maxHeartbeats 8000000 in
theorem tabput_any (kv vv : Value) (T : List Pr) (a : Option Addr) (n cap : Nat) (b : List Pr) (N0 : Nat) (w : World) (h : TabAt w N0 kv vv T) (hb : Els w a n cap b) (hsz : T.length + n ≤ 1000000) (hN : N0 ≤ w.heap.size) :
    Calls Tryz.prog 13 #[.agg #[kv, vv], .slice a n cap] w fun e w' => ∃ kv' vv', e = .returned (.agg #[kv', vv']) ∧ TabAt w' (tabN n N0 w.heap.size) kv' vv' (tbat T b) ∧ Below w.heap.size w w' := by
  have HMO : Hid (Tryz.prog.follows .mixedOrders = true) := show _ = _ by kernel_rfl
  obtain ⟨a1, c1, hv1, _⟩ := h.keys.facts
  obtain ⟨a2, c2, hv2, _⟩ := h.vals.facts
  subst hv1
  subst hv2
  have H : Hid (TabAt w N0 (.slice a1 (T.map Pr.k).length c1) (.slice a2 (T.map Pr.v).length c2) T) := h
  have HE : Hid (Els w a n cap b) := hb
  have HN : Hid (b.length = n) := hb.len
  have hn63 : n ≤ 9223372036854775807 := by have h1 := hb.fits; have h2 := hb.most; unfold maxLen at h2; omega
  have HS : Hid (∀ k, k ≤ n → (tbat T (b.take k)).length ≤ 1000000) := fun k hk => by
    have := tbat_length (b := b.take k) (T := T)
    rw [List.length_take, hb.len] at this
    omega
  generalize (T.map Pr.k).length = l1 at *
  generalize (T.map Pr.v).length = l2 at *
  clear h hb hsz
  go_enter Tryz.func13, Tryz.ntmps13
  go_upto_region 1 with fail
  generalize hw1 : World.alloc _ _ = w1
  have HP1 : Hid (PutSt w w1 w.heap.size (.slice a1 l1 c1) (.slice a2 l2 c2) T N0) := by
    rw [← hw1]
    have hbb : Below w.heap.size w ((w.alloc (.cells #[.slice a1 l1 c1, .slice a2 l2 c2] 34)).alloc (.cells #[.slice none 0 0, .slice none 0 0] 34)) := ((Below.refl _ _).alloc (Nat.le_refl _) _).alloc (by simp) _
    exact ⟨(Blk.mk _ _ _ rfl rfl).alloc _, Blk.mk _ _ _ (by simp) rfl, H.out.below hbb, hbb, fun j hj => hj.elim (fun hj => by have := (H.out.keys.lt j hj).2; omega) (fun hj => by have := (H.out.vals.lt j hj).2; omega)⟩
  clear hw1 H
  have HN0 : Hid (N0 ≤ w.heap.size) := hN
  clear hN
  generalize hX : w.heap.size = X at *
  go_wp2_with fail
  go_loopw [5] (fun i wr => ∃ (k : Nat) (b1 b2 : Option Addr) (m1 m2 d1 d2 : Nat), k ≤ n ∧ i = .int .i64 k ∧ Hid (PutSt w wr X (.slice b1 m1 d1) (.slice b2 m2 d2) (tbat T (b.take k)) (tabN k N0 X))) (fun i _ => n - (intOf i).toNat)
  case atStart => exact ⟨0, a1, a2, l1, l2, c1, c2, Nat.zero_le _, rfl, by show PutSt _ _ _ _ _ _ _; rw [List.take_zero]; exact HP1.out⟩
  case round =>
    obtain ⟨k, b1, b2, m1, m2, d1, d2, hk, rfl, HP⟩ := hrel
    clear HP1
    obtain ⟨N, hNe⟩ : ∃ N, N = tabN k N0 X := ⟨_, rfl⟩
    rw [← hNe] at HP
    have HNX : Hid (N ≤ X) := show _ ≤ _ by have := HN0.out; rw [hNe]; unfold tabN; split <;> omega
    have HNE : Hid (N = tabN k N0 X) := hNe
    clear hNe
    by_cases hlt : k < n
    · have e0 : (0 : Int) ≤ (k : Int) := by omega
      have e1 : (k : Int) < (n : Int) := by omega
      obtain ⟨bb, o, rfl, q0, q1, q2⟩ := HE.out.pr hlt
      have HTB : Hid (tbat T (b.take (k + 1)) = tput (b.getD k default) (tbat T (b.take k))) := tbat_next T b k (by rw [HN.out]; exact hlt)
      have HTL : Hid ((tbat T (b.take k)).length ≤ 1000000) := HS.out k hk
      generalize b.getD k default = p at *
      generalize tbat T (b.take k) = U at *
      have HQ : Hid (∀ w', Below X w w' → w'.cell? ⟨bb, o + k * 3, none⟩ = some (.string p.k) ∧ w'.cell? ⟨bb, o + k * 3 + 1, none⟩ = some (.string p.v) ∧ w'.cell? ⟨bb, o + k * 3 + 2, none⟩ = some (.bool p.g)) := fun w' hb' => by
        rw [← hX] at hb'
        exact ⟨cell_below' hb' q0, cell_below' hb' q1, cell_below' hb' q2⟩
      obtain ⟨g1, f1, hv1, hr1, hr2, _⟩ := HP.out.tab.keys.facts
      obtain ⟨g2, f2, hv2, hr3, hr4, _⟩ := HP.out.tab.vals.facts
      rw [List.length_map] at hv1 hv2 hr1 hr3
      have hm1 : m1 = U.length := by injection hv1
      have hm2 : m2 = U.length := by injection hv2
      have hd1 : d1 = f1 := by injection hv1
      have hd2 : d2 = f2 := by injection hv2
      rw [← hd1, ← hm1] at hr1
      rw [← hd2, ← hm2] at hr3
      rw [← hd1] at hr2
      rw [← hd2] at hr4
      have HM : Hid (m1 = U.length ∧ m2 = U.length) := ⟨hm1, hm2⟩
      have hd1m : d1 ≤ 9223372036854775807 := by unfold maxLen at hr2; omega
      have hd2m : d2 ≤ 9223372036854775807 := by unfold maxLen at hr4; omega
      clear hv1 hv2 hm1 hm2 hd1 hd2 q0 q1 q2 hr2 hr4
      obtain ⟨pk, pv, pg⟩ := p
      simp only at HQ
      go_upto_region 4 with fail
      have HAT : Hid (∀ wj, TabAt wj N (.slice b1 m1 d1) (.slice b2 m2 d2) U → Calls Tryz.prog 35 #[.agg #[.slice b1 m1 d1, .slice b2 m2 d2], .string pk] wj fun e w' => e = .returned (.tuple #[.int .i64 (tpos pk U), .bool (tat pk U)]) ∧ Below wj.heap.size wj w') := fun wj hj => at_any _ _ U pk N wj hj
      have HPL : Hid (tpos pk U ≤ U.length) := tpos_le pk U
      have HTL2 : Hid (tat pk U = true → tpos pk U + 1 ≤ U.length) := fun e => by
        unfold tat at e
        simp only [Bool.and_eq_true, decide_eq_true_eq] at e
        omega
      have HCUT : Hid (tput ⟨pk, pv, pg⟩ U = U.take (tpos pk U) ++ (if pg = true then [] else [⟨pk, pv, pg⟩]) ++ U.drop (if tat pk U = true then tpos pk U + 1 else tpos pk U)) := tput_cut ⟨pk, pv, pg⟩ U
      generalize tpos pk U = P at *
      generalize tat pk U = TA at *
      refine wp_region_noPanic ?_
      refine wp_region_held_drew (S := fun w' => w'.cell? ⟨X, 0, none⟩ = some (.slice b1 m1 d1) ∧ w'.cell? ⟨X, 1, none⟩ = some (.slice b2 m2 d2) ∧ w'.cell? ⟨bb, o + k * 3, none⟩ = some (.string pk)) HMO.out (⟨HP.out.box.drew.one rfl, HP.out.box.drew.one rfl, (HQ.out _ HP.out.base).1⟩) (fun hHeld => ?_)
      refine wpAnyH_take (i := 0) (oi := { dst := some 18, op := .load 34 (.tmp 2), type := 34, pos := "law.go:29", after := #[], guard := none }) (v := .agg #[.slice b1 m1 d1, .slice b2 m2 d2]) rfl (by kernel_rfl) (by kernel_rfl) (by kernel_rfl) (fun _ _ _ h => h) (Or.inl ⟨by rfl, ?_⟩) (by assumption) ?_
      · intro _ _; rename_i wz hz; have cz := hz.1; have cy := hz.2.1; go_simp
      simp only [Act.put, List.setIfInBounds_toArray, List.set_cons_zero, List.set_cons_succ]
      refine wpAnyH_take (i := 1) (oi := { dst := some 19, op := .move (.tmp 1), type := 36, pos := "law.go:29", after := #[], guard := none }) (v := ?_) rfl (by kernel_rfl) (by kernel_rfl) (by kernel_rfl) (fun _ _ _ h => h) (Or.inl ⟨by rfl, ?_⟩) (by assumption) ?_
      rotate_left
      · intro _ _; go_simp; first | done | with_reducible rfl
      simp only [Act.put, List.setIfInBounds_toArray, List.set_cons_zero, List.set_cons_succ]
      refine wpAnyH_take (i := 2) (oi := { dst := some 20, op := .move (.tmp 5), type := 3, pos := "law.go:29", after := #[], guard := none }) (v := ?_) rfl (by kernel_rfl) (by kernel_rfl) (by kernel_rfl) (fun _ _ _ h => h) (Or.inl ⟨by rfl, ?_⟩) (by assumption) ?_
      rotate_left
      · intro _ _; go_simp; first | done | with_reducible rfl
      simp only [Act.put, List.setIfInBounds_toArray, List.set_cons_zero, List.set_cons_succ]
      refine wpAnyH_take (i := 3) (oi := { dst := some 21, op := .indexAddr 36 (.tmp 19) (.tmp 20), type := 0, pos := "law.go:29", after := #[{ on := 1, ground := .data }, { on := 2, ground := .data }], guard := none }) (v := ?_) rfl (by kernel_rfl) (by kernel_rfl) (by kernel_rfl) (fun _ _ _ h => h) (Or.inl ⟨by rfl, ?_⟩) (by assumption) ?_
      rotate_left
      · intro _ _; go_simp; first | done | with_reducible rfl
      simp only [Act.put, List.setIfInBounds_toArray, List.set_cons_zero, List.set_cons_succ]
      refine wpAnyH_take (i := 4) (oi := { dst := some 22, op := .fieldAddr 48 (.tmp 21) 0, type := 0, pos := "law.go:29", after := #[{ on := 3, ground := .data }], guard := none }) (v := ?_) rfl (by kernel_rfl) (by kernel_rfl) (by kernel_rfl) (fun _ _ _ h => h) (Or.inl ⟨by rfl, ?_⟩) (by assumption) ?_
      rotate_left
      · intro _ _; go_simp; first | done | with_reducible rfl
      simp only [Act.put, List.setIfInBounds_toArray, List.set_cons_zero, List.set_cons_succ]
      refine wpAnyH_take (i := 5) (oi := { dst := some 23, op := .load 9 (.tmp 22), type := 9, pos := "law.go:29", after := #[{ on := 4, ground := .data }], guard := none }) (v := .string pk) rfl (by kernel_rfl) (by kernel_rfl) (by kernel_rfl) (fun _ _ _ h => h) (Or.inl ⟨by rfl, ?_⟩) (by assumption) ?_
      · intro _ _; rename_i wz hz; have cz := hz.2.2; go_simp
      simp only [Act.put, List.setIfInBounds_toArray, List.set_cons_zero, List.set_cons_succ]
      refine wpAnyH_ready (rs := [6]) (by kernel_rfl) (by simp) ?_
      refine AllReadyH.cons (o := { dst := some 24, op := .call { callee := .value (.func 35), args := #[.tmp 18, .tmp 23], argTypes := #[34, 9] }, type := 74, pos := "law.go:29", after := #[{ on := 0, ground := .data }, { on := 5, ground := .data }], guard := none }) rfl (fun K hK => ?_) AllReadyH.nil
      go_simp
      refine (HAT.out _ (HP.out.tab.below ((Below.refl _ _).drew))).mono ?_; rintro e w3 ⟨rfl, hb3⟩; have hb3' := below_undrew hb3; have HP3 : Hid (PutSt w w3 X (.slice b1 m1 d1) (.slice b2 m2 d2) U N) := HP.out.below hb3'; clear hb3 hb3'
      go_simp
      refine hK.out _ _ (⟨HP3.out.box.one rfl, HP3.out.box.one rfl, (HQ.out _ HP3.out.base).1⟩) (fun hHeld => ?_)
      clear hK K
      refine wpAnyH_take (i := 7) (oi := { dst := some 17, op := .move (.tmp 24), type := 74, pos := "law.go:29", after := #[{ on := 6, ground := .data }], guard := none }) (v := ?_) rfl (by kernel_rfl) (by kernel_rfl) (by kernel_rfl) (fun _ _ _ h => h) (Or.inl ⟨by rfl, ?_⟩) (by assumption) ?_
      rotate_left
      · intro _ _; go_simp; first | done | with_reducible rfl
      simp only [Act.put, List.setIfInBounds_toArray, List.set_cons_zero, List.set_cons_succ]
      refine wpAnyH_take (i := 8) (oi := { dst := some 25, op := .extract (.tmp 17) 0, type := 3, pos := "law.go:29", after := #[{ on := 7, ground := .data }], guard := none }) (v := ?_) rfl (by kernel_rfl) (by kernel_rfl) (by kernel_rfl) (fun _ _ _ h => h) (Or.inl ⟨by rfl, ?_⟩) (by assumption) ?_
      rotate_left
      · intro _ _; go_simp; first | done | with_reducible rfl
      simp only [Act.put, List.setIfInBounds_toArray, List.set_cons_zero, List.set_cons_succ]
      refine wpAnyH_take (i := 9) (oi := { dst := some 26, op := .extract (.tmp 17) 1, type := 4, pos := "law.go:29", after := #[{ on := 7, ground := .data }, { on := 10, ground := .gcOnly Go.Departure.lateStores }], guard := none }) (v := ?_) rfl (by kernel_rfl) (by kernel_rfl) (by kernel_rfl) (fun _ _ _ h => h) (Or.inl ⟨by rfl, ?_⟩) (by assumption) ?_
      rotate_left
      · intro _ _; go_simp; first | done | with_reducible rfl
      simp only [Act.put, List.setIfInBounds_toArray, List.set_cons_zero, List.set_cons_succ]
      refine wpAnyH_take (i := 10) (oi := { dst := some 6, op := .assign (.tmp 25), type := 3, pos := "law.go:29", after := #[{ on := 8, ground := .data }, { on := 6, ground := .chain }, { on := 0, ground := .phase }, { on := 1, ground := .phase }, { on := 2, ground := .phase }, { on := 3, ground := .phase }, { on := 4, ground := .phase }, { on := 5, ground := .phase }, { on := 6, ground := .phase }, { on := 7, ground := .phase }, { on := 8, ground := .phase }, { on := 9, ground := .textOnly Go.Departure.lateStores }], guard := none }) (v := ?_) rfl (by kernel_rfl) (by kernel_rfl) (by kernel_rfl) (fun _ _ _ h => h) (Or.inl ⟨by rfl, ?_⟩) (by assumption) ?_
      rotate_left
      · intro _ _; go_simp; first | done | with_reducible rfl
      simp only [Act.put, List.setIfInBounds_toArray, List.set_cons_zero, List.set_cons_succ]
      refine wpAnyH_take (i := 11) (oi := { dst := some 7, op := .assign (.tmp 26), type := 4, pos := "law.go:29", after := #[{ on := 9, ground := .data }, { on := 10, ground := .chain }, { on := 0, ground := .phase }, { on := 1, ground := .phase }, { on := 2, ground := .phase }, { on := 3, ground := .phase }, { on := 4, ground := .phase }, { on := 5, ground := .phase }, { on := 6, ground := .phase }, { on := 7, ground := .phase }, { on := 8, ground := .phase }, { on := 9, ground := .phase }, { on := 10, ground := .phase }], guard := none }) (v := ?_) rfl (by kernel_rfl) (by kernel_rfl) (by kernel_rfl) (fun _ _ _ h => h) (Or.inl ⟨by rfl, ?_⟩) (by assumption) ?_
      rotate_left
      · intro _ _; go_simp; first | done | with_reducible rfl
      simp only [Act.put, List.setIfInBounds_toArray, List.set_cons_zero, List.set_cons_succ]
      refine wpAnyH_done (by kernel_rfl) ?_ _
      refine NoPanic.normal ?_
      clear hHeld HAT HP
      cases TA with
      | true =>
        cases pg with
        | true =>
          have hPl : P ≤ U.length := HPL.out
          obtain ⟨Q, hQ1⟩ : ∃ Q : Nat, (P : Int) + 1 = (Q : Int) := ⟨P + 1, by omega⟩
          have hRl : Q ≤ U.length := by have := HTL2.out rfl; omega
          have HQP : Hid (P + 1 = Q) := show _ = _ by omega
          have hP6 : (P : Int) ≤ 1000000 := by have := HTL.out; omega
          go_upto_region 8 with fail
          clear hQ1
          have HKV : Hid ((∀ j, (Value.slice b1 m1 d1).ownBlock = some j → j < w3.heap.size) ∧ (∀ j, (Value.slice b2 m2 d2).ownBlock = some j → j < w3.heap.size) ∧ X + 1 < w3.heap.size) := ⟨fun j e => (HP3.out.tab.keys.lt j e).2, fun j e => (HP3.out.tab.vals.lt j e).2, HP3.out.res.lt⟩
          have e3 : (P : Int) ≤ (m1 : Int) := by have := HM.out; omega
          have e4 : (P : Int) ≤ (m2 : Int) := by have := HM.out; omega
          have e3' : (P : Int) ≤ (d1 : Int) := by omega
          have e4' : (P : Int) ≤ (d2 : Int) := by omega
          have hx0 : w3.cell? ⟨X, 0, none⟩ = some (.slice b1 m1 d1) := HP3.out.box.one rfl
          have HBA : Hid (Below w3.heap.size w3 (w3.alloc (.cells #[] 9))) := (Below.refl _ _).alloc (Nat.le_refl _) _
          have HSA : Hid (SrcU w3 (.slice b1 P d1) ((U.map Pr.k).take P)) := HP3.out.tab.keys.cutL P (by rw [List.length_map]; have := HM.out; omega)
          have HLK : Hid (∀ L : List ByteArray, L.length = U.length → (L.take P).length = P) := fun L hL => by rw [List.length_take]; omega
          have HTK : Hid (∀ L : List ByteArray, L.length = U.length → (L.take P).length ≤ 1000000) := fun L hL => by have := HTL.out; rw [List.length_take]; omega
          have hx0a : (w3.alloc (.cells #[] 9)).cell? ⟨X, 0, none⟩ = some (.slice b1 m1 d1) := cell_below' HBA.out hx0
          go_upto_region 9 with (at_builtin; refine wpList_append_u rfl _ _ rfl w3.heap.size _ [] rfl (OwnS.lit0 _) _ ((U.map Pr.k).take P) rfl (HSA.out.below HBA.out) (by have := HTK.out (U.map Pr.k) (by simp); simp only [List.length_nil]; omega) (by simp) ?_; intro v4 w4 HO4 HG4 HM4; rw [List.nil_append] at HO4; obtain ⟨g4, c4, hv4, _⟩ := HO4.out.facts; rw [HLK.out _ (by simp)] at hv4; subst hv4)
          have HP4 : Hid (PutSt w w4 X (.slice b1 m1 d1) (.slice b2 m2 d2) U N) := (HP3.out.below HBA.out).grown HG4.out (fun j e => by injection e with e; simp only at e; refine ⟨by have := HKV.out.2.2; omega, fun e' => by have := HKV.out.1 j e'; omega, fun e' => by have := HKV.out.2.1 j e'; omega⟩)
          have HZ4 : Hid (w3.heap.size + 1 ≤ w4.heap.size) := by have := HG4.out.size; simp at this; exact this
          clear HBA HSA HG4 HM4 HP3 hx0 hx0a
          generalize hB1 : w3.heap.size = B1 at *
          have hx1 : w4.cell? ⟨X, 1, none⟩ = some (.slice b2 m2 d2) := HP4.out.box.one rfl
          have HBA : Hid (Below w4.heap.size w4 (w4.alloc (.cells #[] 9))) := (Below.refl _ _).alloc (Nat.le_refl _) _
          have HSA : Hid (SrcU w4 (.slice b2 P d2) ((U.map Pr.v).take P)) := HP4.out.tab.vals.cutL P (by rw [List.length_map]; have := HM.out; omega)
          have hx1a : (w4.alloc (.cells #[] 9)).cell? ⟨X, 1, none⟩ = some (.slice b2 m2 d2) := cell_below' HBA.out hx1
          go_upto_region 10 with (at_builtin; refine wpList_append_u rfl _ _ rfl w4.heap.size _ [] rfl (OwnS.lit0 _) _ ((U.map Pr.v).take P) rfl (HSA.out.below HBA.out) (by have := HTK.out (U.map Pr.v) (by simp); simp only [List.length_nil]; omega) (by simp) ?_; intro v5 w5 HO5 HG5 HM5; rw [List.nil_append] at HO5; obtain ⟨g5, c5, hv5, _⟩ := HO5.out.facts; rw [HLK.out _ (by simp)] at hv5; subst hv5)
          have HP5 : Hid (PutSt w w5 X (.slice b1 m1 d1) (.slice b2 m2 d2) U N) := (HP4.out.below HBA.out).grown HG5.out (fun j e => by injection e with e; simp only at e; have := HZ4.out; refine ⟨by have := HKV.out.2.2; omega, fun e' => by have := HKV.out.1 j e'; omega, fun e' => by have := HKV.out.2.1 j e'; omega⟩)
          have HT5 : Hid (Two w5 B1 (.slice g4 P c4) (.slice g5 P c5) ((U.map Pr.k).take P) ((U.map Pr.v).take P)) := by
            refine ⟨(HO4.out.below HBA.out).same fun j e => HG5.out.block j (by have := (HO4.out.lt j e).2; simp; omega) (fun e' => by injection e' with e'; simp only at e'; have := (HO4.out.lt j e).2; omega), HO5.out.less (by have := HZ4.out; omega), fun j e e' => by have := (HO4.out.lt j e).2; have := (HO5.out.lt j e').1; omega⟩
          have HZ5 : Hid (B1 ≤ w5.heap.size) := by have h1 := HG5.out.size; have h2 := HZ4.out; simp at h1; show _ ≤ _; omega
          clear HBA HSA HG5 HM5 HP4 HO4 HO5 hx1 hx1a HZ4
          have hq := HQ.out w5 HP5.out.base
          have hq0 := hq.1
          have hq1 := hq.2.1
          have hq2 := hq.2.2
          clear hq
          have HPZ : Hid (PutSt w w5 X (.slice b1 m1 d1) (.slice b2 m2 d2) U N) := HP5.out
          have HTZ : Hid (Two w5 B1 (.slice g4 P c4) (.slice g5 P c5) ((U.map Pr.k).take P) ((U.map Pr.v).take P)) := HT5.out
          have HBZ : Hid (B1 ≤ w5.heap.size) := HZ5.out
          clear HP5 HT5 HZ5
          have hz0 : w5.cell? ⟨X, 0, none⟩ = some (.slice b1 m1 d1) := HPZ.out.box.one rfl
          have hz1 : w5.cell? ⟨X, 1, none⟩ = some (.slice b2 m2 d2) := HPZ.out.box.one rfl
          obtain ⟨adr1, hadr1⟩ : ∃ x, (if d1 = Q then b1 else Option.map (fun x => x.add (Q)) b1) = x := ⟨_, rfl⟩
          obtain ⟨adr2, hadr2⟩ : ∃ x, (if d2 = Q then b2 else Option.map (fun x => x.add (Q)) b2) = x := ⟨_, rfl⟩
          have e5 : (((Q : Nat) : Int)) ≤ (m1 : Int) := by have := HM.out; omega
          have e6 : (((Q : Nat) : Int)) ≤ (m2 : Int) := by have := HM.out; omega
          have HSTH : Hid (k < n ∧ n ≤ 9223372036854775807) := ⟨hlt, hn63⟩
          have HS1 : Hid (∀ w', TabAt w' N (.slice b1 m1 d1) (.slice b2 m2 d2) U → SrcU w' (.slice adr1 (m1 - (Q)) (d1 - (Q))) ((U.map Pr.k).drop (Q))) := fun w' h => by rw [← hadr1]; exact h.keys.cutR (Q) (by rw [List.length_map]; have := HM.out; omega)
          have HS2 : Hid (∀ w', TabAt w' N (.slice b1 m1 d1) (.slice b2 m2 d2) U → SrcU w' (.slice adr2 (m2 - (Q)) (d2 - (Q))) ((U.map Pr.v).drop (Q))) := fun w' h => by rw [← hadr2]; exact h.vals.cutR (Q) (by rw [List.length_map]; have := HM.out; omega)
          have HLD : Hid (∀ L : List ByteArray, L.length = U.length → (L.drop (Q)).length ≤ 1000000 ∧ (L.take P).length ≤ 1000000) := fun L hL => by have := HTL.out; rw [List.length_drop, List.length_take]; omega
          go_upto_region 13 with fail
          clear hlt e0 e1 hk hn63 hPl hRl e3 e4 e3' e4' HPL HTL2 hd1m hd2m HQ HTK HTL HLK HE HS HN
          refine wp_region_noPanic ?_
          refine wp_region_held_drew (S := fun _ => True) HMO.out (trivial) (fun hHeld => ?_)
          refine wpAnyH_take (i := 0) (oi := { dst := some 65, op := .move (.tmp 9), type := 32, pos := "law.go:40", after := #[], guard := none }) (v := ?_) rfl (by kernel_rfl) (by kernel_rfl) (by kernel_rfl) (fun _ _ _ h => h) (Or.inl ⟨by rfl, ?_⟩) (by assumption) ?_
          rotate_left
          · intro _ _; go_simp; first | done | with_reducible rfl
          simp only [Act.put, List.setIfInBounds_toArray, List.set_cons_zero, List.set_cons_succ]
          refine wpAnyH_take (i := 1) (oi := { dst := some 66, op := .fieldAddr 34 (.tmp 2) 0, type := 0, pos := "law.go:40", after := #[], guard := none }) (v := ?_) rfl (by kernel_rfl) (by kernel_rfl) (by kernel_rfl) (fun _ _ _ h => h) (Or.inl ⟨by rfl, ?_⟩) (by assumption) ?_
          rotate_left
          · intro _ _; go_simp; first | done | with_reducible rfl
          simp only [Act.put, List.setIfInBounds_toArray, List.set_cons_zero, List.set_cons_succ]
          refine wpAnyH_take (i := 3) (oi := { dst := some 68, op := .move (.tmp 8), type := 3, pos := "law.go:40", after := #[], guard := none }) (v := ?_) rfl (by kernel_rfl) (by kernel_rfl) (by kernel_rfl) (fun _ _ _ h => h) (Or.inl ⟨by rfl, ?_⟩) (by assumption) ?_
          rotate_left
          · intro _ _; go_simp; first | done | with_reducible rfl
          simp only [Act.put, List.setIfInBounds_toArray, List.set_cons_zero, List.set_cons_succ]
          refine wpAnyH_take (i := 6) (oi := { dst := some 71, op := .move (.tmp 10), type := 32, pos := "law.go:40", after := #[], guard := none }) (v := ?_) rfl (by kernel_rfl) (by kernel_rfl) (by kernel_rfl) (fun _ _ _ h => h) (Or.inl ⟨by rfl, ?_⟩) (by assumption) ?_
          rotate_left
          · intro _ _; go_simp; first | done | with_reducible rfl
          simp only [Act.put, List.setIfInBounds_toArray, List.set_cons_zero, List.set_cons_succ]
          refine wpAnyH_take (i := 7) (oi := { dst := some 72, op := .fieldAddr 34 (.tmp 2) 1, type := 0, pos := "law.go:40", after := #[], guard := none }) (v := ?_) rfl (by kernel_rfl) (by kernel_rfl) (by kernel_rfl) (fun _ _ _ h => h) (Or.inl ⟨by rfl, ?_⟩) (by assumption) ?_
          rotate_left
          · intro _ _; go_simp; first | done | with_reducible rfl
          simp only [Act.put, List.setIfInBounds_toArray, List.set_cons_zero, List.set_cons_succ]
          refine wpAnyH_take (i := 9) (oi := { dst := some 74, op := .move (.tmp 8), type := 3, pos := "law.go:40", after := #[], guard := none }) (v := ?_) rfl (by kernel_rfl) (by kernel_rfl) (by kernel_rfl) (fun _ _ _ h => h) (Or.inl ⟨by rfl, ?_⟩) (by assumption) ?_
          rotate_left
          · intro _ _; go_simp; first | done | with_reducible rfl
          simp only [Act.put, List.setIfInBounds_toArray, List.set_cons_zero, List.set_cons_succ]
          refine wpAnyH_ready (rs := [2, 8]) (by kernel_rfl) (by simp) ?_
          refine (AllReadyH.cons (o := { dst := some 67, op := .load 32 (.tmp 66), type := 32, pos := "law.go:40", after := #[{ on := 1, ground := .data }], guard := none }) rfl (fun K hK => ?_) (AllReadyH.cons (o := { dst := some 73, op := .load 32 (.tmp 72), type := 32, pos := "law.go:40", after := #[{ on := 7, ground := .data }], guard := none }) rfl (fun K hK => ?_) AllReadyH.nil))
          · go_simp
            skip
            go_simp
            refine hK.out _ _ (trivial) (fun hHeld => ?_)
            clear hK K
            refine wpAnyH_take (i := 4) (oi := { dst := some 69, op := .slice 32 (.tmp 67) (some (.tmp 68)) none none, type := 32, pos := "law.go:40", after := #[{ on := 2, ground := .data }, { on := 3, ground := .data }], guard := none }) (v := ?_) rfl (by kernel_rfl) (by kernel_rfl) (by kernel_rfl) (fun _ _ _ h => h) (Or.inl ⟨by rfl, ?_⟩) (by assumption) ?_
            rotate_left
            · intro _ _; go_simp; first | done | with_reducible rfl
            simp only [Act.put, List.setIfInBounds_toArray, List.set_cons_zero, List.set_cons_succ]
            refine wpAnyH_ready (rs := [5, 8]) (by kernel_rfl) (by simp) ?_
            refine (AllReadyH.cons (o := { dst := some 70, op := .call { callee := .builtin Go.Builtin.append, args := #[.tmp 65, .tmp 69], argTypes := #[32, 32] }, type := 32, pos := "law.go:40", after := #[{ on := 0, ground := .data }, { on := 4, ground := .data }], guard := none }) rfl (fun K hK => ?_) (AllReadyH.cons (o := { dst := some 73, op := .load 32 (.tmp 72), type := 32, pos := "law.go:40", after := #[{ on := 7, ground := .data }], guard := none }) rfl (fun K hK => ?_) AllReadyH.nil))
            · refine step_append_u rfl _ _ rfl B1 (.slice g4 P c4) ((U.map Pr.k).take P) rfl (HTZ.out.below (Below.refl _ _).drew).one _ ((U.map Pr.k).drop (Q)) rfl (HS1.out _ (HPZ.out.tab.below (Below.refl _ _).drew)) (by have h1 := (HLD.out (U.map Pr.k) (by simp)).1; have h2 := (HLD.out (U.map Pr.k) (by simp)).2; (try simp only [List.length_append, List.length_cons, List.length_nil]); omega) HBZ.out ?_; intro v10 w10 HO10 HG10 HM10; have HG10' : (World.drew _).grownBy w10 _ := HG10.out; have HT10 : Hid (Two w10 B1 v10 (.slice g5 P c5) ((U.map Pr.k).take P ++ (U.map Pr.k).drop (Q)) ((U.map Pr.v).take P)) := (HTZ.out.below (Below.refl _ _).drew).first HO10.out HG10.out HM10.out; have HP10 : Hid (PutSt w w10 X (.slice b1 m1 d1) (.slice b2 m2 d2) U N) := (HPZ.out.below (Below.refl _ _).drew).grown HG10.out (fun j e => ⟨by have := (HTZ.out.one.lt j e).1; have := HKV.out.2.2; omega, fun e' => by have := (HTZ.out.one.lt j e).1; have := HKV.out.1 j e'; omega, fun e' => by have := (HTZ.out.one.lt j e).1; have := HKV.out.2.1 j e'; omega⟩); have HB10 : Hid (B1 ≤ w10.heap.size) := Nat.le_trans HBZ.out HG10.out.size; obtain ⟨g10, c10, hv10, _⟩ := HO10.out.facts; obtain ⟨z10, hz10⟩ : ∃ z, ((U.map Pr.k).take P ++ (U.map Pr.k).drop (Q)).length = z := ⟨_, rfl⟩; rw [hz10] at hv10; clear hz10; subst hv10; have hy1 : w10.cell? ⟨X, 1, none⟩ = some (.slice b2 m2 d2) := HP10.out.box.one rfl
              simp only [Act.put, List.setIfInBounds_toArray, List.set_cons_zero, List.set_cons_succ]
              refine hK.out _ _ (trivial) (fun hHeld => ?_)
              clear hK K
              refine wpAnyH_ready (rs := [8]) (by kernel_rfl) (by simp) ?_
              refine AllReadyH.cons (o := { dst := some 73, op := .load 32 (.tmp 72), type := 32, pos := "law.go:40", after := #[{ on := 7, ground := .data }], guard := none }) rfl (fun K hK => ?_) AllReadyH.nil
              go_simp
              skip
              go_simp
              refine hK.out _ _ (trivial) (fun hHeld => ?_)
              clear hK K
              refine wpAnyH_take (i := 10) (oi := { dst := some 75, op := .slice 32 (.tmp 73) (some (.tmp 74)) none none, type := 32, pos := "law.go:40", after := #[{ on := 8, ground := .data }, { on := 9, ground := .data }], guard := none }) (v := ?_) rfl (by kernel_rfl) (by kernel_rfl) (by kernel_rfl) (fun _ _ _ h => h) (Or.inl ⟨by rfl, ?_⟩) (by assumption) ?_
              rotate_left
              · intro _ _; go_simp; first | done | with_reducible rfl
              simp only [Act.put, List.setIfInBounds_toArray, List.set_cons_zero, List.set_cons_succ]
              refine wpAnyH_ready (rs := [11]) (by kernel_rfl) (by simp) ?_
              refine AllReadyH.cons (o := { dst := some 76, op := .call { callee := .builtin Go.Builtin.append, args := #[.tmp 71, .tmp 75], argTypes := #[32, 32] }, type := 32, pos := "law.go:40", after := #[{ on := 6, ground := .data }, { on := 10, ground := .data }, { on := 5, ground := .chain }], guard := none }) rfl (fun K hK => ?_) AllReadyH.nil
              refine step_append_u rfl _ _ rfl B1 (.slice g5 P c5) ((U.map Pr.v).take P) rfl HT10.out.two _ ((U.map Pr.v).drop (Q)) rfl (HS2.out _ HP10.out.tab) (by have h1 := (HLD.out (U.map Pr.v) (by simp)).1; have h2 := (HLD.out (U.map Pr.v) (by simp)).2; (try simp only [List.length_append, List.length_cons, List.length_nil]); omega) HB10.out ?_; intro v11 w11 HO11 HG11 HM11; have HT11 : Hid (Two w11 B1 _ v11 ((U.map Pr.k).take P ++ (U.map Pr.k).drop (Q)) ((U.map Pr.v).take P ++ (U.map Pr.v).drop (Q))) := HT10.out.second HO11.out HG11.out HM11.out; have HP11 : Hid (PutSt w w11 X (.slice b1 m1 d1) (.slice b2 m2 d2) U N) := HP10.out.grown HG11.out (fun j e => ⟨by have := (HT10.out.two.lt j e).1; have := HKV.out.2.2; omega, fun e' => by have := (HT10.out.two.lt j e).1; have := HKV.out.1 j e'; omega, fun e' => by have := (HT10.out.two.lt j e).1; have := HKV.out.2.1 j e'; omega⟩); obtain ⟨g11, c11, hv11, _⟩ := HO11.out.facts; obtain ⟨z11, hz11⟩ : ∃ z, ((U.map Pr.v).take P ++ (U.map Pr.v).drop (Q)).length = z := ⟨_, rfl⟩; rw [hz11] at hv11; clear hz11; subst hv11; have hf0 : w11.frozen? ⟨X, 0, none⟩ = false := HP11.out.box.frozen 0; have hf1 : w11.frozen? ⟨X, 1, none⟩ = false := HP11.out.box.frozen 1; have hk0 : w11.cell? ⟨X, 0, none⟩ = some (.slice b1 m1 d1) := HP11.out.box.one rfl; have hk1 : w11.cell? ⟨X, 1, none⟩ = some (.slice b2 m2 d2) := HP11.out.box.one rfl
              simp only [Act.put, List.setIfInBounds_toArray, List.set_cons_zero, List.set_cons_succ]
              refine hK.out _ _ (trivial) (fun hHeld => ?_)
              clear hK K
              refine wpAnyH_take (i := 12) (oi := { dst := some 77, op := .build 34 #[(0, .tmp 70), (1, .tmp 76)], type := 34, pos := "law.go:40", after := #[{ on := 5, ground := .data }, { on := 11, ground := .data }], guard := none }) (v := ?_) rfl (by kernel_rfl) (by kernel_rfl) (by kernel_rfl) (fun _ _ _ h => h) (Or.inl ⟨by rfl, ?_⟩) (by assumption) ?_
              rotate_left
              · intro _ _; go_simp; first | done | with_reducible rfl
              simp only [Act.put, List.setIfInBounds_toArray, List.set_cons_zero, List.set_cons_succ]
              refine wpAnyH_ready (rs := [13]) (by kernel_rfl) (by simp) ?_
              refine AllReadyH.cons (o := { dst := none, op := .store 34 (.tmp 2) (.tmp 77), type := 0, pos := "law.go:40", after := #[{ on := 12, ground := .data }, { on := 11, ground := .chain }, { on := 0, ground := .phase }, { on := 1, ground := .phase }, { on := 2, ground := .phase }, { on := 3, ground := .phase }, { on := 4, ground := .phase }, { on := 5, ground := .phase }, { on := 6, ground := .phase }, { on := 7, ground := .phase }, { on := 8, ground := .phase }, { on := 9, ground := .phase }, { on := 10, ground := .phase }, { on := 11, ground := .phase }, { on := 12, ground := .phase }], guard := none }) rfl (fun K hK => ?_) AllReadyH.nil
              go_simp
              skip
              go_simp
              refine hK.out _ _ (trivial) (fun hHeld => ?_)
              clear hK K
              refine wpAnyH_done (by kernel_rfl) ?_ _
              refine NoPanic.normal ?_
              clear hHeld hz0 hz1 hadr1 hadr2 e5 e6 hr1 hr3 HS1 HS2 HLD HM
              generalize hw12 : World.setCell (World.setCell w11 _ _) _ _ = w12
              have HP12 : Hid (PutSt w w12 X _ _ (tput ⟨pk, pv, true⟩ U) X) := PutSt.stored HP11.out (HT11.out) (by have := HKV.out.2.2; omega) (by have := HKV.out.2.2; omega) (by rw [HCUT.out]; simp [List.map_append, List.map_take, List.map_drop, ← HQP.out]) (by rw [HCUT.out]; simp [List.map_append, List.map_take, List.map_drop, ← HQP.out]) hw12
              clear hw12 HP11 HT11 HPZ HTZ HP10 HT10 HB10 HO10 HG10 HM10 HO11 HG11 HM11 hf0 hf1 hk0 hk1 hy1 HKV HBZ HCUT
              have hlt := HSTH.out.1
              have hn63 := HSTH.out.2
              have e0 : (0 : Int) ≤ (k : Int) := by omega
              have e1 : (k : Int) < (n : Int) := by omega
              go_wp2_with fail
              go_roundw
              case rel =>
                refine ⟨k + 1, g10, g11, z10, z11, c10, c11, by omega, by go_num, ?_⟩
                show PutSt _ _ _ _ _ _ _
                rw [HTB.out, show tabN (k + 1) N0 X = X from if_neg (Nat.succ_ne_zero k)]
                exact HP12.out
              case measure => simp [intOf]; omega
            · go_simp
              skip
              go_simp
              refine hK.out _ _ (trivial) (fun hHeld => ?_)
              clear hK K
              refine wpAnyH_take (i := 10) (oi := { dst := some 75, op := .slice 32 (.tmp 73) (some (.tmp 74)) none none, type := 32, pos := "law.go:40", after := #[{ on := 8, ground := .data }, { on := 9, ground := .data }], guard := none }) (v := ?_) rfl (by kernel_rfl) (by kernel_rfl) (by kernel_rfl) (fun _ _ _ h => h) (Or.inl ⟨by rfl, ?_⟩) (by assumption) ?_
              rotate_left
              · intro _ _; go_simp; first | done | with_reducible rfl
              simp only [Act.put, List.setIfInBounds_toArray, List.set_cons_zero, List.set_cons_succ]
              refine wpAnyH_ready (rs := [5]) (by kernel_rfl) (by simp) ?_
              refine AllReadyH.cons (o := { dst := some 70, op := .call { callee := .builtin Go.Builtin.append, args := #[.tmp 65, .tmp 69], argTypes := #[32, 32] }, type := 32, pos := "law.go:40", after := #[{ on := 0, ground := .data }, { on := 4, ground := .data }], guard := none }) rfl (fun K hK => ?_) AllReadyH.nil
              refine step_append_u rfl _ _ rfl B1 (.slice g4 P c4) ((U.map Pr.k).take P) rfl (HTZ.out.below (Below.refl _ _).drew).one _ ((U.map Pr.k).drop (Q)) rfl (HS1.out _ (HPZ.out.tab.below (Below.refl _ _).drew)) (by have h1 := (HLD.out (U.map Pr.k) (by simp)).1; have h2 := (HLD.out (U.map Pr.k) (by simp)).2; (try simp only [List.length_append, List.length_cons, List.length_nil]); omega) HBZ.out ?_; intro v10 w10 HO10 HG10 HM10; have HG10' : (World.drew _).grownBy w10 _ := HG10.out; have HT10 : Hid (Two w10 B1 v10 (.slice g5 P c5) ((U.map Pr.k).take P ++ (U.map Pr.k).drop (Q)) ((U.map Pr.v).take P)) := (HTZ.out.below (Below.refl _ _).drew).first HO10.out HG10.out HM10.out; have HP10 : Hid (PutSt w w10 X (.slice b1 m1 d1) (.slice b2 m2 d2) U N) := (HPZ.out.below (Below.refl _ _).drew).grown HG10.out (fun j e => ⟨by have := (HTZ.out.one.lt j e).1; have := HKV.out.2.2; omega, fun e' => by have := (HTZ.out.one.lt j e).1; have := HKV.out.1 j e'; omega, fun e' => by have := (HTZ.out.one.lt j e).1; have := HKV.out.2.1 j e'; omega⟩); have HB10 : Hid (B1 ≤ w10.heap.size) := Nat.le_trans HBZ.out HG10.out.size; obtain ⟨g10, c10, hv10, _⟩ := HO10.out.facts; obtain ⟨z10, hz10⟩ : ∃ z, ((U.map Pr.k).take P ++ (U.map Pr.k).drop (Q)).length = z := ⟨_, rfl⟩; rw [hz10] at hv10; clear hz10; subst hv10; have hy1 : w10.cell? ⟨X, 1, none⟩ = some (.slice b2 m2 d2) := HP10.out.box.one rfl
              simp only [Act.put, List.setIfInBounds_toArray, List.set_cons_zero, List.set_cons_succ]
              refine hK.out _ _ (trivial) (fun hHeld => ?_)
              clear hK K
              refine wpAnyH_ready (rs := [11]) (by kernel_rfl) (by simp) ?_
              refine AllReadyH.cons (o := { dst := some 76, op := .call { callee := .builtin Go.Builtin.append, args := #[.tmp 71, .tmp 75], argTypes := #[32, 32] }, type := 32, pos := "law.go:40", after := #[{ on := 6, ground := .data }, { on := 10, ground := .data }, { on := 5, ground := .chain }], guard := none }) rfl (fun K hK => ?_) AllReadyH.nil
              refine step_append_u rfl _ _ rfl B1 (.slice g5 P c5) ((U.map Pr.v).take P) rfl HT10.out.two _ ((U.map Pr.v).drop (Q)) rfl (HS2.out _ HP10.out.tab) (by have h1 := (HLD.out (U.map Pr.v) (by simp)).1; have h2 := (HLD.out (U.map Pr.v) (by simp)).2; (try simp only [List.length_append, List.length_cons, List.length_nil]); omega) HB10.out ?_; intro v11 w11 HO11 HG11 HM11; have HT11 : Hid (Two w11 B1 _ v11 ((U.map Pr.k).take P ++ (U.map Pr.k).drop (Q)) ((U.map Pr.v).take P ++ (U.map Pr.v).drop (Q))) := HT10.out.second HO11.out HG11.out HM11.out; have HP11 : Hid (PutSt w w11 X (.slice b1 m1 d1) (.slice b2 m2 d2) U N) := HP10.out.grown HG11.out (fun j e => ⟨by have := (HT10.out.two.lt j e).1; have := HKV.out.2.2; omega, fun e' => by have := (HT10.out.two.lt j e).1; have := HKV.out.1 j e'; omega, fun e' => by have := (HT10.out.two.lt j e).1; have := HKV.out.2.1 j e'; omega⟩); obtain ⟨g11, c11, hv11, _⟩ := HO11.out.facts; obtain ⟨z11, hz11⟩ : ∃ z, ((U.map Pr.v).take P ++ (U.map Pr.v).drop (Q)).length = z := ⟨_, rfl⟩; rw [hz11] at hv11; clear hz11; subst hv11; have hf0 : w11.frozen? ⟨X, 0, none⟩ = false := HP11.out.box.frozen 0; have hf1 : w11.frozen? ⟨X, 1, none⟩ = false := HP11.out.box.frozen 1; have hk0 : w11.cell? ⟨X, 0, none⟩ = some (.slice b1 m1 d1) := HP11.out.box.one rfl; have hk1 : w11.cell? ⟨X, 1, none⟩ = some (.slice b2 m2 d2) := HP11.out.box.one rfl
              simp only [Act.put, List.setIfInBounds_toArray, List.set_cons_zero, List.set_cons_succ]
              refine hK.out _ _ (trivial) (fun hHeld => ?_)
              clear hK K
              refine wpAnyH_take (i := 12) (oi := { dst := some 77, op := .build 34 #[(0, .tmp 70), (1, .tmp 76)], type := 34, pos := "law.go:40", after := #[{ on := 5, ground := .data }, { on := 11, ground := .data }], guard := none }) (v := ?_) rfl (by kernel_rfl) (by kernel_rfl) (by kernel_rfl) (fun _ _ _ h => h) (Or.inl ⟨by rfl, ?_⟩) (by assumption) ?_
              rotate_left
              · intro _ _; go_simp; first | done | with_reducible rfl
              simp only [Act.put, List.setIfInBounds_toArray, List.set_cons_zero, List.set_cons_succ]
              refine wpAnyH_ready (rs := [13]) (by kernel_rfl) (by simp) ?_
              refine AllReadyH.cons (o := { dst := none, op := .store 34 (.tmp 2) (.tmp 77), type := 0, pos := "law.go:40", after := #[{ on := 12, ground := .data }, { on := 11, ground := .chain }, { on := 0, ground := .phase }, { on := 1, ground := .phase }, { on := 2, ground := .phase }, { on := 3, ground := .phase }, { on := 4, ground := .phase }, { on := 5, ground := .phase }, { on := 6, ground := .phase }, { on := 7, ground := .phase }, { on := 8, ground := .phase }, { on := 9, ground := .phase }, { on := 10, ground := .phase }, { on := 11, ground := .phase }, { on := 12, ground := .phase }], guard := none }) rfl (fun K hK => ?_) AllReadyH.nil
              go_simp
              skip
              go_simp
              refine hK.out _ _ (trivial) (fun hHeld => ?_)
              clear hK K
              refine wpAnyH_done (by kernel_rfl) ?_ _
              refine NoPanic.normal ?_
              clear hHeld hz0 hz1 hadr1 hadr2 e5 e6 hr1 hr3 HS1 HS2 HLD HM
              generalize hw12 : World.setCell (World.setCell w11 _ _) _ _ = w12
              have HP12 : Hid (PutSt w w12 X _ _ (tput ⟨pk, pv, true⟩ U) X) := PutSt.stored HP11.out (HT11.out) (by have := HKV.out.2.2; omega) (by have := HKV.out.2.2; omega) (by rw [HCUT.out]; simp [List.map_append, List.map_take, List.map_drop, ← HQP.out]) (by rw [HCUT.out]; simp [List.map_append, List.map_take, List.map_drop, ← HQP.out]) hw12
              clear hw12 HP11 HT11 HPZ HTZ HP10 HT10 HB10 HO10 HG10 HM10 HO11 HG11 HM11 hf0 hf1 hk0 hk1 hy1 HKV HBZ HCUT
              have hlt := HSTH.out.1
              have hn63 := HSTH.out.2
              have e0 : (0 : Int) ≤ (k : Int) := by omega
              have e1 : (k : Int) < (n : Int) := by omega
              go_wp2_with fail
              go_roundw
              case rel =>
                refine ⟨k + 1, g10, g11, z10, z11, c10, c11, by omega, by go_num, ?_⟩
                show PutSt _ _ _ _ _ _ _
                rw [HTB.out, show tabN (k + 1) N0 X = X from if_neg (Nat.succ_ne_zero k)]
                exact HP12.out
              case measure => simp [intOf]; omega
          · go_simp
            skip
            go_simp
            refine hK.out _ _ (trivial) (fun hHeld => ?_)
            clear hK K
            refine wpAnyH_take (i := 10) (oi := { dst := some 75, op := .slice 32 (.tmp 73) (some (.tmp 74)) none none, type := 32, pos := "law.go:40", after := #[{ on := 8, ground := .data }, { on := 9, ground := .data }], guard := none }) (v := ?_) rfl (by kernel_rfl) (by kernel_rfl) (by kernel_rfl) (fun _ _ _ h => h) (Or.inl ⟨by rfl, ?_⟩) (by assumption) ?_
            rotate_left
            · intro _ _; go_simp; first | done | with_reducible rfl
            simp only [Act.put, List.setIfInBounds_toArray, List.set_cons_zero, List.set_cons_succ]
            refine wpAnyH_ready (rs := [2]) (by kernel_rfl) (by simp) ?_
            refine AllReadyH.cons (o := { dst := some 67, op := .load 32 (.tmp 66), type := 32, pos := "law.go:40", after := #[{ on := 1, ground := .data }], guard := none }) rfl (fun K hK => ?_) AllReadyH.nil
            go_simp
            skip
            go_simp
            refine hK.out _ _ (trivial) (fun hHeld => ?_)
            clear hK K
            refine wpAnyH_take (i := 4) (oi := { dst := some 69, op := .slice 32 (.tmp 67) (some (.tmp 68)) none none, type := 32, pos := "law.go:40", after := #[{ on := 2, ground := .data }, { on := 3, ground := .data }], guard := none }) (v := ?_) rfl (by kernel_rfl) (by kernel_rfl) (by kernel_rfl) (fun _ _ _ h => h) (Or.inl ⟨by rfl, ?_⟩) (by assumption) ?_
            rotate_left
            · intro _ _; go_simp; first | done | with_reducible rfl
            simp only [Act.put, List.setIfInBounds_toArray, List.set_cons_zero, List.set_cons_succ]
            refine wpAnyH_ready (rs := [5]) (by kernel_rfl) (by simp) ?_
            refine AllReadyH.cons (o := { dst := some 70, op := .call { callee := .builtin Go.Builtin.append, args := #[.tmp 65, .tmp 69], argTypes := #[32, 32] }, type := 32, pos := "law.go:40", after := #[{ on := 0, ground := .data }, { on := 4, ground := .data }], guard := none }) rfl (fun K hK => ?_) AllReadyH.nil
            refine step_append_u rfl _ _ rfl B1 (.slice g4 P c4) ((U.map Pr.k).take P) rfl (HTZ.out.below (Below.refl _ _).drew).one _ ((U.map Pr.k).drop (Q)) rfl (HS1.out _ (HPZ.out.tab.below (Below.refl _ _).drew)) (by have h1 := (HLD.out (U.map Pr.k) (by simp)).1; have h2 := (HLD.out (U.map Pr.k) (by simp)).2; (try simp only [List.length_append, List.length_cons, List.length_nil]); omega) HBZ.out ?_; intro v10 w10 HO10 HG10 HM10; have HG10' : (World.drew _).grownBy w10 _ := HG10.out; have HT10 : Hid (Two w10 B1 v10 (.slice g5 P c5) ((U.map Pr.k).take P ++ (U.map Pr.k).drop (Q)) ((U.map Pr.v).take P)) := (HTZ.out.below (Below.refl _ _).drew).first HO10.out HG10.out HM10.out; have HP10 : Hid (PutSt w w10 X (.slice b1 m1 d1) (.slice b2 m2 d2) U N) := (HPZ.out.below (Below.refl _ _).drew).grown HG10.out (fun j e => ⟨by have := (HTZ.out.one.lt j e).1; have := HKV.out.2.2; omega, fun e' => by have := (HTZ.out.one.lt j e).1; have := HKV.out.1 j e'; omega, fun e' => by have := (HTZ.out.one.lt j e).1; have := HKV.out.2.1 j e'; omega⟩); have HB10 : Hid (B1 ≤ w10.heap.size) := Nat.le_trans HBZ.out HG10.out.size; obtain ⟨g10, c10, hv10, _⟩ := HO10.out.facts; obtain ⟨z10, hz10⟩ : ∃ z, ((U.map Pr.k).take P ++ (U.map Pr.k).drop (Q)).length = z := ⟨_, rfl⟩; rw [hz10] at hv10; clear hz10; subst hv10; have hy1 : w10.cell? ⟨X, 1, none⟩ = some (.slice b2 m2 d2) := HP10.out.box.one rfl
            simp only [Act.put, List.setIfInBounds_toArray, List.set_cons_zero, List.set_cons_succ]
            refine hK.out _ _ (trivial) (fun hHeld => ?_)
            clear hK K
            refine wpAnyH_ready (rs := [11]) (by kernel_rfl) (by simp) ?_
            refine AllReadyH.cons (o := { dst := some 76, op := .call { callee := .builtin Go.Builtin.append, args := #[.tmp 71, .tmp 75], argTypes := #[32, 32] }, type := 32, pos := "law.go:40", after := #[{ on := 6, ground := .data }, { on := 10, ground := .data }, { on := 5, ground := .chain }], guard := none }) rfl (fun K hK => ?_) AllReadyH.nil
            refine step_append_u rfl _ _ rfl B1 (.slice g5 P c5) ((U.map Pr.v).take P) rfl HT10.out.two _ ((U.map Pr.v).drop (Q)) rfl (HS2.out _ HP10.out.tab) (by have h1 := (HLD.out (U.map Pr.v) (by simp)).1; have h2 := (HLD.out (U.map Pr.v) (by simp)).2; (try simp only [List.length_append, List.length_cons, List.length_nil]); omega) HB10.out ?_; intro v11 w11 HO11 HG11 HM11; have HT11 : Hid (Two w11 B1 _ v11 ((U.map Pr.k).take P ++ (U.map Pr.k).drop (Q)) ((U.map Pr.v).take P ++ (U.map Pr.v).drop (Q))) := HT10.out.second HO11.out HG11.out HM11.out; have HP11 : Hid (PutSt w w11 X (.slice b1 m1 d1) (.slice b2 m2 d2) U N) := HP10.out.grown HG11.out (fun j e => ⟨by have := (HT10.out.two.lt j e).1; have := HKV.out.2.2; omega, fun e' => by have := (HT10.out.two.lt j e).1; have := HKV.out.1 j e'; omega, fun e' => by have := (HT10.out.two.lt j e).1; have := HKV.out.2.1 j e'; omega⟩); obtain ⟨g11, c11, hv11, _⟩ := HO11.out.facts; obtain ⟨z11, hz11⟩ : ∃ z, ((U.map Pr.v).take P ++ (U.map Pr.v).drop (Q)).length = z := ⟨_, rfl⟩; rw [hz11] at hv11; clear hz11; subst hv11; have hf0 : w11.frozen? ⟨X, 0, none⟩ = false := HP11.out.box.frozen 0; have hf1 : w11.frozen? ⟨X, 1, none⟩ = false := HP11.out.box.frozen 1; have hk0 : w11.cell? ⟨X, 0, none⟩ = some (.slice b1 m1 d1) := HP11.out.box.one rfl; have hk1 : w11.cell? ⟨X, 1, none⟩ = some (.slice b2 m2 d2) := HP11.out.box.one rfl
            simp only [Act.put, List.setIfInBounds_toArray, List.set_cons_zero, List.set_cons_succ]
            refine hK.out _ _ (trivial) (fun hHeld => ?_)
            clear hK K
            refine wpAnyH_take (i := 12) (oi := { dst := some 77, op := .build 34 #[(0, .tmp 70), (1, .tmp 76)], type := 34, pos := "law.go:40", after := #[{ on := 5, ground := .data }, { on := 11, ground := .data }], guard := none }) (v := ?_) rfl (by kernel_rfl) (by kernel_rfl) (by kernel_rfl) (fun _ _ _ h => h) (Or.inl ⟨by rfl, ?_⟩) (by assumption) ?_
            rotate_left
            · intro _ _; go_simp; first | done | with_reducible rfl
            simp only [Act.put, List.setIfInBounds_toArray, List.set_cons_zero, List.set_cons_succ]
            refine wpAnyH_ready (rs := [13]) (by kernel_rfl) (by simp) ?_
            refine AllReadyH.cons (o := { dst := none, op := .store 34 (.tmp 2) (.tmp 77), type := 0, pos := "law.go:40", after := #[{ on := 12, ground := .data }, { on := 11, ground := .chain }, { on := 0, ground := .phase }, { on := 1, ground := .phase }, { on := 2, ground := .phase }, { on := 3, ground := .phase }, { on := 4, ground := .phase }, { on := 5, ground := .phase }, { on := 6, ground := .phase }, { on := 7, ground := .phase }, { on := 8, ground := .phase }, { on := 9, ground := .phase }, { on := 10, ground := .phase }, { on := 11, ground := .phase }, { on := 12, ground := .phase }], guard := none }) rfl (fun K hK => ?_) AllReadyH.nil
            go_simp
            skip
            go_simp
            refine hK.out _ _ (trivial) (fun hHeld => ?_)
            clear hK K
            refine wpAnyH_done (by kernel_rfl) ?_ _
            refine NoPanic.normal ?_
            clear hHeld hz0 hz1 hadr1 hadr2 e5 e6 hr1 hr3 HS1 HS2 HLD HM
            generalize hw12 : World.setCell (World.setCell w11 _ _) _ _ = w12
            have HP12 : Hid (PutSt w w12 X _ _ (tput ⟨pk, pv, true⟩ U) X) := PutSt.stored HP11.out (HT11.out) (by have := HKV.out.2.2; omega) (by have := HKV.out.2.2; omega) (by rw [HCUT.out]; simp [List.map_append, List.map_take, List.map_drop, ← HQP.out]) (by rw [HCUT.out]; simp [List.map_append, List.map_take, List.map_drop, ← HQP.out]) hw12
            clear hw12 HP11 HT11 HPZ HTZ HP10 HT10 HB10 HO10 HG10 HM10 HO11 HG11 HM11 hf0 hf1 hk0 hk1 hy1 HKV HBZ HCUT
            have hlt := HSTH.out.1
            have hn63 := HSTH.out.2
            have e0 : (0 : Int) ≤ (k : Int) := by omega
            have e1 : (k : Int) < (n : Int) := by omega
            go_wp2_with fail
            go_roundw
            case rel =>
              refine ⟨k + 1, g10, g11, z10, z11, c10, c11, by omega, by go_num, ?_⟩
              show PutSt _ _ _ _ _ _ _
              rw [HTB.out, show tabN (k + 1) N0 X = X from if_neg (Nat.succ_ne_zero k)]
              exact HP12.out
            case measure => simp [intOf]; omega
        | false =>
          have hPl : P ≤ U.length := HPL.out
          obtain ⟨Q, hQ1⟩ : ∃ Q : Nat, (P : Int) + 1 = (Q : Int) := ⟨P + 1, by omega⟩
          have hRl : Q ≤ U.length := by have := HTL2.out rfl; omega
          have HQP : Hid (P + 1 = Q) := show _ = _ by omega
          have hP6 : (P : Int) ≤ 1000000 := by have := HTL.out; omega
          go_upto_region 8 with fail
          clear hQ1
          have HKV : Hid ((∀ j, (Value.slice b1 m1 d1).ownBlock = some j → j < w3.heap.size) ∧ (∀ j, (Value.slice b2 m2 d2).ownBlock = some j → j < w3.heap.size) ∧ X + 1 < w3.heap.size) := ⟨fun j e => (HP3.out.tab.keys.lt j e).2, fun j e => (HP3.out.tab.vals.lt j e).2, HP3.out.res.lt⟩
          have e3 : (P : Int) ≤ (m1 : Int) := by have := HM.out; omega
          have e4 : (P : Int) ≤ (m2 : Int) := by have := HM.out; omega
          have e3' : (P : Int) ≤ (d1 : Int) := by omega
          have e4' : (P : Int) ≤ (d2 : Int) := by omega
          have hx0 : w3.cell? ⟨X, 0, none⟩ = some (.slice b1 m1 d1) := HP3.out.box.one rfl
          have HBA : Hid (Below w3.heap.size w3 (w3.alloc (.cells #[] 9))) := (Below.refl _ _).alloc (Nat.le_refl _) _
          have HSA : Hid (SrcU w3 (.slice b1 P d1) ((U.map Pr.k).take P)) := HP3.out.tab.keys.cutL P (by rw [List.length_map]; have := HM.out; omega)
          have HLK : Hid (∀ L : List ByteArray, L.length = U.length → (L.take P).length = P) := fun L hL => by rw [List.length_take]; omega
          have HTK : Hid (∀ L : List ByteArray, L.length = U.length → (L.take P).length ≤ 1000000) := fun L hL => by have := HTL.out; rw [List.length_take]; omega
          have hx0a : (w3.alloc (.cells #[] 9)).cell? ⟨X, 0, none⟩ = some (.slice b1 m1 d1) := cell_below' HBA.out hx0
          go_upto_region 9 with (at_builtin; refine wpList_append_u rfl _ _ rfl w3.heap.size _ [] rfl (OwnS.lit0 _) _ ((U.map Pr.k).take P) rfl (HSA.out.below HBA.out) (by have := HTK.out (U.map Pr.k) (by simp); simp only [List.length_nil]; omega) (by simp) ?_; intro v4 w4 HO4 HG4 HM4; rw [List.nil_append] at HO4; obtain ⟨g4, c4, hv4, _⟩ := HO4.out.facts; rw [HLK.out _ (by simp)] at hv4; subst hv4)
          have HP4 : Hid (PutSt w w4 X (.slice b1 m1 d1) (.slice b2 m2 d2) U N) := (HP3.out.below HBA.out).grown HG4.out (fun j e => by injection e with e; simp only at e; refine ⟨by have := HKV.out.2.2; omega, fun e' => by have := HKV.out.1 j e'; omega, fun e' => by have := HKV.out.2.1 j e'; omega⟩)
          have HZ4 : Hid (w3.heap.size + 1 ≤ w4.heap.size) := by have := HG4.out.size; simp at this; exact this
          clear HBA HSA HG4 HM4 HP3 hx0 hx0a
          generalize hB1 : w3.heap.size = B1 at *
          have hx1 : w4.cell? ⟨X, 1, none⟩ = some (.slice b2 m2 d2) := HP4.out.box.one rfl
          have HBA : Hid (Below w4.heap.size w4 (w4.alloc (.cells #[] 9))) := (Below.refl _ _).alloc (Nat.le_refl _) _
          have HSA : Hid (SrcU w4 (.slice b2 P d2) ((U.map Pr.v).take P)) := HP4.out.tab.vals.cutL P (by rw [List.length_map]; have := HM.out; omega)
          have hx1a : (w4.alloc (.cells #[] 9)).cell? ⟨X, 1, none⟩ = some (.slice b2 m2 d2) := cell_below' HBA.out hx1
          go_upto_region 10 with (at_builtin; refine wpList_append_u rfl _ _ rfl w4.heap.size _ [] rfl (OwnS.lit0 _) _ ((U.map Pr.v).take P) rfl (HSA.out.below HBA.out) (by have := HTK.out (U.map Pr.v) (by simp); simp only [List.length_nil]; omega) (by simp) ?_; intro v5 w5 HO5 HG5 HM5; rw [List.nil_append] at HO5; obtain ⟨g5, c5, hv5, _⟩ := HO5.out.facts; rw [HLK.out _ (by simp)] at hv5; subst hv5)
          have HP5 : Hid (PutSt w w5 X (.slice b1 m1 d1) (.slice b2 m2 d2) U N) := (HP4.out.below HBA.out).grown HG5.out (fun j e => by injection e with e; simp only at e; have := HZ4.out; refine ⟨by have := HKV.out.2.2; omega, fun e' => by have := HKV.out.1 j e'; omega, fun e' => by have := HKV.out.2.1 j e'; omega⟩)
          have HT5 : Hid (Two w5 B1 (.slice g4 P c4) (.slice g5 P c5) ((U.map Pr.k).take P) ((U.map Pr.v).take P)) := by
            refine ⟨(HO4.out.below HBA.out).same fun j e => HG5.out.block j (by have := (HO4.out.lt j e).2; simp; omega) (fun e' => by injection e' with e'; simp only at e'; have := (HO4.out.lt j e).2; omega), HO5.out.less (by have := HZ4.out; omega), fun j e e' => by have := (HO4.out.lt j e).2; have := (HO5.out.lt j e').1; omega⟩
          have HZ5 : Hid (B1 ≤ w5.heap.size) := by have h1 := HG5.out.size; have h2 := HZ4.out; simp at h1; show _ ≤ _; omega
          clear HBA HSA HG5 HM5 HP4 HO4 HO5 hx1 hx1a HZ4
          have hq := HQ.out w5 HP5.out.base
          have hq0 := hq.1
          have hq1 := hq.2.1
          have hq2 := hq.2.2
          clear hq
          have HBA : Hid (Below w5.heap.size w5 (w5.alloc (.cells #[.string pk] 9))) := (Below.refl _ _).alloc (Nat.le_refl _) _
          go_upto_region 12 with (at_builtin; refine wpList_append_u rfl _ _ rfl B1 (.slice g4 P c4) ((U.map Pr.k).take P) rfl (HT5.out.below HBA.out).one _ [pk] rfl (SrcU.one _ _ _) (by have := HTK.out (U.map Pr.k) (by simp); simp only [List.length_cons, List.length_nil]; omega) (by have := HZ5.out; simp; omega) ?_; intro v6 w6 HO6 HG6 HM6; obtain ⟨g6, c6, hv6, _⟩ := HO6.out.facts; rw [List.length_append, HLK.out _ (by simp), List.length_singleton] at hv6; subst hv6)
          have HP6 : Hid (PutSt w w6 X (.slice b1 m1 d1) (.slice b2 m2 d2) U N) := (HP5.out.below HBA.out).grown HG6.out (fun j e => ⟨by have := (HT5.out.one.lt j e).1; have := HKV.out.2.2; omega, fun e' => by have := (HT5.out.one.lt j e).1; have := HKV.out.1 j e'; omega, fun e' => by have := (HT5.out.one.lt j e).1; have := HKV.out.2.1 j e'; omega⟩)
          have HT6 : Hid (Two w6 B1 _ (.slice g5 P c5) ((U.map Pr.k).take P ++ [pk]) ((U.map Pr.v).take P)) := (HT5.out.below HBA.out).first HO6.out HG6.out HM6.out
          have HZ6 : Hid (B1 ≤ w6.heap.size) := by have h1 := HG6.out.size; have h2 := HZ5.out; simp at h1; show _ ≤ _; omega
          clear HBA HG6 HM6 HO6 HP5 HT5 HZ5 hq0 hq1 hq2
          have hq := HQ.out w6 HP6.out.base
          have hq1 := hq.2.1
          clear hq
          have HBA : Hid (Below w6.heap.size w6 (w6.alloc (.cells #[.string pv] 9))) := (Below.refl _ _).alloc (Nat.le_refl _) _
          go_upto_region 13 with (at_builtin; refine wpList_append_u rfl _ _ rfl B1 (.slice g5 P c5) ((U.map Pr.v).take P) rfl (HT6.out.below HBA.out).two _ [pv] rfl (SrcU.one _ _ _) (by have := HTK.out (U.map Pr.v) (by simp); simp only [List.length_cons, List.length_nil]; omega) (by have := HZ6.out; simp; omega) ?_; intro v7 w7 HO7 HG7 HM7; obtain ⟨g7, c7, hv7, _⟩ := HO7.out.facts; rw [List.length_append, HLK.out _ (by simp), List.length_singleton] at hv7; subst hv7)
          have HP7 : Hid (PutSt w w7 X (.slice b1 m1 d1) (.slice b2 m2 d2) U N) := (HP6.out.below HBA.out).grown HG7.out (fun j e => ⟨by have := (HT6.out.two.lt j e).1; have := HKV.out.2.2; omega, fun e' => by have := (HT6.out.two.lt j e).1; have := HKV.out.1 j e'; omega, fun e' => by have := (HT6.out.two.lt j e).1; have := HKV.out.2.1 j e'; omega⟩)
          have HT7 : Hid (Two w7 B1 (.slice g6 (P + 1) c6) _ ((U.map Pr.k).take P ++ [pk]) ((U.map Pr.v).take P ++ [pv])) := (HT6.out.below HBA.out).second HO7.out HG7.out HM7.out
          have HZ7 : Hid (B1 ≤ w7.heap.size) := by have h1 := HG7.out.size; have h2 := HZ6.out; simp at h1; show _ ≤ _; omega
          clear HBA HG7 HM7 HO7 HP6 HT6 HZ6 hq1
          have HPZ : Hid (PutSt w w7 X (.slice b1 m1 d1) (.slice b2 m2 d2) U N) := HP7.out
          have HTZ : Hid (Two w7 B1 (.slice g6 (P + 1) c6) (.slice g7 (P + 1) c7) ((U.map Pr.k).take P ++ [pk]) ((U.map Pr.v).take P ++ [pv])) := HT7.out
          have HBZ : Hid (B1 ≤ w7.heap.size) := HZ7.out
          clear HP7 HT7 HZ7
          have hz0 : w7.cell? ⟨X, 0, none⟩ = some (.slice b1 m1 d1) := HPZ.out.box.one rfl
          have hz1 : w7.cell? ⟨X, 1, none⟩ = some (.slice b2 m2 d2) := HPZ.out.box.one rfl
          obtain ⟨adr1, hadr1⟩ : ∃ x, (if d1 = Q then b1 else Option.map (fun x => x.add (Q)) b1) = x := ⟨_, rfl⟩
          obtain ⟨adr2, hadr2⟩ : ∃ x, (if d2 = Q then b2 else Option.map (fun x => x.add (Q)) b2) = x := ⟨_, rfl⟩
          have e5 : (((Q : Nat) : Int)) ≤ (m1 : Int) := by have := HM.out; omega
          have e6 : (((Q : Nat) : Int)) ≤ (m2 : Int) := by have := HM.out; omega
          have HSTH : Hid (k < n ∧ n ≤ 9223372036854775807) := ⟨hlt, hn63⟩
          have HS1 : Hid (∀ w', TabAt w' N (.slice b1 m1 d1) (.slice b2 m2 d2) U → SrcU w' (.slice adr1 (m1 - (Q)) (d1 - (Q))) ((U.map Pr.k).drop (Q))) := fun w' h => by rw [← hadr1]; exact h.keys.cutR (Q) (by rw [List.length_map]; have := HM.out; omega)
          have HS2 : Hid (∀ w', TabAt w' N (.slice b1 m1 d1) (.slice b2 m2 d2) U → SrcU w' (.slice adr2 (m2 - (Q)) (d2 - (Q))) ((U.map Pr.v).drop (Q))) := fun w' h => by rw [← hadr2]; exact h.vals.cutR (Q) (by rw [List.length_map]; have := HM.out; omega)
          have HLD : Hid (∀ L : List ByteArray, L.length = U.length → (L.drop (Q)).length ≤ 1000000 ∧ (L.take P).length ≤ 1000000) := fun L hL => by have := HTL.out; rw [List.length_drop, List.length_take]; omega
          clear hlt e0 e1 hk hn63 hPl hRl e3 e4 e3' e4' HPL HTL2 hd1m hd2m HQ HTK HTL HLK HE HS HN
          refine wp_region_noPanic ?_
          refine wp_region_held_drew (S := fun _ => True) HMO.out (trivial) (fun hHeld => ?_)
          refine wpAnyH_take (i := 0) (oi := { dst := some 65, op := .move (.tmp 9), type := 32, pos := "law.go:40", after := #[], guard := none }) (v := ?_) rfl (by kernel_rfl) (by kernel_rfl) (by kernel_rfl) (fun _ _ _ h => h) (Or.inl ⟨by rfl, ?_⟩) (by assumption) ?_
          rotate_left
          · intro _ _; go_simp; first | done | with_reducible rfl
          simp only [Act.put, List.setIfInBounds_toArray, List.set_cons_zero, List.set_cons_succ]
          refine wpAnyH_take (i := 1) (oi := { dst := some 66, op := .fieldAddr 34 (.tmp 2) 0, type := 0, pos := "law.go:40", after := #[], guard := none }) (v := ?_) rfl (by kernel_rfl) (by kernel_rfl) (by kernel_rfl) (fun _ _ _ h => h) (Or.inl ⟨by rfl, ?_⟩) (by assumption) ?_
          rotate_left
          · intro _ _; go_simp; first | done | with_reducible rfl
          simp only [Act.put, List.setIfInBounds_toArray, List.set_cons_zero, List.set_cons_succ]
          refine wpAnyH_take (i := 3) (oi := { dst := some 68, op := .move (.tmp 8), type := 3, pos := "law.go:40", after := #[], guard := none }) (v := ?_) rfl (by kernel_rfl) (by kernel_rfl) (by kernel_rfl) (fun _ _ _ h => h) (Or.inl ⟨by rfl, ?_⟩) (by assumption) ?_
          rotate_left
          · intro _ _; go_simp; first | done | with_reducible rfl
          simp only [Act.put, List.setIfInBounds_toArray, List.set_cons_zero, List.set_cons_succ]
          refine wpAnyH_take (i := 6) (oi := { dst := some 71, op := .move (.tmp 10), type := 32, pos := "law.go:40", after := #[], guard := none }) (v := ?_) rfl (by kernel_rfl) (by kernel_rfl) (by kernel_rfl) (fun _ _ _ h => h) (Or.inl ⟨by rfl, ?_⟩) (by assumption) ?_
          rotate_left
          · intro _ _; go_simp; first | done | with_reducible rfl
          simp only [Act.put, List.setIfInBounds_toArray, List.set_cons_zero, List.set_cons_succ]
          refine wpAnyH_take (i := 7) (oi := { dst := some 72, op := .fieldAddr 34 (.tmp 2) 1, type := 0, pos := "law.go:40", after := #[], guard := none }) (v := ?_) rfl (by kernel_rfl) (by kernel_rfl) (by kernel_rfl) (fun _ _ _ h => h) (Or.inl ⟨by rfl, ?_⟩) (by assumption) ?_
          rotate_left
          · intro _ _; go_simp; first | done | with_reducible rfl
          simp only [Act.put, List.setIfInBounds_toArray, List.set_cons_zero, List.set_cons_succ]
          refine wpAnyH_take (i := 9) (oi := { dst := some 74, op := .move (.tmp 8), type := 3, pos := "law.go:40", after := #[], guard := none }) (v := ?_) rfl (by kernel_rfl) (by kernel_rfl) (by kernel_rfl) (fun _ _ _ h => h) (Or.inl ⟨by rfl, ?_⟩) (by assumption) ?_
          rotate_left
          · intro _ _; go_simp; first | done | with_reducible rfl
          simp only [Act.put, List.setIfInBounds_toArray, List.set_cons_zero, List.set_cons_succ]
          refine wpAnyH_ready (rs := [2, 8]) (by kernel_rfl) (by simp) ?_
          refine (AllReadyH.cons (o := { dst := some 67, op := .load 32 (.tmp 66), type := 32, pos := "law.go:40", after := #[{ on := 1, ground := .data }], guard := none }) rfl (fun K hK => ?_) (AllReadyH.cons (o := { dst := some 73, op := .load 32 (.tmp 72), type := 32, pos := "law.go:40", after := #[{ on := 7, ground := .data }], guard := none }) rfl (fun K hK => ?_) AllReadyH.nil))
          · go_simp
            skip
            go_simp
            refine hK.out _ _ (trivial) (fun hHeld => ?_)
            clear hK K
            refine wpAnyH_take (i := 4) (oi := { dst := some 69, op := .slice 32 (.tmp 67) (some (.tmp 68)) none none, type := 32, pos := "law.go:40", after := #[{ on := 2, ground := .data }, { on := 3, ground := .data }], guard := none }) (v := ?_) rfl (by kernel_rfl) (by kernel_rfl) (by kernel_rfl) (fun _ _ _ h => h) (Or.inl ⟨by rfl, ?_⟩) (by assumption) ?_
            rotate_left
            · intro _ _; go_simp; first | done | with_reducible rfl
            simp only [Act.put, List.setIfInBounds_toArray, List.set_cons_zero, List.set_cons_succ]
            refine wpAnyH_ready (rs := [5, 8]) (by kernel_rfl) (by simp) ?_
            refine (AllReadyH.cons (o := { dst := some 70, op := .call { callee := .builtin Go.Builtin.append, args := #[.tmp 65, .tmp 69], argTypes := #[32, 32] }, type := 32, pos := "law.go:40", after := #[{ on := 0, ground := .data }, { on := 4, ground := .data }], guard := none }) rfl (fun K hK => ?_) (AllReadyH.cons (o := { dst := some 73, op := .load 32 (.tmp 72), type := 32, pos := "law.go:40", after := #[{ on := 7, ground := .data }], guard := none }) rfl (fun K hK => ?_) AllReadyH.nil))
            · refine step_append_u rfl _ _ rfl B1 (.slice g6 (P + 1) c6) ((U.map Pr.k).take P ++ [pk]) rfl (HTZ.out.below (Below.refl _ _).drew).one _ ((U.map Pr.k).drop (Q)) rfl (HS1.out _ (HPZ.out.tab.below (Below.refl _ _).drew)) (by have h1 := (HLD.out (U.map Pr.k) (by simp)).1; have h2 := (HLD.out (U.map Pr.k) (by simp)).2; (try simp only [List.length_append, List.length_cons, List.length_nil]); omega) HBZ.out ?_; intro v10 w10 HO10 HG10 HM10; have HG10' : (World.drew _).grownBy w10 _ := HG10.out; have HT10 : Hid (Two w10 B1 v10 (.slice g7 (P + 1) c7) ((U.map Pr.k).take P ++ [pk] ++ (U.map Pr.k).drop (Q)) ((U.map Pr.v).take P ++ [pv])) := (HTZ.out.below (Below.refl _ _).drew).first HO10.out HG10.out HM10.out; have HP10 : Hid (PutSt w w10 X (.slice b1 m1 d1) (.slice b2 m2 d2) U N) := (HPZ.out.below (Below.refl _ _).drew).grown HG10.out (fun j e => ⟨by have := (HTZ.out.one.lt j e).1; have := HKV.out.2.2; omega, fun e' => by have := (HTZ.out.one.lt j e).1; have := HKV.out.1 j e'; omega, fun e' => by have := (HTZ.out.one.lt j e).1; have := HKV.out.2.1 j e'; omega⟩); have HB10 : Hid (B1 ≤ w10.heap.size) := Nat.le_trans HBZ.out HG10.out.size; obtain ⟨g10, c10, hv10, _⟩ := HO10.out.facts; obtain ⟨z10, hz10⟩ : ∃ z, ((U.map Pr.k).take P ++ [pk] ++ (U.map Pr.k).drop (Q)).length = z := ⟨_, rfl⟩; rw [hz10] at hv10; clear hz10; subst hv10; have hy1 : w10.cell? ⟨X, 1, none⟩ = some (.slice b2 m2 d2) := HP10.out.box.one rfl
              simp only [Act.put, List.setIfInBounds_toArray, List.set_cons_zero, List.set_cons_succ]
              refine hK.out _ _ (trivial) (fun hHeld => ?_)
              clear hK K
              refine wpAnyH_ready (rs := [8]) (by kernel_rfl) (by simp) ?_
              refine AllReadyH.cons (o := { dst := some 73, op := .load 32 (.tmp 72), type := 32, pos := "law.go:40", after := #[{ on := 7, ground := .data }], guard := none }) rfl (fun K hK => ?_) AllReadyH.nil
              go_simp
              skip
              go_simp
              refine hK.out _ _ (trivial) (fun hHeld => ?_)
              clear hK K
              refine wpAnyH_take (i := 10) (oi := { dst := some 75, op := .slice 32 (.tmp 73) (some (.tmp 74)) none none, type := 32, pos := "law.go:40", after := #[{ on := 8, ground := .data }, { on := 9, ground := .data }], guard := none }) (v := ?_) rfl (by kernel_rfl) (by kernel_rfl) (by kernel_rfl) (fun _ _ _ h => h) (Or.inl ⟨by rfl, ?_⟩) (by assumption) ?_
              rotate_left
              · intro _ _; go_simp; first | done | with_reducible rfl
              simp only [Act.put, List.setIfInBounds_toArray, List.set_cons_zero, List.set_cons_succ]
              refine wpAnyH_ready (rs := [11]) (by kernel_rfl) (by simp) ?_
              refine AllReadyH.cons (o := { dst := some 76, op := .call { callee := .builtin Go.Builtin.append, args := #[.tmp 71, .tmp 75], argTypes := #[32, 32] }, type := 32, pos := "law.go:40", after := #[{ on := 6, ground := .data }, { on := 10, ground := .data }, { on := 5, ground := .chain }], guard := none }) rfl (fun K hK => ?_) AllReadyH.nil
              refine step_append_u rfl _ _ rfl B1 (.slice g7 (P + 1) c7) ((U.map Pr.v).take P ++ [pv]) rfl HT10.out.two _ ((U.map Pr.v).drop (Q)) rfl (HS2.out _ HP10.out.tab) (by have h1 := (HLD.out (U.map Pr.v) (by simp)).1; have h2 := (HLD.out (U.map Pr.v) (by simp)).2; (try simp only [List.length_append, List.length_cons, List.length_nil]); omega) HB10.out ?_; intro v11 w11 HO11 HG11 HM11; have HT11 : Hid (Two w11 B1 _ v11 ((U.map Pr.k).take P ++ [pk] ++ (U.map Pr.k).drop (Q)) ((U.map Pr.v).take P ++ [pv] ++ (U.map Pr.v).drop (Q))) := HT10.out.second HO11.out HG11.out HM11.out; have HP11 : Hid (PutSt w w11 X (.slice b1 m1 d1) (.slice b2 m2 d2) U N) := HP10.out.grown HG11.out (fun j e => ⟨by have := (HT10.out.two.lt j e).1; have := HKV.out.2.2; omega, fun e' => by have := (HT10.out.two.lt j e).1; have := HKV.out.1 j e'; omega, fun e' => by have := (HT10.out.two.lt j e).1; have := HKV.out.2.1 j e'; omega⟩); obtain ⟨g11, c11, hv11, _⟩ := HO11.out.facts; obtain ⟨z11, hz11⟩ : ∃ z, ((U.map Pr.v).take P ++ [pv] ++ (U.map Pr.v).drop (Q)).length = z := ⟨_, rfl⟩; rw [hz11] at hv11; clear hz11; subst hv11; have hf0 : w11.frozen? ⟨X, 0, none⟩ = false := HP11.out.box.frozen 0; have hf1 : w11.frozen? ⟨X, 1, none⟩ = false := HP11.out.box.frozen 1; have hk0 : w11.cell? ⟨X, 0, none⟩ = some (.slice b1 m1 d1) := HP11.out.box.one rfl; have hk1 : w11.cell? ⟨X, 1, none⟩ = some (.slice b2 m2 d2) := HP11.out.box.one rfl
              simp only [Act.put, List.setIfInBounds_toArray, List.set_cons_zero, List.set_cons_succ]
              refine hK.out _ _ (trivial) (fun hHeld => ?_)
              clear hK K
              refine wpAnyH_take (i := 12) (oi := { dst := some 77, op := .build 34 #[(0, .tmp 70), (1, .tmp 76)], type := 34, pos := "law.go:40", after := #[{ on := 5, ground := .data }, { on := 11, ground := .data }], guard := none }) (v := ?_) rfl (by kernel_rfl) (by kernel_rfl) (by kernel_rfl) (fun _ _ _ h => h) (Or.inl ⟨by rfl, ?_⟩) (by assumption) ?_
              rotate_left
              · intro _ _; go_simp; first | done | with_reducible rfl
              simp only [Act.put, List.setIfInBounds_toArray, List.set_cons_zero, List.set_cons_succ]
              refine wpAnyH_ready (rs := [13]) (by kernel_rfl) (by simp) ?_
              refine AllReadyH.cons (o := { dst := none, op := .store 34 (.tmp 2) (.tmp 77), type := 0, pos := "law.go:40", after := #[{ on := 12, ground := .data }, { on := 11, ground := .chain }, { on := 0, ground := .phase }, { on := 1, ground := .phase }, { on := 2, ground := .phase }, { on := 3, ground := .phase }, { on := 4, ground := .phase }, { on := 5, ground := .phase }, { on := 6, ground := .phase }, { on := 7, ground := .phase }, { on := 8, ground := .phase }, { on := 9, ground := .phase }, { on := 10, ground := .phase }, { on := 11, ground := .phase }, { on := 12, ground := .phase }], guard := none }) rfl (fun K hK => ?_) AllReadyH.nil
              go_simp
              skip
              go_simp
              refine hK.out _ _ (trivial) (fun hHeld => ?_)
              clear hK K
              refine wpAnyH_done (by kernel_rfl) ?_ _
              refine NoPanic.normal ?_
              clear hHeld hz0 hz1 hadr1 hadr2 e5 e6 hr1 hr3 HS1 HS2 HLD HM
              generalize hw12 : World.setCell (World.setCell w11 _ _) _ _ = w12
              have HP12 : Hid (PutSt w w12 X _ _ (tput ⟨pk, pv, false⟩ U) X) := PutSt.stored HP11.out (HT11.out) (by have := HKV.out.2.2; omega) (by have := HKV.out.2.2; omega) (by rw [HCUT.out]; simp [List.map_append, List.map_take, List.map_drop, ← HQP.out]) (by rw [HCUT.out]; simp [List.map_append, List.map_take, List.map_drop, ← HQP.out]) hw12
              clear hw12 HP11 HT11 HPZ HTZ HP10 HT10 HB10 HO10 HG10 HM10 HO11 HG11 HM11 hf0 hf1 hk0 hk1 hy1 HKV HBZ HCUT
              have hlt := HSTH.out.1
              have hn63 := HSTH.out.2
              have e0 : (0 : Int) ≤ (k : Int) := by omega
              have e1 : (k : Int) < (n : Int) := by omega
              go_wp2_with fail
              go_roundw
              case rel =>
                refine ⟨k + 1, g10, g11, z10, z11, c10, c11, by omega, by go_num, ?_⟩
                show PutSt _ _ _ _ _ _ _
                rw [HTB.out, show tabN (k + 1) N0 X = X from if_neg (Nat.succ_ne_zero k)]
                exact HP12.out
              case measure => simp [intOf]; omega
            · go_simp
              skip
              go_simp
              refine hK.out _ _ (trivial) (fun hHeld => ?_)
              clear hK K
              refine wpAnyH_take (i := 10) (oi := { dst := some 75, op := .slice 32 (.tmp 73) (some (.tmp 74)) none none, type := 32, pos := "law.go:40", after := #[{ on := 8, ground := .data }, { on := 9, ground := .data }], guard := none }) (v := ?_) rfl (by kernel_rfl) (by kernel_rfl) (by kernel_rfl) (fun _ _ _ h => h) (Or.inl ⟨by rfl, ?_⟩) (by assumption) ?_
              rotate_left
              · intro _ _; go_simp; first | done | with_reducible rfl
              simp only [Act.put, List.setIfInBounds_toArray, List.set_cons_zero, List.set_cons_succ]
              refine wpAnyH_ready (rs := [5]) (by kernel_rfl) (by simp) ?_
              refine AllReadyH.cons (o := { dst := some 70, op := .call { callee := .builtin Go.Builtin.append, args := #[.tmp 65, .tmp 69], argTypes := #[32, 32] }, type := 32, pos := "law.go:40", after := #[{ on := 0, ground := .data }, { on := 4, ground := .data }], guard := none }) rfl (fun K hK => ?_) AllReadyH.nil
              refine step_append_u rfl _ _ rfl B1 (.slice g6 (P + 1) c6) ((U.map Pr.k).take P ++ [pk]) rfl (HTZ.out.below (Below.refl _ _).drew).one _ ((U.map Pr.k).drop (Q)) rfl (HS1.out _ (HPZ.out.tab.below (Below.refl _ _).drew)) (by have h1 := (HLD.out (U.map Pr.k) (by simp)).1; have h2 := (HLD.out (U.map Pr.k) (by simp)).2; (try simp only [List.length_append, List.length_cons, List.length_nil]); omega) HBZ.out ?_; intro v10 w10 HO10 HG10 HM10; have HG10' : (World.drew _).grownBy w10 _ := HG10.out; have HT10 : Hid (Two w10 B1 v10 (.slice g7 (P + 1) c7) ((U.map Pr.k).take P ++ [pk] ++ (U.map Pr.k).drop (Q)) ((U.map Pr.v).take P ++ [pv])) := (HTZ.out.below (Below.refl _ _).drew).first HO10.out HG10.out HM10.out; have HP10 : Hid (PutSt w w10 X (.slice b1 m1 d1) (.slice b2 m2 d2) U N) := (HPZ.out.below (Below.refl _ _).drew).grown HG10.out (fun j e => ⟨by have := (HTZ.out.one.lt j e).1; have := HKV.out.2.2; omega, fun e' => by have := (HTZ.out.one.lt j e).1; have := HKV.out.1 j e'; omega, fun e' => by have := (HTZ.out.one.lt j e).1; have := HKV.out.2.1 j e'; omega⟩); have HB10 : Hid (B1 ≤ w10.heap.size) := Nat.le_trans HBZ.out HG10.out.size; obtain ⟨g10, c10, hv10, _⟩ := HO10.out.facts; obtain ⟨z10, hz10⟩ : ∃ z, ((U.map Pr.k).take P ++ [pk] ++ (U.map Pr.k).drop (Q)).length = z := ⟨_, rfl⟩; rw [hz10] at hv10; clear hz10; subst hv10; have hy1 : w10.cell? ⟨X, 1, none⟩ = some (.slice b2 m2 d2) := HP10.out.box.one rfl
              simp only [Act.put, List.setIfInBounds_toArray, List.set_cons_zero, List.set_cons_succ]
              refine hK.out _ _ (trivial) (fun hHeld => ?_)
              clear hK K
              refine wpAnyH_ready (rs := [11]) (by kernel_rfl) (by simp) ?_
              refine AllReadyH.cons (o := { dst := some 76, op := .call { callee := .builtin Go.Builtin.append, args := #[.tmp 71, .tmp 75], argTypes := #[32, 32] }, type := 32, pos := "law.go:40", after := #[{ on := 6, ground := .data }, { on := 10, ground := .data }, { on := 5, ground := .chain }], guard := none }) rfl (fun K hK => ?_) AllReadyH.nil
              refine step_append_u rfl _ _ rfl B1 (.slice g7 (P + 1) c7) ((U.map Pr.v).take P ++ [pv]) rfl HT10.out.two _ ((U.map Pr.v).drop (Q)) rfl (HS2.out _ HP10.out.tab) (by have h1 := (HLD.out (U.map Pr.v) (by simp)).1; have h2 := (HLD.out (U.map Pr.v) (by simp)).2; (try simp only [List.length_append, List.length_cons, List.length_nil]); omega) HB10.out ?_; intro v11 w11 HO11 HG11 HM11; have HT11 : Hid (Two w11 B1 _ v11 ((U.map Pr.k).take P ++ [pk] ++ (U.map Pr.k).drop (Q)) ((U.map Pr.v).take P ++ [pv] ++ (U.map Pr.v).drop (Q))) := HT10.out.second HO11.out HG11.out HM11.out; have HP11 : Hid (PutSt w w11 X (.slice b1 m1 d1) (.slice b2 m2 d2) U N) := HP10.out.grown HG11.out (fun j e => ⟨by have := (HT10.out.two.lt j e).1; have := HKV.out.2.2; omega, fun e' => by have := (HT10.out.two.lt j e).1; have := HKV.out.1 j e'; omega, fun e' => by have := (HT10.out.two.lt j e).1; have := HKV.out.2.1 j e'; omega⟩); obtain ⟨g11, c11, hv11, _⟩ := HO11.out.facts; obtain ⟨z11, hz11⟩ : ∃ z, ((U.map Pr.v).take P ++ [pv] ++ (U.map Pr.v).drop (Q)).length = z := ⟨_, rfl⟩; rw [hz11] at hv11; clear hz11; subst hv11; have hf0 : w11.frozen? ⟨X, 0, none⟩ = false := HP11.out.box.frozen 0; have hf1 : w11.frozen? ⟨X, 1, none⟩ = false := HP11.out.box.frozen 1; have hk0 : w11.cell? ⟨X, 0, none⟩ = some (.slice b1 m1 d1) := HP11.out.box.one rfl; have hk1 : w11.cell? ⟨X, 1, none⟩ = some (.slice b2 m2 d2) := HP11.out.box.one rfl
              simp only [Act.put, List.setIfInBounds_toArray, List.set_cons_zero, List.set_cons_succ]
              refine hK.out _ _ (trivial) (fun hHeld => ?_)
              clear hK K
              refine wpAnyH_take (i := 12) (oi := { dst := some 77, op := .build 34 #[(0, .tmp 70), (1, .tmp 76)], type := 34, pos := "law.go:40", after := #[{ on := 5, ground := .data }, { on := 11, ground := .data }], guard := none }) (v := ?_) rfl (by kernel_rfl) (by kernel_rfl) (by kernel_rfl) (fun _ _ _ h => h) (Or.inl ⟨by rfl, ?_⟩) (by assumption) ?_
              rotate_left
              · intro _ _; go_simp; first | done | with_reducible rfl
              simp only [Act.put, List.setIfInBounds_toArray, List.set_cons_zero, List.set_cons_succ]
              refine wpAnyH_ready (rs := [13]) (by kernel_rfl) (by simp) ?_
              refine AllReadyH.cons (o := { dst := none, op := .store 34 (.tmp 2) (.tmp 77), type := 0, pos := "law.go:40", after := #[{ on := 12, ground := .data }, { on := 11, ground := .chain }, { on := 0, ground := .phase }, { on := 1, ground := .phase }, { on := 2, ground := .phase }, { on := 3, ground := .phase }, { on := 4, ground := .phase }, { on := 5, ground := .phase }, { on := 6, ground := .phase }, { on := 7, ground := .phase }, { on := 8, ground := .phase }, { on := 9, ground := .phase }, { on := 10, ground := .phase }, { on := 11, ground := .phase }, { on := 12, ground := .phase }], guard := none }) rfl (fun K hK => ?_) AllReadyH.nil
              go_simp
              skip
              go_simp
              refine hK.out _ _ (trivial) (fun hHeld => ?_)
              clear hK K
              refine wpAnyH_done (by kernel_rfl) ?_ _
              refine NoPanic.normal ?_
              clear hHeld hz0 hz1 hadr1 hadr2 e5 e6 hr1 hr3 HS1 HS2 HLD HM
              generalize hw12 : World.setCell (World.setCell w11 _ _) _ _ = w12
              have HP12 : Hid (PutSt w w12 X _ _ (tput ⟨pk, pv, false⟩ U) X) := PutSt.stored HP11.out (HT11.out) (by have := HKV.out.2.2; omega) (by have := HKV.out.2.2; omega) (by rw [HCUT.out]; simp [List.map_append, List.map_take, List.map_drop, ← HQP.out]) (by rw [HCUT.out]; simp [List.map_append, List.map_take, List.map_drop, ← HQP.out]) hw12
              clear hw12 HP11 HT11 HPZ HTZ HP10 HT10 HB10 HO10 HG10 HM10 HO11 HG11 HM11 hf0 hf1 hk0 hk1 hy1 HKV HBZ HCUT
              have hlt := HSTH.out.1
              have hn63 := HSTH.out.2
              have e0 : (0 : Int) ≤ (k : Int) := by omega
              have e1 : (k : Int) < (n : Int) := by omega
              go_wp2_with fail
              go_roundw
              case rel =>
                refine ⟨k + 1, g10, g11, z10, z11, c10, c11, by omega, by go_num, ?_⟩
                show PutSt _ _ _ _ _ _ _
                rw [HTB.out, show tabN (k + 1) N0 X = X from if_neg (Nat.succ_ne_zero k)]
                exact HP12.out
              case measure => simp [intOf]; omega
          · go_simp
            skip
            go_simp
            refine hK.out _ _ (trivial) (fun hHeld => ?_)
            clear hK K
            refine wpAnyH_take (i := 10) (oi := { dst := some 75, op := .slice 32 (.tmp 73) (some (.tmp 74)) none none, type := 32, pos := "law.go:40", after := #[{ on := 8, ground := .data }, { on := 9, ground := .data }], guard := none }) (v := ?_) rfl (by kernel_rfl) (by kernel_rfl) (by kernel_rfl) (fun _ _ _ h => h) (Or.inl ⟨by rfl, ?_⟩) (by assumption) ?_
            rotate_left
            · intro _ _; go_simp; first | done | with_reducible rfl
            simp only [Act.put, List.setIfInBounds_toArray, List.set_cons_zero, List.set_cons_succ]
            refine wpAnyH_ready (rs := [2]) (by kernel_rfl) (by simp) ?_
            refine AllReadyH.cons (o := { dst := some 67, op := .load 32 (.tmp 66), type := 32, pos := "law.go:40", after := #[{ on := 1, ground := .data }], guard := none }) rfl (fun K hK => ?_) AllReadyH.nil
            go_simp
            skip
            go_simp
            refine hK.out _ _ (trivial) (fun hHeld => ?_)
            clear hK K
            refine wpAnyH_take (i := 4) (oi := { dst := some 69, op := .slice 32 (.tmp 67) (some (.tmp 68)) none none, type := 32, pos := "law.go:40", after := #[{ on := 2, ground := .data }, { on := 3, ground := .data }], guard := none }) (v := ?_) rfl (by kernel_rfl) (by kernel_rfl) (by kernel_rfl) (fun _ _ _ h => h) (Or.inl ⟨by rfl, ?_⟩) (by assumption) ?_
            rotate_left
            · intro _ _; go_simp; first | done | with_reducible rfl
            simp only [Act.put, List.setIfInBounds_toArray, List.set_cons_zero, List.set_cons_succ]
            refine wpAnyH_ready (rs := [5]) (by kernel_rfl) (by simp) ?_
            refine AllReadyH.cons (o := { dst := some 70, op := .call { callee := .builtin Go.Builtin.append, args := #[.tmp 65, .tmp 69], argTypes := #[32, 32] }, type := 32, pos := "law.go:40", after := #[{ on := 0, ground := .data }, { on := 4, ground := .data }], guard := none }) rfl (fun K hK => ?_) AllReadyH.nil
            refine step_append_u rfl _ _ rfl B1 (.slice g6 (P + 1) c6) ((U.map Pr.k).take P ++ [pk]) rfl (HTZ.out.below (Below.refl _ _).drew).one _ ((U.map Pr.k).drop (Q)) rfl (HS1.out _ (HPZ.out.tab.below (Below.refl _ _).drew)) (by have h1 := (HLD.out (U.map Pr.k) (by simp)).1; have h2 := (HLD.out (U.map Pr.k) (by simp)).2; (try simp only [List.length_append, List.length_cons, List.length_nil]); omega) HBZ.out ?_; intro v10 w10 HO10 HG10 HM10; have HG10' : (World.drew _).grownBy w10 _ := HG10.out; have HT10 : Hid (Two w10 B1 v10 (.slice g7 (P + 1) c7) ((U.map Pr.k).take P ++ [pk] ++ (U.map Pr.k).drop (Q)) ((U.map Pr.v).take P ++ [pv])) := (HTZ.out.below (Below.refl _ _).drew).first HO10.out HG10.out HM10.out; have HP10 : Hid (PutSt w w10 X (.slice b1 m1 d1) (.slice b2 m2 d2) U N) := (HPZ.out.below (Below.refl _ _).drew).grown HG10.out (fun j e => ⟨by have := (HTZ.out.one.lt j e).1; have := HKV.out.2.2; omega, fun e' => by have := (HTZ.out.one.lt j e).1; have := HKV.out.1 j e'; omega, fun e' => by have := (HTZ.out.one.lt j e).1; have := HKV.out.2.1 j e'; omega⟩); have HB10 : Hid (B1 ≤ w10.heap.size) := Nat.le_trans HBZ.out HG10.out.size; obtain ⟨g10, c10, hv10, _⟩ := HO10.out.facts; obtain ⟨z10, hz10⟩ : ∃ z, ((U.map Pr.k).take P ++ [pk] ++ (U.map Pr.k).drop (Q)).length = z := ⟨_, rfl⟩; rw [hz10] at hv10; clear hz10; subst hv10; have hy1 : w10.cell? ⟨X, 1, none⟩ = some (.slice b2 m2 d2) := HP10.out.box.one rfl
            simp only [Act.put, List.setIfInBounds_toArray, List.set_cons_zero, List.set_cons_succ]
            refine hK.out _ _ (trivial) (fun hHeld => ?_)
            clear hK K
            refine wpAnyH_ready (rs := [11]) (by kernel_rfl) (by simp) ?_
            refine AllReadyH.cons (o := { dst := some 76, op := .call { callee := .builtin Go.Builtin.append, args := #[.tmp 71, .tmp 75], argTypes := #[32, 32] }, type := 32, pos := "law.go:40", after := #[{ on := 6, ground := .data }, { on := 10, ground := .data }, { on := 5, ground := .chain }], guard := none }) rfl (fun K hK => ?_) AllReadyH.nil
            refine step_append_u rfl _ _ rfl B1 (.slice g7 (P + 1) c7) ((U.map Pr.v).take P ++ [pv]) rfl HT10.out.two _ ((U.map Pr.v).drop (Q)) rfl (HS2.out _ HP10.out.tab) (by have h1 := (HLD.out (U.map Pr.v) (by simp)).1; have h2 := (HLD.out (U.map Pr.v) (by simp)).2; (try simp only [List.length_append, List.length_cons, List.length_nil]); omega) HB10.out ?_; intro v11 w11 HO11 HG11 HM11; have HT11 : Hid (Two w11 B1 _ v11 ((U.map Pr.k).take P ++ [pk] ++ (U.map Pr.k).drop (Q)) ((U.map Pr.v).take P ++ [pv] ++ (U.map Pr.v).drop (Q))) := HT10.out.second HO11.out HG11.out HM11.out; have HP11 : Hid (PutSt w w11 X (.slice b1 m1 d1) (.slice b2 m2 d2) U N) := HP10.out.grown HG11.out (fun j e => ⟨by have := (HT10.out.two.lt j e).1; have := HKV.out.2.2; omega, fun e' => by have := (HT10.out.two.lt j e).1; have := HKV.out.1 j e'; omega, fun e' => by have := (HT10.out.two.lt j e).1; have := HKV.out.2.1 j e'; omega⟩); obtain ⟨g11, c11, hv11, _⟩ := HO11.out.facts; obtain ⟨z11, hz11⟩ : ∃ z, ((U.map Pr.v).take P ++ [pv] ++ (U.map Pr.v).drop (Q)).length = z := ⟨_, rfl⟩; rw [hz11] at hv11; clear hz11; subst hv11; have hf0 : w11.frozen? ⟨X, 0, none⟩ = false := HP11.out.box.frozen 0; have hf1 : w11.frozen? ⟨X, 1, none⟩ = false := HP11.out.box.frozen 1; have hk0 : w11.cell? ⟨X, 0, none⟩ = some (.slice b1 m1 d1) := HP11.out.box.one rfl; have hk1 : w11.cell? ⟨X, 1, none⟩ = some (.slice b2 m2 d2) := HP11.out.box.one rfl
            simp only [Act.put, List.setIfInBounds_toArray, List.set_cons_zero, List.set_cons_succ]
            refine hK.out _ _ (trivial) (fun hHeld => ?_)
            clear hK K
            refine wpAnyH_take (i := 12) (oi := { dst := some 77, op := .build 34 #[(0, .tmp 70), (1, .tmp 76)], type := 34, pos := "law.go:40", after := #[{ on := 5, ground := .data }, { on := 11, ground := .data }], guard := none }) (v := ?_) rfl (by kernel_rfl) (by kernel_rfl) (by kernel_rfl) (fun _ _ _ h => h) (Or.inl ⟨by rfl, ?_⟩) (by assumption) ?_
            rotate_left
            · intro _ _; go_simp; first | done | with_reducible rfl
            simp only [Act.put, List.setIfInBounds_toArray, List.set_cons_zero, List.set_cons_succ]
            refine wpAnyH_ready (rs := [13]) (by kernel_rfl) (by simp) ?_
            refine AllReadyH.cons (o := { dst := none, op := .store 34 (.tmp 2) (.tmp 77), type := 0, pos := "law.go:40", after := #[{ on := 12, ground := .data }, { on := 11, ground := .chain }, { on := 0, ground := .phase }, { on := 1, ground := .phase }, { on := 2, ground := .phase }, { on := 3, ground := .phase }, { on := 4, ground := .phase }, { on := 5, ground := .phase }, { on := 6, ground := .phase }, { on := 7, ground := .phase }, { on := 8, ground := .phase }, { on := 9, ground := .phase }, { on := 10, ground := .phase }, { on := 11, ground := .phase }, { on := 12, ground := .phase }], guard := none }) rfl (fun K hK => ?_) AllReadyH.nil
            go_simp
            skip
            go_simp
            refine hK.out _ _ (trivial) (fun hHeld => ?_)
            clear hK K
            refine wpAnyH_done (by kernel_rfl) ?_ _
            refine NoPanic.normal ?_
            clear hHeld hz0 hz1 hadr1 hadr2 e5 e6 hr1 hr3 HS1 HS2 HLD HM
            generalize hw12 : World.setCell (World.setCell w11 _ _) _ _ = w12
            have HP12 : Hid (PutSt w w12 X _ _ (tput ⟨pk, pv, false⟩ U) X) := PutSt.stored HP11.out (HT11.out) (by have := HKV.out.2.2; omega) (by have := HKV.out.2.2; omega) (by rw [HCUT.out]; simp [List.map_append, List.map_take, List.map_drop, ← HQP.out]) (by rw [HCUT.out]; simp [List.map_append, List.map_take, List.map_drop, ← HQP.out]) hw12
            clear hw12 HP11 HT11 HPZ HTZ HP10 HT10 HB10 HO10 HG10 HM10 HO11 HG11 HM11 hf0 hf1 hk0 hk1 hy1 HKV HBZ HCUT
            have hlt := HSTH.out.1
            have hn63 := HSTH.out.2
            have e0 : (0 : Int) ≤ (k : Int) := by omega
            have e1 : (k : Int) < (n : Int) := by omega
            go_wp2_with fail
            go_roundw
            case rel =>
              refine ⟨k + 1, g10, g11, z10, z11, c10, c11, by omega, by go_num, ?_⟩
              show PutSt _ _ _ _ _ _ _
              rw [HTB.out, show tabN (k + 1) N0 X = X from if_neg (Nat.succ_ne_zero k)]
              exact HP12.out
            case measure => simp [intOf]; omega
      | false =>
        cases pg with
        | true =>
          have hPl : P ≤ U.length := HPL.out
          have hRl : P ≤ U.length := HPL.out
          have HQP : Hid (P = P) := rfl
          go_upto_region 8 with fail
          have HKV : Hid ((∀ j, (Value.slice b1 m1 d1).ownBlock = some j → j < w3.heap.size) ∧ (∀ j, (Value.slice b2 m2 d2).ownBlock = some j → j < w3.heap.size) ∧ X + 1 < w3.heap.size) := ⟨fun j e => (HP3.out.tab.keys.lt j e).2, fun j e => (HP3.out.tab.vals.lt j e).2, HP3.out.res.lt⟩
          have e3 : (P : Int) ≤ (m1 : Int) := by have := HM.out; omega
          have e4 : (P : Int) ≤ (m2 : Int) := by have := HM.out; omega
          have e3' : (P : Int) ≤ (d1 : Int) := by omega
          have e4' : (P : Int) ≤ (d2 : Int) := by omega
          have hx0 : w3.cell? ⟨X, 0, none⟩ = some (.slice b1 m1 d1) := HP3.out.box.one rfl
          have HBA : Hid (Below w3.heap.size w3 (w3.alloc (.cells #[] 9))) := (Below.refl _ _).alloc (Nat.le_refl _) _
          have HSA : Hid (SrcU w3 (.slice b1 P d1) ((U.map Pr.k).take P)) := HP3.out.tab.keys.cutL P (by rw [List.length_map]; have := HM.out; omega)
          have HLK : Hid (∀ L : List ByteArray, L.length = U.length → (L.take P).length = P) := fun L hL => by rw [List.length_take]; omega
          have HTK : Hid (∀ L : List ByteArray, L.length = U.length → (L.take P).length ≤ 1000000) := fun L hL => by have := HTL.out; rw [List.length_take]; omega
          have hx0a : (w3.alloc (.cells #[] 9)).cell? ⟨X, 0, none⟩ = some (.slice b1 m1 d1) := cell_below' HBA.out hx0
          go_upto_region 9 with (at_builtin; refine wpList_append_u rfl _ _ rfl w3.heap.size _ [] rfl (OwnS.lit0 _) _ ((U.map Pr.k).take P) rfl (HSA.out.below HBA.out) (by have := HTK.out (U.map Pr.k) (by simp); simp only [List.length_nil]; omega) (by simp) ?_; intro v4 w4 HO4 HG4 HM4; rw [List.nil_append] at HO4; obtain ⟨g4, c4, hv4, _⟩ := HO4.out.facts; rw [HLK.out _ (by simp)] at hv4; subst hv4)
          have HP4 : Hid (PutSt w w4 X (.slice b1 m1 d1) (.slice b2 m2 d2) U N) := (HP3.out.below HBA.out).grown HG4.out (fun j e => by injection e with e; simp only at e; refine ⟨by have := HKV.out.2.2; omega, fun e' => by have := HKV.out.1 j e'; omega, fun e' => by have := HKV.out.2.1 j e'; omega⟩)
          have HZ4 : Hid (w3.heap.size + 1 ≤ w4.heap.size) := by have := HG4.out.size; simp at this; exact this
          clear HBA HSA HG4 HM4 HP3 hx0 hx0a
          generalize hB1 : w3.heap.size = B1 at *
          have hx1 : w4.cell? ⟨X, 1, none⟩ = some (.slice b2 m2 d2) := HP4.out.box.one rfl
          have HBA : Hid (Below w4.heap.size w4 (w4.alloc (.cells #[] 9))) := (Below.refl _ _).alloc (Nat.le_refl _) _
          have HSA : Hid (SrcU w4 (.slice b2 P d2) ((U.map Pr.v).take P)) := HP4.out.tab.vals.cutL P (by rw [List.length_map]; have := HM.out; omega)
          have hx1a : (w4.alloc (.cells #[] 9)).cell? ⟨X, 1, none⟩ = some (.slice b2 m2 d2) := cell_below' HBA.out hx1
          go_upto_region 10 with (at_builtin; refine wpList_append_u rfl _ _ rfl w4.heap.size _ [] rfl (OwnS.lit0 _) _ ((U.map Pr.v).take P) rfl (HSA.out.below HBA.out) (by have := HTK.out (U.map Pr.v) (by simp); simp only [List.length_nil]; omega) (by simp) ?_; intro v5 w5 HO5 HG5 HM5; rw [List.nil_append] at HO5; obtain ⟨g5, c5, hv5, _⟩ := HO5.out.facts; rw [HLK.out _ (by simp)] at hv5; subst hv5)
          have HP5 : Hid (PutSt w w5 X (.slice b1 m1 d1) (.slice b2 m2 d2) U N) := (HP4.out.below HBA.out).grown HG5.out (fun j e => by injection e with e; simp only at e; have := HZ4.out; refine ⟨by have := HKV.out.2.2; omega, fun e' => by have := HKV.out.1 j e'; omega, fun e' => by have := HKV.out.2.1 j e'; omega⟩)
          have HT5 : Hid (Two w5 B1 (.slice g4 P c4) (.slice g5 P c5) ((U.map Pr.k).take P) ((U.map Pr.v).take P)) := by
            refine ⟨(HO4.out.below HBA.out).same fun j e => HG5.out.block j (by have := (HO4.out.lt j e).2; simp; omega) (fun e' => by injection e' with e'; simp only at e'; have := (HO4.out.lt j e).2; omega), HO5.out.less (by have := HZ4.out; omega), fun j e e' => by have := (HO4.out.lt j e).2; have := (HO5.out.lt j e').1; omega⟩
          have HZ5 : Hid (B1 ≤ w5.heap.size) := by have h1 := HG5.out.size; have h2 := HZ4.out; simp at h1; show _ ≤ _; omega
          clear HBA HSA HG5 HM5 HP4 HO4 HO5 hx1 hx1a HZ4
          have hq := HQ.out w5 HP5.out.base
          have hq0 := hq.1
          have hq1 := hq.2.1
          have hq2 := hq.2.2
          clear hq
          have HPZ : Hid (PutSt w w5 X (.slice b1 m1 d1) (.slice b2 m2 d2) U N) := HP5.out
          have HTZ : Hid (Two w5 B1 (.slice g4 P c4) (.slice g5 P c5) ((U.map Pr.k).take P) ((U.map Pr.v).take P)) := HT5.out
          have HBZ : Hid (B1 ≤ w5.heap.size) := HZ5.out
          clear HP5 HT5 HZ5
          have hz0 : w5.cell? ⟨X, 0, none⟩ = some (.slice b1 m1 d1) := HPZ.out.box.one rfl
          have hz1 : w5.cell? ⟨X, 1, none⟩ = some (.slice b2 m2 d2) := HPZ.out.box.one rfl
          obtain ⟨adr1, hadr1⟩ : ∃ x, (if d1 = P then b1 else Option.map (fun x => x.add (P)) b1) = x := ⟨_, rfl⟩
          obtain ⟨adr2, hadr2⟩ : ∃ x, (if d2 = P then b2 else Option.map (fun x => x.add (P)) b2) = x := ⟨_, rfl⟩
          have e5 : (((P : Nat) : Int)) ≤ (m1 : Int) := by have := HM.out; omega
          have e6 : (((P : Nat) : Int)) ≤ (m2 : Int) := by have := HM.out; omega
          have HSTH : Hid (k < n ∧ n ≤ 9223372036854775807) := ⟨hlt, hn63⟩
          have HS1 : Hid (∀ w', TabAt w' N (.slice b1 m1 d1) (.slice b2 m2 d2) U → SrcU w' (.slice adr1 (m1 - (P)) (d1 - (P))) ((U.map Pr.k).drop (P))) := fun w' h => by rw [← hadr1]; exact h.keys.cutR (P) (by rw [List.length_map]; have := HM.out; omega)
          have HS2 : Hid (∀ w', TabAt w' N (.slice b1 m1 d1) (.slice b2 m2 d2) U → SrcU w' (.slice adr2 (m2 - (P)) (d2 - (P))) ((U.map Pr.v).drop (P))) := fun w' h => by rw [← hadr2]; exact h.vals.cutR (P) (by rw [List.length_map]; have := HM.out; omega)
          have HLD : Hid (∀ L : List ByteArray, L.length = U.length → (L.drop (P)).length ≤ 1000000 ∧ (L.take P).length ≤ 1000000) := fun L hL => by have := HTL.out; rw [List.length_drop, List.length_take]; omega
          go_upto_region 13 with fail
          clear hlt e0 e1 hk hn63 hPl hRl e3 e4 e3' e4' HPL HTL2 hd1m hd2m HQ HTK HTL HLK HE HS HN
          refine wp_region_noPanic ?_
          refine wp_region_held_drew (S := fun _ => True) HMO.out (trivial) (fun hHeld => ?_)
          refine wpAnyH_take (i := 0) (oi := { dst := some 65, op := .move (.tmp 9), type := 32, pos := "law.go:40", after := #[], guard := none }) (v := ?_) rfl (by kernel_rfl) (by kernel_rfl) (by kernel_rfl) (fun _ _ _ h => h) (Or.inl ⟨by rfl, ?_⟩) (by assumption) ?_
          rotate_left
          · intro _ _; go_simp; first | done | with_reducible rfl
          simp only [Act.put, List.setIfInBounds_toArray, List.set_cons_zero, List.set_cons_succ]
          refine wpAnyH_take (i := 1) (oi := { dst := some 66, op := .fieldAddr 34 (.tmp 2) 0, type := 0, pos := "law.go:40", after := #[], guard := none }) (v := ?_) rfl (by kernel_rfl) (by kernel_rfl) (by kernel_rfl) (fun _ _ _ h => h) (Or.inl ⟨by rfl, ?_⟩) (by assumption) ?_
          rotate_left
          · intro _ _; go_simp; first | done | with_reducible rfl
          simp only [Act.put, List.setIfInBounds_toArray, List.set_cons_zero, List.set_cons_succ]
          refine wpAnyH_take (i := 3) (oi := { dst := some 68, op := .move (.tmp 8), type := 3, pos := "law.go:40", after := #[], guard := none }) (v := ?_) rfl (by kernel_rfl) (by kernel_rfl) (by kernel_rfl) (fun _ _ _ h => h) (Or.inl ⟨by rfl, ?_⟩) (by assumption) ?_
          rotate_left
          · intro _ _; go_simp; first | done | with_reducible rfl
          simp only [Act.put, List.setIfInBounds_toArray, List.set_cons_zero, List.set_cons_succ]
          refine wpAnyH_take (i := 6) (oi := { dst := some 71, op := .move (.tmp 10), type := 32, pos := "law.go:40", after := #[], guard := none }) (v := ?_) rfl (by kernel_rfl) (by kernel_rfl) (by kernel_rfl) (fun _ _ _ h => h) (Or.inl ⟨by rfl, ?_⟩) (by assumption) ?_
          rotate_left
          · intro _ _; go_simp; first | done | with_reducible rfl
          simp only [Act.put, List.setIfInBounds_toArray, List.set_cons_zero, List.set_cons_succ]
          refine wpAnyH_take (i := 7) (oi := { dst := some 72, op := .fieldAddr 34 (.tmp 2) 1, type := 0, pos := "law.go:40", after := #[], guard := none }) (v := ?_) rfl (by kernel_rfl) (by kernel_rfl) (by kernel_rfl) (fun _ _ _ h => h) (Or.inl ⟨by rfl, ?_⟩) (by assumption) ?_
          rotate_left
          · intro _ _; go_simp; first | done | with_reducible rfl
          simp only [Act.put, List.setIfInBounds_toArray, List.set_cons_zero, List.set_cons_succ]
          refine wpAnyH_take (i := 9) (oi := { dst := some 74, op := .move (.tmp 8), type := 3, pos := "law.go:40", after := #[], guard := none }) (v := ?_) rfl (by kernel_rfl) (by kernel_rfl) (by kernel_rfl) (fun _ _ _ h => h) (Or.inl ⟨by rfl, ?_⟩) (by assumption) ?_
          rotate_left
          · intro _ _; go_simp; first | done | with_reducible rfl
          simp only [Act.put, List.setIfInBounds_toArray, List.set_cons_zero, List.set_cons_succ]
          refine wpAnyH_ready (rs := [2, 8]) (by kernel_rfl) (by simp) ?_
          refine (AllReadyH.cons (o := { dst := some 67, op := .load 32 (.tmp 66), type := 32, pos := "law.go:40", after := #[{ on := 1, ground := .data }], guard := none }) rfl (fun K hK => ?_) (AllReadyH.cons (o := { dst := some 73, op := .load 32 (.tmp 72), type := 32, pos := "law.go:40", after := #[{ on := 7, ground := .data }], guard := none }) rfl (fun K hK => ?_) AllReadyH.nil))
          · go_simp
            skip
            go_simp
            refine hK.out _ _ (trivial) (fun hHeld => ?_)
            clear hK K
            refine wpAnyH_take (i := 4) (oi := { dst := some 69, op := .slice 32 (.tmp 67) (some (.tmp 68)) none none, type := 32, pos := "law.go:40", after := #[{ on := 2, ground := .data }, { on := 3, ground := .data }], guard := none }) (v := ?_) rfl (by kernel_rfl) (by kernel_rfl) (by kernel_rfl) (fun _ _ _ h => h) (Or.inl ⟨by rfl, ?_⟩) (by assumption) ?_
            rotate_left
            · intro _ _; go_simp; first | done | with_reducible rfl
            simp only [Act.put, List.setIfInBounds_toArray, List.set_cons_zero, List.set_cons_succ]
            refine wpAnyH_ready (rs := [5, 8]) (by kernel_rfl) (by simp) ?_
            refine (AllReadyH.cons (o := { dst := some 70, op := .call { callee := .builtin Go.Builtin.append, args := #[.tmp 65, .tmp 69], argTypes := #[32, 32] }, type := 32, pos := "law.go:40", after := #[{ on := 0, ground := .data }, { on := 4, ground := .data }], guard := none }) rfl (fun K hK => ?_) (AllReadyH.cons (o := { dst := some 73, op := .load 32 (.tmp 72), type := 32, pos := "law.go:40", after := #[{ on := 7, ground := .data }], guard := none }) rfl (fun K hK => ?_) AllReadyH.nil))
            · refine step_append_u rfl _ _ rfl B1 (.slice g4 P c4) ((U.map Pr.k).take P) rfl (HTZ.out.below (Below.refl _ _).drew).one _ ((U.map Pr.k).drop (P)) rfl (HS1.out _ (HPZ.out.tab.below (Below.refl _ _).drew)) (by have h1 := (HLD.out (U.map Pr.k) (by simp)).1; have h2 := (HLD.out (U.map Pr.k) (by simp)).2; (try simp only [List.length_append, List.length_cons, List.length_nil]); omega) HBZ.out ?_; intro v10 w10 HO10 HG10 HM10; have HG10' : (World.drew _).grownBy w10 _ := HG10.out; have HT10 : Hid (Two w10 B1 v10 (.slice g5 P c5) ((U.map Pr.k).take P ++ (U.map Pr.k).drop (P)) ((U.map Pr.v).take P)) := (HTZ.out.below (Below.refl _ _).drew).first HO10.out HG10.out HM10.out; have HP10 : Hid (PutSt w w10 X (.slice b1 m1 d1) (.slice b2 m2 d2) U N) := (HPZ.out.below (Below.refl _ _).drew).grown HG10.out (fun j e => ⟨by have := (HTZ.out.one.lt j e).1; have := HKV.out.2.2; omega, fun e' => by have := (HTZ.out.one.lt j e).1; have := HKV.out.1 j e'; omega, fun e' => by have := (HTZ.out.one.lt j e).1; have := HKV.out.2.1 j e'; omega⟩); have HB10 : Hid (B1 ≤ w10.heap.size) := Nat.le_trans HBZ.out HG10.out.size; obtain ⟨g10, c10, hv10, _⟩ := HO10.out.facts; obtain ⟨z10, hz10⟩ : ∃ z, ((U.map Pr.k).take P ++ (U.map Pr.k).drop (P)).length = z := ⟨_, rfl⟩; rw [hz10] at hv10; clear hz10; subst hv10; have hy1 : w10.cell? ⟨X, 1, none⟩ = some (.slice b2 m2 d2) := HP10.out.box.one rfl
              simp only [Act.put, List.setIfInBounds_toArray, List.set_cons_zero, List.set_cons_succ]
              refine hK.out _ _ (trivial) (fun hHeld => ?_)
              clear hK K
              refine wpAnyH_ready (rs := [8]) (by kernel_rfl) (by simp) ?_
              refine AllReadyH.cons (o := { dst := some 73, op := .load 32 (.tmp 72), type := 32, pos := "law.go:40", after := #[{ on := 7, ground := .data }], guard := none }) rfl (fun K hK => ?_) AllReadyH.nil
              go_simp
              skip
              go_simp
              refine hK.out _ _ (trivial) (fun hHeld => ?_)
              clear hK K
              refine wpAnyH_take (i := 10) (oi := { dst := some 75, op := .slice 32 (.tmp 73) (some (.tmp 74)) none none, type := 32, pos := "law.go:40", after := #[{ on := 8, ground := .data }, { on := 9, ground := .data }], guard := none }) (v := ?_) rfl (by kernel_rfl) (by kernel_rfl) (by kernel_rfl) (fun _ _ _ h => h) (Or.inl ⟨by rfl, ?_⟩) (by assumption) ?_
              rotate_left
              · intro _ _; go_simp; first | done | with_reducible rfl
              simp only [Act.put, List.setIfInBounds_toArray, List.set_cons_zero, List.set_cons_succ]
              refine wpAnyH_ready (rs := [11]) (by kernel_rfl) (by simp) ?_
              refine AllReadyH.cons (o := { dst := some 76, op := .call { callee := .builtin Go.Builtin.append, args := #[.tmp 71, .tmp 75], argTypes := #[32, 32] }, type := 32, pos := "law.go:40", after := #[{ on := 6, ground := .data }, { on := 10, ground := .data }, { on := 5, ground := .chain }], guard := none }) rfl (fun K hK => ?_) AllReadyH.nil
              refine step_append_u rfl _ _ rfl B1 (.slice g5 P c5) ((U.map Pr.v).take P) rfl HT10.out.two _ ((U.map Pr.v).drop (P)) rfl (HS2.out _ HP10.out.tab) (by have h1 := (HLD.out (U.map Pr.v) (by simp)).1; have h2 := (HLD.out (U.map Pr.v) (by simp)).2; (try simp only [List.length_append, List.length_cons, List.length_nil]); omega) HB10.out ?_; intro v11 w11 HO11 HG11 HM11; have HT11 : Hid (Two w11 B1 _ v11 ((U.map Pr.k).take P ++ (U.map Pr.k).drop (P)) ((U.map Pr.v).take P ++ (U.map Pr.v).drop (P))) := HT10.out.second HO11.out HG11.out HM11.out; have HP11 : Hid (PutSt w w11 X (.slice b1 m1 d1) (.slice b2 m2 d2) U N) := HP10.out.grown HG11.out (fun j e => ⟨by have := (HT10.out.two.lt j e).1; have := HKV.out.2.2; omega, fun e' => by have := (HT10.out.two.lt j e).1; have := HKV.out.1 j e'; omega, fun e' => by have := (HT10.out.two.lt j e).1; have := HKV.out.2.1 j e'; omega⟩); obtain ⟨g11, c11, hv11, _⟩ := HO11.out.facts; obtain ⟨z11, hz11⟩ : ∃ z, ((U.map Pr.v).take P ++ (U.map Pr.v).drop (P)).length = z := ⟨_, rfl⟩; rw [hz11] at hv11; clear hz11; subst hv11; have hf0 : w11.frozen? ⟨X, 0, none⟩ = false := HP11.out.box.frozen 0; have hf1 : w11.frozen? ⟨X, 1, none⟩ = false := HP11.out.box.frozen 1; have hk0 : w11.cell? ⟨X, 0, none⟩ = some (.slice b1 m1 d1) := HP11.out.box.one rfl; have hk1 : w11.cell? ⟨X, 1, none⟩ = some (.slice b2 m2 d2) := HP11.out.box.one rfl
              simp only [Act.put, List.setIfInBounds_toArray, List.set_cons_zero, List.set_cons_succ]
              refine hK.out _ _ (trivial) (fun hHeld => ?_)
              clear hK K
              refine wpAnyH_take (i := 12) (oi := { dst := some 77, op := .build 34 #[(0, .tmp 70), (1, .tmp 76)], type := 34, pos := "law.go:40", after := #[{ on := 5, ground := .data }, { on := 11, ground := .data }], guard := none }) (v := ?_) rfl (by kernel_rfl) (by kernel_rfl) (by kernel_rfl) (fun _ _ _ h => h) (Or.inl ⟨by rfl, ?_⟩) (by assumption) ?_
              rotate_left
              · intro _ _; go_simp; first | done | with_reducible rfl
              simp only [Act.put, List.setIfInBounds_toArray, List.set_cons_zero, List.set_cons_succ]
              refine wpAnyH_ready (rs := [13]) (by kernel_rfl) (by simp) ?_
              refine AllReadyH.cons (o := { dst := none, op := .store 34 (.tmp 2) (.tmp 77), type := 0, pos := "law.go:40", after := #[{ on := 12, ground := .data }, { on := 11, ground := .chain }, { on := 0, ground := .phase }, { on := 1, ground := .phase }, { on := 2, ground := .phase }, { on := 3, ground := .phase }, { on := 4, ground := .phase }, { on := 5, ground := .phase }, { on := 6, ground := .phase }, { on := 7, ground := .phase }, { on := 8, ground := .phase }, { on := 9, ground := .phase }, { on := 10, ground := .phase }, { on := 11, ground := .phase }, { on := 12, ground := .phase }], guard := none }) rfl (fun K hK => ?_) AllReadyH.nil
              go_simp
              skip
              go_simp
              refine hK.out _ _ (trivial) (fun hHeld => ?_)
              clear hK K
              refine wpAnyH_done (by kernel_rfl) ?_ _
              refine NoPanic.normal ?_
              clear hHeld hz0 hz1 hadr1 hadr2 e5 e6 hr1 hr3 HS1 HS2 HLD HM
              generalize hw12 : World.setCell (World.setCell w11 _ _) _ _ = w12
              have HP12 : Hid (PutSt w w12 X _ _ (tput ⟨pk, pv, true⟩ U) X) := PutSt.stored HP11.out (HT11.out) (by have := HKV.out.2.2; omega) (by have := HKV.out.2.2; omega) (by rw [HCUT.out]; simp) (by rw [HCUT.out]; simp) hw12
              clear hw12 HP11 HT11 HPZ HTZ HP10 HT10 HB10 HO10 HG10 HM10 HO11 HG11 HM11 hf0 hf1 hk0 hk1 hy1 HKV HBZ HCUT
              have hlt := HSTH.out.1
              have hn63 := HSTH.out.2
              have e0 : (0 : Int) ≤ (k : Int) := by omega
              have e1 : (k : Int) < (n : Int) := by omega
              go_wp2_with fail
              go_roundw
              case rel =>
                refine ⟨k + 1, g10, g11, z10, z11, c10, c11, by omega, by go_num, ?_⟩
                show PutSt _ _ _ _ _ _ _
                rw [HTB.out, show tabN (k + 1) N0 X = X from if_neg (Nat.succ_ne_zero k)]
                exact HP12.out
              case measure => simp [intOf]; omega
            · go_simp
              skip
              go_simp
              refine hK.out _ _ (trivial) (fun hHeld => ?_)
              clear hK K
              refine wpAnyH_take (i := 10) (oi := { dst := some 75, op := .slice 32 (.tmp 73) (some (.tmp 74)) none none, type := 32, pos := "law.go:40", after := #[{ on := 8, ground := .data }, { on := 9, ground := .data }], guard := none }) (v := ?_) rfl (by kernel_rfl) (by kernel_rfl) (by kernel_rfl) (fun _ _ _ h => h) (Or.inl ⟨by rfl, ?_⟩) (by assumption) ?_
              rotate_left
              · intro _ _; go_simp; first | done | with_reducible rfl
              simp only [Act.put, List.setIfInBounds_toArray, List.set_cons_zero, List.set_cons_succ]
              refine wpAnyH_ready (rs := [5]) (by kernel_rfl) (by simp) ?_
              refine AllReadyH.cons (o := { dst := some 70, op := .call { callee := .builtin Go.Builtin.append, args := #[.tmp 65, .tmp 69], argTypes := #[32, 32] }, type := 32, pos := "law.go:40", after := #[{ on := 0, ground := .data }, { on := 4, ground := .data }], guard := none }) rfl (fun K hK => ?_) AllReadyH.nil
              refine step_append_u rfl _ _ rfl B1 (.slice g4 P c4) ((U.map Pr.k).take P) rfl (HTZ.out.below (Below.refl _ _).drew).one _ ((U.map Pr.k).drop (P)) rfl (HS1.out _ (HPZ.out.tab.below (Below.refl _ _).drew)) (by have h1 := (HLD.out (U.map Pr.k) (by simp)).1; have h2 := (HLD.out (U.map Pr.k) (by simp)).2; (try simp only [List.length_append, List.length_cons, List.length_nil]); omega) HBZ.out ?_; intro v10 w10 HO10 HG10 HM10; have HG10' : (World.drew _).grownBy w10 _ := HG10.out; have HT10 : Hid (Two w10 B1 v10 (.slice g5 P c5) ((U.map Pr.k).take P ++ (U.map Pr.k).drop (P)) ((U.map Pr.v).take P)) := (HTZ.out.below (Below.refl _ _).drew).first HO10.out HG10.out HM10.out; have HP10 : Hid (PutSt w w10 X (.slice b1 m1 d1) (.slice b2 m2 d2) U N) := (HPZ.out.below (Below.refl _ _).drew).grown HG10.out (fun j e => ⟨by have := (HTZ.out.one.lt j e).1; have := HKV.out.2.2; omega, fun e' => by have := (HTZ.out.one.lt j e).1; have := HKV.out.1 j e'; omega, fun e' => by have := (HTZ.out.one.lt j e).1; have := HKV.out.2.1 j e'; omega⟩); have HB10 : Hid (B1 ≤ w10.heap.size) := Nat.le_trans HBZ.out HG10.out.size; obtain ⟨g10, c10, hv10, _⟩ := HO10.out.facts; obtain ⟨z10, hz10⟩ : ∃ z, ((U.map Pr.k).take P ++ (U.map Pr.k).drop (P)).length = z := ⟨_, rfl⟩; rw [hz10] at hv10; clear hz10; subst hv10; have hy1 : w10.cell? ⟨X, 1, none⟩ = some (.slice b2 m2 d2) := HP10.out.box.one rfl
              simp only [Act.put, List.setIfInBounds_toArray, List.set_cons_zero, List.set_cons_succ]
              refine hK.out _ _ (trivial) (fun hHeld => ?_)
              clear hK K
              refine wpAnyH_ready (rs := [11]) (by kernel_rfl) (by simp) ?_
              refine AllReadyH.cons (o := { dst := some 76, op := .call { callee := .builtin Go.Builtin.append, args := #[.tmp 71, .tmp 75], argTypes := #[32, 32] }, type := 32, pos := "law.go:40", after := #[{ on := 6, ground := .data }, { on := 10, ground := .data }, { on := 5, ground := .chain }], guard := none }) rfl (fun K hK => ?_) AllReadyH.nil
              refine step_append_u rfl _ _ rfl B1 (.slice g5 P c5) ((U.map Pr.v).take P) rfl HT10.out.two _ ((U.map Pr.v).drop (P)) rfl (HS2.out _ HP10.out.tab) (by have h1 := (HLD.out (U.map Pr.v) (by simp)).1; have h2 := (HLD.out (U.map Pr.v) (by simp)).2; (try simp only [List.length_append, List.length_cons, List.length_nil]); omega) HB10.out ?_; intro v11 w11 HO11 HG11 HM11; have HT11 : Hid (Two w11 B1 _ v11 ((U.map Pr.k).take P ++ (U.map Pr.k).drop (P)) ((U.map Pr.v).take P ++ (U.map Pr.v).drop (P))) := HT10.out.second HO11.out HG11.out HM11.out; have HP11 : Hid (PutSt w w11 X (.slice b1 m1 d1) (.slice b2 m2 d2) U N) := HP10.out.grown HG11.out (fun j e => ⟨by have := (HT10.out.two.lt j e).1; have := HKV.out.2.2; omega, fun e' => by have := (HT10.out.two.lt j e).1; have := HKV.out.1 j e'; omega, fun e' => by have := (HT10.out.two.lt j e).1; have := HKV.out.2.1 j e'; omega⟩); obtain ⟨g11, c11, hv11, _⟩ := HO11.out.facts; obtain ⟨z11, hz11⟩ : ∃ z, ((U.map Pr.v).take P ++ (U.map Pr.v).drop (P)).length = z := ⟨_, rfl⟩; rw [hz11] at hv11; clear hz11; subst hv11; have hf0 : w11.frozen? ⟨X, 0, none⟩ = false := HP11.out.box.frozen 0; have hf1 : w11.frozen? ⟨X, 1, none⟩ = false := HP11.out.box.frozen 1; have hk0 : w11.cell? ⟨X, 0, none⟩ = some (.slice b1 m1 d1) := HP11.out.box.one rfl; have hk1 : w11.cell? ⟨X, 1, none⟩ = some (.slice b2 m2 d2) := HP11.out.box.one rfl
              simp only [Act.put, List.setIfInBounds_toArray, List.set_cons_zero, List.set_cons_succ]
              refine hK.out _ _ (trivial) (fun hHeld => ?_)
              clear hK K
              refine wpAnyH_take (i := 12) (oi := { dst := some 77, op := .build 34 #[(0, .tmp 70), (1, .tmp 76)], type := 34, pos := "law.go:40", after := #[{ on := 5, ground := .data }, { on := 11, ground := .data }], guard := none }) (v := ?_) rfl (by kernel_rfl) (by kernel_rfl) (by kernel_rfl) (fun _ _ _ h => h) (Or.inl ⟨by rfl, ?_⟩) (by assumption) ?_
              rotate_left
              · intro _ _; go_simp; first | done | with_reducible rfl
              simp only [Act.put, List.setIfInBounds_toArray, List.set_cons_zero, List.set_cons_succ]
              refine wpAnyH_ready (rs := [13]) (by kernel_rfl) (by simp) ?_
              refine AllReadyH.cons (o := { dst := none, op := .store 34 (.tmp 2) (.tmp 77), type := 0, pos := "law.go:40", after := #[{ on := 12, ground := .data }, { on := 11, ground := .chain }, { on := 0, ground := .phase }, { on := 1, ground := .phase }, { on := 2, ground := .phase }, { on := 3, ground := .phase }, { on := 4, ground := .phase }, { on := 5, ground := .phase }, { on := 6, ground := .phase }, { on := 7, ground := .phase }, { on := 8, ground := .phase }, { on := 9, ground := .phase }, { on := 10, ground := .phase }, { on := 11, ground := .phase }, { on := 12, ground := .phase }], guard := none }) rfl (fun K hK => ?_) AllReadyH.nil
              go_simp
              skip
              go_simp
              refine hK.out _ _ (trivial) (fun hHeld => ?_)
              clear hK K
              refine wpAnyH_done (by kernel_rfl) ?_ _
              refine NoPanic.normal ?_
              clear hHeld hz0 hz1 hadr1 hadr2 e5 e6 hr1 hr3 HS1 HS2 HLD HM
              generalize hw12 : World.setCell (World.setCell w11 _ _) _ _ = w12
              have HP12 : Hid (PutSt w w12 X _ _ (tput ⟨pk, pv, true⟩ U) X) := PutSt.stored HP11.out (HT11.out) (by have := HKV.out.2.2; omega) (by have := HKV.out.2.2; omega) (by rw [HCUT.out]; simp) (by rw [HCUT.out]; simp) hw12
              clear hw12 HP11 HT11 HPZ HTZ HP10 HT10 HB10 HO10 HG10 HM10 HO11 HG11 HM11 hf0 hf1 hk0 hk1 hy1 HKV HBZ HCUT
              have hlt := HSTH.out.1
              have hn63 := HSTH.out.2
              have e0 : (0 : Int) ≤ (k : Int) := by omega
              have e1 : (k : Int) < (n : Int) := by omega
              go_wp2_with fail
              go_roundw
              case rel =>
                refine ⟨k + 1, g10, g11, z10, z11, c10, c11, by omega, by go_num, ?_⟩
                show PutSt _ _ _ _ _ _ _
                rw [HTB.out, show tabN (k + 1) N0 X = X from if_neg (Nat.succ_ne_zero k)]
                exact HP12.out
              case measure => simp [intOf]; omega
          · go_simp
            skip
            go_simp
            refine hK.out _ _ (trivial) (fun hHeld => ?_)
            clear hK K
            refine wpAnyH_take (i := 10) (oi := { dst := some 75, op := .slice 32 (.tmp 73) (some (.tmp 74)) none none, type := 32, pos := "law.go:40", after := #[{ on := 8, ground := .data }, { on := 9, ground := .data }], guard := none }) (v := ?_) rfl (by kernel_rfl) (by kernel_rfl) (by kernel_rfl) (fun _ _ _ h => h) (Or.inl ⟨by rfl, ?_⟩) (by assumption) ?_
            rotate_left
            · intro _ _; go_simp; first | done | with_reducible rfl
            simp only [Act.put, List.setIfInBounds_toArray, List.set_cons_zero, List.set_cons_succ]
            refine wpAnyH_ready (rs := [2]) (by kernel_rfl) (by simp) ?_
            refine AllReadyH.cons (o := { dst := some 67, op := .load 32 (.tmp 66), type := 32, pos := "law.go:40", after := #[{ on := 1, ground := .data }], guard := none }) rfl (fun K hK => ?_) AllReadyH.nil
            go_simp
            skip
            go_simp
            refine hK.out _ _ (trivial) (fun hHeld => ?_)
            clear hK K
            refine wpAnyH_take (i := 4) (oi := { dst := some 69, op := .slice 32 (.tmp 67) (some (.tmp 68)) none none, type := 32, pos := "law.go:40", after := #[{ on := 2, ground := .data }, { on := 3, ground := .data }], guard := none }) (v := ?_) rfl (by kernel_rfl) (by kernel_rfl) (by kernel_rfl) (fun _ _ _ h => h) (Or.inl ⟨by rfl, ?_⟩) (by assumption) ?_
            rotate_left
            · intro _ _; go_simp; first | done | with_reducible rfl
            simp only [Act.put, List.setIfInBounds_toArray, List.set_cons_zero, List.set_cons_succ]
            refine wpAnyH_ready (rs := [5]) (by kernel_rfl) (by simp) ?_
            refine AllReadyH.cons (o := { dst := some 70, op := .call { callee := .builtin Go.Builtin.append, args := #[.tmp 65, .tmp 69], argTypes := #[32, 32] }, type := 32, pos := "law.go:40", after := #[{ on := 0, ground := .data }, { on := 4, ground := .data }], guard := none }) rfl (fun K hK => ?_) AllReadyH.nil
            refine step_append_u rfl _ _ rfl B1 (.slice g4 P c4) ((U.map Pr.k).take P) rfl (HTZ.out.below (Below.refl _ _).drew).one _ ((U.map Pr.k).drop (P)) rfl (HS1.out _ (HPZ.out.tab.below (Below.refl _ _).drew)) (by have h1 := (HLD.out (U.map Pr.k) (by simp)).1; have h2 := (HLD.out (U.map Pr.k) (by simp)).2; (try simp only [List.length_append, List.length_cons, List.length_nil]); omega) HBZ.out ?_; intro v10 w10 HO10 HG10 HM10; have HG10' : (World.drew _).grownBy w10 _ := HG10.out; have HT10 : Hid (Two w10 B1 v10 (.slice g5 P c5) ((U.map Pr.k).take P ++ (U.map Pr.k).drop (P)) ((U.map Pr.v).take P)) := (HTZ.out.below (Below.refl _ _).drew).first HO10.out HG10.out HM10.out; have HP10 : Hid (PutSt w w10 X (.slice b1 m1 d1) (.slice b2 m2 d2) U N) := (HPZ.out.below (Below.refl _ _).drew).grown HG10.out (fun j e => ⟨by have := (HTZ.out.one.lt j e).1; have := HKV.out.2.2; omega, fun e' => by have := (HTZ.out.one.lt j e).1; have := HKV.out.1 j e'; omega, fun e' => by have := (HTZ.out.one.lt j e).1; have := HKV.out.2.1 j e'; omega⟩); have HB10 : Hid (B1 ≤ w10.heap.size) := Nat.le_trans HBZ.out HG10.out.size; obtain ⟨g10, c10, hv10, _⟩ := HO10.out.facts; obtain ⟨z10, hz10⟩ : ∃ z, ((U.map Pr.k).take P ++ (U.map Pr.k).drop (P)).length = z := ⟨_, rfl⟩; rw [hz10] at hv10; clear hz10; subst hv10; have hy1 : w10.cell? ⟨X, 1, none⟩ = some (.slice b2 m2 d2) := HP10.out.box.one rfl
            simp only [Act.put, List.setIfInBounds_toArray, List.set_cons_zero, List.set_cons_succ]
            refine hK.out _ _ (trivial) (fun hHeld => ?_)
            clear hK K
            refine wpAnyH_ready (rs := [11]) (by kernel_rfl) (by simp) ?_
            refine AllReadyH.cons (o := { dst := some 76, op := .call { callee := .builtin Go.Builtin.append, args := #[.tmp 71, .tmp 75], argTypes := #[32, 32] }, type := 32, pos := "law.go:40", after := #[{ on := 6, ground := .data }, { on := 10, ground := .data }, { on := 5, ground := .chain }], guard := none }) rfl (fun K hK => ?_) AllReadyH.nil
            refine step_append_u rfl _ _ rfl B1 (.slice g5 P c5) ((U.map Pr.v).take P) rfl HT10.out.two _ ((U.map Pr.v).drop (P)) rfl (HS2.out _ HP10.out.tab) (by have h1 := (HLD.out (U.map Pr.v) (by simp)).1; have h2 := (HLD.out (U.map Pr.v) (by simp)).2; (try simp only [List.length_append, List.length_cons, List.length_nil]); omega) HB10.out ?_; intro v11 w11 HO11 HG11 HM11; have HT11 : Hid (Two w11 B1 _ v11 ((U.map Pr.k).take P ++ (U.map Pr.k).drop (P)) ((U.map Pr.v).take P ++ (U.map Pr.v).drop (P))) := HT10.out.second HO11.out HG11.out HM11.out; have HP11 : Hid (PutSt w w11 X (.slice b1 m1 d1) (.slice b2 m2 d2) U N) := HP10.out.grown HG11.out (fun j e => ⟨by have := (HT10.out.two.lt j e).1; have := HKV.out.2.2; omega, fun e' => by have := (HT10.out.two.lt j e).1; have := HKV.out.1 j e'; omega, fun e' => by have := (HT10.out.two.lt j e).1; have := HKV.out.2.1 j e'; omega⟩); obtain ⟨g11, c11, hv11, _⟩ := HO11.out.facts; obtain ⟨z11, hz11⟩ : ∃ z, ((U.map Pr.v).take P ++ (U.map Pr.v).drop (P)).length = z := ⟨_, rfl⟩; rw [hz11] at hv11; clear hz11; subst hv11; have hf0 : w11.frozen? ⟨X, 0, none⟩ = false := HP11.out.box.frozen 0; have hf1 : w11.frozen? ⟨X, 1, none⟩ = false := HP11.out.box.frozen 1; have hk0 : w11.cell? ⟨X, 0, none⟩ = some (.slice b1 m1 d1) := HP11.out.box.one rfl; have hk1 : w11.cell? ⟨X, 1, none⟩ = some (.slice b2 m2 d2) := HP11.out.box.one rfl
            simp only [Act.put, List.setIfInBounds_toArray, List.set_cons_zero, List.set_cons_succ]
            refine hK.out _ _ (trivial) (fun hHeld => ?_)
            clear hK K
            refine wpAnyH_take (i := 12) (oi := { dst := some 77, op := .build 34 #[(0, .tmp 70), (1, .tmp 76)], type := 34, pos := "law.go:40", after := #[{ on := 5, ground := .data }, { on := 11, ground := .data }], guard := none }) (v := ?_) rfl (by kernel_rfl) (by kernel_rfl) (by kernel_rfl) (fun _ _ _ h => h) (Or.inl ⟨by rfl, ?_⟩) (by assumption) ?_
            rotate_left
            · intro _ _; go_simp; first | done | with_reducible rfl
            simp only [Act.put, List.setIfInBounds_toArray, List.set_cons_zero, List.set_cons_succ]
            refine wpAnyH_ready (rs := [13]) (by kernel_rfl) (by simp) ?_
            refine AllReadyH.cons (o := { dst := none, op := .store 34 (.tmp 2) (.tmp 77), type := 0, pos := "law.go:40", after := #[{ on := 12, ground := .data }, { on := 11, ground := .chain }, { on := 0, ground := .phase }, { on := 1, ground := .phase }, { on := 2, ground := .phase }, { on := 3, ground := .phase }, { on := 4, ground := .phase }, { on := 5, ground := .phase }, { on := 6, ground := .phase }, { on := 7, ground := .phase }, { on := 8, ground := .phase }, { on := 9, ground := .phase }, { on := 10, ground := .phase }, { on := 11, ground := .phase }, { on := 12, ground := .phase }], guard := none }) rfl (fun K hK => ?_) AllReadyH.nil
            go_simp
            skip
            go_simp
            refine hK.out _ _ (trivial) (fun hHeld => ?_)
            clear hK K
            refine wpAnyH_done (by kernel_rfl) ?_ _
            refine NoPanic.normal ?_
            clear hHeld hz0 hz1 hadr1 hadr2 e5 e6 hr1 hr3 HS1 HS2 HLD HM
            generalize hw12 : World.setCell (World.setCell w11 _ _) _ _ = w12
            have HP12 : Hid (PutSt w w12 X _ _ (tput ⟨pk, pv, true⟩ U) X) := PutSt.stored HP11.out (HT11.out) (by have := HKV.out.2.2; omega) (by have := HKV.out.2.2; omega) (by rw [HCUT.out]; simp) (by rw [HCUT.out]; simp) hw12
            clear hw12 HP11 HT11 HPZ HTZ HP10 HT10 HB10 HO10 HG10 HM10 HO11 HG11 HM11 hf0 hf1 hk0 hk1 hy1 HKV HBZ HCUT
            have hlt := HSTH.out.1
            have hn63 := HSTH.out.2
            have e0 : (0 : Int) ≤ (k : Int) := by omega
            have e1 : (k : Int) < (n : Int) := by omega
            go_wp2_with fail
            go_roundw
            case rel =>
              refine ⟨k + 1, g10, g11, z10, z11, c10, c11, by omega, by go_num, ?_⟩
              show PutSt _ _ _ _ _ _ _
              rw [HTB.out, show tabN (k + 1) N0 X = X from if_neg (Nat.succ_ne_zero k)]
              exact HP12.out
            case measure => simp [intOf]; omega
        | false =>
          have hPl : P ≤ U.length := HPL.out
          have hRl : P ≤ U.length := HPL.out
          have HQP : Hid (P = P) := rfl
          go_upto_region 8 with fail
          have HKV : Hid ((∀ j, (Value.slice b1 m1 d1).ownBlock = some j → j < w3.heap.size) ∧ (∀ j, (Value.slice b2 m2 d2).ownBlock = some j → j < w3.heap.size) ∧ X + 1 < w3.heap.size) := ⟨fun j e => (HP3.out.tab.keys.lt j e).2, fun j e => (HP3.out.tab.vals.lt j e).2, HP3.out.res.lt⟩
          have e3 : (P : Int) ≤ (m1 : Int) := by have := HM.out; omega
          have e4 : (P : Int) ≤ (m2 : Int) := by have := HM.out; omega
          have e3' : (P : Int) ≤ (d1 : Int) := by omega
          have e4' : (P : Int) ≤ (d2 : Int) := by omega
          have hx0 : w3.cell? ⟨X, 0, none⟩ = some (.slice b1 m1 d1) := HP3.out.box.one rfl
          have HBA : Hid (Below w3.heap.size w3 (w3.alloc (.cells #[] 9))) := (Below.refl _ _).alloc (Nat.le_refl _) _
          have HSA : Hid (SrcU w3 (.slice b1 P d1) ((U.map Pr.k).take P)) := HP3.out.tab.keys.cutL P (by rw [List.length_map]; have := HM.out; omega)
          have HLK : Hid (∀ L : List ByteArray, L.length = U.length → (L.take P).length = P) := fun L hL => by rw [List.length_take]; omega
          have HTK : Hid (∀ L : List ByteArray, L.length = U.length → (L.take P).length ≤ 1000000) := fun L hL => by have := HTL.out; rw [List.length_take]; omega
          have hx0a : (w3.alloc (.cells #[] 9)).cell? ⟨X, 0, none⟩ = some (.slice b1 m1 d1) := cell_below' HBA.out hx0
          go_upto_region 9 with (at_builtin; refine wpList_append_u rfl _ _ rfl w3.heap.size _ [] rfl (OwnS.lit0 _) _ ((U.map Pr.k).take P) rfl (HSA.out.below HBA.out) (by have := HTK.out (U.map Pr.k) (by simp); simp only [List.length_nil]; omega) (by simp) ?_; intro v4 w4 HO4 HG4 HM4; rw [List.nil_append] at HO4; obtain ⟨g4, c4, hv4, _⟩ := HO4.out.facts; rw [HLK.out _ (by simp)] at hv4; subst hv4)
          have HP4 : Hid (PutSt w w4 X (.slice b1 m1 d1) (.slice b2 m2 d2) U N) := (HP3.out.below HBA.out).grown HG4.out (fun j e => by injection e with e; simp only at e; refine ⟨by have := HKV.out.2.2; omega, fun e' => by have := HKV.out.1 j e'; omega, fun e' => by have := HKV.out.2.1 j e'; omega⟩)
          have HZ4 : Hid (w3.heap.size + 1 ≤ w4.heap.size) := by have := HG4.out.size; simp at this; exact this
          clear HBA HSA HG4 HM4 HP3 hx0 hx0a
          generalize hB1 : w3.heap.size = B1 at *
          have hx1 : w4.cell? ⟨X, 1, none⟩ = some (.slice b2 m2 d2) := HP4.out.box.one rfl
          have HBA : Hid (Below w4.heap.size w4 (w4.alloc (.cells #[] 9))) := (Below.refl _ _).alloc (Nat.le_refl _) _
          have HSA : Hid (SrcU w4 (.slice b2 P d2) ((U.map Pr.v).take P)) := HP4.out.tab.vals.cutL P (by rw [List.length_map]; have := HM.out; omega)
          have hx1a : (w4.alloc (.cells #[] 9)).cell? ⟨X, 1, none⟩ = some (.slice b2 m2 d2) := cell_below' HBA.out hx1
          go_upto_region 10 with (at_builtin; refine wpList_append_u rfl _ _ rfl w4.heap.size _ [] rfl (OwnS.lit0 _) _ ((U.map Pr.v).take P) rfl (HSA.out.below HBA.out) (by have := HTK.out (U.map Pr.v) (by simp); simp only [List.length_nil]; omega) (by simp) ?_; intro v5 w5 HO5 HG5 HM5; rw [List.nil_append] at HO5; obtain ⟨g5, c5, hv5, _⟩ := HO5.out.facts; rw [HLK.out _ (by simp)] at hv5; subst hv5)
          have HP5 : Hid (PutSt w w5 X (.slice b1 m1 d1) (.slice b2 m2 d2) U N) := (HP4.out.below HBA.out).grown HG5.out (fun j e => by injection e with e; simp only at e; have := HZ4.out; refine ⟨by have := HKV.out.2.2; omega, fun e' => by have := HKV.out.1 j e'; omega, fun e' => by have := HKV.out.2.1 j e'; omega⟩)
          have HT5 : Hid (Two w5 B1 (.slice g4 P c4) (.slice g5 P c5) ((U.map Pr.k).take P) ((U.map Pr.v).take P)) := by
            refine ⟨(HO4.out.below HBA.out).same fun j e => HG5.out.block j (by have := (HO4.out.lt j e).2; simp; omega) (fun e' => by injection e' with e'; simp only at e'; have := (HO4.out.lt j e).2; omega), HO5.out.less (by have := HZ4.out; omega), fun j e e' => by have := (HO4.out.lt j e).2; have := (HO5.out.lt j e').1; omega⟩
          have HZ5 : Hid (B1 ≤ w5.heap.size) := by have h1 := HG5.out.size; have h2 := HZ4.out; simp at h1; show _ ≤ _; omega
          clear HBA HSA HG5 HM5 HP4 HO4 HO5 hx1 hx1a HZ4
          have hq := HQ.out w5 HP5.out.base
          have hq0 := hq.1
          have hq1 := hq.2.1
          have hq2 := hq.2.2
          clear hq
          have HBA : Hid (Below w5.heap.size w5 (w5.alloc (.cells #[.string pk] 9))) := (Below.refl _ _).alloc (Nat.le_refl _) _
          go_upto_region 12 with (at_builtin; refine wpList_append_u rfl _ _ rfl B1 (.slice g4 P c4) ((U.map Pr.k).take P) rfl (HT5.out.below HBA.out).one _ [pk] rfl (SrcU.one _ _ _) (by have := HTK.out (U.map Pr.k) (by simp); simp only [List.length_cons, List.length_nil]; omega) (by have := HZ5.out; simp; omega) ?_; intro v6 w6 HO6 HG6 HM6; obtain ⟨g6, c6, hv6, _⟩ := HO6.out.facts; rw [List.length_append, HLK.out _ (by simp), List.length_singleton] at hv6; subst hv6)
          have HP6 : Hid (PutSt w w6 X (.slice b1 m1 d1) (.slice b2 m2 d2) U N) := (HP5.out.below HBA.out).grown HG6.out (fun j e => ⟨by have := (HT5.out.one.lt j e).1; have := HKV.out.2.2; omega, fun e' => by have := (HT5.out.one.lt j e).1; have := HKV.out.1 j e'; omega, fun e' => by have := (HT5.out.one.lt j e).1; have := HKV.out.2.1 j e'; omega⟩)
          have HT6 : Hid (Two w6 B1 _ (.slice g5 P c5) ((U.map Pr.k).take P ++ [pk]) ((U.map Pr.v).take P)) := (HT5.out.below HBA.out).first HO6.out HG6.out HM6.out
          have HZ6 : Hid (B1 ≤ w6.heap.size) := by have h1 := HG6.out.size; have h2 := HZ5.out; simp at h1; show _ ≤ _; omega
          clear HBA HG6 HM6 HO6 HP5 HT5 HZ5 hq0 hq1 hq2
          have hq := HQ.out w6 HP6.out.base
          have hq1 := hq.2.1
          clear hq
          have HBA : Hid (Below w6.heap.size w6 (w6.alloc (.cells #[.string pv] 9))) := (Below.refl _ _).alloc (Nat.le_refl _) _
          go_upto_region 13 with (at_builtin; refine wpList_append_u rfl _ _ rfl B1 (.slice g5 P c5) ((U.map Pr.v).take P) rfl (HT6.out.below HBA.out).two _ [pv] rfl (SrcU.one _ _ _) (by have := HTK.out (U.map Pr.v) (by simp); simp only [List.length_cons, List.length_nil]; omega) (by have := HZ6.out; simp; omega) ?_; intro v7 w7 HO7 HG7 HM7; obtain ⟨g7, c7, hv7, _⟩ := HO7.out.facts; rw [List.length_append, HLK.out _ (by simp), List.length_singleton] at hv7; subst hv7)
          have HP7 : Hid (PutSt w w7 X (.slice b1 m1 d1) (.slice b2 m2 d2) U N) := (HP6.out.below HBA.out).grown HG7.out (fun j e => ⟨by have := (HT6.out.two.lt j e).1; have := HKV.out.2.2; omega, fun e' => by have := (HT6.out.two.lt j e).1; have := HKV.out.1 j e'; omega, fun e' => by have := (HT6.out.two.lt j e).1; have := HKV.out.2.1 j e'; omega⟩)
          have HT7 : Hid (Two w7 B1 (.slice g6 (P + 1) c6) _ ((U.map Pr.k).take P ++ [pk]) ((U.map Pr.v).take P ++ [pv])) := (HT6.out.below HBA.out).second HO7.out HG7.out HM7.out
          have HZ7 : Hid (B1 ≤ w7.heap.size) := by have h1 := HG7.out.size; have h2 := HZ6.out; simp at h1; show _ ≤ _; omega
          clear HBA HG7 HM7 HO7 HP6 HT6 HZ6 hq1
          have HPZ : Hid (PutSt w w7 X (.slice b1 m1 d1) (.slice b2 m2 d2) U N) := HP7.out
          have HTZ : Hid (Two w7 B1 (.slice g6 (P + 1) c6) (.slice g7 (P + 1) c7) ((U.map Pr.k).take P ++ [pk]) ((U.map Pr.v).take P ++ [pv])) := HT7.out
          have HBZ : Hid (B1 ≤ w7.heap.size) := HZ7.out
          clear HP7 HT7 HZ7
          have hz0 : w7.cell? ⟨X, 0, none⟩ = some (.slice b1 m1 d1) := HPZ.out.box.one rfl
          have hz1 : w7.cell? ⟨X, 1, none⟩ = some (.slice b2 m2 d2) := HPZ.out.box.one rfl
          obtain ⟨adr1, hadr1⟩ : ∃ x, (if d1 = P then b1 else Option.map (fun x => x.add (P)) b1) = x := ⟨_, rfl⟩
          obtain ⟨adr2, hadr2⟩ : ∃ x, (if d2 = P then b2 else Option.map (fun x => x.add (P)) b2) = x := ⟨_, rfl⟩
          have e5 : (((P : Nat) : Int)) ≤ (m1 : Int) := by have := HM.out; omega
          have e6 : (((P : Nat) : Int)) ≤ (m2 : Int) := by have := HM.out; omega
          have HSTH : Hid (k < n ∧ n ≤ 9223372036854775807) := ⟨hlt, hn63⟩
          have HS1 : Hid (∀ w', TabAt w' N (.slice b1 m1 d1) (.slice b2 m2 d2) U → SrcU w' (.slice adr1 (m1 - (P)) (d1 - (P))) ((U.map Pr.k).drop (P))) := fun w' h => by rw [← hadr1]; exact h.keys.cutR (P) (by rw [List.length_map]; have := HM.out; omega)
          have HS2 : Hid (∀ w', TabAt w' N (.slice b1 m1 d1) (.slice b2 m2 d2) U → SrcU w' (.slice adr2 (m2 - (P)) (d2 - (P))) ((U.map Pr.v).drop (P))) := fun w' h => by rw [← hadr2]; exact h.vals.cutR (P) (by rw [List.length_map]; have := HM.out; omega)
          have HLD : Hid (∀ L : List ByteArray, L.length = U.length → (L.drop (P)).length ≤ 1000000 ∧ (L.take P).length ≤ 1000000) := fun L hL => by have := HTL.out; rw [List.length_drop, List.length_take]; omega
          clear hlt e0 e1 hk hn63 hPl hRl e3 e4 e3' e4' HPL HTL2 hd1m hd2m HQ HTK HTL HLK HE HS HN
          refine wp_region_noPanic ?_
          refine wp_region_held_drew (S := fun _ => True) HMO.out (trivial) (fun hHeld => ?_)
          refine wpAnyH_take (i := 0) (oi := { dst := some 65, op := .move (.tmp 9), type := 32, pos := "law.go:40", after := #[], guard := none }) (v := ?_) rfl (by kernel_rfl) (by kernel_rfl) (by kernel_rfl) (fun _ _ _ h => h) (Or.inl ⟨by rfl, ?_⟩) (by assumption) ?_
          rotate_left
          · intro _ _; go_simp; first | done | with_reducible rfl
          simp only [Act.put, List.setIfInBounds_toArray, List.set_cons_zero, List.set_cons_succ]
          refine wpAnyH_take (i := 1) (oi := { dst := some 66, op := .fieldAddr 34 (.tmp 2) 0, type := 0, pos := "law.go:40", after := #[], guard := none }) (v := ?_) rfl (by kernel_rfl) (by kernel_rfl) (by kernel_rfl) (fun _ _ _ h => h) (Or.inl ⟨by rfl, ?_⟩) (by assumption) ?_
          rotate_left
          · intro _ _; go_simp; first | done | with_reducible rfl
          simp only [Act.put, List.setIfInBounds_toArray, List.set_cons_zero, List.set_cons_succ]
          refine wpAnyH_take (i := 3) (oi := { dst := some 68, op := .move (.tmp 8), type := 3, pos := "law.go:40", after := #[], guard := none }) (v := ?_) rfl (by kernel_rfl) (by kernel_rfl) (by kernel_rfl) (fun _ _ _ h => h) (Or.inl ⟨by rfl, ?_⟩) (by assumption) ?_
          rotate_left
          · intro _ _; go_simp; first | done | with_reducible rfl
          simp only [Act.put, List.setIfInBounds_toArray, List.set_cons_zero, List.set_cons_succ]
          refine wpAnyH_take (i := 6) (oi := { dst := some 71, op := .move (.tmp 10), type := 32, pos := "law.go:40", after := #[], guard := none }) (v := ?_) rfl (by kernel_rfl) (by kernel_rfl) (by kernel_rfl) (fun _ _ _ h => h) (Or.inl ⟨by rfl, ?_⟩) (by assumption) ?_
          rotate_left
          · intro _ _; go_simp; first | done | with_reducible rfl
          simp only [Act.put, List.setIfInBounds_toArray, List.set_cons_zero, List.set_cons_succ]
          refine wpAnyH_take (i := 7) (oi := { dst := some 72, op := .fieldAddr 34 (.tmp 2) 1, type := 0, pos := "law.go:40", after := #[], guard := none }) (v := ?_) rfl (by kernel_rfl) (by kernel_rfl) (by kernel_rfl) (fun _ _ _ h => h) (Or.inl ⟨by rfl, ?_⟩) (by assumption) ?_
          rotate_left
          · intro _ _; go_simp; first | done | with_reducible rfl
          simp only [Act.put, List.setIfInBounds_toArray, List.set_cons_zero, List.set_cons_succ]
          refine wpAnyH_take (i := 9) (oi := { dst := some 74, op := .move (.tmp 8), type := 3, pos := "law.go:40", after := #[], guard := none }) (v := ?_) rfl (by kernel_rfl) (by kernel_rfl) (by kernel_rfl) (fun _ _ _ h => h) (Or.inl ⟨by rfl, ?_⟩) (by assumption) ?_
          rotate_left
          · intro _ _; go_simp; first | done | with_reducible rfl
          simp only [Act.put, List.setIfInBounds_toArray, List.set_cons_zero, List.set_cons_succ]
          refine wpAnyH_ready (rs := [2, 8]) (by kernel_rfl) (by simp) ?_
          refine (AllReadyH.cons (o := { dst := some 67, op := .load 32 (.tmp 66), type := 32, pos := "law.go:40", after := #[{ on := 1, ground := .data }], guard := none }) rfl (fun K hK => ?_) (AllReadyH.cons (o := { dst := some 73, op := .load 32 (.tmp 72), type := 32, pos := "law.go:40", after := #[{ on := 7, ground := .data }], guard := none }) rfl (fun K hK => ?_) AllReadyH.nil))
          · go_simp
            skip
            go_simp
            refine hK.out _ _ (trivial) (fun hHeld => ?_)
            clear hK K
            refine wpAnyH_take (i := 4) (oi := { dst := some 69, op := .slice 32 (.tmp 67) (some (.tmp 68)) none none, type := 32, pos := "law.go:40", after := #[{ on := 2, ground := .data }, { on := 3, ground := .data }], guard := none }) (v := ?_) rfl (by kernel_rfl) (by kernel_rfl) (by kernel_rfl) (fun _ _ _ h => h) (Or.inl ⟨by rfl, ?_⟩) (by assumption) ?_
            rotate_left
            · intro _ _; go_simp; first | done | with_reducible rfl
            simp only [Act.put, List.setIfInBounds_toArray, List.set_cons_zero, List.set_cons_succ]
            refine wpAnyH_ready (rs := [5, 8]) (by kernel_rfl) (by simp) ?_
            refine (AllReadyH.cons (o := { dst := some 70, op := .call { callee := .builtin Go.Builtin.append, args := #[.tmp 65, .tmp 69], argTypes := #[32, 32] }, type := 32, pos := "law.go:40", after := #[{ on := 0, ground := .data }, { on := 4, ground := .data }], guard := none }) rfl (fun K hK => ?_) (AllReadyH.cons (o := { dst := some 73, op := .load 32 (.tmp 72), type := 32, pos := "law.go:40", after := #[{ on := 7, ground := .data }], guard := none }) rfl (fun K hK => ?_) AllReadyH.nil))
            · refine step_append_u rfl _ _ rfl B1 (.slice g6 (P + 1) c6) ((U.map Pr.k).take P ++ [pk]) rfl (HTZ.out.below (Below.refl _ _).drew).one _ ((U.map Pr.k).drop (P)) rfl (HS1.out _ (HPZ.out.tab.below (Below.refl _ _).drew)) (by have h1 := (HLD.out (U.map Pr.k) (by simp)).1; have h2 := (HLD.out (U.map Pr.k) (by simp)).2; (try simp only [List.length_append, List.length_cons, List.length_nil]); omega) HBZ.out ?_; intro v10 w10 HO10 HG10 HM10; have HG10' : (World.drew _).grownBy w10 _ := HG10.out; have HT10 : Hid (Two w10 B1 v10 (.slice g7 (P + 1) c7) ((U.map Pr.k).take P ++ [pk] ++ (U.map Pr.k).drop (P)) ((U.map Pr.v).take P ++ [pv])) := (HTZ.out.below (Below.refl _ _).drew).first HO10.out HG10.out HM10.out; have HP10 : Hid (PutSt w w10 X (.slice b1 m1 d1) (.slice b2 m2 d2) U N) := (HPZ.out.below (Below.refl _ _).drew).grown HG10.out (fun j e => ⟨by have := (HTZ.out.one.lt j e).1; have := HKV.out.2.2; omega, fun e' => by have := (HTZ.out.one.lt j e).1; have := HKV.out.1 j e'; omega, fun e' => by have := (HTZ.out.one.lt j e).1; have := HKV.out.2.1 j e'; omega⟩); have HB10 : Hid (B1 ≤ w10.heap.size) := Nat.le_trans HBZ.out HG10.out.size; obtain ⟨g10, c10, hv10, _⟩ := HO10.out.facts; obtain ⟨z10, hz10⟩ : ∃ z, ((U.map Pr.k).take P ++ [pk] ++ (U.map Pr.k).drop (P)).length = z := ⟨_, rfl⟩; rw [hz10] at hv10; clear hz10; subst hv10; have hy1 : w10.cell? ⟨X, 1, none⟩ = some (.slice b2 m2 d2) := HP10.out.box.one rfl
              simp only [Act.put, List.setIfInBounds_toArray, List.set_cons_zero, List.set_cons_succ]
              refine hK.out _ _ (trivial) (fun hHeld => ?_)
              clear hK K
              refine wpAnyH_ready (rs := [8]) (by kernel_rfl) (by simp) ?_
              refine AllReadyH.cons (o := { dst := some 73, op := .load 32 (.tmp 72), type := 32, pos := "law.go:40", after := #[{ on := 7, ground := .data }], guard := none }) rfl (fun K hK => ?_) AllReadyH.nil
              go_simp
              skip
              go_simp
              refine hK.out _ _ (trivial) (fun hHeld => ?_)
              clear hK K
              refine wpAnyH_take (i := 10) (oi := { dst := some 75, op := .slice 32 (.tmp 73) (some (.tmp 74)) none none, type := 32, pos := "law.go:40", after := #[{ on := 8, ground := .data }, { on := 9, ground := .data }], guard := none }) (v := ?_) rfl (by kernel_rfl) (by kernel_rfl) (by kernel_rfl) (fun _ _ _ h => h) (Or.inl ⟨by rfl, ?_⟩) (by assumption) ?_
              rotate_left
              · intro _ _; go_simp; first | done | with_reducible rfl
              simp only [Act.put, List.setIfInBounds_toArray, List.set_cons_zero, List.set_cons_succ]
              refine wpAnyH_ready (rs := [11]) (by kernel_rfl) (by simp) ?_
              refine AllReadyH.cons (o := { dst := some 76, op := .call { callee := .builtin Go.Builtin.append, args := #[.tmp 71, .tmp 75], argTypes := #[32, 32] }, type := 32, pos := "law.go:40", after := #[{ on := 6, ground := .data }, { on := 10, ground := .data }, { on := 5, ground := .chain }], guard := none }) rfl (fun K hK => ?_) AllReadyH.nil
              refine step_append_u rfl _ _ rfl B1 (.slice g7 (P + 1) c7) ((U.map Pr.v).take P ++ [pv]) rfl HT10.out.two _ ((U.map Pr.v).drop (P)) rfl (HS2.out _ HP10.out.tab) (by have h1 := (HLD.out (U.map Pr.v) (by simp)).1; have h2 := (HLD.out (U.map Pr.v) (by simp)).2; (try simp only [List.length_append, List.length_cons, List.length_nil]); omega) HB10.out ?_; intro v11 w11 HO11 HG11 HM11; have HT11 : Hid (Two w11 B1 _ v11 ((U.map Pr.k).take P ++ [pk] ++ (U.map Pr.k).drop (P)) ((U.map Pr.v).take P ++ [pv] ++ (U.map Pr.v).drop (P))) := HT10.out.second HO11.out HG11.out HM11.out; have HP11 : Hid (PutSt w w11 X (.slice b1 m1 d1) (.slice b2 m2 d2) U N) := HP10.out.grown HG11.out (fun j e => ⟨by have := (HT10.out.two.lt j e).1; have := HKV.out.2.2; omega, fun e' => by have := (HT10.out.two.lt j e).1; have := HKV.out.1 j e'; omega, fun e' => by have := (HT10.out.two.lt j e).1; have := HKV.out.2.1 j e'; omega⟩); obtain ⟨g11, c11, hv11, _⟩ := HO11.out.facts; obtain ⟨z11, hz11⟩ : ∃ z, ((U.map Pr.v).take P ++ [pv] ++ (U.map Pr.v).drop (P)).length = z := ⟨_, rfl⟩; rw [hz11] at hv11; clear hz11; subst hv11; have hf0 : w11.frozen? ⟨X, 0, none⟩ = false := HP11.out.box.frozen 0; have hf1 : w11.frozen? ⟨X, 1, none⟩ = false := HP11.out.box.frozen 1; have hk0 : w11.cell? ⟨X, 0, none⟩ = some (.slice b1 m1 d1) := HP11.out.box.one rfl; have hk1 : w11.cell? ⟨X, 1, none⟩ = some (.slice b2 m2 d2) := HP11.out.box.one rfl
              simp only [Act.put, List.setIfInBounds_toArray, List.set_cons_zero, List.set_cons_succ]
              refine hK.out _ _ (trivial) (fun hHeld => ?_)
              clear hK K
              refine wpAnyH_take (i := 12) (oi := { dst := some 77, op := .build 34 #[(0, .tmp 70), (1, .tmp 76)], type := 34, pos := "law.go:40", after := #[{ on := 5, ground := .data }, { on := 11, ground := .data }], guard := none }) (v := ?_) rfl (by kernel_rfl) (by kernel_rfl) (by kernel_rfl) (fun _ _ _ h => h) (Or.inl ⟨by rfl, ?_⟩) (by assumption) ?_
              rotate_left
              · intro _ _; go_simp; first | done | with_reducible rfl
              simp only [Act.put, List.setIfInBounds_toArray, List.set_cons_zero, List.set_cons_succ]
              refine wpAnyH_ready (rs := [13]) (by kernel_rfl) (by simp) ?_
              refine AllReadyH.cons (o := { dst := none, op := .store 34 (.tmp 2) (.tmp 77), type := 0, pos := "law.go:40", after := #[{ on := 12, ground := .data }, { on := 11, ground := .chain }, { on := 0, ground := .phase }, { on := 1, ground := .phase }, { on := 2, ground := .phase }, { on := 3, ground := .phase }, { on := 4, ground := .phase }, { on := 5, ground := .phase }, { on := 6, ground := .phase }, { on := 7, ground := .phase }, { on := 8, ground := .phase }, { on := 9, ground := .phase }, { on := 10, ground := .phase }, { on := 11, ground := .phase }, { on := 12, ground := .phase }], guard := none }) rfl (fun K hK => ?_) AllReadyH.nil
              go_simp
              skip
              go_simp
              refine hK.out _ _ (trivial) (fun hHeld => ?_)
              clear hK K
              refine wpAnyH_done (by kernel_rfl) ?_ _
              refine NoPanic.normal ?_
              clear hHeld hz0 hz1 hadr1 hadr2 e5 e6 hr1 hr3 HS1 HS2 HLD HM
              generalize hw12 : World.setCell (World.setCell w11 _ _) _ _ = w12
              have HP12 : Hid (PutSt w w12 X _ _ (tput ⟨pk, pv, false⟩ U) X) := PutSt.stored HP11.out (HT11.out) (by have := HKV.out.2.2; omega) (by have := HKV.out.2.2; omega) (by rw [HCUT.out]; simp [List.map_append, List.map_take, List.map_drop]) (by rw [HCUT.out]; simp [List.map_append, List.map_take, List.map_drop]) hw12
              clear hw12 HP11 HT11 HPZ HTZ HP10 HT10 HB10 HO10 HG10 HM10 HO11 HG11 HM11 hf0 hf1 hk0 hk1 hy1 HKV HBZ HCUT
              have hlt := HSTH.out.1
              have hn63 := HSTH.out.2
              have e0 : (0 : Int) ≤ (k : Int) := by omega
              have e1 : (k : Int) < (n : Int) := by omega
              go_wp2_with fail
              go_roundw
              case rel =>
                refine ⟨k + 1, g10, g11, z10, z11, c10, c11, by omega, by go_num, ?_⟩
                show PutSt _ _ _ _ _ _ _
                rw [HTB.out, show tabN (k + 1) N0 X = X from if_neg (Nat.succ_ne_zero k)]
                exact HP12.out
              case measure => simp [intOf]; omega
            · go_simp
              skip
              go_simp
              refine hK.out _ _ (trivial) (fun hHeld => ?_)
              clear hK K
              refine wpAnyH_take (i := 10) (oi := { dst := some 75, op := .slice 32 (.tmp 73) (some (.tmp 74)) none none, type := 32, pos := "law.go:40", after := #[{ on := 8, ground := .data }, { on := 9, ground := .data }], guard := none }) (v := ?_) rfl (by kernel_rfl) (by kernel_rfl) (by kernel_rfl) (fun _ _ _ h => h) (Or.inl ⟨by rfl, ?_⟩) (by assumption) ?_
              rotate_left
              · intro _ _; go_simp; first | done | with_reducible rfl
              simp only [Act.put, List.setIfInBounds_toArray, List.set_cons_zero, List.set_cons_succ]
              refine wpAnyH_ready (rs := [5]) (by kernel_rfl) (by simp) ?_
              refine AllReadyH.cons (o := { dst := some 70, op := .call { callee := .builtin Go.Builtin.append, args := #[.tmp 65, .tmp 69], argTypes := #[32, 32] }, type := 32, pos := "law.go:40", after := #[{ on := 0, ground := .data }, { on := 4, ground := .data }], guard := none }) rfl (fun K hK => ?_) AllReadyH.nil
              refine step_append_u rfl _ _ rfl B1 (.slice g6 (P + 1) c6) ((U.map Pr.k).take P ++ [pk]) rfl (HTZ.out.below (Below.refl _ _).drew).one _ ((U.map Pr.k).drop (P)) rfl (HS1.out _ (HPZ.out.tab.below (Below.refl _ _).drew)) (by have h1 := (HLD.out (U.map Pr.k) (by simp)).1; have h2 := (HLD.out (U.map Pr.k) (by simp)).2; (try simp only [List.length_append, List.length_cons, List.length_nil]); omega) HBZ.out ?_; intro v10 w10 HO10 HG10 HM10; have HG10' : (World.drew _).grownBy w10 _ := HG10.out; have HT10 : Hid (Two w10 B1 v10 (.slice g7 (P + 1) c7) ((U.map Pr.k).take P ++ [pk] ++ (U.map Pr.k).drop (P)) ((U.map Pr.v).take P ++ [pv])) := (HTZ.out.below (Below.refl _ _).drew).first HO10.out HG10.out HM10.out; have HP10 : Hid (PutSt w w10 X (.slice b1 m1 d1) (.slice b2 m2 d2) U N) := (HPZ.out.below (Below.refl _ _).drew).grown HG10.out (fun j e => ⟨by have := (HTZ.out.one.lt j e).1; have := HKV.out.2.2; omega, fun e' => by have := (HTZ.out.one.lt j e).1; have := HKV.out.1 j e'; omega, fun e' => by have := (HTZ.out.one.lt j e).1; have := HKV.out.2.1 j e'; omega⟩); have HB10 : Hid (B1 ≤ w10.heap.size) := Nat.le_trans HBZ.out HG10.out.size; obtain ⟨g10, c10, hv10, _⟩ := HO10.out.facts; obtain ⟨z10, hz10⟩ : ∃ z, ((U.map Pr.k).take P ++ [pk] ++ (U.map Pr.k).drop (P)).length = z := ⟨_, rfl⟩; rw [hz10] at hv10; clear hz10; subst hv10; have hy1 : w10.cell? ⟨X, 1, none⟩ = some (.slice b2 m2 d2) := HP10.out.box.one rfl
              simp only [Act.put, List.setIfInBounds_toArray, List.set_cons_zero, List.set_cons_succ]
              refine hK.out _ _ (trivial) (fun hHeld => ?_)
              clear hK K
              refine wpAnyH_ready (rs := [11]) (by kernel_rfl) (by simp) ?_
              refine AllReadyH.cons (o := { dst := some 76, op := .call { callee := .builtin Go.Builtin.append, args := #[.tmp 71, .tmp 75], argTypes := #[32, 32] }, type := 32, pos := "law.go:40", after := #[{ on := 6, ground := .data }, { on := 10, ground := .data }, { on := 5, ground := .chain }], guard := none }) rfl (fun K hK => ?_) AllReadyH.nil
              refine step_append_u rfl _ _ rfl B1 (.slice g7 (P + 1) c7) ((U.map Pr.v).take P ++ [pv]) rfl HT10.out.two _ ((U.map Pr.v).drop (P)) rfl (HS2.out _ HP10.out.tab) (by have h1 := (HLD.out (U.map Pr.v) (by simp)).1; have h2 := (HLD.out (U.map Pr.v) (by simp)).2; (try simp only [List.length_append, List.length_cons, List.length_nil]); omega) HB10.out ?_; intro v11 w11 HO11 HG11 HM11; have HT11 : Hid (Two w11 B1 _ v11 ((U.map Pr.k).take P ++ [pk] ++ (U.map Pr.k).drop (P)) ((U.map Pr.v).take P ++ [pv] ++ (U.map Pr.v).drop (P))) := HT10.out.second HO11.out HG11.out HM11.out; have HP11 : Hid (PutSt w w11 X (.slice b1 m1 d1) (.slice b2 m2 d2) U N) := HP10.out.grown HG11.out (fun j e => ⟨by have := (HT10.out.two.lt j e).1; have := HKV.out.2.2; omega, fun e' => by have := (HT10.out.two.lt j e).1; have := HKV.out.1 j e'; omega, fun e' => by have := (HT10.out.two.lt j e).1; have := HKV.out.2.1 j e'; omega⟩); obtain ⟨g11, c11, hv11, _⟩ := HO11.out.facts; obtain ⟨z11, hz11⟩ : ∃ z, ((U.map Pr.v).take P ++ [pv] ++ (U.map Pr.v).drop (P)).length = z := ⟨_, rfl⟩; rw [hz11] at hv11; clear hz11; subst hv11; have hf0 : w11.frozen? ⟨X, 0, none⟩ = false := HP11.out.box.frozen 0; have hf1 : w11.frozen? ⟨X, 1, none⟩ = false := HP11.out.box.frozen 1; have hk0 : w11.cell? ⟨X, 0, none⟩ = some (.slice b1 m1 d1) := HP11.out.box.one rfl; have hk1 : w11.cell? ⟨X, 1, none⟩ = some (.slice b2 m2 d2) := HP11.out.box.one rfl
              simp only [Act.put, List.setIfInBounds_toArray, List.set_cons_zero, List.set_cons_succ]
              refine hK.out _ _ (trivial) (fun hHeld => ?_)
              clear hK K
              refine wpAnyH_take (i := 12) (oi := { dst := some 77, op := .build 34 #[(0, .tmp 70), (1, .tmp 76)], type := 34, pos := "law.go:40", after := #[{ on := 5, ground := .data }, { on := 11, ground := .data }], guard := none }) (v := ?_) rfl (by kernel_rfl) (by kernel_rfl) (by kernel_rfl) (fun _ _ _ h => h) (Or.inl ⟨by rfl, ?_⟩) (by assumption) ?_
              rotate_left
              · intro _ _; go_simp; first | done | with_reducible rfl
              simp only [Act.put, List.setIfInBounds_toArray, List.set_cons_zero, List.set_cons_succ]
              refine wpAnyH_ready (rs := [13]) (by kernel_rfl) (by simp) ?_
              refine AllReadyH.cons (o := { dst := none, op := .store 34 (.tmp 2) (.tmp 77), type := 0, pos := "law.go:40", after := #[{ on := 12, ground := .data }, { on := 11, ground := .chain }, { on := 0, ground := .phase }, { on := 1, ground := .phase }, { on := 2, ground := .phase }, { on := 3, ground := .phase }, { on := 4, ground := .phase }, { on := 5, ground := .phase }, { on := 6, ground := .phase }, { on := 7, ground := .phase }, { on := 8, ground := .phase }, { on := 9, ground := .phase }, { on := 10, ground := .phase }, { on := 11, ground := .phase }, { on := 12, ground := .phase }], guard := none }) rfl (fun K hK => ?_) AllReadyH.nil
              go_simp
              skip
              go_simp
              refine hK.out _ _ (trivial) (fun hHeld => ?_)
              clear hK K
              refine wpAnyH_done (by kernel_rfl) ?_ _
              refine NoPanic.normal ?_
              clear hHeld hz0 hz1 hadr1 hadr2 e5 e6 hr1 hr3 HS1 HS2 HLD HM
              generalize hw12 : World.setCell (World.setCell w11 _ _) _ _ = w12
              have HP12 : Hid (PutSt w w12 X _ _ (tput ⟨pk, pv, false⟩ U) X) := PutSt.stored HP11.out (HT11.out) (by have := HKV.out.2.2; omega) (by have := HKV.out.2.2; omega) (by rw [HCUT.out]; simp [List.map_append, List.map_take, List.map_drop]) (by rw [HCUT.out]; simp [List.map_append, List.map_take, List.map_drop]) hw12
              clear hw12 HP11 HT11 HPZ HTZ HP10 HT10 HB10 HO10 HG10 HM10 HO11 HG11 HM11 hf0 hf1 hk0 hk1 hy1 HKV HBZ HCUT
              have hlt := HSTH.out.1
              have hn63 := HSTH.out.2
              have e0 : (0 : Int) ≤ (k : Int) := by omega
              have e1 : (k : Int) < (n : Int) := by omega
              go_wp2_with fail
              go_roundw
              case rel =>
                refine ⟨k + 1, g10, g11, z10, z11, c10, c11, by omega, by go_num, ?_⟩
                show PutSt _ _ _ _ _ _ _
                rw [HTB.out, show tabN (k + 1) N0 X = X from if_neg (Nat.succ_ne_zero k)]
                exact HP12.out
              case measure => simp [intOf]; omega
          · go_simp
            skip
            go_simp
            refine hK.out _ _ (trivial) (fun hHeld => ?_)
            clear hK K
            refine wpAnyH_take (i := 10) (oi := { dst := some 75, op := .slice 32 (.tmp 73) (some (.tmp 74)) none none, type := 32, pos := "law.go:40", after := #[{ on := 8, ground := .data }, { on := 9, ground := .data }], guard := none }) (v := ?_) rfl (by kernel_rfl) (by kernel_rfl) (by kernel_rfl) (fun _ _ _ h => h) (Or.inl ⟨by rfl, ?_⟩) (by assumption) ?_
            rotate_left
            · intro _ _; go_simp; first | done | with_reducible rfl
            simp only [Act.put, List.setIfInBounds_toArray, List.set_cons_zero, List.set_cons_succ]
            refine wpAnyH_ready (rs := [2]) (by kernel_rfl) (by simp) ?_
            refine AllReadyH.cons (o := { dst := some 67, op := .load 32 (.tmp 66), type := 32, pos := "law.go:40", after := #[{ on := 1, ground := .data }], guard := none }) rfl (fun K hK => ?_) AllReadyH.nil
            go_simp
            skip
            go_simp
            refine hK.out _ _ (trivial) (fun hHeld => ?_)
            clear hK K
            refine wpAnyH_take (i := 4) (oi := { dst := some 69, op := .slice 32 (.tmp 67) (some (.tmp 68)) none none, type := 32, pos := "law.go:40", after := #[{ on := 2, ground := .data }, { on := 3, ground := .data }], guard := none }) (v := ?_) rfl (by kernel_rfl) (by kernel_rfl) (by kernel_rfl) (fun _ _ _ h => h) (Or.inl ⟨by rfl, ?_⟩) (by assumption) ?_
            rotate_left
            · intro _ _; go_simp; first | done | with_reducible rfl
            simp only [Act.put, List.setIfInBounds_toArray, List.set_cons_zero, List.set_cons_succ]
            refine wpAnyH_ready (rs := [5]) (by kernel_rfl) (by simp) ?_
            refine AllReadyH.cons (o := { dst := some 70, op := .call { callee := .builtin Go.Builtin.append, args := #[.tmp 65, .tmp 69], argTypes := #[32, 32] }, type := 32, pos := "law.go:40", after := #[{ on := 0, ground := .data }, { on := 4, ground := .data }], guard := none }) rfl (fun K hK => ?_) AllReadyH.nil
            refine step_append_u rfl _ _ rfl B1 (.slice g6 (P + 1) c6) ((U.map Pr.k).take P ++ [pk]) rfl (HTZ.out.below (Below.refl _ _).drew).one _ ((U.map Pr.k).drop (P)) rfl (HS1.out _ (HPZ.out.tab.below (Below.refl _ _).drew)) (by have h1 := (HLD.out (U.map Pr.k) (by simp)).1; have h2 := (HLD.out (U.map Pr.k) (by simp)).2; (try simp only [List.length_append, List.length_cons, List.length_nil]); omega) HBZ.out ?_; intro v10 w10 HO10 HG10 HM10; have HG10' : (World.drew _).grownBy w10 _ := HG10.out; have HT10 : Hid (Two w10 B1 v10 (.slice g7 (P + 1) c7) ((U.map Pr.k).take P ++ [pk] ++ (U.map Pr.k).drop (P)) ((U.map Pr.v).take P ++ [pv])) := (HTZ.out.below (Below.refl _ _).drew).first HO10.out HG10.out HM10.out; have HP10 : Hid (PutSt w w10 X (.slice b1 m1 d1) (.slice b2 m2 d2) U N) := (HPZ.out.below (Below.refl _ _).drew).grown HG10.out (fun j e => ⟨by have := (HTZ.out.one.lt j e).1; have := HKV.out.2.2; omega, fun e' => by have := (HTZ.out.one.lt j e).1; have := HKV.out.1 j e'; omega, fun e' => by have := (HTZ.out.one.lt j e).1; have := HKV.out.2.1 j e'; omega⟩); have HB10 : Hid (B1 ≤ w10.heap.size) := Nat.le_trans HBZ.out HG10.out.size; obtain ⟨g10, c10, hv10, _⟩ := HO10.out.facts; obtain ⟨z10, hz10⟩ : ∃ z, ((U.map Pr.k).take P ++ [pk] ++ (U.map Pr.k).drop (P)).length = z := ⟨_, rfl⟩; rw [hz10] at hv10; clear hz10; subst hv10; have hy1 : w10.cell? ⟨X, 1, none⟩ = some (.slice b2 m2 d2) := HP10.out.box.one rfl
            simp only [Act.put, List.setIfInBounds_toArray, List.set_cons_zero, List.set_cons_succ]
            refine hK.out _ _ (trivial) (fun hHeld => ?_)
            clear hK K
            refine wpAnyH_ready (rs := [11]) (by kernel_rfl) (by simp) ?_
            refine AllReadyH.cons (o := { dst := some 76, op := .call { callee := .builtin Go.Builtin.append, args := #[.tmp 71, .tmp 75], argTypes := #[32, 32] }, type := 32, pos := "law.go:40", after := #[{ on := 6, ground := .data }, { on := 10, ground := .data }, { on := 5, ground := .chain }], guard := none }) rfl (fun K hK => ?_) AllReadyH.nil
            refine step_append_u rfl _ _ rfl B1 (.slice g7 (P + 1) c7) ((U.map Pr.v).take P ++ [pv]) rfl HT10.out.two _ ((U.map Pr.v).drop (P)) rfl (HS2.out _ HP10.out.tab) (by have h1 := (HLD.out (U.map Pr.v) (by simp)).1; have h2 := (HLD.out (U.map Pr.v) (by simp)).2; (try simp only [List.length_append, List.length_cons, List.length_nil]); omega) HB10.out ?_; intro v11 w11 HO11 HG11 HM11; have HT11 : Hid (Two w11 B1 _ v11 ((U.map Pr.k).take P ++ [pk] ++ (U.map Pr.k).drop (P)) ((U.map Pr.v).take P ++ [pv] ++ (U.map Pr.v).drop (P))) := HT10.out.second HO11.out HG11.out HM11.out; have HP11 : Hid (PutSt w w11 X (.slice b1 m1 d1) (.slice b2 m2 d2) U N) := HP10.out.grown HG11.out (fun j e => ⟨by have := (HT10.out.two.lt j e).1; have := HKV.out.2.2; omega, fun e' => by have := (HT10.out.two.lt j e).1; have := HKV.out.1 j e'; omega, fun e' => by have := (HT10.out.two.lt j e).1; have := HKV.out.2.1 j e'; omega⟩); obtain ⟨g11, c11, hv11, _⟩ := HO11.out.facts; obtain ⟨z11, hz11⟩ : ∃ z, ((U.map Pr.v).take P ++ [pv] ++ (U.map Pr.v).drop (P)).length = z := ⟨_, rfl⟩; rw [hz11] at hv11; clear hz11; subst hv11; have hf0 : w11.frozen? ⟨X, 0, none⟩ = false := HP11.out.box.frozen 0; have hf1 : w11.frozen? ⟨X, 1, none⟩ = false := HP11.out.box.frozen 1; have hk0 : w11.cell? ⟨X, 0, none⟩ = some (.slice b1 m1 d1) := HP11.out.box.one rfl; have hk1 : w11.cell? ⟨X, 1, none⟩ = some (.slice b2 m2 d2) := HP11.out.box.one rfl
            simp only [Act.put, List.setIfInBounds_toArray, List.set_cons_zero, List.set_cons_succ]
            refine hK.out _ _ (trivial) (fun hHeld => ?_)
            clear hK K
            refine wpAnyH_take (i := 12) (oi := { dst := some 77, op := .build 34 #[(0, .tmp 70), (1, .tmp 76)], type := 34, pos := "law.go:40", after := #[{ on := 5, ground := .data }, { on := 11, ground := .data }], guard := none }) (v := ?_) rfl (by kernel_rfl) (by kernel_rfl) (by kernel_rfl) (fun _ _ _ h => h) (Or.inl ⟨by rfl, ?_⟩) (by assumption) ?_
            rotate_left
            · intro _ _; go_simp; first | done | with_reducible rfl
            simp only [Act.put, List.setIfInBounds_toArray, List.set_cons_zero, List.set_cons_succ]
            refine wpAnyH_ready (rs := [13]) (by kernel_rfl) (by simp) ?_
            refine AllReadyH.cons (o := { dst := none, op := .store 34 (.tmp 2) (.tmp 77), type := 0, pos := "law.go:40", after := #[{ on := 12, ground := .data }, { on := 11, ground := .chain }, { on := 0, ground := .phase }, { on := 1, ground := .phase }, { on := 2, ground := .phase }, { on := 3, ground := .phase }, { on := 4, ground := .phase }, { on := 5, ground := .phase }, { on := 6, ground := .phase }, { on := 7, ground := .phase }, { on := 8, ground := .phase }, { on := 9, ground := .phase }, { on := 10, ground := .phase }, { on := 11, ground := .phase }, { on := 12, ground := .phase }], guard := none }) rfl (fun K hK => ?_) AllReadyH.nil
            go_simp
            skip
            go_simp
            refine hK.out _ _ (trivial) (fun hHeld => ?_)
            clear hK K
            refine wpAnyH_done (by kernel_rfl) ?_ _
            refine NoPanic.normal ?_
            clear hHeld hz0 hz1 hadr1 hadr2 e5 e6 hr1 hr3 HS1 HS2 HLD HM
            generalize hw12 : World.setCell (World.setCell w11 _ _) _ _ = w12
            have HP12 : Hid (PutSt w w12 X _ _ (tput ⟨pk, pv, false⟩ U) X) := PutSt.stored HP11.out (HT11.out) (by have := HKV.out.2.2; omega) (by have := HKV.out.2.2; omega) (by rw [HCUT.out]; simp [List.map_append, List.map_take, List.map_drop]) (by rw [HCUT.out]; simp [List.map_append, List.map_take, List.map_drop]) hw12
            clear hw12 HP11 HT11 HPZ HTZ HP10 HT10 HB10 HO10 HG10 HM10 HO11 HG11 HM11 hf0 hf1 hk0 hk1 hy1 HKV HBZ HCUT
            have hlt := HSTH.out.1
            have hn63 := HSTH.out.2
            have e0 : (0 : Int) ≤ (k : Int) := by omega
            have e1 : (k : Int) < (n : Int) := by omega
            go_wp2_with fail
            go_roundw
            case rel =>
              refine ⟨k + 1, g10, g11, z10, z11, c10, c11, by omega, by go_num, ?_⟩
              show PutSt _ _ _ _ _ _ _
              rw [HTB.out, show tabN (k + 1) N0 X = X from if_neg (Nat.succ_ne_zero k)]
              exact HP12.out
            case measure => simp [intOf]; omega
    · obtain rfl : k = n := by omega
      have e1 : ¬ (k : Int) < (k : Int) := by omega
      rw [List.take_of_length_le (by rw [HN.out]; exact Nat.le_refl _)] at HP
      have hx0 : wr.cell? ⟨X, 0, none⟩ = some (.slice b1 m1 d1) := HP.out.box.one rfl
      have hx1 : wr.cell? ⟨X, 1, none⟩ = some (.slice b2 m2 d2) := HP.out.box.one rfl
      have hy0 : wr.cell? ⟨X + 1, 0, none⟩ = some (.slice none 0 0) := HP.out.res.one rfl
      have hy1 : wr.cell? ⟨X + 1, 1, none⟩ = some (.slice none 0 0) := HP.out.res.one rfl
      have hf0 : wr.frozen? ⟨X + 1, 0, none⟩ = false := HP.out.res.frozen 0
      have hf1 : wr.frozen? ⟨X + 1, 1, none⟩ = false := HP.out.res.frozen 1
      go_wp2_with fail
      generalize hw2 : World.setCell (World.setCell wr _ _) _ _ = w2
      have HR2 : Hid (Blk w2 (X + 1) [.slice b1 m1 d1, .slice b2 m2 d2]) := by rw [← hw2]; exact (HP.out.res.set 0 _).set 1 _
      have HT2 : Hid (TabAt w2 N (.slice b1 m1 d1) (.slice b2 m2 d2) (tbat T b)) := by
        have hs : ∀ j, j ≠ X + 1 → w2.heap[j]? = wr.heap[j]? := fun j hj => by
          rw [← hw2, Below.heap_setCell _ _ _ j (by simpa using hj), Below.heap_setCell _ _ _ j (by simpa using hj)]
        exact ⟨HP.out.tab.keys.same fun j hj => hs j (HP.out.apart j (.inl hj)), HP.out.tab.vals.same fun j hj => hs j (HP.out.apart j (.inr hj))⟩
      have HB2 : Hid (Below X w w2) := by rw [← hw2]; exact (HP.out.base.setCell (by simp) _).setCell (by simp) _
      clear hw2 hx0 hx1 hy0 hy1 hf0 hf1
      subst hX
      obtain ⟨t', hb⟩ := HR2.out
      refine bodyPost_ret (v := .agg #[.slice b1 m1 d1, .slice b2 m2 d2]) ?_ rfl ⟨_, _, rfl, by rw [← HNE.out]; exact HT2.out, HB2.out⟩
      exact results_cell_row Tryz.results13 _ _ (w.heap.size + 1) t' _ _ _ rfl hb Tryz.underlying34 rfl (by kernel_rfl)
end Go.Proofs.YtlapnnkahijikaaGreatDoor
