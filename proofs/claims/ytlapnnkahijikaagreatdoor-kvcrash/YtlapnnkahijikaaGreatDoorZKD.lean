/- coraclelaw9: a law's table in memory; (table).at. -/
import Derived.Test.YtlapnnkahijikaaGreatDoorZK2
import Derived.Test.YtlapnnkahijikaaGreatDoorZW5
namespace Go.Proofs.YtlapnnkahijikaaGreatDoor
open Go.ChangeShapes Go.WideShapes Go.ChangeAt Go.RowKit Go.Lib

theorem less_klt (a b : ByteArray) : Op.bytesLess a.toList b.toList = klt a b := by
  rw [Go.Proofs.bytesLess_eq, ByteArray.toList_eq, ByteArray.toList_eq]; rfl
theorem eq_str (a b : ByteArray) : (a.toList == b.toList) = decide (a = b) := by
  rw [ByteArray.toList_eq, ByteArray.toList_eq, Bool.eq_iff_iff]
  simp only [beq_iff_eq, decide_eq_true_eq]
  refine ⟨fun h => kb_inj h, fun h => by rw [h]⟩
/-- Texts that v leads to. -/
def SrcU (w : World) (v : Value) (ss : List ByteArray) : Prop := (v = .slice none 0 0 ∧ ss = []) ∨ ∃ b o cap, v = .slice (some ⟨b, o, none⟩) ss.length cap ∧ ∀ j x, ss[j]? = some x → w.cell? ⟨b, o + j, none⟩ = some (.string x)
theorem SrcU.below {w w' : World} {v : Value} {ss : List ByteArray} (h : SrcU w v ss) (hb : Below w.heap.size w w') : SrcU w' v ss :=
  h.imp id fun ⟨b, o, cap, hv, hc⟩ => ⟨b, o, cap, hv, fun j x hx => cell_below' hb (hc j x hx)⟩
theorem run_append_u {w : World} {B : Nat} {v x : Value} {ss r : List ByteArray} (ty : TypeId) (h : OwnS w B v ss) (hr : SrcU w x r) (hm : ss.length + r.length ≤ 100000000) (hN : B ≤ w.heap.size) :
    ∃ v' w', (Builtin.append_ #[32, 32] ty #[v, x]).run Tryz.prog w = .ok v' w' ∧ OwnS w' B v' (ss ++ r) ∧ w.grownBy w' v.ownBlock ∧ Moved w v v' := by
  obtain ⟨i, hi, hi1, hi2, hi3⟩ := info_parts Tryz.info9
  rcases hr with ⟨rfl, rfl⟩ | ⟨b, o, cap, rfl, hc⟩
  · exact ⟨v, w, run_append_owned_none w B _ ty _ i 1 Tryz.underlying32 hi v _ _ h, by rw [List.append_nil]; exact h, ⟨rfl, rfl, rfl, Nat.le_refl _, fun _ _ _ => rfl⟩, .inl rfl⟩
  · have hcells : ∀ j u, (r.map Value.string)[j]? = some u → w.cell? ((⟨b, o, none⟩ : Addr).add j) = some u := fun j u hu => by
      rw [List.getElem?_map] at hu
      cases hx : r[j]? with
      | none => rw [hx] at hu; cases hu
      | some y =>
        rw [hx] at hu
        simp only [Option.map_some, Option.some.injEq] at hu
        subst hu
        rw [Addr.add_mid]
        exact hc j y hx
    have h1 : ∀ u ∈ r.map Value.string, u.oneCell' = true := fun u hu => by obtain ⟨y, _, rfl⟩ := List.mem_map.1 hu; rfl
    obtain ⟨v', w', hrun, h2, h3, h4⟩ := run_append_own w B 32 ty 9 i _ 1 16 Tryz.underlying32 hi hi1 hi2 hi3 rfl (by omega) v ss.length (ss.map Value.string) h ⟨b, o, none⟩ r.length cap (r.map Value.string) (by rw [List.length_map]; omega) hcells h1 (by unfold maxLen; omega) (by omega) hN
    refine ⟨v', w', hrun, ?_, h3, ?_⟩
    · unfold OwnS
      rw [List.length_append, List.map_append]; exact h2
    · have hlen : (r.map Value.string).length = r.length * i.size := by rw [hi2, List.length_map]; omega
      have hfl : (ss.map Value.string).length = ss.length * i.size := by rw [hi2, List.length_map]; omega
      rcases h.2 with ⟨rfl, h0⟩ | ⟨g, c, cur, rfl, hbg, hg, hnc, hcm, hcs, htake⟩
      · by_cases hm0 : r.length = 0
        · left
          rw [h4.2 ⟨rfl, hm0⟩]
        · have e := run_append_nil w 32 ty 9 i _ Tryz.underlying32 hi hi1 ⟨b, o, none⟩ r.length cap (r.map Value.string) hlen hcells (by omega) (by omega) (by rw [hi3]; omega)
          rw [e] at hrun
          injection hrun with e1 _
          right
          exact ⟨w.heap.size, Nat.le_refl _, by rw [← e1]; rfl⟩
      · by_cases hroom : ss.length + r.length ≤ c
        · have e := run_append_room w 32 ty 9 i Tryz.underlying32 hi g ss.length c cur hg ⟨b, o, none⟩ r.length cap (r.map Value.string) hlen hcells h1 hroom (by rw [hi2, hcs, List.length_map]; omega)
          rw [e] at hrun
          injection hrun with e1 _
          left
          rw [← e1]; rfl
        · have e := run_append_grow w 32 ty 9 i _ Tryz.underlying32 hi hi1 ⟨g, 0, none⟩ ss.length c (ss.map Value.string) hfl (World.ownsRow.cells h (g := g) rfl) ⟨b, o, none⟩ r.length cap (r.map Value.string) hlen hcells (by omega) (by omega) (growslice_fits (by omega) (by rw [hi3]; omega))
          rw [e] at hrun
          injection hrun with e1 _
          right
          exact ⟨w.heap.size, Nat.le_refl _, by rw [← e1]; rfl⟩
section
variable {ops : Array Oper} {o : Oper} {ac : Act} {w : World} {Q : Exit → Act → World → Prop} {K : Act → World → Prop} {E : Prop}
theorem wpList_append_u {rest : List Oper} (hgd : o.guard = none) (s x : Operand)
    (ho : o.op = .call { callee := .builtin .append, args := #[s, x], argTypes := #[32, 32] }) (B : Nat) (v : Value) (ss : List ByteArray) (hs : ac.eval s = v) (h : OwnS w B v ss)
    (y : Value) (r : List ByteArray) (hx : ac.eval x = y) (hr : SrcU w y r) (hm : ss.length + r.length ≤ 100000000) (hN : B ≤ w.heap.size)
    (hK : ∀ v' w', Hid (OwnS w' B v' (ss ++ r)) → Hid (w.grownBy w' v.ownBlock) → Hid (Moved w v v') → wpList Tryz.prog ops Q rest (ac.put o.dst v') w') : wpList Tryz.prog ops Q (o :: rest) ac w := by
  obtain ⟨v', w', hrun, h1, h2, h3⟩ := run_append_u o.type h hr hm hN
  refine wpList_plain hgd fun K hK' => ?_
  unfold Oper.wp execOp
  simp only [ho, resolve, invoke, builtin, Sem.run_bind, Sem.run_pure, Result.andThen_ok, List.map_toArray, List.map_cons, List.map_nil, hs, hx, hrun]
  exact hK' _ _ (hK v' w' h1 h2 h3)
theorem step_append_u (hgd : o.guard = none) (s x : Operand)
    (ho : o.op = .call { callee := .builtin .append, args := #[s, x], argTypes := #[32, 32] }) (B : Nat) (v : Value) (ss : List ByteArray) (hs : ac.eval s = v) (h : OwnS w B v ss)
    (y : Value) (r : List ByteArray) (hx : ac.eval x = y) (hr : SrcU w y r) (hm : ss.length + r.length ≤ 100000000) (hN : B ≤ w.heap.size)
    (hK : ∀ v' w', Hid (OwnS w' B v' (ss ++ r)) → Hid (w.grownBy w' v.ownBlock) → Hid (Moved w v v') → K (ac.put o.dst v') w') : if Region.wanted o (yielded ops ac.tmps) = true then Oper.wp Tryz.prog o ac w K Q else E := by
  have hw : Region.wanted o (yielded ops ac.tmps) = true := by simp [Region.wanted, hgd]
  rw [if_pos hw]
  obtain ⟨v', w', hrun, h1, h2, h3⟩ := run_append_u o.type h hr hm hN
  unfold Oper.wp execOp
  simp only [ho, resolve, invoke, builtin, Sem.run_bind, Sem.run_pure, Result.andThen_ok, List.map_toArray, List.map_cons, List.map_nil, hs, hx, hrun]
  exact hK v' w' h1 h2 h3
end
theorem OwnS.facts {w : World} {B : Nat} {v : Value} {ss : List ByteArray} (h : OwnS w B v ss) : ∃ a c, v = .slice a ss.length c ∧ ss.length ≤ c ∧ c ≤ maxLen ∧ ((a = none ∧ c = 0 ∧ ss = []) ∨ ∃ g, a = some ⟨g, 0, none⟩ ∧ B ≤ g ∧ ∀ j x, ss[j]? = some x → w.cell? ⟨g, j, none⟩ = some (.string x)) := by
  have hs := h.src
  rcases h.2 with ⟨rfl, hz⟩ | ⟨g, cap, cur, rfl, hg, hgb, r1, r2, r3, r4⟩
  · have : ss = [] := List.eq_nil_of_length_eq_zero hz
    subst this
    exact ⟨none, 0, rfl, Nat.le_refl _, Nat.zero_le _, .inl ⟨rfl, rfl, rfl⟩⟩
  · refine ⟨_, _, rfl, r1, r2, .inr ⟨g, rfl, hg, ?_⟩⟩
    rcases hs with ⟨e, _⟩ | ⟨b, c, e, hc⟩
    · injection e with e _ _; cases e
    · injection e with e _ _
      injection e with e
      injection e with e
      subst e
      exact hc
theorem OwnS.cutL {w : World} {B : Nat} {a : Option Addr} {n c : Nat} {ss : List ByteArray} (h : OwnS w B (.slice a n c) ss) (k : Nat) (hk : k ≤ ss.length) : SrcU w (.slice a k c) (ss.take k) := by
  obtain ⟨a', c', e, h1, h2, h3⟩ := h.facts
  injection e with e1 e2 e3
  subst e1; subst e2; subst e3
  have hl : (ss.take k).length = k := by rw [List.length_take]; omega
  rcases h3 with ⟨rfl, rfl, rfl⟩ | ⟨g, rfl, _, hc⟩
  · exact .inl ⟨by simp at hk; rw [hk], by simp⟩
  · refine .inr ⟨g, 0, c, by rw [hl], fun j x hx => ?_⟩
    rw [Nat.zero_add]
    refine hc j x ?_
    rw [List.getElem?_take] at hx
    split at hx
    · exact hx
    · cases hx
theorem OwnS.cutR {w : World} {B : Nat} {a : Option Addr} {n c : Nat} {ss : List ByteArray} (h : OwnS w B (.slice a n c) ss) (k : Nat) (hk : k ≤ ss.length) : SrcU w (.slice (if c = k then a else Option.map (fun x => x.add k) a) (n - k) (c - k)) (ss.drop k) := by
  obtain ⟨a', c', e, h1, h2, h3⟩ := h.facts
  injection e with e1 e2 e3
  subst e1; subst e2; subst e3
  have hl : (ss.drop k).length = ss.length - k := List.length_drop ..
  rcases h3 with ⟨rfl, rfl, rfl⟩ | ⟨g, rfl, _, hc⟩
  · left
    simp at hk
    subst hk
    exact ⟨by simp, by simp⟩
  · right
    by_cases hck : c = k
    · rw [if_pos hck]
      exact ⟨g, 0, _, by rw [hl], fun j x hx => by rw [List.getElem?_drop] at hx; have := (List.getElem?_eq_some_iff.1 hx).1; omega⟩
    · rw [if_neg hck]
      refine ⟨g, k, _, by rw [hl, Option.map_some, Addr.add_mid, Nat.zero_add], fun j x hx => ?_⟩
      rw [List.getElem?_drop] at hx
      exact hc (k + j) x hx
/-- A law's table: keys, and what they have. -/
structure TabAt (w : World) (N : Nat) (kv vv : Value) (T : List Pr) : Prop where
  keys : OwnS w N kv (T.map Pr.k)
  vals : OwnS w N vv (T.map Pr.v)
theorem TabAt.below {w w' : World} {N : Nat} {kv vv : Value} {T : List Pr} (h : TabAt w N kv vv T) (hb : Below w.heap.size w w') : TabAt w' N kv vv T := ⟨h.keys.below hb, h.vals.below hb⟩
theorem TabAt.nil (w : World) (N : Nat) : TabAt w N (.slice none 0 0) (.slice none 0 0) [] := ⟨OwnS.nil _ _, OwnS.nil _ _⟩
theorem OwnS.cell {w : World} {B : Nat} {a : Option Addr} {n c : Nat} {ss : List ByteArray} (h : OwnS w B (.slice a n c) ss) {k : Nat} (hk : k < ss.length) : ∃ g, a = some ⟨g, 0, none⟩ ∧ w.cell? ⟨g, k, none⟩ = some (.string (ss.getD k ⟨#[]⟩)) := by
  obtain ⟨a', c', e, h1, h2, h3⟩ := h.facts
  injection e with e1 e2 e3
  subst e1
  rcases h3 with ⟨_, _, rfl⟩ | ⟨g, rfl, _, hc⟩
  · simp at hk
  · exact ⟨g, rfl, hc k _ (by rw [List.getD_eq_getElem?_getD, List.getElem?_eq_getElem hk]; rfl)⟩
theorem getD_mapK (T : List Pr) {k : Nat} (hk : k < T.length) : (T.map Pr.k).getD k ⟨#[]⟩ = (T.getD k default).k := by
  rw [List.getD_eq_getElem?_getD, List.getD_eq_getElem?_getD, List.getElem?_map, List.getElem?_eq_getElem hk]; rfl
theorem getD_mapV (T : List Pr) {k : Nat} (hk : k < T.length) : (T.map Pr.v).getD k ⟨#[]⟩ = (T.getD k default).v := by
  rw [List.getD_eq_getElem?_getD, List.getD_eq_getElem?_getD, List.getElem?_map, List.getElem?_eq_getElem hk]; rfl
/-- The place of a key. -/
def tpos (key : ByteArray) : List Pr → Nat
  | [] => 0
  | q :: T => if klt q.k key = true then tpos key T + 1 else 0
theorem tpos_le (key : ByteArray) : ∀ T : List Pr, tpos key T ≤ T.length
  | [] => Nat.le_refl _
  | q :: T => by
    have := tpos_le key T
    unfold tpos
    split
    · simp only [List.length_cons]; omega
    · omega
theorem tpos_lt (key : ByteArray) : ∀ (T : List Pr) (k : Nat), k < tpos key T → klt (T.getD k default).k key = true
  | [], k, h => by unfold tpos at h; omega
  | q :: T, k, h => by
    unfold tpos at h
    split at h
    · rename_i hq
      cases k with
      | zero => exact hq
      | succ k => exact tpos_lt key T k (by omega)
    · omega
theorem tpos_at (key : ByteArray) : ∀ (T : List Pr), tpos key T < T.length → klt (T.getD (tpos key T) default).k key = false
  | [], h => by simp at h
  | q :: T, h => by
    unfold tpos at h ⊢
    split
    · rename_i hq
      rw [if_pos hq] at h
      exact tpos_at key T (by simpa using h)
    · rename_i hq
      simpa using hq
def tat (key : ByteArray) (T : List Pr) : Bool := decide (tpos key T < T.length) && decide ((T.getD (tpos key T) default).k = key)
theorem tput_cut (p : Pr) : ∀ T : List Pr, tput p T = T.take (tpos p.k T) ++ (if p.g = true then [] else [p]) ++ T.drop (if tat p.k T = true then tpos p.k T + 1 else tpos p.k T)
  | [] => by unfold tput tpos tat; simp [tpos]
  | q :: T => by
    have ih := tput_cut p T
    unfold tput
    by_cases h1 : klt q.k p.k = true
    · have e : tpos p.k (q :: T) = tpos p.k T + 1 := by conv => lhs; unfold tpos
                                                        rw [if_pos h1]
      have e2 : tat p.k (q :: T) = tat p.k T := by unfold tat; rw [e]; simp
      have e3 : (q :: T).drop (if tat p.k T = true then tpos p.k T + 1 + 1 else tpos p.k T + 1) = T.drop (if tat p.k T = true then tpos p.k T + 1 else tpos p.k T) := by split <;> simp
      rw [if_pos h1, e, e2, e3, ih, List.take_succ_cons]
      simp
    · have e : tpos p.k (q :: T) = 0 := by unfold tpos; rw [if_neg h1]
      have e2 : tat p.k (q :: T) = decide (q.k = p.k) := by unfold tat; rw [e]; simp
      rw [if_neg h1, e, e2]
      by_cases h2 : q.k = p.k
      · rw [if_pos h2, if_pos (show decide (q.k = p.k) = true by simpa using h2)]
        split <;> simp
      · rw [if_neg h2, if_neg (show ¬ decide (q.k = p.k) = true by simpa using h2)]
        split <;> simp
set_option maxRecDepth 100000 in
set_option maxHeartbeats 4000000 in
theorem at_any (kv vv : Value) (T : List Pr) (key : ByteArray) (N : Nat) (w : World) (h : TabAt w N kv vv T) :
    Calls Tryz.prog 35 #[.agg #[kv, vv], .string key] w fun e w' => e = .returned (.tuple #[.int .i64 (tpos key T), .bool (tat key T)]) ∧ Below w.heap.size w w' := by
  have HMO : Hid (Tryz.prog.follows .mixedOrders = true) := show _ = _ by kernel_rfl
  obtain ⟨a1, c1, hv1, h11, h12, _⟩ := h.keys.facts
  obtain ⟨a2, c2, hv2, _⟩ := h.vals.facts
  rw [List.length_map] at hv1 hv2 h11
  subst hv1
  subst hv2
  obtain ⟨n, hn⟩ : ∃ n, n = T.length := ⟨_, rfl⟩
  have hn63 : n ≤ 9223372036854775807 := by rw [hn]; unfold maxLen at h12; omega
  rw [← hn] at h
  rw [← hn]
  have H : Hid (TabAt w N (.slice a1 n c1) (.slice a2 n c2) T) := h
  have HN : Hid (n = T.length) := hn
  have HP : Hid (tpos key T ≤ n) := show _ ≤ _ by rw [hn]; exact tpos_le key T
  have HL : Hid (∀ k, k < tpos key T → klt (T.getD k default).k key = true) := fun k hk => tpos_lt key T k hk
  have HA : Hid (tpos key T < n → klt (T.getD (tpos key T) default).k key = false) := fun hk => tpos_at key T (by rw [← hn]; exact hk)
  have HT : Hid (tat key T = (decide (tpos key T < T.length) && decide ((T.getD (tpos key T) default).k = key))) := rfl
  clear h hn h11 h12
  generalize tpos key T = P at *
  generalize tat key T = TA at *
  go_enter Tryz.func35, Tryz.ntmps35
  go_upto_region 1 with fail
  generalize hw1 : World.alloc w _ = w1
  have HB1 : Hid (Below w.heap.size w w1) := by rw [← hw1]; exact (Below.refl _ _).alloc (Nat.le_refl _) _
  have HK1 : Hid (Blk w1 w.heap.size [.slice a1 n c1, .slice a2 n c2]) := by rw [← hw1]; exact Blk.mk _ _ _ rfl rfl
  have H1 : Hid (TabAt w1 N (.slice a1 n c1) (.slice a2 n c2) T) := H.out.below HB1.out
  have hc0 : w1.cell? ⟨w.heap.size, 0, none⟩ = some (.slice a1 n c1) := HK1.out.one rfl
  clear hw1 H
  generalize hM : w.heap.size = M at *
  go_wp2_with fail
  go_loopw [6] (fun i wr => ∃ k : Nat, k ≤ P ∧ i = .int .i64 k ∧ wr = w1) (fun i _ => P - (intOf i).toNat)
  case atStart => exact ⟨0, Nat.zero_le _, rfl, rfl⟩
  case round =>
    obtain ⟨k, hk, rfl, rfl⟩ := hrel
    have hPn := HP.out
    by_cases hlt : k < P
    · have e0 : (0 : Int) ≤ (k : Int) := by omega
      have e1 : (k : Int) < (n : Int) := by omega
      obtain ⟨g, rfl, hcg⟩ := H1.out.keys.cell (k := k) (by rw [List.length_map, ← HN.out]; omega)
      rw [getD_mapK T (by rw [← HN.out]; omega)] at hcg
      have hless := HL.out k hlt
      rw [← less_klt] at hless
      generalize (T.getD k default).k = kk at *
      go_wp2_with fail
      go_roundw
      case rel => exact ⟨k + 1, by omega, by go_num, trivial⟩
      case measure => simp [intOf]; omega
    · obtain rfl : k = P := by omega
      by_cases hkn : k < n
      · have e0 : (0 : Int) ≤ (k : Int) := by omega
        have e1 : (k : Int) < (n : Int) := by omega
        obtain ⟨g, rfl, hcg⟩ := H1.out.keys.cell (k := k) (by rw [List.length_map, ← HN.out]; omega)
        rw [getD_mapK T (by rw [← HN.out]; omega)] at hcg
        have hless := HA.out hkn
        rw [← less_klt] at hless
        have HT2 : Hid (TA = decide ((T.getD k default).k = key)) := show _ = _ by rw [HT.out, decide_eq_true (by rw [← HN.out]; exact hkn), Bool.true_and]
        generalize (T.getD k default).k = kk at *
        have heq := eq_str kk key
        have HE : Hid (_ = decide (kk = key)) := HT2.out
        generalize decide (kk = key) = dd at *
        go_upto_region 4 with fail
        refine wp_region_reads HMO.out (by kernel_rfl) ?_
        iterate 17 still_step
        refine wpStill_nil ?_
        go_wp2_with fail
        go_ret2
        subst hM
        exact ⟨by rw [HE.out]; rfl, HB1.out.drew⟩
      · obtain rfl : k = n := by omega
        have e1 : ¬ (k : Int) < (k : Int) := by omega
        have HT2 : Hid (TA = false) := show _ = _ by rw [HT.out, decide_eq_false (by rw [← HN.out]; omega), Bool.false_and]
        have HC : Hid (wr.cell? ⟨M, 0, none⟩ = some (.slice a1 k c1)) := hc0
        go_upto_region 4 with fail
        refine wp_region_noPanic ?_
        refine wp_region_held_drew (S := fun w' => w'.cell? ⟨M, 0, none⟩ = some (.slice a1 k c1)) HMO.out (HC.out) (fun hHeld => ?_)
        refine wpAnyH_take (i := 0) (oi := { dst := some 23, op := .move (.tmp 6), type := 3, pos := "law.go:23", after := #[], guard := none }) (v := ?_) rfl (by kernel_rfl) (by kernel_rfl) (by kernel_rfl) (fun _ _ _ h => h) (Or.inl ⟨by rfl, ?_⟩) (by assumption) ?_
        rotate_left
        · intro _ _; go_simp; first | done | with_reducible rfl
        simp only [Act.put, List.setIfInBounds_toArray, List.set_cons_zero, List.set_cons_succ]
        refine wpAnyH_take (i := 1) (oi := { dst := some 24, op := .move (.tmp 6), type := 3, pos := "law.go:23", after := #[], guard := none }) (v := ?_) rfl (by kernel_rfl) (by kernel_rfl) (by kernel_rfl) (fun _ _ _ h => h) (Or.inl ⟨by rfl, ?_⟩) (by assumption) ?_
        rotate_left
        · intro _ _; go_simp; first | done | with_reducible rfl
        simp only [Act.put, List.setIfInBounds_toArray, List.set_cons_zero, List.set_cons_succ]
        refine wpAnyH_take (i := 2) (oi := { dst := some 25, op := .fieldAddr 34 (.tmp 2) 0, type := 0, pos := "law.go:23", after := #[], guard := none }) (v := ?_) rfl (by kernel_rfl) (by kernel_rfl) (by kernel_rfl) (fun _ _ _ h => h) (Or.inl ⟨by rfl, ?_⟩) (by assumption) ?_
        rotate_left
        · intro _ _; go_simp; first | done | with_reducible rfl
        simp only [Act.put, List.setIfInBounds_toArray, List.set_cons_zero, List.set_cons_succ]
        refine wpAnyH_take (i := 3) (oi := { dst := some 26, op := .load 32 (.tmp 25), type := 32, pos := "law.go:23", after := #[{ on := 2, ground := .data }], guard := none }) (v := .slice a1 k c1) rfl (by kernel_rfl) (by kernel_rfl) (by kernel_rfl) (fun _ _ _ h => h) (Or.inl ⟨by rfl, ?_⟩) (by assumption) ?_
        · intro _ _; rename_i wz hz; have cz := hz; go_simp
        simp only [Act.put, List.setIfInBounds_toArray, List.set_cons_zero, List.set_cons_succ]
        refine wpAnyH_take (i := 4) (oi := { dst := some 27, op := .call { callee := .builtin Go.Builtin.len, args := #[.tmp 26], argTypes := #[32] }, type := 3, pos := "law.go:23", after := #[{ on := 3, ground := .data }], guard := none }) (v := ?_) rfl (by kernel_rfl) (by kernel_rfl) (by kernel_rfl) (fun _ _ _ h => h) (Or.inl ⟨by rfl, ?_⟩) (by assumption) ?_
        rotate_left
        · intro _ _; go_simp; first | done | with_reducible rfl
        simp only [Act.put, List.setIfInBounds_toArray, List.set_cons_zero, List.set_cons_succ]
        refine wpAnyH_take (i := 5) (oi := { dst := some 28, op := .binOp Go.BinOp.lss 3 (.tmp 24) (.tmp 27) 3, type := 4, pos := "law.go:23", after := #[{ on := 1, ground := .data }, { on := 4, ground := .data }], guard := none }) (v := .bool false) rfl (by kernel_rfl) (by kernel_rfl) (by kernel_rfl) (fun _ _ _ h => h) (Or.inl ⟨by rfl, ?_⟩) (by assumption) ?_
        · intro _ _; go_simp
        simp only [Act.put, List.setIfInBounds_toArray, List.set_cons_zero, List.set_cons_succ]
        refine wpAnyH_take (i := 6) (oi := { dst := some 29, op := .move (.tmp 28), type := 4, pos := "law.go:23", after := #[{ on := 5, ground := .data }], guard := none }) (v := ?_) rfl (by kernel_rfl) (by kernel_rfl) (by kernel_rfl) (fun _ _ _ h => h) (Or.inl ⟨by rfl, ?_⟩) (by assumption) ?_
        rotate_left
        · intro _ _; go_simp; first | done | with_reducible rfl
        simp only [Act.put, List.setIfInBounds_toArray, List.set_cons_zero, List.set_cons_succ]
        refine wpAnyH_take (i := 7) (oi := { dst := some 30, op := .fieldAddr 34 (.tmp 2) 0, type := 0, pos := "law.go:23", after := #[{ on := 6, ground := .guard }, { on := 15, ground := .gcOnly Go.Departure.lateStores }], guard := some (6, true) }) (v := undef) rfl (by kernel_rfl) (by kernel_rfl) (by kernel_rfl) (fun _ _ _ h => h) (Or.inr ⟨by rfl, rfl⟩) (by assumption) ?_
        simp only [Act.put, List.setIfInBounds_toArray, List.set_cons_zero, List.set_cons_succ]
        refine wpAnyH_take (i := 8) (oi := { dst := some 31, op := .load 32 (.tmp 30), type := 32, pos := "law.go:23", after := #[{ on := 7, ground := .data }, { on := 6, ground := .guard }, { on := 15, ground := .gcOnly Go.Departure.lateStores }], guard := some (6, true) }) (v := undef) rfl (by kernel_rfl) (by kernel_rfl) (by kernel_rfl) (fun _ _ _ h => h) (Or.inr ⟨by rfl, rfl⟩) (by assumption) ?_
        simp only [Act.put, List.setIfInBounds_toArray, List.set_cons_zero, List.set_cons_succ]
        refine wpAnyH_take (i := 9) (oi := { dst := some 32, op := .move (.tmp 6), type := 3, pos := "law.go:23", after := #[{ on := 6, ground := .guard }, { on := 15, ground := .gcOnly Go.Departure.lateStores }], guard := some (6, true) }) (v := undef) rfl (by kernel_rfl) (by kernel_rfl) (by kernel_rfl) (fun _ _ _ h => h) (Or.inr ⟨by rfl, rfl⟩) (by assumption) ?_
        simp only [Act.put, List.setIfInBounds_toArray, List.set_cons_zero, List.set_cons_succ]
        refine wpAnyH_take (i := 10) (oi := { dst := some 33, op := .indexAddr 32 (.tmp 31) (.tmp 32), type := 0, pos := "law.go:23", after := #[{ on := 8, ground := .data }, { on := 9, ground := .data }, { on := 6, ground := .guard }, { on := 15, ground := .gcOnly Go.Departure.lateStores }], guard := some (6, true) }) (v := undef) rfl (by kernel_rfl) (by kernel_rfl) (by kernel_rfl) (fun _ _ _ h => h) (Or.inr ⟨by rfl, rfl⟩) (by assumption) ?_
        simp only [Act.put, List.setIfInBounds_toArray, List.set_cons_zero, List.set_cons_succ]
        refine wpAnyH_take (i := 11) (oi := { dst := some 34, op := .load 9 (.tmp 33), type := 9, pos := "law.go:23", after := #[{ on := 10, ground := .data }, { on := 6, ground := .guard }, { on := 15, ground := .gcOnly Go.Departure.lateStores }], guard := some (6, true) }) (v := undef) rfl (by kernel_rfl) (by kernel_rfl) (by kernel_rfl) (fun _ _ _ h => h) (Or.inr ⟨by rfl, rfl⟩) (by assumption) ?_
        simp only [Act.put, List.setIfInBounds_toArray, List.set_cons_zero, List.set_cons_succ]
        refine wpAnyH_take (i := 12) (oi := { dst := some 35, op := .move (.tmp 1), type := 9, pos := "law.go:23", after := #[{ on := 6, ground := .guard }, { on := 15, ground := .gcOnly Go.Departure.lateStores }], guard := some (6, true) }) (v := undef) rfl (by kernel_rfl) (by kernel_rfl) (by kernel_rfl) (fun _ _ _ h => h) (Or.inr ⟨by rfl, rfl⟩) (by assumption) ?_
        simp only [Act.put, List.setIfInBounds_toArray, List.set_cons_zero, List.set_cons_succ]
        refine wpAnyH_take (i := 13) (oi := { dst := some 36, op := .binOp Go.BinOp.eql 9 (.tmp 34) (.tmp 35) 9, type := 4, pos := "law.go:23", after := #[{ on := 11, ground := .data }, { on := 12, ground := .data }, { on := 6, ground := .guard }, { on := 15, ground := .gcOnly Go.Departure.lateStores }], guard := some (6, true) }) (v := undef) rfl (by kernel_rfl) (by kernel_rfl) (by kernel_rfl) (fun _ _ _ h => h) (Or.inr ⟨by rfl, rfl⟩) (by assumption) ?_
        simp only [Act.put, List.setIfInBounds_toArray, List.set_cons_zero, List.set_cons_succ]
        refine wpAnyH_take (i := 14) (oi := { dst := some 37, op := .pick (.tmp 29) (.tmp 36) (.const (.bool false)), type := 4, pos := "law.go:23", after := #[{ on := 6, ground := .data }, { on := 13, ground := .data }, { on := 15, ground := .gcOnly Go.Departure.lateStores }], guard := none }) (v := ?_) rfl (by kernel_rfl) (by kernel_rfl) (by kernel_rfl) (fun _ _ _ h => h) (Or.inl ⟨by rfl, ?_⟩) (by assumption) ?_
        rotate_left
        · intro _ _; go_simp; first | done | with_reducible rfl
        simp only [Act.put, List.setIfInBounds_toArray, List.set_cons_zero, List.set_cons_succ]
        refine wpAnyH_take (i := 15) (oi := { dst := some 4, op := .assign (.tmp 23), type := 3, pos := "law.go:23", after := #[{ on := 0, ground := .data }, { on := 6, ground := .chain }, { on := 0, ground := .phase }, { on := 1, ground := .textOnly Go.Departure.lateStores }, { on := 2, ground := .textOnly Go.Departure.lateStores }, { on := 3, ground := .textOnly Go.Departure.lateStores }, { on := 4, ground := .textOnly Go.Departure.lateStoresUnsure }, { on := 5, ground := .textOnly Go.Departure.lateStores }, { on := 6, ground := .textOnly Go.Departure.lateStores }, { on := 7, ground := .textOnly Go.Departure.lateStores }, { on := 8, ground := .textOnly Go.Departure.lateStores }, { on := 9, ground := .textOnly Go.Departure.lateStores }, { on := 10, ground := .textOnly Go.Departure.lateStores }, { on := 11, ground := .textOnly Go.Departure.lateStores }, { on := 12, ground := .textOnly Go.Departure.lateStores }, { on := 13, ground := .textOnly Go.Departure.lateStores }, { on := 14, ground := .textOnly Go.Departure.lateStores }], guard := none }) (v := ?_) rfl (by kernel_rfl) (by kernel_rfl) (by kernel_rfl) (fun _ _ _ h => h) (Or.inl ⟨by rfl, ?_⟩) (by assumption) ?_
        rotate_left
        · intro _ _; go_simp; first | done | with_reducible rfl
        simp only [Act.put, List.setIfInBounds_toArray, List.set_cons_zero, List.set_cons_succ]
        refine wpAnyH_take (i := 16) (oi := { dst := some 5, op := .assign (.tmp 37), type := 4, pos := "law.go:23", after := #[{ on := 14, ground := .data }, { on := 15, ground := .chain }, { on := 0, ground := .phase }, { on := 1, ground := .phase }, { on := 2, ground := .phase }, { on := 3, ground := .phase }, { on := 4, ground := .phase }, { on := 5, ground := .phase }, { on := 6, ground := .phase }, { on := 7, ground := .phase }, { on := 8, ground := .phase }, { on := 9, ground := .phase }, { on := 10, ground := .phase }, { on := 11, ground := .phase }, { on := 12, ground := .phase }, { on := 13, ground := .phase }, { on := 14, ground := .phase }, { on := 15, ground := .phase }], guard := none }) (v := ?_) rfl (by kernel_rfl) (by kernel_rfl) (by kernel_rfl) (fun _ _ _ h => h) (Or.inl ⟨by rfl, ?_⟩) (by assumption) ?_
        rotate_left
        · intro _ _; go_simp; first | done | with_reducible rfl
        simp only [Act.put, List.setIfInBounds_toArray, List.set_cons_zero, List.set_cons_succ]
        refine wpAnyH_done (by kernel_rfl) ?_ _
        refine NoPanic.normal ?_
        clear hHeld
        go_wp2_with fail
        go_ret2
        subst hM
        exact ⟨by rw [HT2.out]; rfl, HB1.out.drew⟩
end Go.Proofs.YtlapnnkahijikaaGreatDoor
