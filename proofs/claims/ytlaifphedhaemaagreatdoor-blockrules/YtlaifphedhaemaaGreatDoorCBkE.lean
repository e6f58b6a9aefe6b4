/- block.conflict. -/
import Derived.Test.YtlaifphedhaemaaGreatDoorCBkD
namespace Go.Proofs.YtlaifphedhaemaaGreatDoor
open Go.ChangeShapes Go.WideShapes Go.ChangeAt Go.RowKit

section
variable {α : Type} [DecidableEq α] {P : Program} {k mt et : TypeId} {val : α → Value} {w : World} {r : Nat} {ops : Array Oper} {o : Oper} {ac : Act} {K : Act → World → Prop} {Q : Exit → Act → World → Prop} {E : Prop}
theorem step_look (hgd : o.guard = none) (m x : Operand) (c : Bool) (ho : o.op = Op.lookup mt m x c)
    (H : KeyT P k α val) (ht : P.underlying mt = some (.map k et)) (hz : ∀ w, (zeroValue et).run P w = .ok (.int .i64 0) w) (l : List (α × Int)) (h : MapAt val w r l) (y : α)
    (hm : ac.eval m = .map (some r)) (hx : ac.eval x = val y)
    (hK : K (ac.put o.dst (if c then .tuple #[.int .i64 ((look y l).getD 0), .bool (look y l).isSome] else .int .i64 ((look y l).getD 0))) w) : if Region.wanted o (yielded ops ac.tmps) = true then Oper.wp P o ac w K Q else E := by
  have hw : Region.wanted o (yielded ops ac.tmps) = true := by simp [Region.wanted, hgd]
  rw [if_pos hw]
  unfold Oper.wp execOp
  simp only [ho, Sem.run_bind, Sem.run_pure, Result.andThen_ok, hm, hx, run_look H ht hz h y c]
  exact hK
theorem step_entry (hgd : o.guard = none) (m x : Operand) (ho : o.op = Op.mapEntry mt m x)
    (H : KeyT P k α val) (ht : P.underlying mt = some (.map k et)) (hz : ∀ w, (zeroValue et).run P w = .ok (.int .i64 0) w) (l : List (α × Int)) (h : MapAt val w r l) (y : α)
    (hm : ac.eval m = .map (some r)) (hx : ac.eval x = val y)
    (hK : ∀ w', MapAt val w' r (putM y ((look y l).getD 0) l) → Keep r w w' → K (ac.put o.dst (.tuple #[.int .i64 ((look y l).getD 0), goInt ((posOf y l).getD l.length)])) w') : if Region.wanted o (yielded ops ac.tmps) = true then Oper.wp P o ac w K Q else E := by
  have hw : Region.wanted o (yielded ops ac.tmps) = true := by simp [Region.wanted, hgd]
  rw [if_pos hw]
  obtain ⟨w', h1, h2, h3⟩ := run_entry H ht hz h y
  unfold Oper.wp execOp
  simp only [ho, Sem.run_bind, Sem.run_pure, Result.andThen_ok, hm, hx, h1]
  exact hK w' h2 h3
omit [DecidableEq α] in
theorem step_entryStore (hgd : o.guard = none) (m s z : Operand) (ho : o.op = Op.entryStore mt m s z)
    (l : List (α × Int)) (h : MapAt val w r l) (j : Nat) (y : α) (u v : Int) (hj : l[j]? = some (y, u))
    (hm : ac.eval m = .map (some r)) (hs : ac.eval s = goInt j) (hv : ac.eval z = .int .i64 v)
    (hK : ∀ w', MapAt val w' r (l.set j (y, v)) → Keep r w w' → K (ac.put o.dst undef) w') : if Region.wanted o (yielded ops ac.tmps) = true then Oper.wp P o ac w K Q else E := by
  have hw : Region.wanted o (yielded ops ac.tmps) = true := by simp [Region.wanted, hgd]
  rw [if_pos hw]
  obtain ⟨w', h1, h2, h3⟩ := run_entryStore (P := P) (mt := mt) h j y u v hj
  unfold Oper.wp execOp
  simp only [ho, Sem.run_bind, Sem.run_pure, Result.andThen_ok, hm, hs, hv, h1]
  exact hK w' h2 h3
end
theorem rangeAt_keep {w w' : World} {R b o : Nat} {cs : List Value} (h : w.rangeAt b o cs) (k : Keep R w w') (hb : b ≠ R) : w'.rangeAt b o cs := fun j v hv => k.cell hb (h j v hv)

/-- All places that transactions spend, one behind the other. -/
def prevsL (l : List TxD) : List Pt := l.flatMap fun t => t.ins.map In.prev
def conL (l : List TxD) : Bool := !decide (prevsL l).Nodup
def onesM (ps : List Pt) : List (Pt × Int) := ps.map fun p => (p, 1)
theorem onesM_keys (ps : List Pt) : (onesM ps).map Prod.fst = ps := by
  unfold onesM; rw [List.map_map]; exact (List.map_congr_left (fun _ _ => rfl)).trans (List.map_id _)
theorem onesM_new {ps : List Pt} {p : Pt} (h : p ∉ ps) : putM p ((look p (onesM ps)).getD 0 + 1) (onesM ps) = onesM (ps ++ [p]) ∧ (look p (onesM ps)).getD 0 = 0 := by
  have h' : p ∉ (onesM ps).map Prod.fst := by rw [onesM_keys]; exact h
  have hl := (look_none_iff p (onesM ps)).2 h'
  rw [hl, put_new h']
  exact ⟨by simp [onesM], rfl⟩
theorem onesM_old {ps : List Pt} {p : Pt} (h : p ∈ ps) : (look p (onesM ps)).getD 0 = 1 := by
  induction ps with
  | nil => cases h
  | cons q ps ih =>
    unfold onesM
    rw [List.map_cons]
    unfold look
    by_cases e : p = q
    · rw [if_pos e]; rfl
    · rw [if_neg e]
      exact ih (by rcases List.mem_cons.1 h with h | h; exact absurd h e; exact h)
theorem prevsL_take (l : List TxR) (k : Nat) (h : k < l.length) : prevsL ((l.take (k + 1)).map TxR.t) = prevsL ((l.take k).map TxR.t) ++ (l.getD k default).t.ins.map In.prev := by
  rw [List.take_add_one, List.getElem?_eq_getElem h, List.getD_eq_getElem?_getD, List.getElem?_eq_getElem h, List.map_append]
  unfold prevsL
  rw [List.flatMap_append]
  simp
theorem prevs_take (l : List In) (k : Nat) (h : k < l.length) : (l.take (k + 1)).map In.prev = (l.take k).map In.prev ++ [(l.getD k default).prev] := by
  rw [List.take_add_one, List.getElem?_eq_getElem h, List.getD_eq_getElem?_getD, List.getElem?_eq_getElem h, List.map_append]
  rfl
theorem not_nodup_of {ps : List Pt} {p : Pt} (h : p ∈ ps) (rest : List Pt) : ¬ ((ps ++ [p]) ++ rest).Nodup := fun hc => by
  have := (List.nodup_append.1 hc).1
  exact (List.nodup_append.1 this).2.2 p h p (by simp) rfl
theorem prevsL_split (l : List TxR) (k j : Nat) (hk : k < l.length) (hj : j < (l.getD k default).t.ins.length) :
    ∃ rest, prevsL (l.map TxR.t) = ((prevsL ((l.take k).map TxR.t) ++ ((l.getD k default).t.ins.take j).map In.prev) ++ [((l.getD k default).t.ins.getD j default).prev]) ++ rest := by
  refine ⟨((l.getD k default).t.ins.drop (j + 1)).map In.prev ++ prevsL ((l.drop (k + 1)).map TxR.t), ?_⟩
  have h1 : prevsL (l.map TxR.t) = prevsL ((l.take (k + 1)).map TxR.t) ++ prevsL ((l.drop (k + 1)).map TxR.t) := by
    unfold prevsL
    rw [← List.flatMap_append, ← List.map_append, List.take_append_drop]
  have h2 : (l.getD k default).t.ins.map In.prev = ((l.getD k default).t.ins.take (j + 1)).map In.prev ++ ((l.getD k default).t.ins.drop (j + 1)).map In.prev := by
    rw [← List.map_append, List.take_append_drop]
  rw [h1, prevsL_take l k hk, h2, prevs_take _ j hj]
  simp only [List.append_assoc]

set_option maxRecDepth 100000 in
set_option maxHeartbeats 4000000 in
theorem bconflict_any (a : Option Addr) (n cap : Nat) (l : List TxR) (w : World) (hp : TxL w a n cap l) (hn : n ≤ 100000) (hi : ∀ r ∈ l, r.v.n ≤ 100000) :
    Calls Tryz.prog 104 #[.slice a n cap] w fun e w' => e = .returned (.bool (conL (l.map TxR.t))) ∧ Below w.heap.size w w' := by
  have HMO : Hid (Tryz.prog.follows .mixedOrders = true) := show _ = _ by kernel_rfl
  obtain ⟨dT, HDT, HRT⟩ := und_tx
  obtain ⟨dI, HDI, HRI⟩ := und_in
  have HP : Hid (TxL w a n cap l) := hp
  have HI : Hid (∀ r ∈ l, r.v.n ≤ 100000) := hi
  have HLN : Hid (l.length = n) := hp.row.len
  clear hp hi
  have hmm := @run_makeMap Tryz.prog
  go_enter Tryz.func104, Tryz.ntmps104
  go_upto_region 1 with fail
  refine wp_scope_hops 1 ?_
  go_hide hQ
  go_wp2_with fail
  generalize hw1 : World.alloc w _ = w1
  have HM1 : Hid (MapAt Pt.val w1 w.heap.size (onesM [])) := by rw [← hw1]; exact MapAt.new w
  have HB1 : Hid (Below w.heap.size w w1) := by rw [← hw1]; exact (Below.refl _ _).alloc (Nat.le_refl _) _
  clear hw1 hmm
  generalize hN : w.heap.size = N at *
  go_loopw [11] (fun i wr => ∃ (k : Nat), k ≤ n ∧ i = .int .i64 k ∧ Hid (MapAt Pt.val wr N (onesM (prevsL ((l.take k).map TxR.t)))) ∧ Hid ((prevsL ((l.take k).map TxR.t)).Nodup) ∧ Hid (Below N w wr)) (fun i _ => n - (intOf i).toNat)
  case atStart => exact ⟨0, by omega, rfl, HM1.out, List.nodup_nil, HB1.out⟩
  case round =>
    obtain ⟨k, hk, rfl, HM, HND, HB⟩ := hrel
    clear HM1 HB1
    by_cases hlt : k < n
    · have e0 : (0 : Int) ≤ (k : Int) := by omega
      have e1 : (k : Int) < (n : Int) := by omega
      have HE : Hid (TxL wr a n cap l) := HP.out.below (hN ▸ HB.out)
      obtain ⟨b, o, rfl, hc⟩ := HE.out.row.at k hlt
      obtain ⟨x, hx⟩ : ∃ x, x = l.getD k default := ⟨_, rfl⟩
      change wr.rangeAt b (o + k * 3) (TxR.cs (l.getD k default)) at hc
      rw [← hx] at hc
      have HKL : Hid (k < l.length) := show _ < _ by rw [HLN.out]; exact hlt
      have HX : Hid (x = l.getD k default) := hx
      have HXW : Hid (TxAt w x.v x.t) := HP.out.each x (by rw [hx]; exact memD _ HKL.out)
      have hxn : x.v.n ≤ 100000 := HI.out x (by rw [hx]; exact memD _ HKL.out)
      have HC : Hid (wr.rangeAt b (o + k * 3) x.cs) := hc
      clear hc hx HE
      obtain ⟨⟨xa, xn, xc, xb, xm, xd⟩, ⟨ins, outs, lock⟩⟩ := x
      obtain ⟨Z, hZ⟩ : ∃ Z, Z = TxR.cs ⟨⟨xa, xn, xc, xb, xm, xd⟩, ⟨ins, outs, lock⟩⟩ := ⟨_, rfl⟩
      rw [← hZ] at HC
      have HZ0 : Hid (Z[0]? = some (.slice xa xn xc)) := by rw [hZ]; rfl
      have HZS : Hid ((Tryz.prog.info? 61).map (·.size) = some Z.length ∧ (Tryz.prog.info? 61).map (·.size) = some Z.toArray.size ∧ (default : TxR).cs.toArray.size = Z.toArray.size ∧ Z.toArray.all (·.oneCell') = true) := by rw [hZ]; exact ⟨sizeTx _, sizeTxa _, zsizeTx _, TxR.cs_all _⟩
      clear hZ
      go_upto_region 5 with (first
        | (refine wpList_load_mid rfl 61 _ rfl b (o + k * 3) rfl Z _ HC.out HDT.out HRT.out HZS.out.1 ?_)
        | (refine wpList_store_fresh rfl 61 _ _ rfl Z _ 61 rfl rfl HZS.out.2.1 HZS.out.2.2.1 HZS.out.2.2.2 ?_; intro w2 HB2 Hb2))
      have HM2 : Hid (MapAt Pt.val w2 N (onesM (prevsL ((l.take k).map TxR.t)))) := HM.out.below Hb2.out HM.out.lt
      have c0 : w2.cell? ⟨wr.heap.size, 0, none⟩ = some (.slice xa xn xc) := HB2.out.one HZ0.out
      have HXI : Hid (Els w xa xn xc ins) := HXW.out.ins
      have HB02 : Hid (Below N w w2) := HB.out.trans (Hb2.out.mono (Nat.le_of_lt HM.out.lt))
      clear HB2 Hb2 HC HXW HZ0 HZS HM HB
      have HXO : Hid (ins = (l.getD k default).t.ins) := show _ = _ by rw [← HX.out]
      have HLI : Hid (ins.length = xn) := HXI.out.len
      obtain ⟨ps, hps⟩ : ∃ ps, ps = prevsL ((l.take k).map TxR.t) := ⟨_, rfl⟩
      rw [← hps] at HM2 HND
      have HPS : Hid (ps = prevsL ((l.take k).map TxR.t)) := hps
      clear hps HX
      go_wp2_with fail
      clear c0
      generalize wr.heap.size = R at *
      go_loopw [18] (fun i wq => ∃ (j : Nat), j ≤ xn ∧ i = .int .i64 j ∧ Hid (MapAt Pt.val wq N (onesM (ps ++ (ins.take j).map In.prev))) ∧ Hid ((ps ++ (ins.take j).map In.prev).Nodup) ∧ Hid (Below N w wq)) (fun i _ => xn - (intOf i).toNat)
      case atStart => exact ⟨0, by omega, rfl, show MapAt _ _ _ _ by simpa using HM2.out, show List.Nodup _ by simpa using HND.out, HB02.out⟩
      case round =>
        obtain ⟨j, hj, rfl, HMq, HNq, HBq⟩ := hrel
        clear HM2 HB02
        have HEq : Hid (Els wr xa xn xc ins) := HXI.out.below (hN ▸ HBq.out)
        obtain ⟨M, hM⟩ : ∃ M, M = onesM (ps ++ (ins.take j).map In.prev) := ⟨_, rfl⟩
        rw [← hM] at HMq
        have HMM : Hid (M = onesM (ps ++ (ins.take j).map In.prev)) := hM
        clear hM
        by_cases hjt : j < xn
        · have f0 : (0 : Int) ≤ (j : Int) := by omega
          have f1 : (j : Int) < (xn : Int) := by omega
          obtain ⟨b2, o2, rfl, hd⟩ := HEq.out.at j hjt
          obtain ⟨y, hy⟩ : ∃ y, y = ins.getD j default := ⟨_, rfl⟩
          change wr.rangeAt b2 (o2 + j * 37) (In.cs (ins.getD j default)) at hd
          rw [← hy] at hd
          have HY : Hid (y = ins.getD j default) := hy
          have HD : Hid (wr.rangeAt b2 (o2 + j * 37) y.cs) := hd
          clear hd hy
          go_upto_region 8 with (first
            | (refine wpList_load_mid rfl 57 _ rfl b2 (o2 + j * 37) rfl y.cs _ HD.out HDI.out HRI.out (size_in y) ?_)
            | (refine wpList_store_fresh rfl 57 _ _ rfl y.cs _ 57 rfl rfl (size_ina y) (zin_size y) y.cs_all ?_; intro w3 HB3 Hb3))
          have HM3 : Hid (MapAt Pt.val w3.drew N M) := (HMq.out.below Hb3.out HMq.out.lt).drew
          have HPT : Hid (w3.drew.rangeAt wr.heap.size 0 y.prev.cs) := In.prev_at HB3.out.whole
          have HB03 : Hid (Below N w w3.drew) := (HBq.out.trans (Hb3.out.mono (Nat.le_of_lt HMq.out.lt))).drew
          have HNq' : N ≠ wr.heap.size := Nat.ne_of_lt HMq.out.lt
          clear HB3 Hb3 HD HMq HEq HBq
          obtain ⟨p, hp⟩ : ∃ p, p = y.prev := ⟨_, rfl⟩
          have HP' : Hid (p = y.prev) := hp
          rw [← hp] at HPT
          clear hp
          obtain ⟨c, hc⟩ : ∃ c, (look p M).getD 0 = c := ⟨_, rfl⟩
          obtain ⟨s, hs⟩ : ∃ s, (posOf p M).getD M.length = s := ⟨_, rfl⟩
          have hcr : 0 ≤ c ∧ c ≤ 1 := by
            rw [← hc, HMM.out]
            by_cases hin : p ∈ ps ++ (ins.take j).map In.prev
            · rw [onesM_old hin]; omega
            · rw [(onesM_new hin).2]; omega
          obtain ⟨hc0, hc1⟩ := hcr
          have HS1 : Hid ((putM p c M)[s]? = some (p, c)) := show _ = _ by rw [← hc, ← hs]; exact (entry_then p 0 M).1
          have HS2 : Hid ((putM p c M).set s (p, c + 1) = putM p (c + 1) M) := show _ = _ by rw [← hc, ← hs]; exact (entry_then p _ M).2
          have HCC : Hid ((look p M).getD 0 = c) := hc
          have HSS : Hid ((posOf p M).getD M.length = s) := hs
          have HC2 : Hid ((look p (putM p c M)).getD 0 = c) := show _ = _ by rw [look_put]; rfl
          have HNR : Hid (wr.heap.size ≠ N) := HNq'.symm
          clear hc hs HNq'
          have HSN : Hid (N < w3.drew.heap.size) := HM3.out.lt
          refine wp_region_noPanic ?_
          refine wp_region_held_drew (S := fun w' => w'.rangeAt wr.heap.size 0 p.cs) HMO.out (HPT.out) (fun hHeld => ?_)
          refine wpAnyH_take (i := 0) (oi := { dst := some 22, op := .move (.tmp 3), type := 169, pos := "block.go:196", after := #[], guard := none }) (v := ?_) rfl (by kernel_rfl) (by kernel_rfl) (by kernel_rfl) (fun _ _ _ h => h) (Or.inl ⟨by rfl, ?_⟩) (by assumption) ?_
          rotate_left
          · intro _ _; go_simp; first | done | with_reducible rfl
          simp only [Act.put, List.setIfInBounds_toArray, List.set_cons_zero, List.set_cons_succ]
          refine wpAnyH_take (i := 1) (oi := { dst := some 23, op := .fieldAddr 57 (.tmp 7) 0, type := 0, pos := "block.go:196", after := #[], guard := none }) (v := ?_) rfl (by kernel_rfl) (by kernel_rfl) (by kernel_rfl) (fun _ _ _ h => h) (Or.inl ⟨by rfl, ?_⟩) (by assumption) ?_
          rotate_left
          · intro _ _; go_simp; first | done | with_reducible rfl
          simp only [Act.put, List.setIfInBounds_toArray, List.set_cons_zero, List.set_cons_succ]
          refine wpAnyH_take (i := 2) (oi := { dst := some 24, op := .load 53 (.tmp 23), type := 53, pos := "block.go:196", after := #[{ on := 1, ground := .data }], guard := none }) (v := _) rfl (by kernel_rfl) (by kernel_rfl) (by kernel_rfl) (fun _ _ _ h => h) (yieldsIf_load_mid (by rfl) _ _ rfl (wr.heap.size) (0) rfl (p.cs) _ (fun _ h => h) (und_pt.out) rfl (size_pt p)) (by assumption) ?_
          simp only [Act.put, List.setIfInBounds_toArray, List.set_cons_zero, List.set_cons_succ]
          refine wpAnyH_ready (rs := [3, 5]) (by kernel_rfl) (by simp) ?_
          refine (AllReadyH.cons (o := { dst := some 25, op := .lookup 169 (.tmp 22) (.tmp 24) false, type := 3, pos := "block.go:196", after := #[{ on := 0, ground := .data }, { on := 2, ground := .data }], guard := none }) rfl (fun K hK => ?_) (AllReadyH.cons (o := { dst := some 27, op := .mapEntry 169 (.tmp 22) (.tmp 24), type := 0, pos := "block.go:196", after := #[{ on := 0, ground := .data }, { on := 2, ground := .data }, { on := 0, ground := .phase }, { on := 1, ground := .phase }, { on := 2, ground := .phase }, { on := 3, ground := .textOnly Go.Departure.mapOpAssignEntry }, { on := 4, ground := .textOnly Go.Departure.mapOpAssignEntry }], guard := none }) rfl (fun K hK => ?_) AllReadyH.nil))
          · refine step_look rfl _ _ _ rfl keyP Tryz.underlying169 zero_int M HM3.out p rfl rfl ?_; rw [HCC.out]
            simp only [Act.put, List.setIfInBounds_toArray, List.set_cons_zero, List.set_cons_succ]
            refine hK.out _ _ (HPT.out) (fun hHeld => ?_)
            clear hK K
            refine wpAnyH_take (i := 4) (oi := { dst := some 26, op := .binOp Go.BinOp.add 3 (.tmp 25) (.const (.int .i64 1)) 3, type := 3, pos := "block.go:196", after := #[{ on := 3, ground := .data }], guard := none }) (v := .int .i64 (c + 1)) rfl (by kernel_rfl) (by kernel_rfl) (by kernel_rfl) (fun _ _ _ h => h) (Or.inl ⟨by rfl, ?_⟩) (by assumption) ?_
            · intro _ _; go_simp; rw [i64_fit (by omega) (by omega)]
            simp only [Act.put, List.setIfInBounds_toArray, List.set_cons_zero, List.set_cons_succ]
            refine wpAnyH_ready (rs := [5]) (by kernel_rfl) (by simp) ?_
            refine AllReadyH.cons (o := { dst := some 27, op := .mapEntry 169 (.tmp 22) (.tmp 24), type := 0, pos := "block.go:196", after := #[{ on := 0, ground := .data }, { on := 2, ground := .data }, { on := 0, ground := .phase }, { on := 1, ground := .phase }, { on := 2, ground := .phase }, { on := 3, ground := .textOnly Go.Departure.mapOpAssignEntry }, { on := 4, ground := .textOnly Go.Departure.mapOpAssignEntry }], guard := none }) rfl (fun K hK => ?_) AllReadyH.nil
            refine step_entry rfl _ _ rfl keyP Tryz.underlying169 zero_int M HM3.out p rfl rfl ?_; intro w5 hm5 hk5; rw [HCC.out] at hm5; rw [HCC.out, HSS.out]; have HM5 : Hid (MapAt Pt.val w5 N (putM p c M)) := hm5; have HK5 : Hid (Keep N w3.drew w5) := hk5; have HP5 : Hid (w5.rangeAt wr.heap.size 0 p.cs) := rangeAt_keep HPT.out hk5 HNR.out; clear hm5 hk5
            simp only [Act.put, List.setIfInBounds_toArray, List.set_cons_zero, List.set_cons_succ]
            refine hK.out _ _ (HP5.out) (fun hHeld => ?_)
            clear hK K
            refine wpAnyH_take (i := 6) (oi := { dst := some 28, op := .extract (.tmp 27) 1, type := 3, pos := "block.go:196", after := #[{ on := 5, ground := .data }], guard := none }) (v := ?_) rfl (by kernel_rfl) (by kernel_rfl) (by kernel_rfl) (fun _ _ _ h => h) (Or.inl ⟨by rfl, ?_⟩) (by assumption) ?_
            rotate_left
            · intro _ _; go_simp; first | done | with_reducible rfl
            simp only [Act.put, List.setIfInBounds_toArray, List.set_cons_zero, List.set_cons_succ]
            refine wpAnyH_ready (rs := [7]) (by kernel_rfl) (by simp) ?_
            refine AllReadyH.cons (o := { dst := none, op := .entryStore 169 (.tmp 22) (.tmp 28) (.tmp 26), type := 0, pos := "block.go:196", after := #[{ on := 0, ground := .data }, { on := 6, ground := .data }, { on := 4, ground := .data }, { on := 5, ground := .chain }, { on := 0, ground := .phase }, { on := 1, ground := .phase }, { on := 2, ground := .phase }, { on := 3, ground := .phase }, { on := 4, ground := .phase }, { on := 5, ground := .phase }, { on := 6, ground := .phase }], guard := none }) rfl (fun K hK => ?_) AllReadyH.nil
            refine step_entryStore rfl _ _ _ rfl (putM p c M) HM5.out s p c (c + 1) HS1.out rfl rfl rfl ?_; intro w6 hm6 hk6; rw [HS2.out] at hm6; have HM6 : Hid (MapAt Pt.val w6 N (putM p (c + 1) M)) := hm6; have HK6 : Hid (Keep N w3.drew w6) := HK5.out.trans hk6; have HP6 : Hid (w6.rangeAt wr.heap.size 0 p.cs) := rangeAt_keep HP5.out hk6 HNR.out; clear hm6 hk6
            simp only [Act.put]
            refine hK.out _ _ (HP6.out) (fun hHeld => ?_)
            clear hK K
            refine wpAnyH_done (by kernel_rfl) ?_ _
            refine NoPanic.normal ?_
            have HB6 : Hid (Below N w w6) := HB03.out.trans (HK6.out.below (Nat.le_refl _) (Nat.le_of_lt HSN.out))
            have HC3 : Hid ((look p (putM p (c + 1) M)).getD 0 = c + 1) := show _ = _ by rw [look_put]; rfl
            clear hHeld HK5 HP5 HM5 HK6 HC2 HS1 HS2 HB03 HM3 HPT
            by_cases hin : p ∈ ps ++ (ins.take j).map In.prev
            · have hce : c = 1 := by rw [← HCC.out, HMM.out]; exact onesM_old hin
              have HCO : Hid (conL (l.map TxR.t) = true) := show _ = _ by
                obtain ⟨rest, hr⟩ := prevsL_split l k j HKL.out (by rw [← HXO.out, HLI.out]; exact hjt)
                unfold conL
                rw [hr, ← HXO.out, ← HPS.out, ← HY.out, ← HP'.out, decide_eq_false (not_nodup_of hin rest)]; rfl
              subst hce
              clear hin HCC HC3 hc0 hc1
              have HC3 : Hid ((look p (putM p (1 + 1) M)).getD 0 = 2) := show _ = _ by rw [look_put]; rfl
              go_wp2_with (first
                | (refine wpList_load_mid rfl 53 _ rfl wr.heap.size 0 rfl p.cs _ HP6.out und_pt.out rfl (size_pt p) ?_)
                | (at_lookup; refine wpList_look rfl _ _ _ rfl keyP Tryz.underlying169 zero_int (putM p (1 + 1) M) HM6.out p rfl rfl ?_; rw [HC3.out]))
              go_step3
              subst hQ
              refine show hops _ _ _ 1 (Exit.goto 0) _ _ from ?_
              rw [hops_goto]
              refine ⟨_, rfl, ?_⟩
              go_hide hQ
              go_wp2_with fail
              subst hQ
              rw [hops_ret]
              go_ret
              subst hN
              exact ⟨ret_bool HCO.out.symm, HB6.out⟩
            · obtain ⟨hn1, hn2⟩ := onesM_new hin
              have hce : c = 0 := by rw [← HCC.out, HMM.out]; exact hn2
              have HN7 : Hid ((ps ++ (ins.take (j + 1)).map In.prev).Nodup) := show List.Nodup _ by
                rw [prevs_take ins j (by rw [HLI.out]; exact hjt), ← List.append_assoc, ← HY.out, ← HP'.out]
                exact List.nodup_append.2 ⟨HNq.out, by simp, fun a ha b hb e => hin (by rw [List.mem_singleton] at hb; rw [← hb, ← e]; exact ha)⟩
              have HM7 : Hid (MapAt Pt.val w6 N (onesM (ps ++ (ins.take (j + 1)).map In.prev))) := show MapAt _ _ _ _ by
                rw [prevs_take ins j (by rw [HLI.out]; exact hjt), ← List.append_assoc, ← HY.out, ← HP'.out, ← hn1, hn2, ← HMM.out, ← hce]
                exact HM6.out
              subst hce
              clear hin HCC hn1 hn2 HC3 hc0 hc1
              have HC3 : Hid ((look p (putM p (0 + 1) M)).getD 0 = 1) := show _ = _ by rw [look_put]; rfl
              go_wp2_with (first
                | (refine wpList_load_mid rfl 53 _ rfl wr.heap.size 0 rfl p.cs _ HP6.out und_pt.out rfl (size_pt p) ?_)
                | (at_lookup; refine wpList_look rfl _ _ _ rfl keyP Tryz.underlying169 zero_int (putM p (0 + 1) M) HM6.out p rfl rfl ?_; rw [HC3.out]))
              go_roundw
              case rel => exact ⟨j + 1, by omega, by go_num, HM7.out, HN7.out, HB6.out⟩
              case measure => simp [intOf]; omega
          · refine step_entry rfl _ _ rfl keyP Tryz.underlying169 zero_int M HM3.out p rfl rfl ?_; intro w5 hm5 hk5; rw [HCC.out] at hm5; rw [HCC.out, HSS.out]; have HM5 : Hid (MapAt Pt.val w5 N (putM p c M)) := hm5; have HK5 : Hid (Keep N w3.drew w5) := hk5; have HP5 : Hid (w5.rangeAt wr.heap.size 0 p.cs) := rangeAt_keep HPT.out hk5 HNR.out; clear hm5 hk5
            simp only [Act.put, List.setIfInBounds_toArray, List.set_cons_zero, List.set_cons_succ]
            refine hK.out _ _ (HP5.out) (fun hHeld => ?_)
            clear hK K
            refine wpAnyH_take (i := 6) (oi := { dst := some 28, op := .extract (.tmp 27) 1, type := 3, pos := "block.go:196", after := #[{ on := 5, ground := .data }], guard := none }) (v := ?_) rfl (by kernel_rfl) (by kernel_rfl) (by kernel_rfl) (fun _ _ _ h => h) (Or.inl ⟨by rfl, ?_⟩) (by assumption) ?_
            rotate_left
            · intro _ _; go_simp; first | done | with_reducible rfl
            simp only [Act.put, List.setIfInBounds_toArray, List.set_cons_zero, List.set_cons_succ]
            refine wpAnyH_ready (rs := [3]) (by kernel_rfl) (by simp) ?_
            refine AllReadyH.cons (o := { dst := some 25, op := .lookup 169 (.tmp 22) (.tmp 24) false, type := 3, pos := "block.go:196", after := #[{ on := 0, ground := .data }, { on := 2, ground := .data }], guard := none }) rfl (fun K hK => ?_) AllReadyH.nil
            refine step_look rfl _ _ _ rfl keyP Tryz.underlying169 zero_int (putM p c M) HM5.out p rfl rfl ?_; rw [HC2.out]
            simp only [Act.put, List.setIfInBounds_toArray, List.set_cons_zero, List.set_cons_succ]
            refine hK.out _ _ (HP5.out) (fun hHeld => ?_)
            clear hK K
            refine wpAnyH_take (i := 4) (oi := { dst := some 26, op := .binOp Go.BinOp.add 3 (.tmp 25) (.const (.int .i64 1)) 3, type := 3, pos := "block.go:196", after := #[{ on := 3, ground := .data }], guard := none }) (v := .int .i64 (c + 1)) rfl (by kernel_rfl) (by kernel_rfl) (by kernel_rfl) (fun _ _ _ h => h) (Or.inl ⟨by rfl, ?_⟩) (by assumption) ?_
            · intro _ _; go_simp; rw [i64_fit (by omega) (by omega)]
            simp only [Act.put, List.setIfInBounds_toArray, List.set_cons_zero, List.set_cons_succ]
            refine wpAnyH_ready (rs := [7]) (by kernel_rfl) (by simp) ?_
            refine AllReadyH.cons (o := { dst := none, op := .entryStore 169 (.tmp 22) (.tmp 28) (.tmp 26), type := 0, pos := "block.go:196", after := #[{ on := 0, ground := .data }, { on := 6, ground := .data }, { on := 4, ground := .data }, { on := 5, ground := .chain }, { on := 0, ground := .phase }, { on := 1, ground := .phase }, { on := 2, ground := .phase }, { on := 3, ground := .phase }, { on := 4, ground := .phase }, { on := 5, ground := .phase }, { on := 6, ground := .phase }], guard := none }) rfl (fun K hK => ?_) AllReadyH.nil
            refine step_entryStore rfl _ _ _ rfl (putM p c M) HM5.out s p c (c + 1) HS1.out rfl rfl rfl ?_; intro w6 hm6 hk6; rw [HS2.out] at hm6; have HM6 : Hid (MapAt Pt.val w6 N (putM p (c + 1) M)) := hm6; have HK6 : Hid (Keep N w3.drew w6) := HK5.out.trans hk6; have HP6 : Hid (w6.rangeAt wr.heap.size 0 p.cs) := rangeAt_keep HP5.out hk6 HNR.out; clear hm6 hk6
            simp only [Act.put]
            refine hK.out _ _ (HP6.out) (fun hHeld => ?_)
            clear hK K
            refine wpAnyH_done (by kernel_rfl) ?_ _
            refine NoPanic.normal ?_
            have HB6 : Hid (Below N w w6) := HB03.out.trans (HK6.out.below (Nat.le_refl _) (Nat.le_of_lt HSN.out))
            have HC3 : Hid ((look p (putM p (c + 1) M)).getD 0 = c + 1) := show _ = _ by rw [look_put]; rfl
            clear hHeld HK5 HP5 HM5 HK6 HC2 HS1 HS2 HB03 HM3 HPT
            by_cases hin : p ∈ ps ++ (ins.take j).map In.prev
            · have hce : c = 1 := by rw [← HCC.out, HMM.out]; exact onesM_old hin
              have HCO : Hid (conL (l.map TxR.t) = true) := show _ = _ by
                obtain ⟨rest, hr⟩ := prevsL_split l k j HKL.out (by rw [← HXO.out, HLI.out]; exact hjt)
                unfold conL
                rw [hr, ← HXO.out, ← HPS.out, ← HY.out, ← HP'.out, decide_eq_false (not_nodup_of hin rest)]; rfl
              subst hce
              clear hin HCC HC3 hc0 hc1
              have HC3 : Hid ((look p (putM p (1 + 1) M)).getD 0 = 2) := show _ = _ by rw [look_put]; rfl
              go_wp2_with (first
                | (refine wpList_load_mid rfl 53 _ rfl wr.heap.size 0 rfl p.cs _ HP6.out und_pt.out rfl (size_pt p) ?_)
                | (at_lookup; refine wpList_look rfl _ _ _ rfl keyP Tryz.underlying169 zero_int (putM p (1 + 1) M) HM6.out p rfl rfl ?_; rw [HC3.out]))
              go_step3
              subst hQ
              refine show hops _ _ _ 1 (Exit.goto 0) _ _ from ?_
              rw [hops_goto]
              refine ⟨_, rfl, ?_⟩
              go_hide hQ
              go_wp2_with fail
              subst hQ
              rw [hops_ret]
              go_ret
              subst hN
              exact ⟨ret_bool HCO.out.symm, HB6.out⟩
            · obtain ⟨hn1, hn2⟩ := onesM_new hin
              have hce : c = 0 := by rw [← HCC.out, HMM.out]; exact hn2
              have HN7 : Hid ((ps ++ (ins.take (j + 1)).map In.prev).Nodup) := show List.Nodup _ by
                rw [prevs_take ins j (by rw [HLI.out]; exact hjt), ← List.append_assoc, ← HY.out, ← HP'.out]
                exact List.nodup_append.2 ⟨HNq.out, by simp, fun a ha b hb e => hin (by rw [List.mem_singleton] at hb; rw [← hb, ← e]; exact ha)⟩
              have HM7 : Hid (MapAt Pt.val w6 N (onesM (ps ++ (ins.take (j + 1)).map In.prev))) := show MapAt _ _ _ _ by
                rw [prevs_take ins j (by rw [HLI.out]; exact hjt), ← List.append_assoc, ← HY.out, ← HP'.out, ← hn1, hn2, ← HMM.out, ← hce]
                exact HM6.out
              subst hce
              clear hin HCC hn1 hn2 HC3 hc0 hc1
              have HC3 : Hid ((look p (putM p (0 + 1) M)).getD 0 = 1) := show _ = _ by rw [look_put]; rfl
              go_wp2_with (first
                | (refine wpList_load_mid rfl 53 _ rfl wr.heap.size 0 rfl p.cs _ HP6.out und_pt.out rfl (size_pt p) ?_)
                | (at_lookup; refine wpList_look rfl _ _ _ rfl keyP Tryz.underlying169 zero_int (putM p (0 + 1) M) HM6.out p rfl rfl ?_; rw [HC3.out]))
              go_roundw
              case rel => exact ⟨j + 1, by omega, by go_num, HM7.out, HN7.out, HB6.out⟩
              case measure => simp [intOf]; omega
        · obtain rfl : j = xn := by omega
          have HN7 : Hid ((prevsL ((l.take (k + 1)).map TxR.t)).Nodup) := show List.Nodup _ by
            rw [prevsL_take l k HKL.out, ← HXO.out, ← HPS.out]
            have := HNq.out
            rw [List.take_of_length_le (by rw [HLI.out]; exact Nat.le_refl _)] at this
            exact this
          have HM7 : Hid (MapAt Pt.val wr N (onesM (prevsL ((l.take (k + 1)).map TxR.t)))) := show MapAt _ _ _ _ by
            rw [prevsL_take l k HKL.out, ← HXO.out, ← HPS.out]
            have := HMq.out
            rw [HMM.out, List.take_of_length_le (by rw [HLI.out]; exact Nat.le_refl _)] at this
            exact this
          go_wp2_with fail
          go_roundw
          case rel => exact ⟨k + 1, by omega, by go_num, HM7.out, HN7.out, HBq.out⟩
          case measure => simp [intOf]; omega
    · obtain rfl : k = n := by omega
      go_wp2_with fail
      subst hQ
      rw [hops_ret]
      go_ret
      subst hN
      refine ⟨ret_bool ?_, HB.out⟩
      unfold conL
      have := HND.out
      rw [List.take_of_length_le (by rw [HLN.out]; exact Nat.le_refl _)] at this
      rw [decide_eq_true this]; rfl
end Go.Proofs.YtlaifphedhaemaaGreatDoor
