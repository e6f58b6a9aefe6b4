/- block.clone, block.Check. -/
import Derived.Test.YtlaifphedhaemaaGreatDoorCBkI
namespace Go.Proofs.YtlaifphedhaemaaGreatDoor
open Go.ChangeShapes Go.WideShapes Go.ChangeAt Go.RowKit

theorem Tryz.infoTx : (Tryz.prog.info? 61).map (fun i => (i.zero, i.size, i.bytes)) = some (some (.agg (default : TxR).cs.toArray), 3, 56) := by kernel_rfl
/-- Rows that lie wholly in blocks from B on. -/
def TxsNew (B : Nat) (a : Option Addr) (l : List TxR) : Prop := (∀ x : Addr, a = some x → B ≤ x.block) ∧ ∀ r ∈ l, TxNew B r.v
theorem TxL.kept {w w' : World} {a : Option Addr} {n c B : Nat} {l : List TxR} (h : TxL w a n c l) (hN : TxsNew B a l) (hb : ∀ b, B ≤ b → w'.heap[b]? = w.heap[b]?) : TxL w' a n c l :=
  ⟨h.row.later fun b _ _ e => hb b (hN.1 _ e), fun r hr => (h.each r hr).kept (hN.2 r hr) hb⟩
theorem heap_setCells (vs : List Value) : ∀ (w : World) (g o b : Nat), b ≠ g → (w.setCells g o vs).heap[b]? = w.heap[b]? := by
  induction vs with
  | nil => intro w g o b _; rfl
  | cons v vs ih =>
    intro w g o b h
    show ((w.setCell ⟨g, o, none⟩ v).setCells g (o + 1) vs).heap[b]? = _
    rw [ih _ g _ b h, Below.heap_setCell _ _ _ _ h]
set_option maxRecDepth 100000 in
set_option maxHeartbeats 4000000 in
theorem clone_txs (a : Option Addr) (n cap : Nat) (l : List TxR) (w : World) (hp : TxL w a n cap l) (hn : n ≤ 100000) (hi : ∀ r ∈ l, r.v.n ≤ 100000 ∧ r.v.m ≤ 100000) :
    Calls Tryz.prog 47 #[.slice a n cap] w fun e w' => ∃ g l', e = .returned (.slice (some ⟨g, 0, none⟩) n n) ∧ TxL w' (some ⟨g, 0, none⟩) n n l' ∧ l'.map TxR.t = l.map TxR.t ∧ TxsNew w.heap.size (some ⟨g, 0, none⟩) l' ∧ Below w.heap.size w w' := by
  obtain ⟨dI, HDI, HRI⟩ := und_tx
  obtain ⟨i0, hi0, hi1, hi2, hi3⟩ := info_parts Tryz.infoTx
  have HP : Hid (TxL w a n cap l) := hp
  have HLN : Hid (l.length = n) := hp.row.len
  have HV : Hid (∀ r ∈ l, r.v.n ≤ 100000 ∧ r.v.m ≤ 100000) := hi
  have hml : n ≤ maxLen := Nat.le_trans hp.row.fits hp.row.most
  clear hp hi
  go_enter Tryz.func47, Tryz.ntmps47
  go_wp2_with (at_make; refine wpList_make_full _ rfl _ _ 26 rfl w.heap.size 61 i0 (.agg (default : TxR).cs.toArray) 3 Tryz.underlying26 hi0 hi1 hi2 .i64 .i64 _ _ n rfl rfl rfl rfl (by rw [hi3]; omega) (by unfold maxLen; omega) (Nat.le_refl _) ?_)
  intro w1 hown hgrow
  have hb1 : Below w.heap.size w w1 := (Below.refl _ w).grown hgrow (Nat.le_refl _) (by simp)
  have hg1 : Blk w1 w.heap.size (flatE (List.replicate n (default : TxR))) := by
    refine ⟨61, ?_⟩
    rw [← madeE (default : TxR) n (by decide)]
    exact Blk.made hown
  clear hown hgrow hi0 hi1 hi2 hi3
  generalize hN : w.heap.size = N at *
  go_wp2_with fail
  go_loopw [11] (fun i wr => ∃ (k : Nat) (M : List TxR), k ≤ n ∧ i = .int .i64 k ∧ M.length = n ∧ Hid ((M.take k).map TxR.t = (l.take k).map TxR.t) ∧ Hid (∀ r ∈ M.take k, TxAt wr r.v r.t ∧ TxNew (N + 1) r.v) ∧ Hid (Blk wr N (flatE M)) ∧ Hid (Below N w wr) ∧ N < wr.heap.size) (fun i _ => n - (intOf i).toNat)
  case atStart => exact ⟨0, List.replicate n default, by omega, rfl, List.length_replicate .., rfl, (fun r hr => by simp at hr), hg1, hb1, hg1.lt⟩
  case round =>
    obtain ⟨k, M, hk, rfl, hM, HT, HA, HG, HB, hNk⟩ := hrel
    clear hg1 hb1
    by_cases hlt : k < n
    · have e0 : (0 : Int) ≤ (k : Int) := by omega
      have e1 : (k : Int) < (n : Int) := by omega
      have HLE : Hid (TxL wr a n cap l) := HP.out.below (hN ▸ HB.out)
      obtain ⟨b, o, rfl, hc⟩ := HLE.out.row.at k hlt
      obtain ⟨x, hx⟩ : ∃ x, x = l.getD k default := ⟨_, rfl⟩
      change wr.rangeAt b (o + k * 3) (TxR.cs (l.getD k default)) at hc
      rw [← hx] at hc
      have HX : Hid (x = l.getD k default) := hx
      have HC : Hid (wr.rangeAt b (o + k * 3) x.cs) := hc
      have HKM : Hid (k < M.length) := show _ < _ by omega
      have HKL : Hid (k < l.length) := show _ < _ by rw [HLN.out]; exact hlt
      have HXV : Hid (x.v.n ≤ 100000 ∧ x.v.m ≤ 100000) := HV.out x (by rw [hx]; exact memD _ HKL.out)
      have HXW : Hid (TxAt wr x.v x.t) := HLE.out.each x (by rw [hx]; exact memD _ HKL.out)
      clear hc hx HLE
      go_upto_region 5 with (first
        | (refine wpList_load_mid rfl 61 _ rfl b (o + k * 3) rfl x.cs _ HC.out HDI.out HRI.out (sizeTx x) ?_)
        | (refine wpList_store_fresh rfl 61 _ _ rfl x.cs _ 61 rfl rfl (sizeTxa x) (zsizeTx x) x.cs_all ?_; intro w2 HB2 Hb2))
      have HG2 : Hid (Blk w2 N (flatE M)) := HG.out.below Hb2.out hNk
      have HB02 : Hid (Below N w w2) := HB.out.trans (Hb2.out.mono (by omega))
      have HA2 : Hid (∀ r ∈ M.take k, TxAt w2 r.v r.t ∧ TxNew (N + 1) r.v) := fun r hr => ⟨(HA.out r hr).1.below Hb2.out, (HA.out r hr).2⟩
      have HPT : Hid (w2.rangeAt wr.heap.size 0 x.cs) := HB2.out.whole
      have hs2 := Hb2.out.size
      have HCALL : Hid (Calls Tryz.prog 77 #[.agg x.cs.toArray] w2 fun e w' => ∃ tv' : TxV, e = .returned (tv'.val x.t.lock) ∧ TxAt w' tv' x.t ∧ TxNew w2.heap.size tv' ∧ Below w2.heap.size w2 w') := txClone_any x.v x.t w2 (HXW.out.below Hb2.out) HXV.out.1 HXV.out.2
      clear HB2 Hb2 HXW HC HA HG HB
      go_upto_region 6 with (first
        | (refine wpList_load_mid rfl 61 _ rfl wr.heap.size 0 rfl x.cs _ HPT.out HDI.out HRI.out (sizeTx x) ?_)
        | fail)
      refine Calls.mono HCALL.out ?_
      rintro e w3 ⟨tv, rfl, hta, htn, hb3⟩
      obtain ⟨y, hy⟩ : ∃ y : TxR, y = ⟨tv, x.t⟩ := ⟨_, rfl⟩
      have HYV : Hid (tv.val x.t.lock = .agg y.cs.toArray) := show _ = _ by rw [hy]; rfl
      rw [HYV.out]
      have HYT : Hid (y.t = x.t) := show _ = _ by rw [hy]
      have HYA : Hid (TxAt w3 y.v y.t ∧ TxNew (N + 1) y.v) := by
        rw [hy]; exact ⟨hta, ⟨fun z hz => by have := htn.1 z hz; omega, fun z hz => by have := htn.2 z hz; omega⟩⟩
      have HG3 : Hid (Blk w3 N (flatE M)) := HG2.out.below hb3 HG2.out.lt
      have HB03 : Hid (Below N w w3) := HB02.out.trans (hb3.mono (by omega))
      have HA3 : Hid (∀ r ∈ M.take k, TxAt w3 r.v r.t ∧ TxNew (N + 1) r.v) := fun r hr => ⟨(HA2.out r hr).1.below hb3, (HA2.out r hr).2⟩
      have HTH : Hid (w3.there N (k * 3) y.cs.toArray.size) := by
        show w3.there _ _ _
        rw [List.size_toArray, TxR.cs_length]; exact HG3.out.thereE k HKM.out
      clear hb3 HCALL HPT HB02 HG2 HA2 hta htn hy HYV
      go_upto_region 6 with (refine wpList_store_mid rfl 61 _ _ rfl N (k * 3) y.cs.toArray rfl rfl HTH.out (sizeTxa y) y.cs_all ?_)
      have HG4 : Hid (Blk (w3.setCells N (k * 3) y.cs) N (flatE (M.set k y))) := HG3.out.setE k y HKM.out
      have HB4 : Hid (Below N w (w3.setCells N (k * 3) y.cs)) := below_setCells (Nat.le_refl _) _ HB03.out _
      have HK4 : Hid (∀ b, N + 1 ≤ b → (w3.setCells N (k * 3) y.cs).heap[b]? = w3.heap[b]?) := fun b hb => heap_setCells _ _ _ _ _ (by omega)
      have HA4 : Hid (∀ r ∈ (M.set k y).take (k + 1), TxAt (w3.setCells N (k * 3) y.cs) r.v r.t ∧ TxNew (N + 1) r.v) := fun r hr => by
        have e : (M.set k y).take (k + 1) = M.take k ++ [y] := by
          rw [List.take_add_one, List.take_set_of_le (Nat.le_refl k), List.getElem?_set_self HKM.out]; rfl
        rw [e] at hr
        rcases List.mem_append.1 hr with hr | hr
        · exact ⟨(HA3.out r hr).1.kept (HA3.out r hr).2 HK4.out, (HA3.out r hr).2⟩
        · rw [List.mem_singleton] at hr
          rw [hr]; exact ⟨HYA.out.1.kept HYA.out.2 HK4.out, HYA.out.2⟩
      generalize w3.setCells N (k * 3) y.cs = w4 at *
      go_wp2_with fail
      go_roundw
      case rel =>
        refine ⟨k + 1, M.set k y, by omega, by go_num, by rw [List.length_set]; exact hM, ?_, HA4.out, HG4.out, HB4.out, HG4.out.lt⟩
        show _ = _
        have e : (M.set k y).take (k + 1) = M.take k ++ [y] := by
          rw [List.take_add_one, List.take_set_of_le (Nat.le_refl k), List.getElem?_set_self HKM.out]; rfl
        rw [e, List.map_append, HT.out, List.take_add_one, List.getElem?_eq_getElem HKL.out, List.map_append]
        congr 1
        show [y.t] = [(l[k]'HKL.out).t]
        rw [HYT.out, HX.out, List.getD_eq_getElem?_getD, List.getElem?_eq_getElem HKL.out]; rfl
      case measure => simp [intOf]; omega
    · obtain rfl : k = n := by omega
      have hME : M.take k = M := List.take_of_length_le (by omega)
      have HE : Hid (M.map TxR.t = l.map TxR.t) := show _ = _ by
        have := HT.out
        rw [hME, List.take_of_length_le (by rw [HLN.out]; exact Nat.le_refl _)] at this
        exact this
      have HA2 : Hid (∀ r ∈ M, TxAt wr r.v r.t ∧ TxNew (N + 1) r.v) := by have := HA.out; rw [hME] at this; exact this
      have HMl : Hid (M.length = k) := hM
      clear HA HT hM hME
      go_wp2_with fail
      go_ret
      subst hN
      refine ⟨_, M, rfl, ⟨?_, fun r hr => (HA2.out r hr).1⟩, HE.out, ⟨fun x hx => ?_, fun r hr => ?_⟩, HB.out⟩
      · exact Els.of_blk HG.out HMl.out (Nat.le_refl _) hml (by rw [List.take_of_length_le]; rw [flatE_length, HMl.out]; exact Nat.le_refl _)
      · injection hx with hx; rw [← hx]; exact Nat.le_refl _
      · have := (HA2.out r hr).2
        exact ⟨fun z hz => by have := this.1 z hz; omega, fun z hz => by have := this.2 z hz; omega⟩

def chkB (h : Hd) (ts : List TxD) : Int := if setE h ts ≠ 0 then setE h ts else if h.root = rootT ts then 0 else 2
theorem Hd.root_at {w : World} {b o : Nat} {h : Hd} (g : w.rangeAt b o h.cs) : w.rangeAt b (o + 32) h.root.cs := fun j v hv => by
  have hj := (List.getElem?_eq_some_iff.1 hv).1
  have := g (32 + j) v (by
    unfold Hd.cs
    rw [List.getElem?_append_right (by rw [H32.cs_length]; omega), H32.cs_length, show 32 + j - 32 = j by omega, List.getElem?_append_left hj]; exact hv)
  rw [show o + (32 + j) = o + 32 + j by omega] at this; exact this
theorem neq_h (x y : H32) (w : World) : (binOp .neq 23 (.agg x.cs.toArray) (.agg y.cs.toArray)).run Tryz.prog w = .ok (.bool (!decide (x = y))) w := by
  have e : decide (x = y) = (x.b == y.b) := by
    rw [Bool.eq_iff_iff, decide_eq_true_iff, beq_iff_eq]
    exact ⟨fun h => h ▸ rfl, H32.ext⟩
  rw [e]; exact neq_hash x.b y.b x.len y.len w
theorem guard_h (op : BinOp) (u v : Operand) (x y : H32) (w : World) : (eqGuard op 23 u v (.agg x.cs.toArray) (.agg y.cs.toArray)).run Tryz.prog w = .ok () w :=
  run_eqGuard_agg w op _ u v _ _ (by kernel_rfl)
set_option maxRecDepth 100000 in
set_option maxHeartbeats 4000000 in
theorem bcheck_any (h : Hd) (a : Option Addr) (n cap : Nat) (l : List TxR) (w : World) (hp : TxL w a n cap l) (hK : Kw w) :
    Calls Tryz.prog 16 #[.agg (blkCs h a n cap).toArray] w fun e w' => e = .returned (.int .i64 (chkB h (l.map TxR.t))) ∧ Below w.heap.size w w' := by
  obtain ⟨dB, HDB, HRB⟩ := undBk
  have HP : Hid (TxL w a n cap l) := hp
  have HK : Hid (Kw w) := hK
  have hpos := hK.pos
  clear hp hK
  have HCH : Hid (chkB h (l.map TxR.t) = if setE h (l.map TxR.t) ≠ 0 then setE h (l.map TxR.t) else if h.root = rootT (l.map TxR.t) then 0 else 2) := show _ = _ from rfl
  have HSH : Hid (setE h (l.map TxR.t) = 0 → setH h (l.map TxR.t) = rootT (l.map TxR.t)) := fun e => by unfold setH; rw [if_pos e]
  obtain ⟨Z, hZ⟩ : ∃ Z, Z = blkCs h a n cap := ⟨_, rfl⟩
  rw [← hZ]
  have HZE : Hid (Z = blkCs h a n cap) := hZ
  have HZS : Hid ((Tryz.prog.info? 28).map (·.size) = some Z.length) := by rw [hZ]; exact sizeBk h a n cap
  clear hZ
  go_enter Tryz.func16, Tryz.ntmps16
  go_upto_region 1 with fail
  generalize hw1 : World.alloc w _ = w1
  have HB0 : Hid (Blk w1 w.heap.size Z) := by rw [← hw1]; exact Blk.mk _ _ _ rfl rfl
  have HB : Hid (Below w.heap.size w w1) := by rw [← hw1]; exact (Below.refl _ _).alloc (Nat.le_refl _) _
  clear hw1
  generalize hN : w.heap.size = N at *
  refine wp_scope_hops 1 ?_
  go_hide hQ
  have HLD : Hid (w1.rangeAt N 0 Z) := HB0.out.whole
  have HST : Hid (Calls Tryz.prog 46 #[.agg Z.toArray] w1 fun e w' => e = .returned (.tuple #[.agg (setH h (l.map TxR.t)).cs.toArray, .int .i64 (setE h (l.map TxR.t))]) ∧ Below w1.heap.size w1 w') := by
    rw [HZE.out]; exact settle_any h a n cap l w1 (HP.out.below (hN ▸ HB.out)) (HK.out.below HB.out hpos)
  generalize setE h (l.map TxR.t) = z at *
  generalize setH h (l.map TxR.t) = x at *
  go_upto_region 2 with (refine wpList_load_mid rfl 28 _ rfl N 0 rfl Z _ HLD.out HDB.out HRB.out HZS.out ?_)
  refine Calls.mono HST.out ?_
  rintro e w2 ⟨rfl, hb2⟩
  have HB2 : Hid (Blk w2 N Z) := HB0.out.below hb2 HB0.out.lt
  have HW2 : Hid (Below N w w2) := HB.out.trans (hb2.mono (by have := HB.out.size; rw [hN] at this; exact this))
  clear hb2 HST HLD HB HB0
  go_upto_region 2 with (refine wpList_store_fresh rfl 23 _ _ rfl x.cs _ 23 rfl rfl (sizeHa x) (zsizeH x) x.cs_all ?_; intro w3 HB3 Hb3)
  have HZ3 : Hid (w3.rangeAt N 32 h.root.cs) := by
    have := (HB2.out.below Hb3.out HB2.out.lt).whole
    rw [HZE.out] at this
    have := Hd.root_at (blkCs_head this)
    rw [Nat.zero_add] at this
    exact this
  have HX3 : Hid (w3.rangeAt w2.heap.size 0 x.cs) := HB3.out.whole
  have HW3 : Hid (Below N w w3) := HW2.out.trans (Hb3.out.mono (by have := HW2.out.size; rw [hN] at this; exact this))
  clear HB3 Hb3 HB2 HW2
  by_cases hz : z = 0
  · subst hz
    have hx := HSH.out rfl
    have HV : Hid (chkB h (l.map TxR.t) = if h.root = x then 0 else 2) := show _ = _ by rw [HCH.out, if_neg (by simp), hx]
    clear HSH HCH hx
    generalize h.root = y at *
    have q1 : ∀ w', (binOp .neq 23 (.agg y.cs.toArray) (.agg x.cs.toArray)).run Tryz.prog w' = .ok (.bool (!decide (y = x))) w' := neq_h y x
    have q2 : ∀ (op : BinOp) (u v : Operand) w', (eqGuard op 23 u v (.agg y.cs.toArray) (.agg x.cs.toArray)).run Tryz.prog w' = .ok () w' := fun op u v => guard_h op u v y x
    have q3 : ∀ w', (Op.equalIn 10000 23 (.agg y.cs.toArray) (.agg x.cs.toArray)).run Tryz.prog w' = .ok (decide (y = x)) w' := fun w' => equal_h y x w'
    by_cases hyx : y = x
    · have HV0 : Hid (chkB h (l.map TxR.t) = 0) := show _ = _ by rw [HV.out, if_pos hyx]
      rw [show decide (y = x) = true from decide_eq_true hyx] at q1 q3
      clear hyx HV
      go_wp2_with (first
        | (refine wpList_load_mid rfl 23 _ rfl N 32 rfl y.cs _ HZ3.out Tryz.underlying23 rfl (sizeH y) ?_)
        | (refine wpList_load_mid rfl 23 _ rfl w2.heap.size 0 rfl x.cs _ HX3.out Tryz.underlying23 rfl (sizeH x) ?_))
      go_step3
      go_wp2_with fail
      subst hQ
      rw [hops_ret]
      go_ret
      subst hN
      exact ⟨ret_int HV0.out.symm, HW3.out⟩
    · have HV0 : Hid (chkB h (l.map TxR.t) = 2) := show _ = _ by rw [HV.out, if_neg hyx]
      rw [show decide (y = x) = false from decide_eq_false hyx] at q1 q3
      clear hyx HV
      go_wp2_with (first
        | (refine wpList_load_mid rfl 23 _ rfl N 32 rfl y.cs _ HZ3.out Tryz.underlying23 rfl (sizeH y) ?_)
        | (refine wpList_load_mid rfl 23 _ rfl w2.heap.size 0 rfl x.cs _ HX3.out Tryz.underlying23 rfl (sizeH x) ?_))
      go_step3
      go_wp2_with fail
      subst hQ
      rw [hops_ret]
      go_ret
      subst hN
      exact ⟨ret_int HV0.out.symm, HW3.out⟩
  · have HV0 : Hid (chkB h (l.map TxR.t) = z) := show _ = _ by rw [HCH.out, if_pos hz]
    go_wp2_with fail
    go_step3
    subst hQ
    refine show hops _ _ _ 1 (Exit.goto 0) _ _ from ?_
    rw [hops_goto]
    refine ⟨_, rfl, ?_⟩
    go_hide hQ
    go_wp2_with fail
    subst hQ
    rw [hops_ret]
    go_ret
    subst hN
    exact ⟨ret_int HV0.out.symm, HW3.out⟩
end Go.Proofs.YtlaifphedhaemaaGreatDoor
