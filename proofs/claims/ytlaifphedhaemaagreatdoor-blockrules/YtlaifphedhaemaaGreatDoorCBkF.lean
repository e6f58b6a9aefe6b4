/- block.ahead, block.together. -/
import Derived.Test.YtlaifphedhaemaaGreatDoorCBkE
namespace Go.Proofs.YtlaifphedhaemaaGreatDoor
open Go.ChangeShapes Go.WideShapes Go.ChangeAt Go.RowKit

def Pt.txH (p : Pt) : H32 := ⟨p.tx, p.len⟩
theorem prev_tx {w : World} {b o : Nat} {p : Pt} (h : w.rangeAt b o p.cs) : w.rangeAt b o p.txH.cs := fun j v hv => by
  have hj := (List.getElem?_eq_some_iff.1 hv).1
  refine h j v ?_
  unfold Pt.cs
  rw [List.getElem?_append_left (by rw [u8s_length]; rw [H32.cs_length] at hj; rw [p.len]; exact hj)]
  exact hv
/-- Is a place's maker at place i or behind it? -/
def hitM (m : List (H32 × Int)) (i : Nat) (x : In) : Bool := (look x.prev.txH m).isSome && decide ((i : Int) ≤ (look x.prev.txH m).getD 0)
def ahL (l : List TxD) (m : List (H32 × Int)) : Bool := (List.range l.length).any fun i => (l.getD i ⟨[], [], 0⟩).ins.any (hitM m i)
theorem getD_map (l : List TxR) (k : Nat) : (l.map TxR.t).getD k ⟨[], [], 0⟩ = (l.getD k default).t := by
  rw [List.getD_eq_getElem?_getD, List.getD_eq_getElem?_getD, List.getElem?_map]
  cases l[k]? <;> rfl
theorem ahL_true {l : List TxR} {m : List (H32 × Int)} {k j : Nat} (hk : k < l.length) (hj : j < (l.getD k default).t.ins.length) (h : hitM m k ((l.getD k default).t.ins.getD j default) = true) : ahL (l.map TxR.t) m = true := by
  unfold ahL
  rw [List.any_eq_true]
  refine ⟨k, by simpa using hk, ?_⟩
  rw [getD_map, List.any_eq_true]
  exact ⟨_, memD _ hj, h⟩
theorem ahL_false {l : List TxR} {m : List (H32 × Int)} (h : ∀ k, k < l.length → ∀ j, j < (l.getD k default).t.ins.length → hitM m k ((l.getD k default).t.ins.getD j default) = false) : ahL (l.map TxR.t) m = false := by
  unfold ahL
  rw [List.any_eq_false]
  intro k hk
  rw [getD_map]
  have hk' : k < l.length := by simpa using hk
  simp only [Bool.not_eq_true]
  rw [List.any_eq_false]
  intro x hx
  obtain ⟨j, hj, rfl⟩ := List.getElem_of_mem hx
  have := h k hk' j hj
  rw [List.getD_eq_getElem?_getD (l := (l.getD k default).t.ins), List.getElem?_eq_getElem hj] at this
  simp only [Bool.not_eq_true]
  exact this

set_option maxRecDepth 100000 in
set_option maxHeartbeats 4000000 in
theorem ahead_any (a : Option Addr) (n cap : Nat) (l : List TxR) (r : Nat) (m : List (H32 × Int)) (w : World) (hp : TxL w a n cap l) (hm : MapAt H32.val w r m) (hn : n ≤ 100000) (hi : ∀ r ∈ l, r.v.n ≤ 100000) :
    Calls Tryz.prog 105 #[.slice a n cap, .map (some r)] w fun e w' => e = .returned (.bool (ahL (l.map TxR.t) m)) ∧ Below w.heap.size w w' := by
  obtain ⟨dT, HDT, HRT⟩ := und_tx
  obtain ⟨dI, HDI, HRI⟩ := und_in
  have HP : Hid (TxL w a n cap l) := hp
  have HMW : Hid (MapAt H32.val w r m) := hm
  have HI : Hid (∀ r ∈ l, r.v.n ≤ 100000) := hi
  have HLN : Hid (l.length = n) := hp.row.len
  have hrl := hm.lt
  clear hp hi hm
  go_enter Tryz.func105, Tryz.ntmps105
  go_upto_region 1 with fail
  refine wp_scope_hops 1 ?_
  go_hide hQ
  go_wp2_with fail
  generalize hN : w.heap.size = N at *
  go_loopw [13] (fun i wr => ∃ (k : Nat), k ≤ n ∧ i = .int .i64 k ∧ Hid (∀ i, i < k → ∀ j, j < (l.getD i default).t.ins.length → hitM m i ((l.getD i default).t.ins.getD j default) = false) ∧ Hid (Below N w wr)) (fun i _ => n - (intOf i).toNat)
  case atStart => exact ⟨0, by omega, rfl, fun i hi => absurd hi (Nat.not_lt_zero _), Below.refl _ _⟩
  case round =>
    obtain ⟨k, hk, rfl, HNO, HB⟩ := hrel
    by_cases hlt : k < n
    · have e0 : (0 : Int) ≤ (k : Int) := by omega
      have e1 : (k : Int) < (n : Int) := by omega
      have HE : Hid (TxL wr a n cap l) := HP.out.below (hN ▸ HB.out)
      obtain ⟨b, o, rfl, hc⟩ := HE.out.row.at k hlt
      obtain ⟨x, hx⟩ : ∃ x, x = l.getD k default := ⟨_, rfl⟩
      change wr.rangeAt b (o + k * 3) (TxR.cs (l.getD k default)) at hc
      rw [← hx] at hc
      have HKL : Hid (k < l.length) := show _ < _ by rw [HLN.out]; exact hlt
      have HX : Hid (x = l.getD k default) := hx
      have HXW : Hid (TxAt w x.v x.t) := HP.out.each x (by rw [hx]; exact memD _ HKL.out)
      have hxn : x.v.n ≤ 100000 := HI.out x (by rw [hx]; exact memD _ HKL.out)
      have HC : Hid (wr.rangeAt b (o + k * 3) x.cs) := hc
      have hNr : N ≤ wr.heap.size := by have := HB.out.size; rw [hN] at this; exact this
      clear hc hx HE
      obtain ⟨⟨xa, xn, xc, xb, xm, xd⟩, ⟨ins, outs, lock⟩⟩ := x
      obtain ⟨Z, hZ⟩ : ∃ Z, Z = TxR.cs ⟨⟨xa, xn, xc, xb, xm, xd⟩, ⟨ins, outs, lock⟩⟩ := ⟨_, rfl⟩
      rw [← hZ] at HC
      have HZ0 : Hid (Z[0]? = some (.slice xa xn xc)) := by rw [hZ]; rfl
      have HZS : Hid ((Tryz.prog.info? 61).map (·.size) = some Z.length ∧ (Tryz.prog.info? 61).map (·.size) = some Z.toArray.size ∧ (default : TxR).cs.toArray.size = Z.toArray.size ∧ Z.toArray.all (·.oneCell') = true) := by rw [hZ]; exact ⟨sizeTx _, sizeTxa _, zsizeTx _, TxR.cs_all _⟩
      clear hZ
      go_upto_region 4 with (first
        | (refine wpList_load_mid rfl 61 _ rfl b (o + k * 3) rfl Z _ HC.out HDT.out HRT.out HZS.out.1 ?_)
        | (refine wpList_store_fresh rfl 61 _ _ rfl Z _ 61 rfl rfl HZS.out.2.1 HZS.out.2.2.1 HZS.out.2.2.2 ?_; intro w2 HB2 Hb2))
      have c0 : w2.cell? ⟨wr.heap.size, 0, none⟩ = some (.slice xa xn xc) := HB2.out.one HZ0.out
      have HXI : Hid (Els w xa xn xc ins) := HXW.out.ins
      have HB02 : Hid (Below N w w2) := HB.out.trans (Hb2.out.mono hNr)
      clear HB2 Hb2 HC HXW HZ0 HZS HB
      have HXO : Hid (ins = (l.getD k default).t.ins) := show _ = _ by rw [← HX.out]
      have HLI : Hid (ins.length = xn) := HXI.out.len
      clear HX
      go_wp2_with fail
      clear c0
      generalize wr.heap.size = R at *
      go_loopw [21] (fun i wq => ∃ (j : Nat), j ≤ xn ∧ i = .int .i64 j ∧ Hid (∀ i, i < j → hitM m k (ins.getD i default) = false) ∧ Hid (Below N w wq)) (fun i _ => xn - (intOf i).toNat)
      case atStart => exact ⟨0, by omega, rfl, fun i hi => absurd hi (Nat.not_lt_zero _), HB02.out⟩
      case round =>
        obtain ⟨j, hj, rfl, HNJ, HBq⟩ := hrel
        clear HB02
        have HEq : Hid (Els wr xa xn xc ins) := HXI.out.below (hN ▸ HBq.out)
        by_cases hjt : j < xn
        · have f0 : (0 : Int) ≤ (j : Int) := by omega
          have f1 : (j : Int) < (xn : Int) := by omega
          obtain ⟨b2, o2, rfl, hd⟩ := HEq.out.at j hjt
          obtain ⟨y, hy⟩ : ∃ y, y = ins.getD j default := ⟨_, rfl⟩
          change wr.rangeAt b2 (o2 + j * 37) (In.cs (ins.getD j default)) at hd
          rw [← hy] at hd
          have HY : Hid (y = ins.getD j default) := hy
          have HD : Hid (wr.rangeAt b2 (o2 + j * 37) y.cs) := hd
          have hNr2 : N ≤ wr.heap.size := by have := HBq.out.size; rw [hN] at this; exact this
          clear hd hy
          go_upto_region 7 with (first
            | (refine wpList_load_mid rfl 57 _ rfl b2 (o2 + j * 37) rfl y.cs _ HD.out HDI.out HRI.out (size_in y) ?_)
            | (refine wpList_store_fresh rfl 57 _ _ rfl y.cs _ 57 rfl rfl (size_ina y) (zin_size y) y.cs_all ?_; intro w3 HB3 Hb3))
          have HPT : Hid (w3.rangeAt wr.heap.size 0 y.prev.txH.cs) := prev_tx (In.prev_at HB3.out.whole)
          have HB03 : Hid (Below N w w3) := HBq.out.trans (Hb3.out.mono hNr2)
          have HM3 : Hid (MapAt H32.val w3 r m) := HMW.out.below HB03.out hrl
          obtain ⟨h, hh⟩ : ∃ h, h = y.prev.txH := ⟨_, rfl⟩
          rw [← hh] at HPT
          have HH : Hid (h = y.prev.txH) := hh
          obtain ⟨c, hc⟩ : ∃ c, (look h m).getD 0 = c := ⟨_, rfl⟩
          obtain ⟨s, hs⟩ : ∃ s, (look h m).isSome = s := ⟨_, rfl⟩
          have HCC : Hid ((look h m).getD 0 = c ∧ (look h m).isSome = s) := ⟨hc, hs⟩
          have HHIT : Hid (hitM m k (ins.getD j default) = (s && decide ((k : Int) ≤ c))) := show _ = _ by
            unfold hitM; rw [← HY.out, ← hh, hc, hs]
          clear hc hs hh HB3 Hb3 HD HEq HBq
          by_cases hit : s = true ∧ (k : Int) ≤ c
          · obtain ⟨rfl, hck⟩ := hit
            have HAH : Hid (ahL (l.map TxR.t) m = true) := ahL_true HKL.out (by rw [← HXO.out, HLI.out]; exact hjt) (by rw [← HXO.out, HHIT.out, decide_eq_true hck]; rfl)
            go_upto_region 8 with (first
              | (refine wpList_load_mid rfl 23 _ rfl wr.heap.size 0 rfl h.cs _ HPT.out Tryz.underlying23 rfl (sizeH h) ?_)
              | (at_lookup; refine wpList_look rfl _ _ _ rfl keyH Tryz.underlying147 zero_int m HM3.out h rfl rfl ?_; rw [HCC.out.1, HCC.out.2]))
            go_wp2_with fail
            go_step3
            subst hQ
            refine show hops _ _ _ 1 (Exit.goto 0) _ _ from ?_
            rw [hops_goto]
            refine ⟨_, rfl, ?_⟩
            go_hide hQ
            go_wp2_with fail
            subst hQ
            rw [hops_ret]
            go_ret
            subst hN
            exact ⟨ret_bool HAH.out.symm, HB03.out⟩
          · have HHF : Hid (∀ i, i < j + 1 → hitM m k (ins.getD i default) = false) := fun i hi' => by
              by_cases e : i = j
              · subst e
                rw [HHIT.out]
                cases s with
                | false => rfl
                | true => rw [decide_eq_false (fun h => hit ⟨rfl, h⟩)]; rfl
              · exact HNJ.out i (by omega)
            cases s with
            | false =>
              clear hit
              go_upto_region 8 with (first
                | (refine wpList_load_mid rfl 23 _ rfl wr.heap.size 0 rfl h.cs _ HPT.out Tryz.underlying23 rfl (sizeH h) ?_)
                | (at_lookup; refine wpList_look rfl _ _ _ rfl keyH Tryz.underlying147 zero_int m HM3.out h rfl rfl ?_; rw [HCC.out.1, HCC.out.2]))
              go_wp2_with fail
              go_roundw
              case rel => exact ⟨j + 1, by omega, by go_num, HHF.out, HB03.out⟩
              case measure => simp [intOf]; omega
            | true =>
              have hck : ¬ (k : Int) ≤ c := fun h => hit ⟨rfl, h⟩
              clear hit
              go_upto_region 8 with (first
                | (refine wpList_load_mid rfl 23 _ rfl wr.heap.size 0 rfl h.cs _ HPT.out Tryz.underlying23 rfl (sizeH h) ?_)
                | (at_lookup; refine wpList_look rfl _ _ _ rfl keyH Tryz.underlying147 zero_int m HM3.out h rfl rfl ?_; rw [HCC.out.1, HCC.out.2]))
              go_wp2_with fail
              go_roundw
              case rel => exact ⟨j + 1, by omega, by go_num, HHF.out, HB03.out⟩
              case measure => simp [intOf]; omega
        · obtain rfl : j = xn := by omega
          have HNO2 : Hid (∀ i, i < k + 1 → ∀ j, j < (l.getD i default).t.ins.length → hitM m i ((l.getD i default).t.ins.getD j default) = false) := fun i hi' q hq => by
            by_cases e : i = k
            · subst e
              rw [← HXO.out] at hq ⊢
              exact HNJ.out q (by rw [HLI.out] at hq; exact hq)
            · exact HNO.out i (by omega) q hq
          go_wp2_with fail
          go_roundw
          case rel => exact ⟨k + 1, by omega, by go_num, HNO2.out, HBq.out⟩
          case measure => simp [intOf]; omega
    · obtain rfl : k = n := by omega
      have HAH : Hid (ahL (l.map TxR.t) m = false) := ahL_false fun i hi' => HNO.out i (by rw [HLN.out] at hi'; exact hi')
      go_wp2_with fail
      subst hQ
      rw [hops_ret]
      go_ret
      subst hN
      exact ⟨ret_bool HAH.out.symm, HB.out⟩
end Go.Proofs.YtlaifphedhaemaaGreatDoor
