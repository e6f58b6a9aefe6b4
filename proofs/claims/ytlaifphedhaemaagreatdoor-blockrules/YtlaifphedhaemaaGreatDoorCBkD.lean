/- block.places, block.conflict, block.ahead: the maps of a block's rules. -/
import Derived.Test.YtlaifphedhaemaaGreatDoorCBkC
namespace Go.Proofs.YtlaifphedhaemaaGreatDoor
open Go.ChangeShapes Go.WideShapes Go.ChangeAt Go.RowKit

section
variable {α : Type} [DecidableEq α]
theorem look_put (x : α) (v : Int) (m : List (α × Int)) : look x (putM x v m) = some v := by
  induction m with
  | nil => simp [putM, look]
  | cons p m ih =>
    unfold putM
    by_cases h : x = p.1
    · rw [if_pos h]; unfold look; rw [if_pos h]
    · rw [if_neg h]; unfold look; rw [if_neg h]; exact ih
theorem look_put_ne (x y : α) (v : Int) (m : List (α × Int)) (h : y ≠ x) : look y (putM x v m) = look y m := by
  induction m with
  | nil => simp [putM, look, h]
  | cons p m ih =>
    unfold putM
    by_cases e : x = p.1
    · rw [if_pos e]; unfold look; rw [if_neg (by rw [← e]; exact h), if_neg (by rw [← e]; exact h)]
    · rw [if_neg e]; unfold look; rw [ih]
theorem look_none_iff (x : α) (m : List (α × Int)) : look x m = none ↔ x ∉ m.map Prod.fst := by
  induction m with
  | nil => simp [look]
  | cons p m ih =>
    unfold look
    by_cases h : x = p.1
    · rw [if_pos h]; simp [h]
    · rw [if_neg h, ih]; simp [h]
theorem posOf_look (x : α) (m : List (α × Int)) : posOf x m = none ↔ look x m = none := by
  induction m with
  | nil => simp [look, posOf]
  | cons p m ih =>
    unfold look posOf
    by_cases h : x = p.1
    · rw [if_pos h, if_pos h]; simp
    · rw [if_neg h, if_neg h, ← ih]; simp
theorem put_new {x : α} {v : Int} {m : List (α × Int)} (h : x ∉ m.map Prod.fst) : putM x v m = m ++ [(x, v)] := (posOf_none ((posOf_look x m).2 ((look_none_iff x m).2 h))).2 v
theorem entry_then (x : α) (v : Int) (m : List (α × Int)) :
    (putM x ((look x m).getD 0) m)[(posOf x m).getD m.length]? = some (x, (look x m).getD 0) ∧ (putM x ((look x m).getD 0) m).set ((posOf x m).getD m.length) (x, v) = putM x v m := by
  cases hp : posOf x m with
  | none =>
    obtain ⟨h1, h2⟩ := posOf_none hp
    rw [h1, h2, h2]; simp
  | some j =>
    obtain ⟨hj, ⟨u, h2, h3⟩, h4⟩ := posOf_some hp
    rw [h2, h4, h4]
    refine ⟨by simp [hj], by simp⟩
theorem still_look {P : Program} {k mt et : TypeId} {val : α → Value} {w : World} {r : Nat} {ops : Array Oper} {rest : List Oper} {o : Oper} {a : Act} {Q : Act → Prop} (hgd : o.guard = none) (m x : Operand) (c : Bool) (ho : o.op = Op.lookup mt m x c)
    (K : KeyT P k α val) (ht : P.underlying mt = some (.map k et)) (hz : ∀ w, (zeroValue et).run P w = .ok (.int .i64 0) w) (l : List (α × Int)) (h : MapAt val w r l) (y : α)
    (hm : a.eval m = .map (some r)) (hx : a.eval x = val y)
    (hK : wpStill P ops w Q rest (a.put o.dst (if c then .tuple #[.int .i64 ((look y l).getD 0), .bool (look y l).isSome] else .int .i64 ((look y l).getD 0)))) : wpStill P ops w Q (o :: rest) a := by
  have hw : Region.wanted o (yielded ops a.tmps) = true := by simp [Region.wanted, hgd]
  unfold wpStill
  rw [if_pos hw]
  unfold Oper.still execOp
  simp only [ho, hm, hx, run_look K ht hz h y c, Sem.run_bind, Sem.run_pure, Result.andThen_ok]
  exact ⟨rfl, hK⟩
end

/-- Where each hash of a row stands, of the first k. -/
def placesM (l : List H32) (k : Nat) : List (H32 × Int) := (List.range k).foldl (fun m i => putM (l.getD i default) (i : Int) m) []
theorem placesM_succ (l : List H32) (k : Nat) : placesM l (k + 1) = putM (l.getD k default) (k : Int) (placesM l k) := by
  simp [placesM, List.range_succ]
theorem placesM_le (l : List H32) (k : Nat) : (placesM l k).length ≤ k := by
  induction k with
  | zero => simp [placesM]
  | succ k ih => rw [placesM_succ, putM_length]; split <;> omega

set_option maxRecDepth 100000 in
set_option maxHeartbeats 4000000 in
theorem places_any (a : Option Addr) (n cap : Nat) (l : List H32) (w : World) (hp : Els w a n cap l) (hn : n ≤ 100000) :
    Calls Tryz.prog 103 #[.slice a n cap] w fun e w' => ∃ r, e = .returned (.map (some r)) ∧ MapAt H32.val w' r (placesM l n) ∧ w.heap.size ≤ r ∧ Below w.heap.size w w' := by
  have HP : Hid (Els w a n cap l) := hp
  clear hp
  have hmm := @run_makeMap Tryz.prog
  go_enter Tryz.func103, Tryz.ntmps103
  go_wp2_with fail
  generalize hw1 : World.alloc w _ = w1
  have HM1 : Hid (MapAt H32.val w1 w.heap.size (placesM l 0)) := by rw [← hw1]; exact MapAt.new w
  have HB1 : Hid (Below w.heap.size w w1) := by rw [← hw1]; exact (Below.refl _ _).alloc (Nat.le_refl _) _
  clear hw1 hmm
  generalize hN : w.heap.size = N at *
  go_loopw [9] (fun i wr => ∃ (k : Nat), k ≤ n ∧ i = .int .i64 k ∧ Hid (MapAt H32.val wr N (placesM l k)) ∧ Hid (Below N w wr)) (fun i _ => n - (intOf i).toNat)
  case atStart => exact ⟨0, by omega, rfl, HM1.out, HB1.out⟩
  case round =>
    obtain ⟨k, hk, rfl, HM, HB⟩ := hrel
    clear HM1 HB1
    by_cases hlt : k < n
    · have e0 : (0 : Int) ≤ (k : Int) := by omega
      have e1 : (k : Int) < (n : Int) := by omega
      have HE : Hid (Els wr a n cap l) := HP.out.below (hN ▸ HB.out)
      obtain ⟨b, o, rfl, hc⟩ := HE.out.at k hlt
      obtain ⟨x, hx⟩ : ∃ x, x = l.getD k default := ⟨_, rfl⟩
      change wr.rangeAt b (o + k * 32) (H32.cs (l.getD k default)) at hc
      rw [← hx] at hc
      have HNX : Hid (placesM l (k + 1) = putM x (k : Int) (placesM l k)) := show _ = _ by rw [placesM_succ, hx]
      have HC : Hid (wr.rangeAt b (o + k * 32) x.cs) := hc
      clear hc hx HE
      go_upto_region 5 with (first
        | (refine wpList_load_mid rfl 23 _ rfl b (o + k * 32) rfl x.cs _ HC.out Tryz.underlying23 rfl (sizeH x) ?_)
        | (refine wpList_store_fresh rfl 23 _ _ rfl x.cs _ 23 rfl rfl (sizeHa x) (zsizeH x) x.cs_all ?_; intro w2 HB2 Hb2))
      have HM2 : Hid (MapAt H32.val w2 N (placesM l k)) := HM.out.below Hb2.out HM.out.lt
      have HPT : Hid (w2.rangeAt wr.heap.size 0 x.cs) := HB2.out.whole
      have HB02 : Hid (Below N w w2) := HB.out.trans (Hb2.out.mono (Nat.le_of_lt HM.out.lt))
      clear HB2 Hb2 HC
      go_upto_region 6 with (first
        | (refine wpList_load_mid rfl 23 _ rfl wr.heap.size 0 rfl x.cs _ HPT.out Tryz.underlying23 rfl (sizeH x) ?_)
        | (at_mapUpdate; refine wpList_update rfl _ _ _ rfl rfl keyH Tryz.underlying147 (placesM l k) HM2.out x (k : Int) rfl rfl rfl ?_; intro w3 hm3 hk3))
      have HM3 : Hid (MapAt H32.val w3 N (placesM l (k + 1))) := by rw [HNX.out]; exact hm3
      have HB3 : Hid (Below N w w3) := HB02.out.trans (hk3.below (Nat.le_refl _) (Nat.le_of_lt HM2.out.lt))
      clear hm3 hk3
      go_wp2_with fail
      go_roundw
      case rel => exact ⟨k + 1, by omega, by go_num, HM3.out, HB3.out⟩
      case measure => simp [intOf]; omega
    · obtain rfl : k = n := by omega
      go_wp2_with fail
      go_ret
      subst hN
      exact ⟨_, rfl, HM.out, Nat.le_refl _, HB.out⟩
end Go.Proofs.YtlaifphedhaemaaGreatDoor
