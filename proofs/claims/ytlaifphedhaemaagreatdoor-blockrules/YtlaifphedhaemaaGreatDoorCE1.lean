/- tx.Encode. -/
import Derived.Test.YtlaifphedhaemaaGreatDoorZX3
namespace Go.Proofs.YtlaifphedhaemaaGreatDoor
open Go.ChangeShapes Go.WideShapes Go.ChangeAt Go.RowKit

/-- What Encode writes of a witness; of a whole transaction. -/
def witB (x : In) : List (BitVec 8) := nums [x.kind, x.key] ++ (numB x.pre.size ++ strB x.pre)
def encB (t : TxD) : List (BitVec 8) := if chkE t = 0 then bodyB t ++ t.ins.flatMap witB else []
theorem chk_ins {t : TxD} (h : chkE t = 0) : t.ins.all inOK = true := by
  cases ha : t.ins.all inOK with
  | true => rfl
  | false =>
    by_cases hb : 100 < t.ins.length ∨ 100 < t.outs.length
    · rw [chk_big hb] at h; cases h
    · rw [chk_in hb ha] at h; cases h
theorem inOK_pre {x : In} (h : inOK x = true) : x.pre.size ≤ 64 := by
  unfold inOK witOK at h
  simp only [Bool.and_eq_true] at h
  have := h.2.2
  split at this
  · have := of_decide_eq_true this; omega
  · have := of_decide_eq_true this; omega
theorem witB_length (x : In) (h : x.pre.size ≤ 64) : (witB x).length ≤ 100 := by
  have h1 := nums_length [x.kind, x.key]
  have h2 := numB_length x.pre.size
  unfold witB
  rw [List.length_append, List.length_append, strB_length]; simp at h1; omega
theorem flatMap_len {α : Type} (f : α → List (BitVec 8)) (c : Nat) (l : List α) (h : ∀ x ∈ l, (f x).length ≤ c) : (l.flatMap f).length ≤ c * l.length := by
  induction l with
  | nil => simp
  | cons x l ih => have := h x (by simp); have := ih (fun y hy => h y (by simp [hy])); rw [List.flatMap_cons, List.length_append, List.length_cons, Nat.mul_succ]; omega
theorem ret_pair {a b : Value} {x y : Int} (h : a = b) (k : x = y) : Ending.returned (.tuple #[a, .int .i64 x]) = .returned (.tuple #[b, .int .i64 y]) := by rw [h, k]

set_option maxRecDepth 100000 in
set_option maxHeartbeats 4000000 in
theorem encode_any (tv : TxV) (t : TxD) (w : World) (hT : TxAt w tv t) :
    Calls Tryz.prog 29 #[tv.val t.lock] w fun e w' => ∃ v, e = .returned (.tuple #[v, .int .i64 (chkE t)]) ∧ OwnB w' w.heap.size v (encB t) ∧ Below w.heap.size w w' := by
  obtain ⟨dI, HDI, HRI⟩ := und_in
  have HT : Hid (TxAt w tv t) := hT
  have HTI : Hid (∀ w', Below w.heap.size w w' → Els w' tv.a tv.n tv.c t.ins) := fun w' h => (hT.below h).ins
  have HLI : Hid (t.ins.length = tv.n) := hT.ins.len
  have HLO : Hid (t.outs.length = tv.m) := hT.outs.len
  clear hT
  obtain ⟨lk, hlk⟩ : ∃ z, z = t.lock := ⟨_, rfl⟩
  have HCHK : Hid (∀ w', TxAt w' tv t → Calls Tryz.prog 64 #[tv.val lk] w' fun e w'' => e = .returned (.int .i64 (chkE t)) ∧ Below w'.heap.size w' w'') := fun w' h => by rw [hlk]; exact check_any tv t w' h
  have HBODY : Hid (∀ (R N : Nat) (w1 : World), Wr w1 R N (.slice none 0 0) [] → w.heap.size ≤ R → Below w.heap.size w w1 → tv.n ≤ 100 → tv.m ≤ 100 → Calls Tryz.prog 65 #[.pointer (some ⟨R, 0, none⟩), tv.val lk] w1 fun e w' => e = .returned (.tuple #[]) ∧ ∃ v', Wr w' R N v' (bodyB t) ∧ Grew R (.slice none 0 0) v' w1 w') := fun R N w1 h1 h2 h3 h4 h5 => by
    rw [hlk]
    have := wbody_any R N (.slice none 0 0) [] tv t w1 w h1 HT.out h2 h3 h4 h5 (by simp)
    simpa using this
  rw [← hlk]
  clear hlk
  unfold TxV.val at *
  go_enter Tryz.func29, Tryz.ntmps29
  go_wp2_with fail
  refine wp_scope_hops 1 ?_
  go_hide hQ
  go_upto_region 2 with fail
  generalize hwv : World.alloc (World.alloc w _) _ = w1
  have HB0 : Hid (Blk w1 w.heap.size [.slice tv.a tv.n tv.c, .slice tv.b tv.m tv.d, .int .i64 lk]) := by rw [← hwv]; exact (Blk.mk _ _ _ rfl rfl).alloc _
  have HB1 : Hid (Blk w1 (w.heap.size + 1) [.slice none 0 0]) := by rw [← hwv]; exact Blk.mk _ _ _ (by simp) rfl
  have HBL : Hid (Below w.heap.size w w1) := by rw [← hwv]; exact ((Below.refl _ _).alloc (Nat.le_refl _) _).alloc (by simp) _
  clear hwv
  generalize hN : w.heap.size = T at *
  have hsz1 := HB1.out.lt
  have c0 : w1.cell? ⟨T, 0, none⟩ = some (.slice tv.a tv.n tv.c) := HB0.out.one rfl
  have c1 : w1.cell? ⟨T, 1, none⟩ = some (.slice tv.b tv.m tv.d) := HB0.out.one rfl
  have c2 : w1.cell? ⟨T, 2, none⟩ = some (.int .i64 lk) := HB0.out.one rfl
  go_wp2_with fail
  refine Calls.mono (HCHK.out w1 (HT.out.below (hN ▸ HBL.out))) ?_
  rintro e w2 ⟨rfl, hb2⟩
  have HB02 : Hid (Blk w2 T _) := HB0.out.below hb2 HB0.out.lt
  have HB12 : Hid (Blk w2 (T + 1) _) := HB1.out.below hb2 HB1.out.lt
  have HBL2 : Hid (Below T w w2) := HBL.out.trans (hb2.mono (by omega))
  have hsz2 := HB12.out.lt
  clear hb2 c0 c1 c2 HB0 HB1 HBL hsz1
  have HWR : Hid (Wr w2 (T + 1) w2.heap.size (.slice none 0 0) []) := ⟨HB12.out, OwnB.nil _ _, by omega, Nat.le_refl _⟩
  by_cases hz : chkE t = 0
  · have HEN : Hid (encB t = bodyB t ++ t.ins.flatMap witB) := show _ = _ from if_pos hz
    obtain ⟨hi100, ho100⟩ := chk_small hz
    rw [HLI.out] at hi100
    rw [HLO.out] at ho100
    have HPRE : Hid (∀ k, k < tv.n → (t.ins.getD k default).pre.size ≤ 64) := fun k hk => inOK_pre (List.all_eq_true.1 (chk_ins hz) _ (by
      have : k < t.ins.length := by rw [HLI.out]; exact hk
      rw [List.getD_eq_getElem?_getD, List.getElem?_eq_getElem this]; exact List.getElem_mem this))
    have HWL : Hid (∀ k, (((t.ins.take k).flatMap witB).length ≤ 10000)) := fun k => by
      have := flatMap_len witB 100 (t.ins.take k) fun x hx => witB_length x (inOK_pre (List.all_eq_true.1 (chk_ins hz) _ (List.mem_of_mem_take hx)))
      rw [List.length_take, HLI.out] at this; omega
    have HLB : Hid ((bodyB t).length ≤ 20000) := bodyB_length t (by rw [HLI.out]; exact hi100) (by rw [HLO.out]; exact ho100)
    have HZ : Hid (chkE t = 0) := hz
    rw [hz]
    clear hz
    have c0 : w2.cell? ⟨T, 0, none⟩ = some (.slice tv.a tv.n tv.c) := HB02.out.one rfl
    have c1 : w2.cell? ⟨T, 1, none⟩ = some (.slice tv.b tv.m tv.d) := HB02.out.one rfl
    have c2 : w2.cell? ⟨T, 2, none⟩ = some (.int .i64 lk) := HB02.out.one rfl
    go_wp2_with fail
    refine Calls.mono (HBODY.out (T + 1) w2.heap.size w2 HWR.out (by omega) HBL2.out hi100 ho100) ?_
    rintro e w3 ⟨rfl, v3, hW3, hG3⟩
    have HW3 : Hid (Wr w3 (T + 1) w2.heap.size v3 (bodyB t)) := hW3
    have HG3 : Hid (Grew (T + 1) (.slice none 0 0) v3 w2 w3) := hG3
    have HB03 : Hid (Blk w3 T _) := HB02.out.grew hG3 (by omega) (by simp [Value.ownBlock])
    clear hW3 hG3 c0 c1 c2
    have c0 : w3.cell? ⟨T, 0, none⟩ = some (.slice tv.a tv.n tv.c) := HB03.out.one rfl
    generalize hbb : bodyB t = bb at *
    generalize hin : t.ins = ins at *
    generalize tv.a = a at *
    generalize tv.n = n at *
    generalize tv.c = cc at *
    clear hbb hin
    have HBASE : Hid (∀ w' v', Grew (T + 1) (.slice none 0 0) v' w2 w' → Below T w w') := fun w' v' hg => HBL2.out.trans (hg.below (by omega) (by omega) (by simp [Value.ownBlock]))
    go_wp2_with fail
    clear c0
    go_loopw [17] (fun i wr => ∃ (k : Nat) (vk : Value), k ≤ n ∧ i = .int .i64 k ∧ Hid (Wr wr (T + 1) w2.heap.size vk (bb ++ (ins.take k).flatMap witB)) ∧ Hid (Grew (T + 1) (.slice none 0 0) vk w2 wr)) (fun i _ => n - (intOf i).toNat)
    case atStart => exact ⟨0, v3, by omega, rfl, show Wr _ _ _ _ _ by simpa using HW3.out, HG3.out⟩
    case round =>
      obtain ⟨k, vk, hk, rfl, HWk, HGk⟩ := hrel
      clear HW3 HG3
      by_cases hlt : k < n
      · have e0 : (0 : Int) ≤ (k : Int) := by omega
        have e1 : (k : Int) < (n : Int) := by omega
        obtain ⟨b, o, rfl, hc⟩ := (HTI.out _ (HBASE.out _ _ HGk.out)).at k hlt
        obtain ⟨x, hx⟩ : ∃ x, x = ins.getD k default := ⟨_, rfl⟩
        change wr.rangeAt b (o + k * 37) (In.cs (ins.getD k default)) at hc
        rw [← hx] at hc
        have HNX : Hid ((ins.take (k + 1)).flatMap witB = (ins.take k).flatMap witB ++ witB x) := by
          show _ = _
          rw [hx]; exact flatMap_next witB default ins k (by rw [HLI.out]; exact hlt)
        have HPX : Hid (x.pre.size ≤ 64) := show _ ≤ _ by rw [hx]; exact HPRE.out k hlt
        have HC : Hid (wr.rangeAt b (o + k * 37) x.cs) := hc
        have HLK : Hid ((bb ++ (ins.take k).flatMap witB).length ≤ 30000) := by
          have h1 := HLB.out
          have h2 := HWL.out k
          show _ ≤ _
          rw [List.length_append]; omega
        generalize hbk : bb ++ (ins.take k).flatMap witB = bk at *
        have HBK : Hid (_ = bk) := hbk
        clear hc hx hbk
        go_upto_region 8 with (first
          | (refine wpList_load_mid rfl 57 _ rfl b (o + k * 37) rfl x.cs _ HC.out HDI.out HRI.out (size_in x) ?_)
          | (refine wpList_store_fresh rfl 57 _ _ rfl x.cs _ 57 rfl rfl (size_ina x) (zin_size x) x.cs_all ?_; intro w4 HB4 Hb4))
        have HW4 : Hid (Wr w4 (T + 1) w2.heap.size vk bk) := HWk.out.below Hb4.out
        have HG4 : Hid (Grew (T + 1) (.slice none 0 0) vk w2 w4) := HGk.out.trans (Grew.of_below Hb4.out)
        have HFX : Hid (wr.heap.size ≠ T + 1 ∧ vk.ownBlock ≠ some wr.heap.size) := HWk.out.fresh (Nat.le_refl _)
        have p1 : w4.cell? ⟨wr.heap.size, 34, none⟩ = some (.int .i64 x.kind) := HB4.out.one x.kind_at
        have p2 : w4.cell? ⟨wr.heap.size, 35, none⟩ = some (.int .i64 x.key) := HB4.out.one x.key_at
        clear HC HWk HGk Hb4
        go_wp2_with fail
        refine (wnum_lit (T + 1) w2.heap.size vk bk [x.kind, x.key] 2 w4 HW4.out rfl (by omega) (by have := HLK.out; omega)).mono ?_
        rintro e w5 ⟨rfl, v5, hW5, hG5⟩
        have HX5 : Hid (Blk w5 wr.heap.size x.cs) := HB4.out.grew hG5 HFX.out.1 HFX.out.2
        have HW5 : Hid (Wr w5 (T + 1) w2.heap.size v5 (bk ++ nums [x.kind, x.key])) := hW5
        have HG5 : Hid (Grew (T + 1) (.slice none 0 0) v5 w2 w5) := HG4.out.trans hG5
        have p3 : w5.cell? ⟨wr.heap.size, 36, none⟩ = some (.string x.pre) := HX5.out.one x.pre_at
        have HL5 : Hid ((bk ++ nums [x.kind, x.key]).length ≤ 800000) := by
          have h1 := HLK.out
          have h2 := nums_length [x.kind, x.key]
          show _ ≤ _
          rw [List.length_append]; simp at h2; omega
        clear hW5 hG5 HB4 HW4 HG4 HFX p1 p2
        go_wp2_with fail
        refine (wtext_any (T + 1) w2.heap.size v5 _ x.pre w5 HW5.out (by have := HPX.out; omega) HL5.out).mono ?_
        rintro e w6 ⟨rfl, v6, hW6, hG6⟩
        rw [List.append_assoc] at hW6
        have HW6 : Hid (Wr w6 (T + 1) w2.heap.size v6 (bk ++ witB x)) := hW6
        have HG6 : Hid (Grew (T + 1) (.slice none 0 0) v6 w2 w6) := HG5.out.trans hG6
        clear hW6 hG6 HW5 HG5 HX5 p3
        go_wp2_with fail
        go_roundw
        case rel =>
          refine ⟨k + 1, v6, by omega, by go_num, ?_, HG6.out⟩
          show Wr _ _ _ _ _
          rw [HNX.out, ← List.append_assoc, HBK.out]; exact HW6.out
        case measure => simp [intOf]; omega
      · obtain rfl : k = n := by omega
        have HLN := HWL.out k
        rw [List.take_of_length_le (by rw [HLI.out]; exact Nat.le_refl _)] at HWk HLN
        have HLE : Hid ((bb ++ ins.flatMap witB).length ≤ 900000) := by
          have h1 := HLB.out
          show _ ≤ _
          rw [List.length_append]; omega
        clear HLN
        rw [← HEN.out] at HWk HLE
        have HBE : Hid (Below T w wr) := HBASE.out _ _ HGk.out
        go_wp2_with fail
        go_step3
        go_wp2_with fail
        refine (wbytes_any (T + 1) _ vk (encB t) wr HWk.out HLE.out).mono ?_
        rintro e w7 ⟨v7, rfl, hO7, hb7⟩
        have hsr := HBE.out.size
        have HO7 : Hid (OwnB w7 T v7 (encB t)) := hO7.less (by omega)
        have HB7 : Hid (Below T w w7) := HBE.out.trans (hb7.mono (by omega))
        clear hO7 hb7
        go_wp2_with fail
        subst hQ
        rw [hops_ret]
        go_ret2
        subst hN
        exact ⟨v7, ret_pair rfl HZ.out.symm, HO7.out, HB7.out⟩
  · have HEN : Hid (encB t = []) := show _ = _ from if_neg hz
    have hne : (chkE t != 0) = true := by simp [hz]
    obtain ⟨E, hE⟩ : ∃ E, chkE t = E := ⟨_, rfl⟩
    rw [hE] at hne
    rw [hE]
    have HZ : Hid (chkE t = E) := hE
    clear hz hE
    go_wp2_with fail
    go_step3
    simp only [Exit.then]
    subst hQ
    rw [hops_goto]
    refine ⟨_, rfl, ?_⟩
    go_hide hQ
    go_wp2_with fail
    refine (wbytes_any (T + 1) _ _ [] w2 HWR.out (by simp)).mono ?_
    rintro e w7 ⟨v7, rfl, hO7, hb7⟩
    have HO7 : Hid (OwnB w7 T v7 (encB t)) := show OwnB _ _ _ _ by rw [HEN.out]; exact hO7.less (by omega)
    have HB7 : Hid (Below T w w7) := HBL2.out.trans (hb7.mono (by omega))
    clear hO7 hb7
    go_wp2_with fail
    subst hQ
    rw [hops_ret]
    go_ret2
    subst hN
    exact ⟨v7, ret_pair rfl HZ.out.symm, HO7.out, HB7.out⟩
end Go.Proofs.YtlaifphedhaemaaGreatDoor
