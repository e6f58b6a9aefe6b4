/- kv: (*Store).Keys. -/
import Derived.Test.YtlapnnkahijikaaGreatDoorZK4
import Derived.Test.YtlapnnkahijikaaGreatDoorZF2
import Derived.Test.YtlapnnkahijikaaGreatDoorZF5
namespace Go.Proofs.YtlapnnkahijikaaGreatDoor
open Go.ChangeShapes Go.WideShapes Go.ChangeAt Go.RowKit Go.Lib
open Go.Maps Go.Sort Go.Shelf

theorem sortS_any (v : Value) (ss : List ByteArray) (N : Nat) (w : World) (h : OwnS w N v ss) (hl : ss.length ≤ 1000000) (hN : N ≤ w.heap.size) :
    Calls Tryz.prog 40 #[v] w fun e w' => e = .returned (.tuple #[]) ∧ OwnS w' N v (sortN ss) ∧ Below N w w' := by
  have h0 := h
  rcases h0.2 with ⟨rfl, hz⟩ | ⟨g, cap, cur, rfl, hg, hgb, r1, r2, r3, r4⟩
  · have : ss = [] := List.eq_nil_of_length_eq_zero hz
    subst this
    refine (AnyM.slices_Sort_string_none Tryz.sortF none 0 w).mono ?_
    rintro e w' ⟨rfl, rfl⟩
    exact ⟨rfl, by rw [sortN_nil]; exact h, Below.refl _ _⟩
  · have henc : (ss.map bytesOf).map encStr = ss.map Value.string := by
      rw [List.map_map]
      refine List.map_congr_left fun s _ => ?_
      show Value.string ⟨(bytesOf s).toArray⟩ = _
      rw [mk_bytesOf]
    have hH : Holds encStr w g 0 (ss.map bytesOf).toArray := holds_of_block hgb (by rw [henc, List.length_map]; simpa using r4)
    have hcon := AnyM.slices_Sort_string Tryz.sortF g 0 cap (ss.map bytesOf) w hH (Array.getElem?_eq_some_iff.1 hgb).1 (by rw [List.length_map]; omega)
    change Calls Tryz.prog 40 _ _ _ at hcon
    rw [List.length_map] at hcon
    refine hcon.mono ?_
    rintro e w' ⟨rfl, n, os, rfl⟩
    refine ⟨rfl, ?_, (Below.refl N w).grown (grownBy_sorted _) hN fun k e => by cases e; exact hg⟩
    have := ownsRow_sorted (w := w) (base := N) (n := n) (os := os) (ss := ss.map bytesOf) (ts := (ss.map bytesOf).mergeSort leB) (by simp) hg hgb (by rw [List.length_map]; exact r1) r2 r3
    rw [List.length_map] at this
    unfold OwnS
    rw [sortN_enc, sortN_length]
    exact this
/-- Does a key begin so? -/
def preB (pre k : ByteArray) : Bool := Lib.hasPrefix k.data.toList pre.data.toList
def mkB (x : List UInt8) : ByteArray := ⟨x.toArray⟩
theorem srcS_one (w : World) (k : ByteArray) (t : TypeId) : SrcS (w.alloc (.cells #[.string k] t)) (.slice (some ⟨w.heap.size, 0, none⟩) 1 1) [k] := by
  refine .inr ⟨w.heap.size, 1, rfl, fun j x hx => ?_⟩
  have hb : Blk (w.alloc (.cells #[.string k] t)) w.heap.size [.string k] := Blk.mk _ _ _ rfl rfl
  match j, hx with
  | 0, hx =>
    have hx : k = x := by simpa using hx
    rw [← hx]; exact hb.one rfl
/-- The keys that were seen, of those that begin so. -/
def seen (pre : ByteArray) (ss : List (List UInt8)) : List ByteArray := (ss.map mkB).filter (preB pre)
theorem seen_next (pre : ByteArray) (ss : List (List UInt8)) (x : List UInt8) : seen pre (ss ++ [x]) = if preB pre (mkB x) = true then seen pre ss ++ [mkB x] else seen pre ss := by
  unfold seen
  rw [List.map_append, List.filter_append]
  by_cases h : preB pre (mkB x) = true
  · rw [if_pos h]; simp [h]
  · rw [if_neg h]; simp [h]
theorem keys_perm {A : List (ByteArray × Pr)} {T : List Pr} (hT : Shows A T) (pre : ByteArray) {ss : List (List UInt8)} (h : ss.Perm (strKeys (prD A))) : sortN (seen pre ss) = (T.filter fun p => preB pre p.k).map Pr.k := by
  refine up_keys (hT.up.1.filter _) ?_
  have h1 : (ss.map mkB).Perm (T.map Pr.k) := by
    have e1 := (h.trans (prD_keys A)).map mkB
    rw [List.map_map] at e1
    have e2 : (A.map (mkB ∘ fun p => bytesOf p.1)) = (A.map Prod.snd).map Pr.k := by
      rw [List.map_map]
      refine List.map_congr_left fun q hq => ?_
      simp only [Function.comp]
      rw [hT.key q hq]
      exact mk_bytesOf _
    rw [e2] at e1
    exact e1.trans (hT.perm.map _).symm
  unfold seen
  have h2 := h1.filter (preB pre)
  have e : List.filter (preB pre) (T.map Pr.k) = (T.filter fun p => preB pre p.k).map Pr.k := by rw [List.filter_map]; rfl
  rw [e] at h2
  exact h2
set_option maxRecDepth 100000 in
set_option maxHeartbeats 4000000 in
theorem keys_any (s r : Nat) (la : Option Addr) (m : Int) (A : List (ByteArray × Pr)) (T : List Pr) (pre : ByteArray) (w : World) (h : Blk w s (stC la r m)) (hM : MapP w r A) (hT : Shows A T) (hs : ∀ p ∈ A, p.1.size ≤ 1000000) (hl : A.length ≤ 1000000) :
    Calls Tryz.prog 20 #[.pointer (some ⟨s, 0, none⟩), .string pre] w fun e w' => ∃ v, e = .returned v ∧ OwnS w' w.heap.size v ((T.filter fun p => preB pre p.k).map Pr.k) ∧ Below w.heap.size w w' := by
  have s1 : w.cell? ⟨s, 1, none⟩ = some (.map (some r)) := h.one rfl
  have hown := hM.owns (fun p hp => by have := hs p hp; unfold maxLen; omega) (by unfold maxLen; omega)
  have hsz := prD_size A
  have HT : Hid (Shows A T) := hT
  have HL : Hid (A.length ≤ 1000000) := hl
  have HOWN : Hid (w.ownsMap Tryz.prog 9 prR r A.length (prD A)) := hown
  have HRL : Hid (r < w.heap.size) := hM.lt
  have HPX : Hid (∀ (k : ByteArray) (w : World), Calls Tryz.prog 39 #[.string k, .string pre] w fun e w' => e = .returned (.bool (preB pre k)) ∧ w' = w) := fun k w => Any.strings_HasPrefix Tryz.prefixS k pre w
  clear h hM hT hs hl
  go_enter Tryz.func20, Tryz.ntmps20
  go_wp2_with (at_range; refine wpList_range_own _ rfl _ 59 rfl 9 48 (string_keyed Tryz.underlying9) Tryz.underlying59 _ r A.length _ rfl HOWN.out ?_; intro w0 hrg0 hg0 hs0)
  have HRG0 : Hid (w0.ranges Tryz.prog 9 prR r w.heap.size A.length (prD A) (has (prD A)) (size (prD A))) := hrg0
  have HB0 : Hid (Below w.heap.size w w0) := (Below.refl _ _).grown hg0 (Nat.le_refl _) (fun k e => by cases e)
  have HS0 : Hid (w.heap.size + 1 ≤ w0.heap.size) := show _ ≤ _ by omega
  clear hrg0 hg0 hs0 hown
  go_frame
  go_loopw [5] (fun kv wr => ∃ (left : Lit → Bool) (cnt : Nat) (ss : List (List UInt8)) (a : Option Addr) (n c : Nat), kv = .slice a n c ∧ Hid (wr.ranges Tryz.prog 9 prR r w.heap.size A.length (prD A) left cnt) ∧ ss.length + cnt ≤ A.length ∧ Hid (Collected (prD A) left ss) ∧ Hid (OwnS wr (w.heap.size + 1) (.slice a n c) (seen pre ss)) ∧ Hid (Below w.heap.size w wr) ∧ w.heap.size + 1 ≤ wr.heap.size)
    (fun _ wr => wr.rangeLeft r w.heap.size)
  case atStart => exact ⟨_, _, [], none, 0, 0, rfl, HRG0.out, by simp [hsz], Collected.start _, OwnS.nil _ _, HB0.out, HS0.out⟩
  case round =>
    obtain ⟨left, cnt, ss, a, n, c, rfl, HRG, hcs, HC, HO, HB, hws⟩ := hrel
    clear HRG0 HB0 HS0
    go_wp2_with (at_next; refine wpList_next_ranges _ rfl _ rfl 9 (string_keyed Tryz.underlying9) prR encStr prV (fun key kl hk => by obtain ⟨x, hx, _⟩ := Maps.keyOf_str Tryz.underlying9 hk; exact ⟨x, hx⟩) (fun v y hv => by obtain ⟨c, rfl, _⟩ := prR_inv hv; exact ⟨c, rfl⟩) r w.heap.size A.length _ _ _ rfl HRG.out ?_ ?_)
    · intro hc0 hl0
      have HPS : Hid (ss.Perm (strKeys (prD A))) := HC.out.perm HOWN.out (string_keyed Tryz.underlying9) Tryz.underlying9 hl0
      have HSL : Hid ((seen pre ss).length ≤ 1000000) := by
        show _ ≤ _
        unfold seen
        refine Nat.le_trans (List.length_filter_le _ _) ?_
        rw [List.length_map]
        have := HL.out
        omega
      have HSO : Hid (Calls Tryz.prog 40 #[.slice a n c] wr fun e w' => e = .returned (.tuple #[]) ∧ OwnS w' (w.heap.size + 1) (.slice a n c) (sortN (seen pre ss)) ∧ Below (w.heap.size + 1) wr w') := sortS_any _ _ _ _ HO.out HSL.out hws
      clear hl0 HO HRG HC
      go_wp2_with fail
      refine Calls.mono HSO.out ?_
      rintro e w3 ⟨rfl, ho3, hb3⟩
      rw [keys_perm HT.out pre HPS.out] at ho3
      have HE : Hid (OwnS w3 w.heap.size (.slice a n c) ((T.filter fun p => preB pre p.k).map Pr.k) ∧ Below w.heap.size w w3) := ⟨ho3.less (Nat.le_succ _), HB.out.trans (hb3.mono (Nat.le_succ _))⟩
      clear ho3 hb3 HSO HPS
      go_wp2_with fail
      go_ret
      exact ⟨.slice a n c, rfl, HE.out⟩
    · intro x cc kl yd yp w2 cnt2 hkey hlk hv hat hrg2 hlt hg2 hs2 hen
      obtain ⟨x', ex, rfl, _⟩ := Maps.keyOf_str Tryz.underlying9 hkey
      obtain rfl : x = x' := encStr_inj ex
      obtain ⟨kk, hkk⟩ : ∃ kk, kk = mkB x := ⟨_, rfl⟩
      have hex : encStr x = .string kk := by rw [hkk]; rfl
      have HKK : Hid (kk = mkB x) := hkk
      have HRG2 : Hid (w2.ranges Tryz.prog 9 prR r w.heap.size A.length (prD A) (fun z => left z && !z.sameKey (.string x)) cnt2) := hrg2
      have HC2 : Hid (Collected (prD A) (fun z => left z && !z.sameKey (.string x)) (ss ++ [x])) := HC.out.step hlk hat
      have HO2 : Hid (OwnS w2 (w.heap.size + 1) (.slice a n c) (seen pre ss)) := HO.out.same fun k e => hg2.block k (HO.out.lt k e).2 (fun e' => by injection e' with e'; have := (HO.out.lt k e).1; omega)
      have HB2 : Hid (Below w.heap.size w w2) := HB.out.grown hg2 HB.out.size fun k e => by injection e with e; omega
      have HLT : Hid (cnt2 < cnt ∧ wr.rangeLeft r w.heap.size = cnt) := ⟨hlt, HRG.out.left_eq⟩
      rw [hex] at hen ⊢
      have hws2 : w.heap.size + 1 ≤ w2.heap.size := by omega
      clear hkey hlk hv hat hrg2 hg2 hs2 HRG HC HO HB hex hkk ex hlt
      go_wp2_with fail
      refine Calls.mono (HPX.out kk _) ?_
      rintro e w3 ⟨rfl, rfl⟩
      have HSN : Hid (seen pre (ss ++ [x]) = if preB pre kk = true then seen pre ss ++ [kk] else seen pre ss) := show _ = _ by rw [HKK.out]; exact seen_next pre ss x
      have HSL : Hid ((seen pre ss).length ≤ 1000000) := by
        show _ ≤ _
        unfold seen
        refine Nat.le_trans (List.length_filter_le _ _) ?_
        rw [List.length_map]
        have := HL.out
        omega
      cases hpb : preB pre kk with
      | false =>
        rw [hpb] at HSN
        have HSN' : Hid (seen pre (ss ++ [x]) = seen pre ss) := HSN.out
        clear hen HSN
        go_wp2_with fail
        go_roundw
        case rel => exact ⟨_, cnt2, ss ++ [x], a, n, c, rfl, HRG2.out, by have := HLT.out; simp; omega, HC2.out, by rw [HSN'.out]; exact HO2.out, HB2.out, hws2⟩
        case measure => rw [HRG2.out.left_eq, HLT.out.2]; exact HLT.out.1
      | true =>
        rw [hpb] at HSN
        have HSN' : Hid (seen pre (ss ++ [x]) = seen pre ss ++ [kk]) := HSN.out
        clear hen HSN
        have HBA : Hid (Below w3.heap.size w3 (w3.alloc (.cells #[.string kk] 9))) := (Below.refl _ _).alloc (Nat.le_refl _) _
        go_wp2_with (at_builtin; refine wpList_append_s rfl _ _ rfl (w.heap.size + 1) (.slice a n c) (seen pre ss) rfl (HO2.out.below HBA.out) _ [kk] rfl (srcS_one _ _ _) (by have := HSL.out; simp; omega) (by simp; omega) ?_; intro v4 w4 HO4 HG4; obtain ⟨a4, c4, hv4⟩ := HO4.out.shape; subst hv4)
        have HRG4 : Hid (w4.ranges Tryz.prog 9 prR r w.heap.size A.length (prD A) (fun z => left z && !z.sameKey (.string x)) cnt2) := (HRG2.out.alloc _).kept HG4.out (fun e => by have := (HO2.out.lt _ e.symm).1; have := HRL.out; omega) (fun e => by have := (HO2.out.lt _ e.symm).1; omega)
        have HB4 : Hid (Below w.heap.size w w4) := (HB2.out.trans (HBA.out.mono HB2.out.size)).grown HG4.out (by have := HB2.out.size; simp; omega) fun k e => by have := (HO2.out.lt k e).1; omega
        have hws4 : w.heap.size + 1 ≤ w4.heap.size := by have := HG4.out.size; simp at this; omega
        clear HO2 HG4 HB2 HBA
        go_wp2_with fail
        go_roundw
        case rel => exact ⟨_, cnt2, ss ++ [x], a4, (seen pre ss).length + 1, c4, rfl, HRG4.out, by have := HLT.out; simp; omega, HC2.out, by have h := HO4.out; rw [List.length_append] at h; rw [HSN'.out]; exact h, HB4.out, hws4⟩
        case measure => rw [HRG4.out.left_eq, HLT.out.2]; exact HLT.out.1
end Go.Proofs.YtlapnnkahijikaaGreatDoor
