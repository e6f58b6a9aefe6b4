/- kv: byKey; a row of pairs, sorted. kv: slices.SortedFunc of a map's values; (*Store).All. -/
import Derived.Test.YtlapnnkahijikaaGreatDoorZK7
import Derived.Test.YtlapnnkahijikaaGreatDoorZF2
import Derived.Shelf.SlSortCmp.NoneTotal
namespace Go.Proofs.YtlapnnkahijikaaGreatDoor
open Go.ChangeShapes Go.WideShapes Go.ChangeAt Go.RowKit Go.Lib
open Go.Sort (flatK putRowK HoldsK mapBlock putRow putCells onCells heap_grow_old size_grow SWO SortedIn PermIn)

theorem Gr.grow {w w' : World} (h : Gr w.heap.size w w') : ∃ q os, w' = Go.Sort.grow (w.drewN q) os := by
  refine ⟨w'.drawn - w.drawn, w'.heap.extract w.heap.size w'.heap.size, ?_⟩
  have hh : w'.heap = w.heap ++ w'.heap.extract w.heap.size w'.heap.size := by
    apply Array.ext_getElem?
    intro k
    have hs := h.1.size
    rw [Array.getElem?_append]
    by_cases hk : k < w.heap.size
    · rw [if_pos hk]; exact h.1.block k hk
    · rw [if_neg hk, Array.getElem?_extract]
      by_cases hk' : k < w'.heap.size
      · rw [if_pos (by omega), show w.heap.size + (k - w.heap.size) = k by omega]
      · rw [if_neg (by omega), Array.getElem?_eq_none (by omega)]
  have hd : w.drawn + (w'.drawn - w.drawn) = w'.drawn := by have := h.2; omega
  cases w' with
  | mk heap tape drawn os output =>
    have e1 := h.1.os; have e2 := h.1.tape; have e3 := h.1.output
    simp only at e1 e2 e3 hh hd
    subst e1; subst e2; subst e3
    simp only [Go.Sort.grow, World.drewN, hd]
    rw [← hh]
def cmpP (p q : Pr) : Int := Lib.compareBytes p.k.data.toList q.k.data.toList
theorem cmp_lt : ∀ (a b : List UInt8), Lib.compareBytes a b < 0 ↔ a < b
  | [], [] => by simp [Lib.compareBytes]
  | [], _ :: _ => by simp [Lib.compareBytes]
  | _ :: _, [] => by simp [Lib.compareBytes]
  | x :: a, y :: b => by
    unfold Lib.compareBytes
    have ih := cmp_lt a b
    by_cases h1 : x < y
    · rw [if_pos h1, List.cons_lt_cons_iff]
      exact ⟨fun _ => .inl h1, fun _ => by decide⟩
    · rw [if_neg h1]
      by_cases h2 : y < x
      · rw [if_pos h2, List.cons_lt_cons_iff]
        refine ⟨fun h => absurd h (by decide), fun h => ?_⟩
        rcases h with h | ⟨h, _⟩
        · exact absurd h h1
        · exact absurd (h ▸ h2) (UInt8.lt_irrefl _)
      · rw [if_neg h2, List.cons_lt_cons_iff, ih]
        have e : x = y := UInt8.le_antisymm (UInt8.not_lt.1 h2) (UInt8.not_lt.1 h1)
        exact ⟨fun h => .inr ⟨e, h⟩, fun h => h.elim (fun h => absurd h h1) fun h => h.2⟩
theorem ltOf_cmpP (p q : Pr) : ltOf cmpP p q = klt p.k q.k := by
  unfold ltOf cmpP klt
  have := cmp_lt p.k.data.toList q.k.data.toList
  rw [Bool.eq_iff_iff]
  simp only [decide_eq_true_eq]
  exact this
theorem swo_cmpP : SWO (ltOf cmpP) where
  irrefl p := by rw [ltOf_cmpP]; exact klt_irrefl _
  trans p q r h k := by rw [ltOf_cmpP] at *; exact klt_trans h k
  ntrans p q r h k := by
    rw [ltOf_cmpP] at *
    unfold klt at *
    rw [decide_eq_false_iff_not] at *
    exact List.not_lt.2 (List.le_trans (List.not_lt.1 k) (List.not_lt.1 h))
set_option maxRecDepth 100000 in
set_option maxHeartbeats 2000000 in
theorem byKey_any (p q : Pr) (w : World) :
    Calls Tryz.prog 48 #[.agg p.cs.toArray, .agg q.cs.toArray] w fun e w' => e = .returned (.int .i64 (cmpP p q)) ∧ Gr w.heap.size w w' := by
  obtain ⟨pk, pv, pg⟩ := p
  obtain ⟨qk, qv, qg⟩ := q
  have HC : Hid (∀ w, Calls Tryz.prog 75 #[.string pk, .string qk] w fun e w' => e = .returned (.int .i64 (cmpP ⟨pk, pv, pg⟩ ⟨qk, qv, qg⟩)) ∧ w' = w) := fun w => Any.strings_Compare Tryz.compareS pk qk w
  generalize cmpP ⟨pk, pv, pg⟩ ⟨qk, qv, qg⟩ = z at *
  show Calls Tryz.prog 48 #[.agg #[.string pk, .string pv, .bool pg], .agg #[.string qk, .string qv, .bool qg]] w _
  go_enter Tryz.func48, Tryz.ntmps48
  go_wp2_with fail
  refine Calls.mono (HC.out _) ?_
  rintro e w1 ⟨rfl, rfl⟩
  go_wp2_with fail
  go_ret
  exact ⟨rfl, ((Below.refl _ _).alloc (Nat.le_refl _) _).alloc (by simp) _, Nat.le_refl _⟩
theorem cmpLays (blk off size : Nat) (w : World) : CmpLays Tryz.prog 48 #[] Pr.cs 3 cmpP blk off size w :=
  fun _ _ _ _ x y => (byKey_any x y _).mono fun _ _ ⟨he, hg⟩ => ⟨he, hg.grow⟩
theorem heap_mapBlock_same {w : World} {g : Nat} {c : Array Value} {t : TypeId} {fr : Nat × Nat} (h : w.heap[g]? = some (.cells c t fr)) (f : Array Value → Array Value) : (mapBlock w g f).heap[g]? = some (.cells (f c) t fr) := by
  simp [mapBlock, Array.getElem?_modify, h, onCells]
theorem heap_mapBlock_other {w : World} {g k : Nat} (h : k ≠ g) (f : Array Value → Array Value) : (mapBlock w g f).heap[k]? = w.heap[k]? := by
  have h' : ¬ g = k := fun e => h e.symm
  simp [mapBlock, Array.getElem?_modify, h']
theorem El.k_pr : El.k Pr = 3 := rfl
theorem flatK_flatE (d : Array Pr) : flatK Pr.cs 3 d = (flatE d.toList).toArray := by
  apply Array.toList_inj.1
  apply List.ext_getElem?
  intro t
  by_cases ht : t < d.size * 3
  · have e : (flatE d.toList)[t]? = (d.toList.getD (t / 3) default).cs[t % 3]? := by
      have := flatE_get d.toList (t / 3) (t % 3) (by rw [Array.length_toList]; omega) (Nat.mod_lt _ (by decide))
      rw [El.k_pr] at this
      have h3 : t / 3 * 3 + t % 3 = t := by omega
      rw [h3] at this
      exact this
    have hm : t % 3 < 3 := Nat.mod_lt _ (by omega)
    have hq : t / 3 < d.size := by omega
    have hc : (d[t / 3]!).cs.length = 3 := rfl
    have hd : d.toList.getD (t / 3) default = d[t / 3]! := by simp [List.getD_eq_getElem?_getD, hq]
    rw [e, hd]
    unfold flatK
    simp only [Array.toList_map, Array.toList_range, List.getElem?_map, List.getElem?_range ht, Option.map_some]
    rw [List.getElem?_eq_getElem (by omega), getElem!_pos _ _ (by omega)]
  · rw [List.getElem?_eq_none (by simp [flatK]; omega), List.getElem?_eq_none (by rw [flatE_length, El.k_pr, Array.length_toList]; omega)]
theorem putCells_take (F : List Value) (c : Array Value) (h : F.length ≤ c.size) : (putCells id 0 F.toArray c).toList.take F.length = F ∧ (putCells id 0 F.toArray c).size = c.size := by
  refine ⟨?_, by simp [putCells]⟩
  apply List.ext_getElem?
  intro t
  by_cases ht : t < F.length
  · rw [List.getElem?_take_of_lt ht]
    have hc : t < c.size := by omega
    simp [putCells, ht, hc]
  · rw [List.getElem?_eq_none (by rw [List.length_take]; omega), List.getElem?_eq_none (by omega)]
theorem OwnE.sorted {w : World} {N g n c m : Nat} {L : List Pr} {dk : Array Pr} {os : Array Obj} (h : OwnP w N (.slice (some ⟨g, 0, none⟩) n c) L) (hs : dk.size = L.length) :
    OwnP (sortWorldK Pr.cs 3 w g 0 m dk os) N (.slice (some ⟨g, 0, none⟩) n c) dk.toList ∧ w.grownBy (sortWorldK Pr.cs 3 w g 0 m dk os) (some g) := by
  have hz : ∀ f, (mapBlock (Go.Sort.ahead w m) g f).heap.size = w.heap.size := fun f => by simp [mapBlock, Go.Sort.ahead]
  refine ⟨⟨by rw [flatE_length], ?_⟩, ⟨rfl, rfl, rfl, ?_, fun k hk hne => ?_⟩⟩
  · rcases h.2 with ⟨e, _⟩ | ⟨g', cap, cur, hv, hN, hg, hnc, hcm, hcs, htake⟩
    · injection e with e1 _ _
      cases e1
    · injection hv with h1 h2 h3
      injection h1 with h1
      injection h1 with h1
      subst h1
      subst h3
      have hl := (Array.getElem?_eq_some_iff.1 hg).1
      have hfl : (flatE dk.toList).length = L.length * 3 := by rw [flatE_length, El.k_pr, Array.length_toList, hs]
      have hle : (flatE dk.toList).length ≤ cur.size := by
        rw [hfl, hcs, El.k_pr]
        exact Nat.mul_le_mul_right _ hnc
      have hp := putCells_take (flatE dk.toList) cur hle
      have hlen : dk.toList.length = L.length := by rw [Array.length_toList, hs]
      refine .inr ⟨g, c, putCells id 0 (flatE dk.toList).toArray cur, by rw [h2, hlen], hN, ?_, by rw [hlen]; exact hnc, hcm, by rw [hp.2]; exact hcs, ?_⟩
      · unfold sortWorldK putRowK putRow
        rw [heap_grow_old _ _ (by rw [hz]; exact hl), heap_mapBlock_same (w := Go.Sort.ahead w m) (c := cur) hg, flatK_flatE]
      · have := hp.1
        rw [hfl] at this
        rw [hlen]
        exact this
  · unfold sortWorldK putRowK putRow
    rw [size_grow, hz]; omega
  · unfold sortWorldK putRowK putRow
    rw [heap_grow_old _ _ (by rw [hz]; omega), heap_mapBlock_other (fun e => hne (by rw [e]))]; rfl
theorem OwnE.holds {w : World} {N g n c : Nat} {L : List Pr} (h : OwnP w N (.slice (some ⟨g, 0, none⟩) n c) L) : HoldsK Pr.cs 3 w g 0 L.toArray ∧ g < w.heap.size := by
  rcases h.2 with ⟨e, _⟩ | ⟨g', cap, cur, hv, hN, hg, hnc, hcm, hcs, htake⟩
  · injection e with e1 _ _
    cases e1
  · injection hv with h1 h2 h3
    injection h1 with h1
    injection h1 with h1
    subst h1
    have hb : Blk w g cur.toList := ⟨_, by simpa using hg⟩
    refine ⟨?_, hb.lt⟩
    intro j hj
    rw [flatK_flatE] at hj ⊢
    refine ⟨?_, hb.frozen _⟩
    simp only [List.size_toArray] at hj
    rw [Nat.zero_add, hb.cell, getElem!_pos _ j (by simpa using hj)]
    have hj2 : j < L.length * El.k Pr := by rw [flatE_length] at hj; exact hj
    rw [← List.getElem?_take_of_lt hj2, htake]
    simp
end Go.Proofs.YtlapnnkahijikaaGreatDoor
namespace Go.Proofs.YtlapnnkahijikaaGreatDoor
open Go.ChangeShapes Go.WideShapes Go.ChangeAt Go.RowKit Go.Lib
open Go.Sort (SortedIn PermIn)

theorem up_sorted {S T : List Pr} (hS : S.Pairwise fun p q => klt q.k p.k = false) (hT : Up T) (h : S.Perm T) : S = T := by
  have h1 : T.Pairwise fun p q => p.k ≠ q.k := hT.1.imp fun {a b} h => klt_ne h
  have h2 : S.Pairwise fun p q => p.k ≠ q.k := (h.pairwise_iff fun {x y} e => Ne.symm e).2 h1
  refine up_unique ?_ hT h
  exact (hS.and h2).imp fun {a b} ⟨e1, e2⟩ => klt_tri e1 (Ne.symm e2)
theorem pw_sorted {d : Array Pr} (h : SortedIn (ltOf cmpP) 0 d.size d) : d.toList.Pairwise fun p q => klt q.k p.k = false := by
  rw [List.pairwise_iff_getElem]
  intro i j hi hj hij
  have := h i j (Nat.zero_le _) hij (by simpa using hj)
  rw [ltOf_cmpP] at this
  simp at hi hj
  rw [getElem!_pos d i hi, getElem!_pos d j hj] at this
  simpa using this
theorem permIn_perm {d d' : Array Pr} (h : PermIn 0 d.size d d') : d'.toList.Perm d.toList := by
  have h3 := h.2.2
  have e1 : d'.extract 0 d.size = d' := by rw [← h.1]; simp
  have e2 : d.extract 0 d.size = d := by simp
  rw [e1, e2] at h3
  exact h3
theorem collect_any (B r : Nat) (A : List (ByteArray × Pr)) (w : World) (hB : w.cell? ⟨B, 0, none⟩ = some (.map (some r))) (hM : MapP w r A) (hs : ∀ p ∈ A, p.1.size ≤ 1000000) (hl : A.length ≤ 1000000) :
    Calls Tryz.prog 72 #[.func (.func 74) #[] #[.pointer (some ⟨B, 0, none⟩)]] w fun e w' => ∃ (v : Value) (ss : List Pr), e = .returned v ∧ ss.Perm (A.map Prod.snd) ∧ OwnP w' w.heap.size v ss ∧ Below w.heap.size w w' :=
  (callsIn_wide (n := 5)).1 (collect_in Fence.wide 5 trivial trivial rfl (by omega) _ _ trivial (enters_of Tryz.func74 (by kernel_rfl) rfl) _ A.length hl w
    (values_gives Fence.wide _ trivial rfl (by omega) B r A w (World.block_lt_of_cell? w _ hB) hB hM (fun p hp => by have := hs p hp; unfold maxLen; omega) (by unfold maxLen; omega)))
set_option maxRecDepth 100000 in
set_option maxHeartbeats 2000000 in
theorem values_any (m : Option Nat) (w : World) :
    Calls Tryz.prog 47 #[.map m] w fun e w' => e = .returned (.func (.func 74) #[] #[.pointer (some ⟨w.heap.size, 0, none⟩)]) ∧ w' = w.alloc (.cells #[.map m] 59) := by
  go_enter Tryz.func47, Tryz.ntmps47
  go_wp2_with fail
  go_ret
  exact ⟨rfl, rfl⟩
theorem sortFunc_any (v : Value) (L : List Pr) (N : Nat) (w : World) (h : OwnP w N v L) (hl : L.length ≤ 1000000) (hN : N ≤ w.heap.size) :
    Calls Tryz.prog 73 #[v, .func (.func 48) #[] #[]] w fun e w' => e = .returned (.tuple #[]) ∧ (∃ S : List Pr, S.Perm L ∧ (S.Pairwise fun p q => klt q.k p.k = false) ∧ OwnP w' N v S) ∧ Below N w w' := by
  have h0 := h
  rcases h0.2 with ⟨rfl, hz⟩ | ⟨g, cap, cur, rfl, hg, _⟩
  · have : L = [] := List.eq_nil_of_length_eq_zero hz
    subst this
    refine (AnyF.slices_SortFunc_none Tryz.sortPr none 0 _ w).mono ?_
    rintro e w' ⟨rfl, rfl⟩
    exact ⟨rfl, ⟨[], List.Perm.refl _, List.Pairwise.nil, h⟩, Below.refl _ _⟩
  · have hh := h.holds
    have hcon := AnyQ.slices_SortFunc Tryz.sortPr 3 Tryz.isAgg48 Tryz.sizeOf48 Pr.cs (fun _ => rfl) (fun x => El.mem (α := Pr) x) cmpP swo_cmpP 48 #[] g 0 cap L.toArray w (enters_of Tryz.func48 (by kernel_rfl) rfl) (cmpLays g 0 _ w) hh.1 hh.2 (by simp; omega)
    change Calls Tryz.prog 73 _ _ _ at hcon
    simp only [List.size_toArray] at hcon
    refine hcon.mono ?_
    rintro e w' ⟨rfl, d', m, os, hp, hst, rfl⟩
    have hsz : L.toArray.size = L.length := by simp
    have hp' : PermIn 0 L.toArray.size L.toArray d' := by rw [hsz]; exact hp
    have hd : d'.size = L.length := by rw [hp'.1, hsz]
    obtain ⟨s1, s2⟩ := h.sorted (m := m) (dk := d') (os := os) hd
    refine ⟨rfl, ⟨d'.toList, ?_, pw_sorted (by rw [hd]; exact hst), s1⟩, (Below.refl N w).grown s2 hN fun k e => by injection e with e; omega⟩
    have := permIn_perm hp'
    simpa using this
set_option maxRecDepth 100000 in
set_option maxHeartbeats 2000000 in
theorem sortedFunc_any (B r : Nat) (A : List (ByteArray × Pr)) (T : List Pr) (w : World) (hB : w.cell? ⟨B, 0, none⟩ = some (.map (some r))) (hM : MapP w r A) (hT : Shows A T) (hs : ∀ p ∈ A, p.1.size ≤ 1000000) (hl : A.length ≤ 1000000) :
    Calls Tryz.prog 46 #[.func (.func 74) #[] #[.pointer (some ⟨B, 0, none⟩)], .func (.func 48) #[] #[]] w fun e w' => ∃ v, e = .returned v ∧ OwnP w' w.heap.size v T ∧ Below w.heap.size w w' := by
  have HC : Hid _ := collect_any B r A w hB hM hs hl
  have HT : Hid (Shows A T) := hT
  have HL : Hid (A.length ≤ 1000000) := hl
  clear hB hM hT hs hl
  go_enter Tryz.func46, Tryz.ntmps46
  go_wp2_with fail
  refine Calls.mono HC.out ?_
  rintro e w1 ⟨v, ss, rfl, hp, ho, hb⟩
  obtain ⟨a, n, c, hv⟩ := ho.any
  subst hv
  have HP : Hid (ss.Perm (A.map Prod.snd)) := hp
  have HB : Hid (Below w.heap.size w w1) := hb
  have HS : Hid (Calls Tryz.prog 73 #[.slice a n c, .func (.func 48) #[] #[]] w1 fun e w' => e = .returned (.tuple #[]) ∧ (∃ S : List Pr, S.Perm ss ∧ (S.Pairwise fun p q => klt q.k p.k = false) ∧ OwnP w' w.heap.size (.slice a n c) S) ∧ Below w.heap.size w1 w') :=
    sortFunc_any _ ss _ w1 ho (by have := hp.length_eq; rw [List.length_map] at this; have := HL.out; omega) hb.size
  clear hp hb ho HC
  go_wp2_with fail
  refine Calls.mono HS.out ?_
  rintro e w2 ⟨rfl, ⟨S, h1, h2, h3⟩, hb2⟩
  have HE : Hid (OwnP w2 w.heap.size (.slice a n c) T ∧ Below w.heap.size w w2) := by
    have e : S = T := up_sorted h2 HT.out.up ((h1.trans HP.out).trans HT.out.perm.symm)
    rw [← e]
    exact ⟨h3, HB.out.trans hb2⟩
  clear h1 h2 h3 hb2 HS HP HB
  go_wp2_with fail
  go_ret
  exact ⟨.slice a n c, rfl, HE.out⟩
set_option maxRecDepth 100000 in
set_option maxHeartbeats 2000000 in
theorem all_any (s r : Nat) (la : Option Addr) (m : Int) (A : List (ByteArray × Pr)) (T : List Pr) (w : World) (h : Blk w s (stC la r m)) (hM : MapP w r A) (hT : Shows A T) (hs : ∀ p ∈ A, p.1.size ≤ 1000000) (hl : A.length ≤ 1000000) :
    Calls Tryz.prog 25 #[.pointer (some ⟨s, 0, none⟩)] w fun e w' => ∃ v, e = .returned v ∧ OwnP w' w.heap.size v T ∧ Below w.heap.size w w' := by
  have s1 : w.cell? ⟨s, 1, none⟩ = some (.map (some r)) := h.one rfl
  have HV : Hid (Calls Tryz.prog 47 #[.map (some r)] w fun e w' => e = .returned (.func (.func 74) #[] #[.pointer (some ⟨w.heap.size, 0, none⟩)]) ∧ w' = w.alloc (.cells #[.map (some r)] 59)) := values_any _ _
  have hb : Below w.heap.size w (w.alloc (.cells #[.map (some r)] 59)) := (Below.refl _ _).alloc (Nat.le_refl _) _
  have HSF := sortedFunc_any w.heap.size r A T (w.alloc (.cells #[.map (some r)] 59)) (by simp) (hM.below hb) hT hs hl
  have HS : Hid _ := HSF
  clear h hM hT hs hl hb HSF
  go_enter Tryz.func25, Tryz.ntmps25
  go_wp2_with fail
  refine Calls.mono HV.out ?_
  rintro e w1 ⟨rfl, rfl⟩
  go_wp2_with fail
  refine Calls.mono HS.out ?_
  rintro e w2 ⟨v, rfl, h1, h2⟩
  have H : Hid (OwnP w2 w.heap.size v T ∧ Below w.heap.size w w2) := ⟨ownsRow_base_a h1 (by simp), ((Below.refl _ w).alloc (Nat.le_refl _) _).trans (h2.mono (by simp))⟩
  clear h1 h2 HS HV
  go_wp2_with fail
  go_ret
  exact ⟨v, rfl, H.out⟩
set_option maxRecDepth 100000 in
theorem all_nil (w : World) :
    Calls Tryz.prog 25 #[.pointer none] w fun e w' => e = .returned (.slice none 0 0) ∧ w' = w := by
  go_enter Tryz.func25, Tryz.ntmps25
  go_wp2_with fail
  go_ret
  exact ⟨rfl, rfl⟩
end Go.Proofs.YtlapnnkahijikaaGreatDoor
