/- kv: tables in the order of their keys, and the map of a store. No program. kv.ask. kv: (*Store).set: a batch goes into a store's map. -/
import Derived.Test.YtlapnnkahijikaaGreatDoorZK1
import Derived.Test.YtlapnnkahijikaaGreatDoorZF5
import Derived.Test.YtlapnnkahijikaaGreatDoorZF3
namespace Go.Proofs.YtlapnnkahijikaaGreatDoor
open Go.ChangeShapes Go.WideShapes Go.ChangeAt Go.RowKit Go.Lib

theorem kb_inj {a b : ByteArray} (h : bytesOf a = bytesOf b) : a = b := by rw [← mk_bytesOf a, ← mk_bytesOf b, h]
/-- Is a key ahead of another one? -/
def klt (a b : ByteArray) : Bool := decide (bytesOf a < bytesOf b)
theorem klt_irrefl (a : ByteArray) : klt a a = false := by unfold klt; rw [decide_eq_false_iff_not]; exact List.lt_irrefl _
theorem klt_trans {a b c : ByteArray} (h : klt a b = true) (k : klt b c = true) : klt a c = true := by
  unfold klt at *
  rw [decide_eq_true_eq] at *
  exact List.lt_trans h k
theorem klt_asymm {a b : ByteArray} (h : klt a b = true) : klt b a = false := by
  cases e : klt b a with
  | false => rfl
  | true => have := klt_trans h e; rw [klt_irrefl] at this; cases this
theorem klt_tri {a b : ByteArray} (h : klt a b = false) (hn : a ≠ b) : klt b a = true := by
  unfold klt at *
  rw [decide_eq_false_iff_not] at h
  rw [decide_eq_true_eq]
  have h1 := List.not_lt.1 h
  exact Classical.byContradiction fun h2 => hn (kb_inj (List.le_antisymm (List.not_lt.1 h2) h1))
theorem klt_ne {a b : ByteArray} (h : klt a b = true) : a ≠ b := fun e => by rw [e, klt_irrefl] at h; cases h

/-- In order of keys, each key once, none gone. -/
def Up (T : List Pr) : Prop := T.Pairwise (fun p q => klt p.k q.k = true) ∧ ∀ p ∈ T, p.g = false
theorem Up.nil : Up [] := ⟨List.Pairwise.nil, fun _ h => by cases h⟩
theorem Up.tail {p : Pr} {T : List Pr} (h : Up (p :: T)) : Up T := ⟨(List.pairwise_cons.1 h.1).2, fun q hq => h.2 q (List.mem_cons_of_mem _ hq)⟩
theorem Up.head {p q : Pr} {T : List Pr} (h : Up (p :: T)) (hq : q ∈ T) : klt p.k q.k = true := (List.pairwise_cons.1 h.1).1 q hq
/-- A table behind a pair. -/
def tput (p : Pr) : List Pr → List Pr
  | [] => if p.g = true then [] else [p]
  | q :: T => if klt q.k p.k = true then q :: tput p T else if q.k = p.k then (if p.g = true then T else p :: T) else (if p.g = true then q :: T else p :: q :: T)
theorem mem_tput {p x : Pr} : ∀ {T : List Pr}, x ∈ tput p T → (x = p ∧ p.g = false) ∨ x ∈ T
  | [], h => by
    unfold tput at h
    split at h
    · cases h
    · rename_i hg
      simp only [List.mem_singleton] at h
      exact .inl ⟨h, by simpa using hg⟩
  | q :: T, h => by
    unfold tput at h
    split at h
    · rcases List.mem_cons.1 h with e | e
      · exact .inr (by rw [e]; exact List.mem_cons_self ..)
      · exact (mem_tput e).imp id fun e => List.mem_cons_of_mem _ e
    · split at h
      · split at h
        · exact .inr (List.mem_cons_of_mem _ h)
        · rename_i hg
          rcases List.mem_cons.1 h with e | e
          · exact .inl ⟨e, by simpa using hg⟩
          · exact .inr (List.mem_cons_of_mem _ e)
      · split at h
        · exact .inr h
        · rename_i hg
          rcases List.mem_cons.1 h with e | e
          · exact .inl ⟨e, by simpa using hg⟩
          · exact .inr e
theorem up_tput {p : Pr} : ∀ {T : List Pr}, Up T → Up (tput p T)
  | [], _ => by
    unfold tput
    split
    · exact Up.nil
    · rename_i hg
      exact ⟨List.pairwise_singleton _ _, fun q hq => by simp only [List.mem_singleton] at hq; rw [hq]; simpa using hg⟩
  | q :: T, h => by
    have hT := up_tput (p := p) h.tail
    have hq : q.g = false := h.2 q (List.mem_cons_self ..)
    unfold tput
    by_cases h1 : klt q.k p.k = true
    · rw [if_pos h1]
      refine ⟨List.pairwise_cons.2 ⟨fun x hx => ?_, hT.1⟩, fun x hx => ?_⟩
      · rcases mem_tput hx with ⟨e, _⟩ | e
        · rw [e]; exact h1
        · exact h.head e
      · rcases List.mem_cons.1 hx with e | e
        · rw [e]; exact hq
        · exact hT.2 x e
    · rw [if_neg h1]
      have h1' : klt q.k p.k = false := by simpa using h1
      by_cases h2 : q.k = p.k
      · rw [if_pos h2]
        by_cases hg : p.g = true
        · rw [if_pos hg]; exact h.tail
        · rw [if_neg hg]
          refine ⟨List.pairwise_cons.2 ⟨fun x hx => by rw [← h2]; exact h.head hx, h.tail.1⟩, fun x hx => ?_⟩
          rcases List.mem_cons.1 hx with e | e
          · rw [e]; simpa using hg
          · exact h.tail.2 x e
      · rw [if_neg h2]
        by_cases hg : p.g = true
        · rw [if_pos hg]; exact h
        · rw [if_neg hg]
          have h3 := klt_tri h1' h2
          refine ⟨List.pairwise_cons.2 ⟨fun x hx => ?_, h.1⟩, fun x hx => ?_⟩
          · rcases List.mem_cons.1 hx with e | e
            · rw [e]; exact h3
            · exact klt_trans h3 (h.head e)
          · rcases List.mem_cons.1 hx with e | e
            · rw [e]; simpa using hg
            · exact h.2 x e
theorem tput_length (p : Pr) : ∀ T : List Pr, (tput p T).length ≤ T.length + 1
  | [] => by unfold tput; split <;> simp
  | q :: T => by
    have := tput_length p T
    unfold tput
    split
    · simp only [List.length_cons]; omega
    · split <;> split <;> simp only [List.length_cons] <;> omega
/-- All but a key's. -/
def rem (k : ByteArray) (T : List Pr) : List Pr := T.filter fun q => decide (q.k ≠ k)
theorem rem_self {k : ByteArray} {T : List Pr} (h : ∀ q ∈ T, q.k ≠ k) : rem k T = T := List.filter_eq_self.2 fun q hq => by simpa using h q hq
theorem tput_perm {p : Pr} : ∀ {T : List Pr}, Up T → (tput p T).Perm ((if p.g = true then [] else [p]) ++ rem p.k T)
  | [], _ => by unfold tput rem; simp
  | q :: T, h => by
    have ih := tput_perm (p := p) h.tail
    unfold tput
    by_cases h1 : klt q.k p.k = true
    · rw [if_pos h1]
      have e : rem p.k (q :: T) = q :: rem p.k T := by unfold rem; rw [List.filter_cons_of_pos (by simpa using klt_ne h1)]
      rw [e]
      exact (ih.cons q).trans List.perm_middle.symm
    · rw [if_neg h1]
      have h1' : klt q.k p.k = false := by simpa using h1
      by_cases h2 : q.k = p.k
      · rw [if_pos h2]
        have e : rem p.k (q :: T) = T := by
          unfold rem
          rw [List.filter_cons_of_neg (by simpa using h2)]
          exact rem_self fun x hx => by rw [← h2]; exact (klt_ne (h.head hx)).symm
        rw [e]
        split <;> exact List.Perm.refl _
      · rw [if_neg h2]
        have h3 := klt_tri h1' h2
        have e : rem p.k (q :: T) = q :: T := rem_self fun x hx => by
          rcases List.mem_cons.1 hx with e | e
          · rw [e]; exact h2
          · exact (klt_ne (klt_trans h3 (h.head e))).symm
        rw [e]
        split <;> exact List.Perm.refl _

/-- The pairs of a store's map are these. -/
structure Shows (A : List (ByteArray × Pr)) (T : List Pr) : Prop where
  up : Up T
  key : ∀ q ∈ A, q.2.k = q.1
  perm : T.Perm (A.map Prod.snd)
theorem adel_rem {A : List (ByteArray × Pr)} {k : ByteArray} (hn : (A.map Prod.fst).Nodup) (hk : ∀ q ∈ A, q.2.k = q.1) : (adel k A).map Prod.snd = rem k (A.map Prod.snd) := by
  induction A with
  | nil => rfl
  | cons a A ih =>
    rw [List.map_cons, List.nodup_cons] at hn
    have ih := ih hn.2 fun q hq => hk q (List.mem_cons_of_mem _ hq)
    have ha := hk a (List.mem_cons_self ..)
    unfold adel
    rw [List.map_cons]
    by_cases h : k = a.1
    · rw [if_pos h]
      unfold rem
      rw [List.filter_cons_of_neg (by simp [ha, h])]
      refine (rem_self fun x hx => ?_).symm
      obtain ⟨q, hq, rfl⟩ := List.mem_map.1 hx
      rw [hk q (List.mem_cons_of_mem _ hq), h]
      exact fun e => hn.1 (by rw [← e]; exact List.mem_map.2 ⟨q, hq, rfl⟩)
    · rw [if_neg h, List.map_cons, ih]
      unfold rem
      rw [List.filter_cons_of_pos (by simpa [ha] using fun e => h e.symm)]
theorem aput_rem {A : List (ByteArray × Pr)} {k : ByteArray} {p : Pr} (hn : (A.map Prod.fst).Nodup) (hk : ∀ q ∈ A, q.2.k = q.1) : ((aput k p A).map Prod.snd).Perm (p :: rem k (A.map Prod.snd)) := by
  induction A with
  | nil => exact List.Perm.refl _
  | cons a A ih =>
    have hn0 := hn
    rw [List.map_cons, List.nodup_cons] at hn
    have ih := ih hn.2 fun q hq => hk q (List.mem_cons_of_mem _ hq)
    have ha := hk a (List.mem_cons_self ..)
    unfold aput
    by_cases h : k = a.1
    · rw [if_pos h, List.map_cons, List.map_cons]
      have := adel_rem (k := k) hn0 hk
      unfold adel at this
      rw [if_pos h, List.map_cons] at this
      rw [← this]
    · rw [if_neg h, List.map_cons, List.map_cons]
      have e : rem k (a.2 :: A.map Prod.snd) = a.2 :: rem k (A.map Prod.snd) := by
        unfold rem
        rw [List.filter_cons_of_pos (by simpa [ha] using fun e => h e.symm)]
      rw [e]
      exact (ih.cons a.2).trans (List.Perm.swap ..)
theorem aput_key {A : List (ByteArray × Pr)} {k : ByteArray} {p : Pr} (hk : ∀ q ∈ A, q.2.k = q.1) (hp : p.k = k) : ∀ q ∈ aput k p A, q.2.k = q.1 := fun q hq => by
  rcases mem_put hq with e | ⟨e, _⟩
  · rw [e]; exact hp
  · exact hk q e
/-- The map behind a pair. -/
def aset (p : Pr) (A : List (ByteArray × Pr)) : List (ByteArray × Pr) := if p.g = true then adel p.k A else aput p.k p A
theorem shows_set {A : List (ByteArray × Pr)} {T : List Pr} (h : Shows A T) (hn : (A.map Prod.fst).Nodup) (p : Pr) : Shows (aset p A) (tput p T) := by
  have hp := tput_perm (p := p) h.up
  have hr : (rem p.k T).Perm (rem p.k (A.map Prod.snd)) := h.perm.filter _
  unfold aset
  by_cases hg : p.g = true
  · rw [if_pos hg]
    rw [if_pos hg, List.nil_append] at hp
    exact ⟨up_tput h.up, fun q hq => h.key q ((adel_sub _ _).subset hq), (hp.trans hr).trans (by rw [adel_rem hn h.key])⟩
  · rw [if_neg hg]
    rw [if_neg hg, List.singleton_append] at hp
    exact ⟨up_tput h.up, aput_key h.key rfl, (hp.trans (hr.cons p)).trans (aput_rem hn h.key).symm⟩
theorem aset_nodup {A : List (ByteArray × Pr)} (hn : (A.map Prod.fst).Nodup) (p : Pr) : ((aset p A).map Prod.fst).Nodup := by
  unfold aset
  split
  · exact nodup_del hn
  · exact nodup_put hn
/-- Behind a batch; behind batches. -/
def tbat (T : List Pr) (b : List Pr) : List Pr := b.foldl (fun T p => tput p T) T
def abat (A : List (ByteArray × Pr)) (b : List Pr) : List (ByteArray × Pr) := b.foldl (fun A p => aset p A) A
def thist (H : List (List Pr)) : List Pr := H.foldl tbat []
theorem tbat_nil (T : List Pr) : tbat T [] = T := rfl
theorem tbat_next (T b : List Pr) (k : Nat) (h : k < b.length) : tbat T (b.take (k + 1)) = tput (b.getD k default) (tbat T (b.take k)) := by
  unfold tbat
  rw [List.take_add_one, List.foldl_append, List.getD_eq_getElem?_getD, List.getElem?_eq_getElem h]; rfl
theorem abat_next (A : List (ByteArray × Pr)) (b : List Pr) (k : Nat) (h : k < b.length) : abat A (b.take (k + 1)) = aset (b.getD k default) (abat A (b.take k)) := by
  unfold abat
  rw [List.take_add_one, List.foldl_append, List.getD_eq_getElem?_getD, List.getElem?_eq_getElem h]; rfl
theorem thist_snoc (H : List (List Pr)) (b : List Pr) : thist (H ++ [b]) = tbat (thist H) b := by unfold thist; rw [List.foldl_append]; rfl
theorem shows_bat {b : List Pr} : ∀ {A : List (ByteArray × Pr)} {T : List Pr}, Shows A T → (A.map Prod.fst).Nodup → Shows (abat A b) (tbat T b) ∧ ((abat A b).map Prod.fst).Nodup := by
  induction b with
  | nil => intro A T h hn; exact ⟨h, hn⟩
  | cons p b ih => intro A T h hn; exact ih (shows_set h hn p) (aset_nodup hn p)
theorem up_tbat {b : List Pr} : ∀ {T : List Pr}, Up T → Up (tbat T b) := by
  induction b with
  | nil => intro T h; exact h
  | cons p b ih => intro T h; exact ih (up_tput h)
theorem up_hist (H : List (List Pr)) : Up (thist H) := by
  have : ∀ (H : List (List Pr)) (T : List Pr), Up T → Up (H.foldl tbat T) := by
    intro H
    induction H with
    | nil => intro T h; exact h
    | cons b H ih => intro T h; exact ih _ (up_tbat h)
  exact this H [] Up.nil
theorem tbat_mem {b : List Pr} {x : Pr} : ∀ {T : List Pr}, x ∈ tbat T b → x ∈ T ∨ x ∈ b := by
  induction b with
  | nil => intro T h; exact .inl h
  | cons p b ih =>
    intro T h
    rcases ih h with h | h
    · rcases mem_tput h with ⟨e, _⟩ | e
      · exact .inr (by rw [e]; exact List.mem_cons_self ..)
      · exact .inl e
    · exact .inr (List.mem_cons_of_mem _ h)
theorem tbat_length {b : List Pr} : ∀ {T : List Pr}, (tbat T b).length ≤ T.length + b.length := by
  induction b with
  | nil => intro T; simp [tbat]
  | cons p b ih =>
    intro T
    have h1 := ih (T := tput p T)
    have h2 := tput_length p T
    show (tbat (tput p T) b).length ≤ _
    rw [List.length_cons]; omega
theorem tput_end {S : List Pr} {p : Pr} (h : Up (S ++ [p])) : tput p S = S ++ [p] := by
  induction S with
  | nil =>
    unfold tput
    have := h.2 p (by simp)
    rw [if_neg (by rw [this]; simp)]; rfl
  | cons q S ih =>
    unfold tput
    have h1 : klt q.k p.k = true := h.head (by simp)
    rw [if_pos h1, ih h.tail]; rfl
theorem Up.left {S R : List Pr} (h : Up (S ++ R)) : Up S := ⟨(List.pairwise_append.1 h.1).1, fun p hp => h.2 p (List.mem_append_left _ hp)⟩
theorem tbat_up {T : List Pr} (h : Up T) : tbat [] T = T := by
  have : ∀ k, k ≤ T.length → tbat [] (T.take k) = T.take k := by
    intro k
    induction k with
    | zero => intro _; simp [tbat]
    | succ k ih =>
      intro hk
      rw [tbat_next _ _ _ (by omega), ih (by omega)]
      have e : T.take (k + 1) = T.take k ++ [T.getD k default] := by
        rw [List.take_add_one, List.getD_eq_getElem?_getD, List.getElem?_eq_getElem (by omega)]; rfl
      rw [e]
      refine tput_end ?_
      rw [← e]
      have := h
      rw [← List.take_append_drop (k + 1) T] at this
      exact this.left
  have := this T.length (Nat.le_refl _)
  rwa [List.take_length] at this
/-- Two rows in order of keys that have the same pairs are one. -/
theorem up_unique {S T : List Pr} (hS : S.Pairwise fun p q => klt p.k q.k = true) (hT : Up T) (h : S.Perm T) : S = T :=
  h.eq_of_pairwise (le := fun p q => klt p.k q.k = true) (fun a b _ _ h1 h2 => by rw [klt_asymm h1] at h2; cases h2) hS hT.1
theorem up_keys {T : List Pr} (h : T.Pairwise fun p q => klt p.k q.k = true) {l : List ByteArray} (hp : l.Perm (T.map Pr.k)) : sortN l = T.map Pr.k := by
  unfold sortN
  have h1 : ((l.map bytesOf).mergeSort leB) = (T.map Pr.k).map bytesOf := by
    rw [Go.mergeSort_of_perm (hp.map bytesOf)]
    refine List.mergeSort_of_pairwise ?_
    rw [List.map_map, List.pairwise_map]
    refine h.imp fun {a b} hab => ?_
    unfold klt at hab
    rw [decide_eq_true_eq] at hab
    simp only [leB, decide_eq_true_eq, Function.comp]
    exact List.not_lt.1 fun e => List.lt_irrefl _ (List.lt_trans hab e)
  rw [h1, List.map_map]
  refine (List.map_congr_left fun k _ => ?_).trans (List.map_id _)
  exact mk_bytesOf k
end Go.Proofs.YtlapnnkahijikaaGreatDoor
namespace Go.Proofs.YtlapnnkahijikaaGreatDoor
open Go.ChangeShapes Go.WideShapes Go.ChangeAt Go.RowKit Go.Lib

theorem cell_below' {w w' : World} {p : Addr} {v : Value} (hb : Below w.heap.size w w') (h : w.cell? p = some v) : w'.cell? p = some v := by
  rw [World.cell?_of_block (hb.block _ (World.block_lt_of_cell? w p h))]; exact h
theorem bytes_zero {s : ByteArray} (h : s.size = 0) : s = ⟨#[]⟩ := by
  cases s with
  | mk d => exact congrArg ByteArray.mk (Array.eq_empty_of_size_eq_zero h)
theorem bytes_ne {s : ByteArray} (h : s.size ≠ 0) : s.toList.isEmpty = false := by
  cases e : s.toList.isEmpty with
  | false => rfl
  | true =>
    refine absurd ?_ h
    have := List.isEmpty_iff.1 e
    rw [ByteArray.toList_eq] at this
    show s.data.size = 0
    rw [← Array.length_toList, this]; rfl
theorem all_getD {l : List Pr} {f : Pr → Bool} (h : ∀ j, j < l.length → f (l.getD j default) = true) : l.all f = true := by
  rw [List.all_eq_true]
  intro x hx
  obtain ⟨j, hj, rfl⟩ := List.getElem_of_mem hx
  have := h j hj
  rwa [List.getD_eq_getElem?_getD, List.getElem?_eq_getElem hj] at this
set_option maxRecDepth 100000 in
set_option maxHeartbeats 2000000 in
theorem kask_any (a : Option Addr) (n cap : Nat) (l : List Pr) (w : World) (hl : Els w a n cap l) :
    Calls Tryz.prog 31 #[.slice a n cap] w fun e w' => e = .returned (.int .i64 (kask l)) ∧ Below w.heap.size w w' := by
  have HL : Hid (Els w a n cap l) := hl
  have HN : Hid (l.length = n) := hl.len
  have hn63 : n ≤ 9223372036854775807 := by have h1 := hl.fits; have h2 := hl.most; unfold maxLen at h2; omega
  have HE : Hid (kask l = if l.length = 0 then 1 else if l.all pArg = true then (if l.length ≤ 1000 then (if l.all pBig = true then 0 else 3) else 3) else 1) := show _ = _ from rfl
  clear hl
  generalize kask l = E at *
  go_enter Tryz.func31, Tryz.ntmps31
  go_wp2_with fail
  refine wp_scope_hops 1 ?_
  go_hide hQ
  by_cases h0 : n = 0
  · have e0 : (n : Int) = 0 := by omega
    have HE' : Hid (E = 1) := show _ = _ by rw [HE.out, if_pos (by rw [HN.out]; exact h0)]
    go_wp2_with fail
    go_step3
    simp only [Exit.then]
    subst hQ
    rw [hops_goto]
    refine ⟨_, rfl, ?_⟩
    go_hide hQ
    go_wp2_with fail
    subst hQ
    rw [hops_ret]
    go_ret
    exact ⟨ret_int HE'.out.symm, Below.refl _ _⟩
  · have e0 : ¬ (n : Int) = 0 := by omega
    have HP : Hid (0 < n) := show _ < _ by omega
    go_wp2_with fail
    go_loopw [13] (fun i wr => ∃ k : Nat, k ≤ n ∧ i = .int .i64 k ∧ Hid (Below w.heap.size w wr) ∧ Hid (∀ j, j < k → pArg (l.getD j default) = true)) (fun i _ => n - (intOf i).toNat)
    case atStart => exact ⟨0, by omega, rfl, Below.refl _ _, fun j hj => absurd hj (Nat.not_lt_zero _)⟩
    case round =>
      obtain ⟨k, hk, rfl, HB, HALL⟩ := hrel
      by_cases hlt : k < n
      · have e1 : (0 : Int) ≤ (k : Int) := by omega
        have e2 : (k : Int) < (n : Int) := by omega
        obtain ⟨b, o, rfl, c0, c1, c2⟩ := HL.out.pr hlt
        replace c0 := cell_below' HB.out c0
        replace c1 := cell_below' HB.out c1
        replace c2 := cell_below' HB.out c2
        have HPA : Hid (∀ p, p = l.getD k default → pArg p = false → E = 1) := fun p hp hf => by
          rw [HE.out, if_neg (by have := HN.out; have := HP.out; omega), if_neg]
          rw [Bool.not_eq_true, List.all_eq_false]
          refine ⟨p, ?_, by rw [hf]; simp⟩
          rw [hp, List.getD_eq_getElem?_getD, List.getElem?_eq_getElem (by rw [HN.out]; exact hlt)]
          exact List.getElem_mem _
        obtain ⟨p, hp⟩ : ∃ p, p = l.getD k default := ⟨_, rfl⟩
        rw [← hp] at c0 c1 c2
        have HPK : Hid (p = l.getD k default) := hp
        clear hp
        obtain ⟨pk, pv, pg⟩ := p
        have HSZ : Hid (pArg ⟨pk, pv, pg⟩ = (decide (1 ≤ pk.size) && decide (pk.size ≤ 100) && (!pg || decide (pv.size = 0)))) := show _ = _ from rfl
        by_cases hA : pk.size = 0
        · have HE' : Hid (E = 1) := HPA.out _ HPK.out (by rw [HSZ.out, hA]; rfl)
          have e3 : (pk.size : Int) = 0 := by omega
          go_wp2_with fail
          go_step3
          subst hQ
          refine show hops _ _ _ 1 (Exit.goto 0) _ _ from ?_
          rw [hops_goto]
          refine ⟨_, rfl, ?_⟩
          go_hide hQ
          go_wp2_with fail
          subst hQ
          rw [hops_ret]
          go_ret
          exact ⟨ret_int HE'.out.symm, HB.out.alloc HB.out.size _⟩
        · have e3 : ¬ (pk.size : Int) = 0 := by omega
          by_cases hB : pk.size ≤ 100
          · have e4 : ¬ (pk.size : Int) > 100 := by omega
            by_cases hv : pv.size = 0
            · have HT : Hid (pArg ⟨pk, pv, pg⟩ = true) := show _ = _ by rw [HSZ.out]; simp [hv, hB]; omega
              obtain rfl : pv = ⟨#[]⟩ := bytes_zero hv
              cases pg
              all_goals
                go_wp2_with fail
                go_roundw
                case rel =>
                  refine ⟨k + 1, by omega, by go_num, ?_, fun j hj => ?_⟩
                  · exact (HB.out.alloc HB.out.size _)
                  · by_cases e : j = k
                    · have h3 := HT.out; rw [HPK.out] at h3; rw [e]; simpa using h3
                    · exact HALL.out j (by omega)
                case measure => simp [intOf]; omega
            · have hvn : pv.toList.isEmpty = false := bytes_ne hv
              cases pg with
              | false =>
                have HT : Hid (pArg ⟨pk, pv, false⟩ = true) := show _ = _ by rw [HSZ.out]; simp [hB]; omega
                go_wp2_with fail
                go_roundw
                case rel =>
                  refine ⟨k + 1, by omega, by go_num, ?_, fun j hj => ?_⟩
                  · exact (HB.out.alloc HB.out.size _)
                  · by_cases e : j = k
                    · have h3 := HT.out; rw [HPK.out] at h3; rw [e]; simpa using h3
                    · exact HALL.out j (by omega)
                case measure => simp [intOf]; omega
              | true =>
                have HE' : Hid (E = 1) := HPA.out _ HPK.out (by rw [HSZ.out]; simp [hv])
                go_wp2_with fail
                go_step3
                subst hQ
                refine show hops _ _ _ 1 (Exit.goto 0) _ _ from ?_
                rw [hops_goto]
                refine ⟨_, rfl, ?_⟩
                go_hide hQ
                go_wp2_with fail
                subst hQ
                rw [hops_ret]
                go_ret
                exact ⟨ret_int HE'.out.symm, HB.out.alloc HB.out.size _⟩
          · have e4 : (pk.size : Int) > 100 := by omega
            have HE' : Hid (E = 1) := HPA.out _ HPK.out (by rw [HSZ.out]; simp [hB])
            go_wp2_with fail
            go_step3
            subst hQ
            refine show hops _ _ _ 1 (Exit.goto 0) _ _ from ?_
            rw [hops_goto]
            refine ⟨_, rfl, ?_⟩
            go_hide hQ
            go_wp2_with fail
            subst hQ
            rw [hops_ret]
            go_ret
            exact ⟨ret_int HE'.out.symm, HB.out.alloc HB.out.size _⟩
      · obtain rfl : k = n := by omega
        have e2 : ¬ (k : Int) < (k : Int) := by omega
        have HE2 : Hid (E = if k ≤ 1000 then (if l.all pBig = true then 0 else 3) else 3) := show _ = _ by
          rw [HE.out, if_neg (by have := HN.out; have := HP.out; omega), if_pos (all_getD fun j hj => HALL.out j (by rw [← HN.out]; exact hj)), HN.out]
        by_cases hbig : k ≤ 1000
        · have e3 : ¬ (k : Int) > 1000 := by omega
          go_wp2_with fail
          go_loopw [40] (fun i wx => ∃ q : Nat, q ≤ k ∧ i = .int .i64 q ∧ Hid (Below w.heap.size w wx) ∧ Hid (∀ j, j < q → pBig (l.getD j default) = true)) (fun i _ => k - (intOf i).toNat)
          case atStart => exact ⟨0, by omega, rfl, HB.out, fun j hj => absurd hj (Nat.not_lt_zero _)⟩
          case round =>
            obtain ⟨q, hq, rfl, HB2, HALL2⟩ := hrel
            by_cases hlt2 : q < k
            · have e5 : (0 : Int) ≤ (q : Int) := by omega
              have e6 : (q : Int) < (k : Int) := by omega
              obtain ⟨b, o, rfl, c0, c1, c2⟩ := HL.out.pr hlt2
              replace c0 := cell_below' HB2.out c0
              replace c1 := cell_below' HB2.out c1
              replace c2 := cell_below' HB2.out c2
              obtain ⟨p, hp⟩ : ∃ p, p = l.getD q default := ⟨_, rfl⟩
              rw [← hp] at c0 c1 c2
              have HPK : Hid (p = l.getD q default) := hp
              clear hp
              obtain ⟨pk, pv, pg⟩ := p
              by_cases hv : pv.size ≤ 131072
              · have e7 : ¬ (pv.size : Int) > 131072 := by omega
                go_wp2_with fail
                go_roundw
                case rel =>
                  refine ⟨q + 1, by omega, by go_num, ?_, fun j hj => ?_⟩
                  · exact (HB2.out.alloc HB2.out.size _)
                  · by_cases e : j = q
                    · have h3 : pBig ⟨pk, pv, pg⟩ = true := by simpa [pBig] using hv
                      rw [HPK.out] at h3; rw [e]; simpa using h3
                    · exact HALL2.out j (by omega)
                case measure => simp [intOf]; omega
              · have e7 : (pv.size : Int) > 131072 := by omega
                have HE' : Hid (E = 3) := show _ = _ by
                  rw [HE2.out, if_pos hbig, if_neg]
                  rw [Bool.not_eq_true, List.all_eq_false]
                  refine ⟨l.getD q default, ?_, by rw [← HPK.out]; simpa [pBig] using hv⟩
                  rw [List.getD_eq_getElem?_getD, List.getElem?_eq_getElem (by rw [HN.out]; exact hlt2)]
                  exact List.getElem_mem _
                go_wp2_with fail
                go_step3
                subst hQ
                refine show hops _ _ _ 1 (Exit.goto 0) _ _ from ?_
                rw [hops_goto]
                refine ⟨_, rfl, ?_⟩
                go_hide hQ
                go_wp2_with fail
                subst hQ
                rw [hops_ret]
                go_ret
                exact ⟨ret_int HE'.out.symm, HB2.out.alloc HB2.out.size _⟩
            · obtain rfl : q = k := by omega
              have e6 : ¬ (q : Int) < (q : Int) := by omega
              have HE' : Hid (E = 0) := show _ = _ by rw [HE2.out, if_pos hbig, if_pos (all_getD fun j hj => HALL2.out j (by rw [← HN.out]; exact hj))]
              go_wp2_with fail
              go_step3
              go_wp2_with fail
              subst hQ
              rw [hops_ret]
              go_ret
              exact ⟨ret_int HE'.out.symm, HB2.out⟩
        · have e3 : (k : Int) > 1000 := by omega
          have HE' : Hid (E = 3) := show _ = _ by rw [HE2.out, if_neg hbig]
          go_wp2_with fail
          go_step3
          simp only [Exit.then]
          subst hQ
          rw [hops_goto]
          refine ⟨_, rfl, ?_⟩
          go_hide hQ
          go_wp2_with fail
          subst hQ
          rw [hops_ret]
          go_ret
          exact ⟨ret_int HE'.out.symm, HB.out⟩
end Go.Proofs.YtlapnnkahijikaaGreatDoor
namespace Go.Proofs.YtlapnnkahijikaaGreatDoor
open Go.ChangeShapes Go.WideShapes Go.ChangeAt Go.RowKit Go.Lib

def prV (p : Pr) : Value := .agg #[.string p.k, .string p.v, .bool p.g]
/-- A store's cells. -/
def stC (la : Option Addr) (r : Nat) (n : Int) : List Value := [.pointer la, .map (some r), .int .i64 n]
/-- Block r is a store's map of these. -/
def MapP (w : World) (r : Nat) (A : List (ByteArray × Pr)) : Prop := MapS w r (A.map (onB prV))
section
variable {w w' : World} {r : Nat} {A : List (ByteArray × Pr)}
theorem MapP.lt (h : MapP w r A) : r < w.heap.size := MapS.lt h
theorem MapP.same (h : MapP w r A) (e : w'.heap[r]? = w.heap[r]?) : MapP w' r A := MapS.same h e
theorem MapP.below (h : MapP w r A) (hb : Below w.heap.size w w') : MapP w' r A := h.same (hb.block r h.lt)
theorem MapP.nodup (h : MapP w r A) : (A.map Prod.fst).Nodup := by
  have := MapS.nodup h
  rw [List.map_map] at this
  exact this
theorem MapP.cells (h : MapP w r A) (o : Nat) : w.cell? ⟨r, o, none⟩ = none := by
  obtain ⟨es, clk, h, _⟩ := h
  unfold World.cell?
  simp only [h]
theorem MapP.ne {o : Nat} {b : Nat} {v : Value} (h : MapP w r A) (hc : w.cell? ⟨b, o, none⟩ = some v) : b ≠ r := fun e => by
  rw [e, h.cells] at hc; cases hc
theorem MapP.ne_blk {b : Nat} {c : Value} {cs : List Value} (h : MapP w r A) (hb : Blk w b (c :: cs)) : b ≠ r := h.ne (o := 0) (hb.one rfl)
end
theorem Els.keep {w w' : World} {r n cap : Nat} {a : Option Addr} {l : List Pr} {A : List (ByteArray × Pr)} (h : Els w a n cap l) (hM : MapP w r A) (k : Keep r w w') : Els w' a n cap l :=
  h.later fun b o hn ha => by
    obtain ⟨b', o', ha', c0, _⟩ := h.pr hn
    rw [ha] at ha'
    injection ha' with ha'
    injection ha' with h1 h2
    subst h1
    exact k.block b (World.block_lt_of_cell? w _ c0) (hM.ne c0)
theorem map_aset (p : Pr) (A : List (ByteArray × Pr)) : (aset p A).map (onB prV) = if p.g = true then adel p.k (A.map (onB prV)) else aput p.k (prV p) (A.map (onB prV)) := by
  unfold aset
  split
  · rw [adel_map]
  · rw [aput_map]
set_option maxRecDepth 100000 in
set_option maxHeartbeats 4000000 in
theorem set_any (s r : Nat) (la : Option Addr) (m : Int) (A : List (ByteArray × Pr)) (a : Option Addr) (n cap : Nat) (l : List Pr) (w : World) (hs : Blk w s (stC la r m)) (hM : MapP w r A) (hl : Els w a n cap l) (hz : ∀ p ∈ l, p.k.size ≤ 1000000 ∧ p.v.size ≤ 1000000) :
    Calls Tryz.prog 30 #[.pointer (some ⟨s, 0, none⟩), .slice a n cap] w fun e w' => e = .returned (.tuple #[]) ∧ MapP w' r (abat A l) ∧ Keep r w w' := by
  have HMO : Hid (Tryz.prog.follows .mixedOrders = true) := show _ = _ by kernel_rfl
  have HN : Hid (l.length = n) := hl.len
  have HS : Hid (Blk w s (stC la r m)) := hs
  have HM : Hid (MapP w r A) := hM
  have HL : Hid (Els w a n cap l) := hl
  have HZ : Hid (∀ p ∈ l, p.k.size ≤ 1000000 ∧ p.v.size ≤ 1000000) := hz
  have hn63 : n ≤ 9223372036854775807 := by have h1 := hl.fits; have h2 := hl.most; unfold maxLen at h2; omega
  have hsr : s ≠ r := hM.ne_blk hs
  clear hs hM hl hz
  go_enter Tryz.func30, Tryz.ntmps30
  go_wp2_with fail
  go_loopw [9] (fun i wr => ∃ k : Nat, k ≤ n ∧ i = .int .i64 k ∧ Hid (MapP wr r (abat A (l.take k))) ∧ Hid (Keep r w wr)) (fun i _ => n - (intOf i).toNat)
  case atStart => exact ⟨0, by omega, rfl, by rw [List.take_zero]; exact HM.out, Keep.refl _ _⟩
  case round =>
    obtain ⟨k, hk, rfl, HMk, HKk⟩ := hrel
    by_cases hlt : k < n
    · have e1 : (0 : Int) ≤ (k : Int) := by omega
      have e2 : (k : Int) < (n : Int) := by omega
      have hlk : Els wr a n cap l := HL.out.keep HM.out HKk.out
      obtain ⟨b, o, rfl, c0, c1, c2⟩ := hlk.pr hlt
      have hzp := HZ.out (l.getD k default) (by rw [List.getD_eq_getElem?_getD, List.getElem?_eq_getElem (by rw [HN.out]; exact hlt)]; exact List.getElem_mem _)
      have HNX : Hid (abat A (l.take (k + 1)) = aset (l.getD k default) (abat A (l.take k))) := abat_next A l k (by rw [HN.out]; exact hlt)
      obtain ⟨p, hp⟩ : ∃ p, p = l.getD k default := ⟨_, rfl⟩
      rw [← hp] at c0 c1 c2 hzp HNX
      obtain ⟨pk, pv, pg⟩ := p
      have hz1 : pk.size ≤ 1000000 := hzp.1
      have hz2 : pv.size ≤ 1000000 := hzp.2
      clear hlk hp hzp
      generalize hAk : abat A (l.take k) = Ak at *
      go_upto_region 3 with fail
      generalize hw1 : World.alloc wr _ = w1
      have HP1 : Hid (Blk w1 wr.heap.size [.string pk, .string pv, .bool pg]) := by rw [← hw1]; exact Blk.mk _ _ _ rfl rfl
      have HB1 : Hid (Below wr.heap.size wr w1) := by rw [← hw1]; exact (Below.refl _ _).alloc (Nat.le_refl _) _
      have HM1 : Hid (MapP w1 r Ak) := HMk.out.below HB1.out
      have hsl := HS.out.lt
      have HS1 : Hid (Blk w1 s (stC la r m)) := (HS.out.keep HKk.out hsr).below HB1.out (by have := HKk.out.size; omega)
      have HK1 : Hid (Keep r w w1) := HKk.out.trans (Keep.of_below HB1.out)
      have hNr : wr.heap.size ≠ r := HM1.out.ne_blk HP1.out
      clear hw1 c0 c1 c2 HMk HKk HB1 hsl
      generalize wr.heap.size = N at *
      have p0 : w1.cell? ⟨N, 0, none⟩ = some (.string pk) := HP1.out.one rfl
      have p1 : w1.cell? ⟨N, 1, none⟩ = some (.string pv) := HP1.out.one rfl
      have p2 : w1.cell? ⟨N, 2, none⟩ = some (.bool pg) := HP1.out.one rfl
      have s1 : w1.cell? ⟨s, 1, none⟩ = some (.map (some r)) := HS1.out.one rfl
      cases pg with
      | true =>
        go_upto_region 4 with fail
        have q0 : w1.drew.cell? ⟨N, 0, none⟩ = some (.string pk) := p0
        have q1 : w1.drew.cell? ⟨s, 1, none⟩ = some (.map (some r)) := s1
        refine wp_region_tail 6 HMO.out (by kernel_rfl) ?_
        iterate 6 still_step
        refine wpStill_nil ?_
        have HM2 : Hid (MapP w1.drew r Ak) := HM1.out
        have HK2 : Hid (Keep r w w1.drew) := HK1.out.drew
        clear HM1 HK1 HP1 HS1 p0 p1 p2 s1 q0 q1
        generalize w1.drew = w2 at *
        refine (wpList_deleteS rfl _ _ _ rfl rfl Tryz.underlying9 Tryz.underlying59 _ HM2.out pk rfl rfl ?_)
        intro w3 HM3 HK3
        go_wp2_with fail
        go_roundw
        case rel =>
          refine ⟨k + 1, by omega, by go_num, ?_, HK2.out.trans HK3.out⟩
          show MapP _ _ _
          rw [HNX.out]
          unfold MapP
          rw [map_aset]
          exact HM3.out
        case measure => simp [intOf]; omega
      | false =>
        go_upto_region 5 with fail
        go_wp2_with fail
        refine (sclone_any pk _ hz1).mono ?_
        rintro e w2 ⟨rfl, hb2⟩
        have HB2 : Hid (Below w1.heap.size w1 w2) := hb2
        have HP2 : Hid (Blk w2 N [.string pk, .string pv, .bool false]) := HP1.out.below hb2 HP1.out.lt
        have HS2 : Hid (Blk w2 s (stC la r m)) := HS1.out.below hb2 HS1.out.lt
        have HM2 : Hid (MapP w2 r Ak) := HM1.out.below hb2
        have HK2 : Hid (Keep r w w2) := HK1.out.trans (Keep.of_below hb2)
        clear hb2 HB2 HP1 HS1 HM1 HK1 p0 p1 p2 s1
        go_upto_region 6 with fail
        refine wp_region_noPanic ?_
        refine wp_region_held_drew (S := fun w' => w'.cell? ⟨s, 1, none⟩ = some (.map (some r)) ∧ w'.cell? ⟨N, 1, none⟩ = some (.string pv)) HMO.out (⟨HS2.out.drew.one rfl, HP2.out.drew.one rfl⟩) (fun hHeld => ?_)
        refine wpAnyH_take (i := 0) (oi := { dst := some 24, op := .move (.tmp 0), type := 28, pos := "kv.go:137", after := #[], guard := none }) (v := ?_) rfl (by kernel_rfl) (by kernel_rfl) (by kernel_rfl) (fun _ _ _ h => h) (Or.inl ⟨by rfl, ?_⟩) (by assumption) ?_
        rotate_left
        · intro _ _; go_simp; first | done | with_reducible rfl
        simp only [Act.put, List.setIfInBounds_toArray, List.set_cons_zero, List.set_cons_succ]
        refine wpAnyH_take (i := 1) (oi := { dst := some 25, op := .nilCheck (.tmp 24), type := 0, pos := "kv.go:137", after := #[{ on := 0, ground := .data }], guard := none }) (v := ?_) rfl (by kernel_rfl) (by kernel_rfl) (by kernel_rfl) (fun _ _ _ h => h) (Or.inl ⟨by rfl, ?_⟩) (by assumption) ?_
        rotate_left
        · intro _ _; go_simp; first | done | with_reducible rfl
        simp only [Act.put, List.setIfInBounds_toArray, List.set_cons_zero, List.set_cons_succ]
        refine wpAnyH_take (i := 2) (oi := { dst := some 26, op := .fieldAddr 62 (.tmp 25) 1, type := 0, pos := "kv.go:137", after := #[{ on := 1, ground := .data }], guard := none }) (v := ?_) rfl (by kernel_rfl) (by kernel_rfl) (by kernel_rfl) (fun _ _ _ h => h) (Or.inl ⟨by rfl, ?_⟩) (by assumption) ?_
        rotate_left
        · intro _ _; go_simp; first | done | with_reducible rfl
        simp only [Act.put, List.setIfInBounds_toArray, List.set_cons_zero, List.set_cons_succ]
        refine wpAnyH_take (i := 3) (oi := { dst := some 27, op := .load 59 (.tmp 26), type := 59, pos := "kv.go:137", after := #[{ on := 2, ground := .data }], guard := none }) (v := .map (some r)) rfl (by kernel_rfl) (by kernel_rfl) (by kernel_rfl) (fun _ _ _ h => h) (Or.inl ⟨by rfl, ?_⟩) (by assumption) ?_
        · intro _ _; rename_i wz hz; have cz := hz.1; go_simp
        simp only [Act.put, List.setIfInBounds_toArray, List.set_cons_zero, List.set_cons_succ]
        refine wpAnyH_take (i := 4) (oi := { dst := some 28, op := .move (.tmp 6), type := 9, pos := "kv.go:137", after := #[], guard := none }) (v := ?_) rfl (by kernel_rfl) (by kernel_rfl) (by kernel_rfl) (fun _ _ _ h => h) (Or.inl ⟨by rfl, ?_⟩) (by assumption) ?_
        rotate_left
        · intro _ _; go_simp; first | done | with_reducible rfl
        simp only [Act.put, List.setIfInBounds_toArray, List.set_cons_zero, List.set_cons_succ]
        refine wpAnyH_take (i := 5) (oi := { dst := some 29, op := .move (.tmp 6), type := 9, pos := "kv.go:137", after := #[], guard := none }) (v := ?_) rfl (by kernel_rfl) (by kernel_rfl) (by kernel_rfl) (fun _ _ _ h => h) (Or.inl ⟨by rfl, ?_⟩) (by assumption) ?_
        rotate_left
        · intro _ _; go_simp; first | done | with_reducible rfl
        simp only [Act.put, List.setIfInBounds_toArray, List.set_cons_zero, List.set_cons_succ]
        refine wpAnyH_take (i := 6) (oi := { dst := some 30, op := .fieldAddr 48 (.tmp 5) 1, type := 0, pos := "kv.go:137", after := #[], guard := none }) (v := ?_) rfl (by kernel_rfl) (by kernel_rfl) (by kernel_rfl) (fun _ _ _ h => h) (Or.inl ⟨by rfl, ?_⟩) (by assumption) ?_
        rotate_left
        · intro _ _; go_simp; first | done | with_reducible rfl
        simp only [Act.put, List.setIfInBounds_toArray, List.set_cons_zero, List.set_cons_succ]
        refine wpAnyH_take (i := 7) (oi := { dst := some 31, op := .load 9 (.tmp 30), type := 9, pos := "kv.go:137", after := #[{ on := 6, ground := .data }], guard := none }) (v := .string pv) rfl (by kernel_rfl) (by kernel_rfl) (by kernel_rfl) (fun _ _ _ h => h) (Or.inl ⟨by rfl, ?_⟩) (by assumption) ?_
        · intro _ _; rename_i wz hz; have cz := hz.2; go_simp
        simp only [Act.put, List.setIfInBounds_toArray, List.set_cons_zero, List.set_cons_succ]
        refine wpAnyH_ready (rs := [8]) (by kernel_rfl) (by simp) ?_
        refine AllReadyH.cons (o := { dst := some 32, op := .call { callee := .value (.func 49), args := #[.tmp 31], argTypes := #[9] }, type := 9, pos := "kv.go:137", after := #[{ on := 7, ground := .data }], guard := none }) rfl (fun K hK => ?_) AllReadyH.nil
        go_simp
        refine (sclone_any pv _ hz2).mono ?_; rintro e w3 ⟨rfl, hb3⟩; have hb3' := below_undrew hb3; have HS3 : Hid (Blk w3 s (stC la r m)) := HS2.out.below hb3' HS2.out.lt; have HP3 : Hid (Blk w3 N [.string pk, .string pv, .bool false]) := HP2.out.below hb3' HP2.out.lt; have HM3 : Hid (MapP w3 r Ak) := HM2.out.below hb3'; have HK3 : Hid (Keep r w w3) := HK2.out.trans (Keep.of_below hb3'); clear hb3 hb3'
        go_simp
        refine hK.out _ _ (⟨HS3.out.one rfl, HP3.out.one rfl⟩) (fun hHeld => ?_)
        clear hK K
        refine wpAnyH_take (i := 9) (oi := { dst := some 33, op := .build 48 #[(0, .tmp 29), (1, .tmp 32)], type := 48, pos := "kv.go:137", after := #[{ on := 5, ground := .data }, { on := 8, ground := .data }], guard := none }) (v := ?_) rfl (by kernel_rfl) (by kernel_rfl) (by kernel_rfl) (fun _ _ _ h => h) (Or.inl ⟨by rfl, ?_⟩) (by assumption) ?_
        rotate_left
        · intro _ _; go_simp; first | done | with_reducible rfl
        simp only [Act.put, List.setIfInBounds_toArray, List.set_cons_zero, List.set_cons_succ]
        refine wpAnyH_ready (rs := [10]) (by kernel_rfl) (by simp) ?_
        refine AllReadyH.cons (o := { dst := none, op := .mapUpdate 59 (.tmp 27) (.tmp 28) (.tmp 33), type := 0, pos := "kv.go:137", after := #[{ on := 3, ground := .data }, { on := 4, ground := .data }, { on := 9, ground := .data }, { on := 8, ground := .chain }, { on := 0, ground := .phase }, { on := 1, ground := .phase }, { on := 2, ground := .phase }, { on := 3, ground := .phase }, { on := 4, ground := .phase }, { on := 5, ground := .phase }, { on := 6, ground := .phase }, { on := 7, ground := .phase }, { on := 8, ground := .phase }, { on := 9, ground := .phase }], guard := none }) rfl (fun K hK => ?_) AllReadyH.nil
        refine step_updateS rfl _ _ _ rfl Tryz.underlying9 Tryz.underlying59 _ HM3.out pk (.agg #[.string pk, .string pv, .bool false]) rfl rfl rfl ?_; intro w4 HM4 HK4; have HS4 : Hid (Blk w4 s (stC la r m)) := HS3.out.keep HK4.out hsr; have HP4 : Hid (Blk w4 N [.string pk, .string pv, .bool false]) := HP3.out.keep HK4.out hNr
        simp only [Act.put]
        refine hK.out _ _ (⟨HS4.out.one rfl, HP4.out.one rfl⟩) (fun hHeld => ?_)
        clear hK K
        refine wpAnyH_done (by kernel_rfl) ?_ _
        refine NoPanic.normal ?_
        clear hHeld
        go_wp2_with fail
        go_roundw
        case rel =>
          refine ⟨k + 1, by omega, by go_num, ?_, HK3.out.trans HK4.out⟩
          show MapP _ _ _
          rw [HNX.out]
          unfold MapP
          rw [map_aset]
          exact HM4.out
        case measure => simp [intOf]; omega
    · obtain rfl : k = n := by omega
      have e2 : ¬ (k : Int) < (k : Int) := by omega
      rw [List.take_of_length_le (by rw [HN.out]; exact Nat.le_refl _)] at HMk
      go_wp2_with fail
      go_end0
      exact ⟨rfl, HMk.out, HKk.out⟩
end Go.Proofs.YtlapnnkahijikaaGreatDoor
