/- Maps of the call's own, keyed by texts, with elements of any kind: lookup, store, delete. No program. -/
import Derived.Test.YtbbooldhfcldbaaKit2
import Derived.Maps.Own
namespace Go.Proofs.Ytbbooldhfcldbaa
open Go.RowKit Go.ChangeMaps

section
variable {β γ : Type}
def apos (s : ByteArray) : List (ByteArray × β) → Option Nat
  | [] => none
  | p :: l => if s = p.1 then some 0 else (apos s l).map (· + 1)
def alook (s : ByteArray) : List (ByteArray × β) → Option β
  | [] => none
  | p :: l => if s = p.1 then some p.2 else alook s l
def aput (s : ByteArray) (v : β) : List (ByteArray × β) → List (ByteArray × β)
  | [] => [(s, v)]
  | p :: l => if s = p.1 then (s, v) :: l else p :: aput s v l
def adel (s : ByteArray) : List (ByteArray × β) → List (ByteArray × β)
  | [] => []
  | p :: l => if s = p.1 then l else p :: adel s l
def onB (g : β → γ) (p : ByteArray × β) : ByteArray × γ := (p.1, g p.2)
theorem alook_map (g : β → γ) (s : ByteArray) (l : List (ByteArray × β)) : alook s (l.map (onB g)) = (alook s l).map g := by
  induction l with
  | nil => rfl
  | cons p l ih =>
    rw [List.map_cons]
    unfold alook
    rw [show (onB g p).1 = p.1 from rfl, show (onB g p).2 = g p.2 from rfl]
    split
    · rfl
    · exact ih
theorem aput_map (g : β → γ) (s : ByteArray) (v : β) (l : List (ByteArray × β)) : (aput s v l).map (onB g) = aput s (g v) (l.map (onB g)) := by
  induction l with
  | nil => rfl
  | cons p l ih =>
    rw [List.map_cons]
    unfold aput
    rw [show (onB g p).1 = p.1 from rfl]
    split
    · rfl
    · rw [List.map_cons, ih]
theorem adel_map (g : β → γ) (s : ByteArray) (l : List (ByteArray × β)) : (adel s l).map (onB g) = adel s (l.map (onB g)) := by
  induction l with
  | nil => rfl
  | cons p l ih =>
    rw [List.map_cons]
    unfold adel
    rw [show (onB g p).1 = p.1 from rfl]
    split
    · rfl
    · rw [List.map_cons, ih]
theorem apos_none {s : ByteArray} {l : List (ByteArray × β)} (h : apos s l = none) : alook s l = none ∧ (∀ v, aput s v l = l ++ [(s, v)]) ∧ adel s l = l ∧ s ∉ l.map Prod.fst := by
  induction l with
  | nil => exact ⟨rfl, fun _ => rfl, rfl, by simp⟩
  | cons p l ih =>
    unfold apos at h
    split at h
    · cases h
    · rename_i hp
      have h' : apos s l = none := by cases e : apos s l with | none => rfl | some j => rw [e] at h; cases h
      obtain ⟨h1, h2, h3, h4⟩ := ih h'
      refine ⟨by unfold alook; rw [if_neg hp]; exact h1, fun v => by unfold aput; rw [if_neg hp, h2]; rfl, by unfold adel; rw [if_neg hp, h3], ?_⟩
      rw [List.map_cons, List.mem_cons]
      rintro (e | e)
      · exact hp e
      · exact h4 e
theorem apos_some {s : ByteArray} {l : List (ByteArray × β)} {j : Nat} (h : apos s l = some j) : j < l.length ∧ (∃ u, alook s l = some u ∧ l[j]? = some (s, u)) ∧ (∀ v, aput s v l = l.set j (s, v)) ∧ adel s l = l.eraseIdx j := by
  induction l generalizing j with
  | nil => cases h
  | cons p l ih =>
    unfold apos at h
    split at h
    · rename_i hp
      injection h with h; subst h
      refine ⟨by simp, ⟨p.2, by unfold alook; rw [if_pos hp], by rw [hp]; rfl⟩, fun v => ?_, ?_⟩
      · unfold aput; rw [if_pos hp, List.set_cons_zero]
      · unfold adel; rw [if_pos hp]; rfl
    · rename_i hp
      cases e : apos s l with
      | none => rw [e] at h; cases h
      | some i =>
        rw [e] at h; injection h with h; subst h
        obtain ⟨h1, ⟨u, h2, h3⟩, h4, h5⟩ := ih e
        refine ⟨by simp; omega, ⟨u, by unfold alook; rw [if_neg hp]; exact h2, by simpa using h3⟩, fun v => ?_, ?_⟩
        · unfold aput; rw [if_neg hp, h4, List.set_cons_succ]
        · unfold adel; rw [if_neg hp, h5]; rfl
theorem alook_put (s t : ByteArray) (v : β) (l : List (ByteArray × β)) : alook t (aput s v l) = if t = s then some v else alook t l := by
  induction l with
  | nil => unfold aput alook; simp [alook]
  | cons p l ih =>
    unfold aput
    by_cases hs : s = p.1
    · rw [if_pos hs]
      unfold alook
      by_cases ht : t = s
      · simp [ht]
      · rw [if_neg ht, if_neg ht]
        rw [if_neg (by rw [← hs]; exact ht)]
    · rw [if_neg hs]
      unfold alook
      by_cases hp : t = p.1
      · rw [if_pos hp, if_pos hp, if_neg (by rw [hp]; exact fun e => hs e.symm)]
      · rw [if_neg hp, if_neg hp]; exact ih
theorem keys_put (s : ByteArray) (v : β) (l : List (ByteArray × β)) : (aput s v l).map Prod.fst = if apos s l = none then l.map Prod.fst ++ [s] else l.map Prod.fst := by
  cases h : apos s l with
  | none => rw [(apos_none h).2.1]; simp
  | some j =>
    obtain ⟨_, ⟨u, _, h3⟩, h4, _⟩ := apos_some h
    rw [h4, List.map_set]
    simp only [reduceCtorEq, if_false]
    apply List.ext_getElem?
    intro i
    rw [List.getElem?_set]
    split
    · rename_i e; subst e
      rw [List.getElem?_map, h3]
      have : j < (l.map Prod.fst).length := by rw [List.length_map]; exact (List.getElem?_eq_some_iff.1 h3).1
      rw [if_pos this]; rfl
    · rfl
theorem nodup_put {s : ByteArray} {v : β} {l : List (ByteArray × β)} (h : (l.map Prod.fst).Nodup) : ((aput s v l).map Prod.fst).Nodup := by
  rw [keys_put]
  split
  · rename_i e
    have := (apos_none e).2.2.2
    rw [List.nodup_append]
    refine ⟨h, by simp, fun a ha b hb => ?_⟩
    simp only [List.mem_singleton] at hb
    subst hb
    exact fun e => this (e ▸ ha)
  · exact h
theorem adel_sub (s : ByteArray) (l : List (ByteArray × β)) : (adel s l).Sublist l := by
  induction l with
  | nil => exact List.Sublist.refl _
  | cons p l ih =>
    unfold adel
    split
    · exact List.sublist_cons_self _ _
    · exact ih.cons_cons _
theorem nodup_del {s : ByteArray} {l : List (ByteArray × β)} (h : (l.map Prod.fst).Nodup) : ((adel s l).map Prod.fst).Nodup := h.sublist ((adel_sub s l).map _)
theorem alook_none_of_not_mem {s : ByteArray} {l : List (ByteArray × β)} (h : s ∉ l.map Prod.fst) : alook s l = none := by
  induction l with
  | nil => rfl
  | cons p l ih =>
    rw [List.map_cons, List.mem_cons] at h
    unfold alook
    rw [if_neg (fun e => h (.inl e))]
    exact ih fun e => h (.inr e)
theorem alook_del {s : ByteArray} {l : List (ByteArray × β)} (h : (l.map Prod.fst).Nodup) (t : ByteArray) : alook t (adel s l) = if t = s then none else alook t l := by
  induction l with
  | nil => unfold adel alook; simp
  | cons p l ih =>
    rw [List.map_cons, List.nodup_cons] at h
    unfold adel
    by_cases hs : s = p.1
    · rw [if_pos hs]
      by_cases ht : t = s
      · rw [if_pos ht, ht, hs]; exact alook_none_of_not_mem h.1
      · rw [if_neg ht]
        conv => rhs; unfold alook
        rw [if_neg (by rw [← hs]; exact ht)]
    · rw [if_neg hs]
      unfold alook
      by_cases hp : t = p.1
      · rw [if_pos hp, if_pos hp, if_neg (by rw [hp]; exact fun e => hs e.symm)]
      · rw [if_neg hp, if_neg hp]; exact ih h.2
theorem mem_of_alook {s : ByteArray} {v : β} {l : List (ByteArray × β)} (h : alook s l = some v) : (s, v) ∈ l := by
  induction l with
  | nil => cases h
  | cons p l ih =>
    unfold alook at h
    split at h
    · rename_i e; injection h with h; subst h; subst e; exact List.mem_cons_self ..
    · exact List.mem_cons_of_mem _ (ih h)
theorem alook_of_mem {s : ByteArray} {v : β} {l : List (ByteArray × β)} (hn : (l.map Prod.fst).Nodup) (h : (s, v) ∈ l) : alook s l = some v := by
  induction l with
  | nil => cases h
  | cons p l ih =>
    rw [List.map_cons, List.nodup_cons] at hn
    unfold alook
    rcases List.mem_cons.1 h with e | e
    · subst e; rw [if_pos rfl]
    · rw [if_neg fun e' => hn.1 (by rw [← e']; exact List.mem_map.2 ⟨_, e, rfl⟩)]
      exact ih hn.2 e
theorem mem_put {s : ByteArray} {v : β} {l : List (ByteArray × β)} {x : ByteArray × β} (h : x ∈ aput s v l) : x = (s, v) ∨ x ∈ l ∧ (apos s l ≠ none → (l.map Prod.fst).Nodup → x.1 ≠ s) := by
  induction l with
  | nil => left; simpa [aput] using h
  | cons p l ih =>
    unfold aput at h
    split at h
    · rename_i hs
      rcases List.mem_cons.1 h with e | e
      · exact .inl e
      · refine .inr ⟨List.mem_cons_of_mem _ e, fun _ hn => ?_⟩
        rw [List.map_cons, List.nodup_cons] at hn
        rw [hs]
        exact fun e' => hn.1 (by rw [← e']; exact List.mem_map.2 ⟨_, e, rfl⟩)
    · rename_i hs
      rcases List.mem_cons.1 h with e | e
      · refine .inr ⟨by rw [e]; exact List.mem_cons_self .., fun _ _ => by rw [e]; exact fun e' => hs e'.symm⟩
      · rcases ih e with e | ⟨e, e'⟩
        · exact .inl e
        · refine .inr ⟨List.mem_cons_of_mem _ e, fun hne hn => ?_⟩
          rw [List.map_cons, List.nodup_cons] at hn
          refine e' (fun h0 => hne ?_) hn.2
          unfold apos
          rw [if_neg hs, h0]; rfl
end

def entS (p : (ByteArray × Value) × Nat) : MapEntry := ⟨.string p.1.1, p.1.2, p.2⟩
/-- Block r is a map that holds these. -/
def MapS (w : World) (r : Nat) (l : List (ByteArray × Value)) : Prop :=
  ∃ (es : List ((ByteArray × Value) × Nat)) (clk : Nat), w.heap[r]? = some (.map (es.map entS).toArray clk) ∧ es.map Prod.fst = l ∧ (∀ x ∈ es, x.2 < clk) ∧ (es.map Prod.snd).Nodup ∧ (l.map Prod.fst).Nodup

section
variable {P : Program} {k mt et : TypeId} {w w' : World} {r : Nat} {l : List (ByteArray × Value)}
theorem MapS.lt (h : MapS w r l) : r < w.heap.size := by
  obtain ⟨es, clk, h, _⟩ := h
  exact (Array.getElem?_eq_some_iff.1 h).1
theorem MapS.nodup (h : MapS w r l) : (l.map Prod.fst).Nodup := by
  obtain ⟨es, clk, _, _, _, _, h⟩ := h; exact h
theorem MapS.same (h : MapS w r l) (e : w'.heap[r]? = w.heap[r]?) : MapS w' r l := by
  obtain ⟨es, clk, h, h'⟩ := h
  exact ⟨es, clk, by rw [e]; exact h, h'⟩
theorem MapS.drew (h : MapS w r l) : MapS w.drew r l := h
theorem MapS.new (w : World) : MapS (w.alloc (.map #[] 0)) w.heap.size [] :=
  ⟨[], 0, by rw [heap_alloc_new]; rfl, rfl, by simp, List.nodup_nil, List.nodup_nil⟩
theorem eraseIdx_map' {α δ : Type} (f : α → δ) : ∀ (l : List α) (j : Nat), (l.map f).eraseIdx j = (l.eraseIdx j).map f
  | [], _ => rfl
  | _ :: _, 0 => rfl
  | x :: l, j + 1 => by rw [List.map_cons, List.eraseIdx_cons_succ, List.eraseIdx_cons_succ, List.map_cons, eraseIdx_map' f l j]
theorem find_s (s : ByteArray) : ∀ (es : List ((ByteArray × Value) × Nat)) (i : Nat),
    Instr.findNow .string (.string s) (es.map entS) i = some ((apos s (es.map Prod.fst)).map fun j => (i + j, (alook s (es.map Prod.fst)).getD (.bool false))) := by
  intro es
  induction es with
  | nil => intro i; rfl
  | cons p es ih =>
    intro i
    rw [List.map_cons, List.map_cons]
    unfold Instr.findNow apos alook
    rw [show (entS p).key = .string p.1.1 from rfl, show Instr.sameNow .string (.string s) (.string p.1.1) = some (s == p.1.1) from rfl]
    by_cases h : s = p.1.1
    · rw [if_pos h, if_pos h, (MapKept.bytes_beq s p.1.1).2 h]; rfl
    · have hb : (s == p.1.1) = false := by
        cases e : (s == p.1.1) with
        | false => rfl
        | true => exact absurd ((MapKept.bytes_beq _ _).1 e) h
      rw [if_neg h, if_neg h, hb]
      simp only
      rw [ih (i + 1), Option.map_map]
      congr 1
      cases apos s (es.map Prod.fst) with
      | none => rfl
      | some j => simp only [Option.map_some, Function.comp]; rw [show i + 1 + j = i + (j + 1) by omega]
theorem findKey_s (hk : P.underlying k = some .string) (s : ByteArray) (es : List ((ByteArray × Value) × Nat)) (w : World) :
    (Instr.findKey k (.string s) (es.map entS)).run P w = .ok ((apos s (es.map Prod.fst)).map fun j => (j, (alook s (es.map Prod.fst)).getD (.bool false))) w := by
  unfold Instr.findKey
  rw [Sem.run_bind, run_underlying hk, Result.andThen_ok, find_s s es 0]
  simp
theorem run_lookS (hk : P.underlying k = some .string) (ht : P.underlying mt = some (.map k et)) (z : Value) (hz : ∀ w, (zeroValue et).run P w = .ok z w) (h : MapS w r l) (s : ByteArray) (c : Bool) :
    (Instr.lookup mt (.map (some r)) (.string s) c).run P w = .ok (if c then .tuple #[(alook s l).getD z, .bool (alook s l).isSome] else (alook s l).getD z) w := by
  obtain ⟨es, clk, h, rfl, _⟩ := h
  have hck : ∀ em, (Instr.checkKey em 10000 k (.string s)).run P w = .ok () w := fun em => MapKept.run_checkKey hk (by simp [MapKept.IsKey]) em 9999
  cases hp : apos s (es.map Prod.fst) with
  | none =>
    have h1 := (apos_none hp).1
    cases c <;> simp [Instr.lookup, run_underlying ht, MapKept.run_getObj_map h, hck, findKey_s hk s es w, hp, hz, h1, Result.andThen]
  | some j =>
    obtain ⟨_, ⟨u, h2, _⟩, _⟩ := apos_some hp
    cases c <;> simp [Instr.lookup, run_underlying ht, MapKept.run_getObj_map h, hck, findKey_s hk s es w, hp, h2, Result.andThen]
theorem run_lookNil (hk : P.underlying k = some .string) (ht : P.underlying mt = some (.map k et)) (z : Value) (hz : ∀ w, (zeroValue et).run P w = .ok z w) (s : ByteArray) (c : Bool) :
    (Instr.lookup mt (.map none) (.string s) c).run P w = .ok (if c then .tuple #[z, .bool false] else z) w := by
  have hck : ∀ em, (Instr.checkKey em 10000 k (.string s)).run P w = .ok () w := fun em => MapKept.run_checkKey hk (by simp [MapKept.IsKey]) em 9999
  have hf : (Instr.findKey k (.string s) []).run P w = .ok none w := by
    unfold Instr.findKey
    rw [Sem.run_bind, run_underlying hk, Result.andThen_ok]; rfl
  cases c <;> simp [Instr.lookup, run_underlying ht, hck, hf, hz, Result.andThen]
theorem keepS_setBlock (w : World) (r : Nat) (o : Obj) : Keep r w (setBlock w r o) :=
  ⟨rfl, rfl, rfl, by simp [setBlock], fun i _ hr => by
    simp [setBlock, Ne.symm hr]⟩
theorem stays_s (s : ByteArray) (w : World) : (Instr.keyThatStays (.string s) (.string s)).run P w = .ok (.string s) w := by
  unfold Instr.keyThatStays
  rw [if_pos (by simp [Instr.sameBits, MapKept.bytes_beq])]; rfl
theorem run_updateS (hk : P.underlying k = some .string) (ht : P.underlying mt = some (.map k et)) (h : MapS w r l) (s : ByteArray) (v : Value) :
    ∃ w', (Instr.mapUpdate mt (.map (some r)) (.string s) v).run P w = .ok () w' ∧ MapS w' r (aput s v l) ∧ Keep r w w' := by
  have hn := h.nodup
  have hlt := h.lt
  obtain ⟨es, clk, h, rfl, hb, hd, _⟩ := h
  have hck : ∀ em, (Instr.checkKey em 10000 k (.string s)).run P w = .ok () w := fun em => MapKept.run_checkKey hk (by simp [MapKept.IsKey]) em 9999
  cases hp : apos s (es.map Prod.fst) with
  | none =>
    have h2 := (apos_none hp).2.1 v
    refine ⟨setBlock w r (.map ((es ++ [((s, v), clk)]).map entS).toArray (clk + 1)), ?_, ⟨es ++ [((s, v), clk)], clk + 1, by simp [setBlock, hlt], by rw [h2, List.map_append]; rfl, ?_, ?_, nodup_put hn⟩, keepS_setBlock _ _ _⟩
    · simp [Instr.mapUpdate, run_underlying ht, MapKept.run_getObj_map h, hck, findKey_s hk s es w, hp, MapKept.run_setObj_map _ h, Result.andThen, setBlock, entS]
    · intro x hx
      rcases List.mem_append.1 hx with hx | hx
      · have := hb x hx; omega
      · simp only [List.mem_singleton] at hx; subst hx; simp
    · rw [List.map_append, List.nodup_append]
      refine ⟨hd, by simp, fun a ha b hb' => ?_⟩
      obtain ⟨x, hx, rfl⟩ := List.mem_map.1 ha
      simp only [List.map_cons, List.map_nil, List.mem_singleton] at hb'
      have := hb x hx
      omega
  | some j =>
    obtain ⟨hj, ⟨u, h2, h3⟩, h4, _⟩ := apos_some hp
    rw [List.length_map] at hj
    have he : es[j]? = some ((s, u), (es.getD j default).2) := by
      rw [List.getElem?_map, List.getElem?_eq_getElem hj] at h3
      rw [List.getD_eq_getElem?_getD, List.getElem?_eq_getElem hj]
      simp only [Option.map_some] at h3
      injection h3 with h3
      rw [← h3]; rfl
    generalize hbo : (es.getD j default).2 = bo at he
    have hg : (es.map entS).toArray[j]? = some (entS ((s, u), bo)) := by simp [he]
    have hm : (es.map entS).toArray.modify j (fun e => { e with key := .string s, val := v }) = ((es.set j ((s, v), bo)).map entS).toArray := by
      apply Array.ext_getElem?
      intro i
      rw [Array.getElem?_modify]
      simp only [List.getElem?_toArray, List.getElem?_map, List.getElem?_set]
      by_cases e : j = i
      · subst e
        rw [if_pos rfl, if_pos rfl, he, if_pos hj]; rfl
      · rw [if_neg e, if_neg e]
    refine ⟨setBlock w r (.map ((es.set j ((s, v), bo)).map entS).toArray clk), ?_, ⟨es.set j ((s, v), bo), clk, by simp [setBlock, hlt], by rw [h4, List.map_set], ?_, ?_, nodup_put hn⟩, keepS_setBlock _ _ _⟩
    · have hf := findKey_s hk s es w
      rw [hp] at hf
      rw [← hm]
      rw [show es.map entS = (es.map entS).toArray.toList from rfl] at hf
      generalize (es.map entS).toArray = A at h hg hf ⊢
      simp [Instr.mapUpdate, run_underlying ht, MapKept.run_getObj_map h, hck, hf, hg, show (entS ((s, u), bo)).key = .string s from rfl, stays_s s, MapKept.run_setObj_map _ h, Result.andThen, setBlock]
    · intro x hx
      rcases List.mem_or_eq_of_mem_set hx with hx | hx
      · exact hb x hx
      · subst hx
        exact hb ((s, u), bo) (List.mem_of_getElem? he)
    · rw [List.map_set]
      have : (es.map Prod.snd).set j bo = es.map Prod.snd := by
        apply List.ext_getElem?
        intro i
        rw [List.getElem?_set]
        split
        · rename_i e; subst e
          rw [List.getElem?_map, he, if_pos (by rw [List.length_map]; exact hj)]; rfl
        · rfl
      simp only
      rw [this]; exact hd
theorem run_deleteS (hk : P.underlying k = some .string) (ht : P.underlying mt = some (.map k et)) (kt ty : TypeId) (h : MapS w r l) (s : ByteArray) :
    ∃ w', (Builtin.delete_ #[mt, kt] ty #[.map (some r), .string s]).run P w = .ok (.tuple #[]) w' ∧ MapS w' r (adel s l) ∧ Keep r w w' := by
  have hn := h.nodup
  have hlt := h.lt
  obtain ⟨es, clk, h, rfl, hb, hd, _⟩ := h
  have hck : ∀ em, (Instr.checkKey em 10000 k (.string s)).run P w = .ok () w := fun em => MapKept.run_checkKey hk (by simp [MapKept.IsKey]) em 9999
  cases hp : apos s (es.map Prod.fst) with
  | none =>
    have h3 := (apos_none hp).2.2.1
    refine ⟨setBlock w r (.map (es.map entS).toArray clk), ?_, ⟨es, clk, by simp [setBlock, hlt], h3.symm, hb, hd, nodup_del hn⟩, keepS_setBlock _ _ _⟩
    simp [Builtin.delete_, run_underlying ht, MapKept.run_getObj_map h, hck, findKey_s hk s es w, hp, MapKept.run_setObj_map _ h, Result.andThen, setBlock]
  | some j =>
    obtain ⟨hj, ⟨u, h2, h3⟩, _, h5⟩ := apos_some hp
    rw [List.length_map] at hj
    have he : (es.map entS).toArray.eraseIdxIfInBounds j = ((es.eraseIdx j).map entS).toArray := by
      rw [List.eraseIdxIfInBounds_toArray, eraseIdx_map']
    refine ⟨setBlock w r (.map ((es.eraseIdx j).map entS).toArray clk), ?_, ⟨es.eraseIdx j, clk, by simp [setBlock, hlt], by rw [h5, eraseIdx_map'], fun x hx => hb x (List.mem_of_mem_eraseIdx hx), ?_, nodup_del hn⟩, keepS_setBlock _ _ _⟩
    · simp [Builtin.delete_, run_underlying ht, MapKept.run_getObj_map h, hck, findKey_s hk s es w, hp, MapKept.run_setObj_map _ h, Result.andThen, setBlock, ← he]
    · exact hd.sublist ((List.eraseIdx_sublist _ _).map _)

theorem wpList_lookS {ops : Array Oper} {rest : List Oper} {o : Oper} {a : Act} {Q : Exit → Act → World → Prop} (hg : o.guard = none) (m x : Operand) (c : Bool) (hop : o.op = Op.lookup mt m x c)
    (hk : P.underlying k = some .string) (ht : P.underlying mt = some (.map k et)) (z : Value) (hz : ∀ w, (zeroValue et).run P w = .ok z w) (l : List (ByteArray × Value)) (h : MapS w r l) (s : ByteArray)
    (hm : a.eval m = .map (some r)) (hx : a.eval x = .string s)
    (hK : wpList P ops Q rest (a.put o.dst (if c then .tuple #[(alook s l).getD z, .bool (alook s l).isSome] else (alook s l).getD z)) w) : wpList P ops Q (o :: rest) a w := by
  refine wpList_plain hg fun K' hK' => ?_
  unfold Oper.wp
  simp [execOp, hop, hm, hx, run_lookS hk ht z hz h s c, Result.andThen]
  exact hK' _ _ hK
theorem wpList_lookNil {ops : Array Oper} {rest : List Oper} {o : Oper} {a : Act} {Q : Exit → Act → World → Prop} (hg : o.guard = none) (m x : Operand) (c : Bool) (hop : o.op = Op.lookup mt m x c)
    (hk : P.underlying k = some .string) (ht : P.underlying mt = some (.map k et)) (z : Value) (hz : ∀ w, (zeroValue et).run P w = .ok z w) (s : ByteArray)
    (hm : a.eval m = .map none) (hx : a.eval x = .string s)
    (hK : wpList P ops Q rest (a.put o.dst (if c then .tuple #[z, .bool false] else z)) w) : wpList P ops Q (o :: rest) a w := by
  refine wpList_plain hg fun K' hK' => ?_
  unfold Oper.wp
  simp [execOp, hop, hm, hx, run_lookNil hk ht z hz s c, Result.andThen]
  exact hK' _ _ hK
theorem wpList_deleteS {ops : Array Oper} {rest : List Oper} {o : Oper} {a : Act} {Q : Exit → Act → World → Prop} (hg : o.guard = none) (m x : Operand) (kt : TypeId) (hop : o.op = .call { callee := .builtin .delete, args := #[m, x], argTypes := #[mt, kt] }) (hd : o.dst = none)
    (hk : P.underlying k = some .string) (ht : P.underlying mt = some (.map k et)) (l : List (ByteArray × Value)) (h : MapS w r l) (s : ByteArray)
    (hm : a.eval m = .map (some r)) (hx : a.eval x = .string s)
    (hK : ∀ w', Hid (MapS w' r (adel s l)) → Hid (Keep r w w') → wpList P ops Q rest a w') : wpList P ops Q (o :: rest) a w := by
  refine wpList_plain hg fun K' hK' => ?_
  obtain ⟨w', h1, h2, h3⟩ := run_deleteS hk ht kt o.type h s
  unfold Oper.wp execOp
  simp only [hop, resolve, invoke, builtin, Sem.run_bind, Sem.run_pure, Result.andThen_ok, List.map_toArray, List.map_cons, List.map_nil, hm, hx, h1]
  exact hK' _ _ (by rw [hd]; exact hK w' h2 h3)
theorem wpList_updateS {ops : Array Oper} {rest : List Oper} {o : Oper} {a : Act} {Q : Exit → Act → World → Prop} (hg : o.guard = none) (m x z : Operand) (hop : o.op = Op.mapUpdate mt m x z) (hd : o.dst = none)
    (hk : P.underlying k = some .string) (ht : P.underlying mt = some (.map k et)) (l : List (ByteArray × Value)) (h : MapS w r l) (s : ByteArray) (v : Value)
    (hm : a.eval m = .map (some r)) (hx : a.eval x = .string s) (hv : a.eval z = v)
    (hK : ∀ w', Hid (MapS w' r (aput s v l)) → Hid (Keep r w w') → wpList P ops Q rest a w') : wpList P ops Q (o :: rest) a w := by
  refine wpList_plain hg fun K' hK' => ?_
  obtain ⟨w', h1, h2, h3⟩ := run_updateS hk ht h s v
  unfold Oper.wp
  simp [execOp, hop, hm, hx, hv, h1, Result.andThen]
  exact hK' _ _ (by rw [hd]; exact hK w' h2 h3)
theorem step_updateS {ops : Array Oper} {o : Oper} {ac : Act} {K : Act → World → Prop} {Q : Exit → Act → World → Prop} {E : Prop} (hgd : o.guard = none) (m x z : Operand) (hop : o.op = Op.mapUpdate mt m x z)
    (hk : P.underlying k = some .string) (ht : P.underlying mt = some (.map k et)) (l : List (ByteArray × Value)) (h : MapS w r l) (s : ByteArray) (v : Value)
    (hm : ac.eval m = .map (some r)) (hx : ac.eval x = .string s) (hv : ac.eval z = v)
    (hK : ∀ w', Hid (MapS w' r (aput s v l)) → Hid (Keep r w w') → K (ac.put o.dst undef) w') : if Region.wanted o (yielded ops ac.tmps) = true then Oper.wp P o ac w K Q else E := by
  have hw : Region.wanted o (yielded ops ac.tmps) = true := by simp [Region.wanted, hgd]
  rw [if_pos hw]
  obtain ⟨w', h1, h2, h3⟩ := run_updateS hk ht h s v
  unfold Oper.wp
  simp [execOp, hop, hm, hx, hv, h1, Result.andThen]
  exact hK w' h2 h3
end
end Go.Proofs.Ytbbooldhfcldbaa
