/- Maps of the call's own, keyed by texts, with elements of any kind: lookup, store, delete. No program. Rows of bytes of the call's own that grow; bytes of texts; files in memory. No function is walked here. file: powered, find, New, Cut, Ops, Safe. -/
import Derived.Test.YtlapnnkahijikaaZS2
import Derived.Maps.Own
import Derived.Test.YtlapnnkahijikaaRows
import Derived.ProofKit
import Derived.OpenShut
import Derived.Handy
import Derived.WalkSpells
import Derived.WalkLawsBesides
import Derived.Deep.QuietTactic
import Derived.BigQuiet
import Derived.Deep.RegionHeld3
import Derived.Deep.CutBlock
import Derived.Laws.ResultCell
import Derived.Test.YtlapnnkahijikaaZQ1
import Derived.Lib.AppendStr
import Derived.Lib.ConvBytes
import Derived.Laws.AppendOwnNone
namespace Go.Proofs.Ytlapnnkahijikaa
open Go.RowKit Go.ChangeMaps

section
variable {β γ : Type}
def apos (s : ByteArray) : List (ByteArray × β) → Option Nat
  | [] => none
  | p :: l => if s = p.1 then some 0 else (apos s l).map (· + 1)
def alook (s : ByteArray) : List (ByteArray × β) → Option β
  | [] => none
  | p :: l => if s = p.1 then some p.2 else alook s l
def aput (s : ByteArray) (v : β) : List (ByteArray × β) → List (ByteArray × β)
  | [] => [(s, v)]
  | p :: l => if s = p.1 then (s, v) :: l else p :: aput s v l
def adel (s : ByteArray) : List (ByteArray × β) → List (ByteArray × β)
  | [] => []
  | p :: l => if s = p.1 then l else p :: adel s l
def onB (g : β → γ) (p : ByteArray × β) : ByteArray × γ := (p.1, g p.2)
theorem alook_map (g : β → γ) (s : ByteArray) (l : List (ByteArray × β)) : alook s (l.map (onB g)) = (alook s l).map g := by
  induction l with
  | nil => rfl
  | cons p l ih =>
    rw [List.map_cons]
    unfold alook
    rw [show (onB g p).1 = p.1 from rfl, show (onB g p).2 = g p.2 from rfl]
    split
    · rfl
    · exact ih
theorem aput_map (g : β → γ) (s : ByteArray) (v : β) (l : List (ByteArray × β)) : (aput s v l).map (onB g) = aput s (g v) (l.map (onB g)) := by
  induction l with
  | nil => rfl
  | cons p l ih =>
    rw [List.map_cons]
    unfold aput
    rw [show (onB g p).1 = p.1 from rfl]
    split
    · rfl
    · rw [List.map_cons, ih]
theorem adel_map (g : β → γ) (s : ByteArray) (l : List (ByteArray × β)) : (adel s l).map (onB g) = adel s (l.map (onB g)) := by
  induction l with
  | nil => rfl
  | cons p l ih =>
    rw [List.map_cons]
    unfold adel
    rw [show (onB g p).1 = p.1 from rfl]
    split
    · rfl
    · rw [List.map_cons, ih]
theorem apos_none {s : ByteArray} {l : List (ByteArray × β)} (h : apos s l = none) : alook s l = none ∧ (∀ v, aput s v l = l ++ [(s, v)]) ∧ adel s l = l ∧ s ∉ l.map Prod.fst := by
  induction l with
  | nil => exact ⟨rfl, fun _ => rfl, rfl, by simp⟩
  | cons p l ih =>
    unfold apos at h
    split at h
    · cases h
    · rename_i hp
      have h' : apos s l = none := by cases e : apos s l with | none => rfl | some j => rw [e] at h; cases h
      obtain ⟨h1, h2, h3, h4⟩ := ih h'
      refine ⟨by unfold alook; rw [if_neg hp]; exact h1, fun v => by unfold aput; rw [if_neg hp, h2]; rfl, by unfold adel; rw [if_neg hp, h3], ?_⟩
      rw [List.map_cons, List.mem_cons]
      rintro (e | e)
      · exact hp e
      · exact h4 e
theorem apos_some {s : ByteArray} {l : List (ByteArray × β)} {j : Nat} (h : apos s l = some j) : j < l.length ∧ (∃ u, alook s l = some u ∧ l[j]? = some (s, u)) ∧ (∀ v, aput s v l = l.set j (s, v)) ∧ adel s l = l.eraseIdx j := by
  induction l generalizing j with
  | nil => cases h
  | cons p l ih =>
    unfold apos at h
    split at h
    · rename_i hp
      injection h with h; subst h
      refine ⟨by simp, ⟨p.2, by unfold alook; rw [if_pos hp], by rw [hp]; rfl⟩, fun v => ?_, ?_⟩
      · unfold aput; rw [if_pos hp, List.set_cons_zero]
      · unfold adel; rw [if_pos hp]; rfl
    · rename_i hp
      cases e : apos s l with
      | none => rw [e] at h; cases h
      | some i =>
        rw [e] at h; injection h with h; subst h
        obtain ⟨h1, ⟨u, h2, h3⟩, h4, h5⟩ := ih e
        refine ⟨by simp; omega, ⟨u, by unfold alook; rw [if_neg hp]; exact h2, by simpa using h3⟩, fun v => ?_, ?_⟩
        · unfold aput; rw [if_neg hp, h4, List.set_cons_succ]
        · unfold adel; rw [if_neg hp, h5]; rfl
theorem alook_put (s t : ByteArray) (v : β) (l : List (ByteArray × β)) : alook t (aput s v l) = if t = s then some v else alook t l := by
  induction l with
  | nil => unfold aput alook; simp [alook]
  | cons p l ih =>
    unfold aput
    by_cases hs : s = p.1
    · rw [if_pos hs]
      unfold alook
      by_cases ht : t = s
      · simp [ht]
      · rw [if_neg ht, if_neg ht]
        rw [if_neg (by rw [← hs]; exact ht)]
    · rw [if_neg hs]
      unfold alook
      by_cases hp : t = p.1
      · rw [if_pos hp, if_pos hp, if_neg (by rw [hp]; exact fun e => hs e.symm)]
      · rw [if_neg hp, if_neg hp]; exact ih
theorem keys_put (s : ByteArray) (v : β) (l : List (ByteArray × β)) : (aput s v l).map Prod.fst = if apos s l = none then l.map Prod.fst ++ [s] else l.map Prod.fst := by
  cases h : apos s l with
  | none => rw [(apos_none h).2.1]; simp
  | some j =>
    obtain ⟨_, ⟨u, _, h3⟩, h4, _⟩ := apos_some h
    rw [h4, List.map_set]
    simp only [reduceCtorEq, if_false]
    apply List.ext_getElem?
    intro i
    rw [List.getElem?_set]
    split
    · rename_i e; subst e
      rw [List.getElem?_map, h3]
      have : j < (l.map Prod.fst).length := by rw [List.length_map]; exact (List.getElem?_eq_some_iff.1 h3).1
      rw [if_pos this]; rfl
    · rfl
theorem nodup_put {s : ByteArray} {v : β} {l : List (ByteArray × β)} (h : (l.map Prod.fst).Nodup) : ((aput s v l).map Prod.fst).Nodup := by
  rw [keys_put]
  split
  · rename_i e
    have := (apos_none e).2.2.2
    rw [List.nodup_append]
    refine ⟨h, by simp, fun a ha b hb => ?_⟩
    simp only [List.mem_singleton] at hb
    subst hb
    exact fun e => this (e ▸ ha)
  · exact h
theorem adel_sub (s : ByteArray) (l : List (ByteArray × β)) : (adel s l).Sublist l := by
  induction l with
  | nil => exact List.Sublist.refl _
  | cons p l ih =>
    unfold adel
    split
    · exact List.sublist_cons_self _ _
    · exact ih.cons_cons _
theorem nodup_del {s : ByteArray} {l : List (ByteArray × β)} (h : (l.map Prod.fst).Nodup) : ((adel s l).map Prod.fst).Nodup := h.sublist ((adel_sub s l).map _)
theorem alook_none_of_not_mem {s : ByteArray} {l : List (ByteArray × β)} (h : s ∉ l.map Prod.fst) : alook s l = none := by
  induction l with
  | nil => rfl
  | cons p l ih =>
    rw [List.map_cons, List.mem_cons] at h
    unfold alook
    rw [if_neg (fun e => h (.inl e))]
    exact ih fun e => h (.inr e)
theorem alook_del {s : ByteArray} {l : List (ByteArray × β)} (h : (l.map Prod.fst).Nodup) (t : ByteArray) : alook t (adel s l) = if t = s then none else alook t l := by
  induction l with
  | nil => unfold adel alook; simp
  | cons p l ih =>
    rw [List.map_cons, List.nodup_cons] at h
    unfold adel
    by_cases hs : s = p.1
    · rw [if_pos hs]
      by_cases ht : t = s
      · rw [if_pos ht, ht, hs]; exact alook_none_of_not_mem h.1
      · rw [if_neg ht]
        conv => rhs; unfold alook
        rw [if_neg (by rw [← hs]; exact ht)]
    · rw [if_neg hs]
      unfold alook
      by_cases hp : t = p.1
      · rw [if_pos hp, if_pos hp, if_neg (by rw [hp]; exact fun e => hs e.symm)]
      · rw [if_neg hp, if_neg hp]; exact ih h.2
theorem mem_of_alook {s : ByteArray} {v : β} {l : List (ByteArray × β)} (h : alook s l = some v) : (s, v) ∈ l := by
  induction l with
  | nil => cases h
  | cons p l ih =>
    unfold alook at h
    split at h
    · rename_i e; injection h with h; subst h; subst e; exact List.mem_cons_self ..
    · exact List.mem_cons_of_mem _ (ih h)
theorem alook_of_mem {s : ByteArray} {v : β} {l : List (ByteArray × β)} (hn : (l.map Prod.fst).Nodup) (h : (s, v) ∈ l) : alook s l = some v := by
  induction l with
  | nil => cases h
  | cons p l ih =>
    rw [List.map_cons, List.nodup_cons] at hn
    unfold alook
    rcases List.mem_cons.1 h with e | e
    · subst e; rw [if_pos rfl]
    · rw [if_neg fun e' => hn.1 (by rw [← e']; exact List.mem_map.2 ⟨_, e, rfl⟩)]
      exact ih hn.2 e
theorem mem_put {s : ByteArray} {v : β} {l : List (ByteArray × β)} {x : ByteArray × β} (h : x ∈ aput s v l) : x = (s, v) ∨ x ∈ l ∧ (apos s l ≠ none → (l.map Prod.fst).Nodup → x.1 ≠ s) := by
  induction l with
  | nil => left; simpa [aput] using h
  | cons p l ih =>
    unfold aput at h
    split at h
    · rename_i hs
      rcases List.mem_cons.1 h with e | e
      · exact .inl e
      · refine .inr ⟨List.mem_cons_of_mem _ e, fun _ hn => ?_⟩
        rw [List.map_cons, List.nodup_cons] at hn
        rw [hs]
        exact fun e' => hn.1 (by rw [← e']; exact List.mem_map.2 ⟨_, e, rfl⟩)
    · rename_i hs
      rcases List.mem_cons.1 h with e | e
      · refine .inr ⟨by rw [e]; exact List.mem_cons_self .., fun _ _ => by rw [e]; exact fun e' => hs e'.symm⟩
      · rcases ih e with e | ⟨e, e'⟩
        · exact .inl e
        · refine .inr ⟨List.mem_cons_of_mem _ e, fun hne hn => ?_⟩
          rw [List.map_cons, List.nodup_cons] at hn
          refine e' (fun h0 => hne ?_) hn.2
          unfold apos
          rw [if_neg hs, h0]; rfl
end

def entS (p : (ByteArray × Value) × Nat) : MapEntry := ⟨.string p.1.1, p.1.2, p.2⟩
/-- Block r is a map that holds these. -/
def MapS (w : World) (r : Nat) (l : List (ByteArray × Value)) : Prop :=
  ∃ (es : List ((ByteArray × Value) × Nat)) (clk : Nat), w.heap[r]? = some (.map (es.map entS).toArray clk) ∧ es.map Prod.fst = l ∧ (∀ x ∈ es, x.2 < clk) ∧ (es.map Prod.snd).Nodup ∧ (l.map Prod.fst).Nodup

section
variable {P : Program} {k mt et : TypeId} {w w' : World} {r : Nat} {l : List (ByteArray × Value)}
theorem MapS.lt (h : MapS w r l) : r < w.heap.size := by
  obtain ⟨es, clk, h, _⟩ := h
  exact (Array.getElem?_eq_some_iff.1 h).1
theorem MapS.nodup (h : MapS w r l) : (l.map Prod.fst).Nodup := by
  obtain ⟨es, clk, _, _, _, _, h⟩ := h; exact h
theorem MapS.same (h : MapS w r l) (e : w'.heap[r]? = w.heap[r]?) : MapS w' r l := by
  obtain ⟨es, clk, h, h'⟩ := h
  exact ⟨es, clk, by rw [e]; exact h, h'⟩
theorem MapS.drew (h : MapS w r l) : MapS w.drew r l := h
theorem MapS.new (w : World) : MapS (w.alloc (.map #[] 0)) w.heap.size [] :=
  ⟨[], 0, by rw [heap_alloc_new]; rfl, rfl, by simp, List.nodup_nil, List.nodup_nil⟩
theorem eraseIdx_map' {α δ : Type} (f : α → δ) : ∀ (l : List α) (j : Nat), (l.map f).eraseIdx j = (l.eraseIdx j).map f
  | [], _ => rfl
  | _ :: _, 0 => rfl
  | x :: l, j + 1 => by rw [List.map_cons, List.eraseIdx_cons_succ, List.eraseIdx_cons_succ, List.map_cons, eraseIdx_map' f l j]
theorem find_s (s : ByteArray) : ∀ (es : List ((ByteArray × Value) × Nat)) (i : Nat),
    Instr.findNow .string (.string s) (es.map entS) i = some ((apos s (es.map Prod.fst)).map fun j => (i + j, (alook s (es.map Prod.fst)).getD (.bool false))) := by
  intro es
  induction es with
  | nil => intro i; rfl
  | cons p es ih =>
    intro i
    rw [List.map_cons, List.map_cons]
    unfold Instr.findNow apos alook
    rw [show (entS p).key = .string p.1.1 from rfl, show Instr.sameNow .string (.string s) (.string p.1.1) = some (s == p.1.1) from rfl]
    by_cases h : s = p.1.1
    · rw [if_pos h, if_pos h, (MapKept.bytes_beq s p.1.1).2 h]; rfl
    · have hb : (s == p.1.1) = false := by
        cases e : (s == p.1.1) with
        | false => rfl
        | true => exact absurd ((MapKept.bytes_beq _ _).1 e) h
      rw [if_neg h, if_neg h, hb]
      simp only
      rw [ih (i + 1), Option.map_map]
      congr 1
      cases apos s (es.map Prod.fst) with
      | none => rfl
      | some j => simp only [Option.map_some, Function.comp]; rw [show i + 1 + j = i + (j + 1) by omega]
theorem findKey_s (hk : P.underlying k = some .string) (s : ByteArray) (es : List ((ByteArray × Value) × Nat)) (w : World) :
    (Instr.findKey k (.string s) (es.map entS)).run P w = .ok ((apos s (es.map Prod.fst)).map fun j => (j, (alook s (es.map Prod.fst)).getD (.bool false))) w := by
  unfold Instr.findKey
  rw [Sem.run_bind, run_underlying hk, Result.andThen_ok, find_s s es 0]
  simp
theorem run_lookS (hk : P.underlying k = some .string) (ht : P.underlying mt = some (.map k et)) (z : Value) (hz : ∀ w, (zeroValue et).run P w = .ok z w) (h : MapS w r l) (s : ByteArray) (c : Bool) :
    (Instr.lookup mt (.map (some r)) (.string s) c).run P w = .ok (if c then .tuple #[(alook s l).getD z, .bool (alook s l).isSome] else (alook s l).getD z) w := by
  obtain ⟨es, clk, h, rfl, _⟩ := h
  have hck : ∀ em, (Instr.checkKey em 10000 k (.string s)).run P w = .ok () w := fun em => MapKept.run_checkKey hk (by simp [MapKept.IsKey]) em 9999
  cases hp : apos s (es.map Prod.fst) with
  | none =>
    have h1 := (apos_none hp).1
    cases c <;> simp [Instr.lookup, run_underlying ht, MapKept.run_getObj_map h, hck, findKey_s hk s es w, hp, hz, h1, Result.andThen]
  | some j =>
    obtain ⟨_, ⟨u, h2, _⟩, _⟩ := apos_some hp
    cases c <;> simp [Instr.lookup, run_underlying ht, MapKept.run_getObj_map h, hck, findKey_s hk s es w, hp, h2, Result.andThen]
theorem run_lookNil (hk : P.underlying k = some .string) (ht : P.underlying mt = some (.map k et)) (z : Value) (hz : ∀ w, (zeroValue et).run P w = .ok z w) (s : ByteArray) (c : Bool) :
    (Instr.lookup mt (.map none) (.string s) c).run P w = .ok (if c then .tuple #[z, .bool false] else z) w := by
  have hck : ∀ em, (Instr.checkKey em 10000 k (.string s)).run P w = .ok () w := fun em => MapKept.run_checkKey hk (by simp [MapKept.IsKey]) em 9999
  have hf : (Instr.findKey k (.string s) []).run P w = .ok none w := by
    unfold Instr.findKey
    rw [Sem.run_bind, run_underlying hk, Result.andThen_ok]; rfl
  cases c <;> simp [Instr.lookup, run_underlying ht, hck, hf, hz, Result.andThen]
theorem keepS_setBlock (w : World) (r : Nat) (o : Obj) : Keep r w (setBlock w r o) :=
  ⟨rfl, rfl, rfl, by simp [setBlock], fun i _ hr => by
    simp [setBlock, Ne.symm hr]⟩
theorem stays_s (s : ByteArray) (w : World) : (Instr.keyThatStays (.string s) (.string s)).run P w = .ok (.string s) w := by
  unfold Instr.keyThatStays
  rw [if_pos (by simp [Instr.sameBits, MapKept.bytes_beq])]; rfl
theorem run_updateS (hk : P.underlying k = some .string) (ht : P.underlying mt = some (.map k et)) (h : MapS w r l) (s : ByteArray) (v : Value) :
    ∃ w', (Instr.mapUpdate mt (.map (some r)) (.string s) v).run P w = .ok () w' ∧ MapS w' r (aput s v l) ∧ Keep r w w' := by
  have hn := h.nodup
  have hlt := h.lt
  obtain ⟨es, clk, h, rfl, hb, hd, _⟩ := h
  have hck : ∀ em, (Instr.checkKey em 10000 k (.string s)).run P w = .ok () w := fun em => MapKept.run_checkKey hk (by simp [MapKept.IsKey]) em 9999
  cases hp : apos s (es.map Prod.fst) with
  | none =>
    have h2 := (apos_none hp).2.1 v
    refine ⟨setBlock w r (.map ((es ++ [((s, v), clk)]).map entS).toArray (clk + 1)), ?_, ⟨es ++ [((s, v), clk)], clk + 1, by simp [setBlock, hlt], by rw [h2, List.map_append]; rfl, ?_, ?_, nodup_put hn⟩, keepS_setBlock _ _ _⟩
    · simp [Instr.mapUpdate, run_underlying ht, MapKept.run_getObj_map h, hck, findKey_s hk s es w, hp, MapKept.run_setObj_map _ h, Result.andThen, setBlock, entS]
    · intro x hx
      rcases List.mem_append.1 hx with hx | hx
      · have := hb x hx; omega
      · simp only [List.mem_singleton] at hx; subst hx; simp
    · rw [List.map_append, List.nodup_append]
      refine ⟨hd, by simp, fun a ha b hb' => ?_⟩
      obtain ⟨x, hx, rfl⟩ := List.mem_map.1 ha
      simp only [List.map_cons, List.map_nil, List.mem_singleton] at hb'
      have := hb x hx
      omega
  | some j =>
    obtain ⟨hj, ⟨u, h2, h3⟩, h4, _⟩ := apos_some hp
    rw [List.length_map] at hj
    have he : es[j]? = some ((s, u), (es.getD j default).2) := by
      rw [List.getElem?_map, List.getElem?_eq_getElem hj] at h3
      rw [List.getD_eq_getElem?_getD, List.getElem?_eq_getElem hj]
      simp only [Option.map_some] at h3
      injection h3 with h3
      rw [← h3]; rfl
    generalize hbo : (es.getD j default).2 = bo at he
    have hg : (es.map entS).toArray[j]? = some (entS ((s, u), bo)) := by simp [he]
    have hm : (es.map entS).toArray.modify j (fun e => { e with key := .string s, val := v }) = ((es.set j ((s, v), bo)).map entS).toArray := by
      apply Array.ext_getElem?
      intro i
      rw [Array.getElem?_modify]
      simp only [List.getElem?_toArray, List.getElem?_map, List.getElem?_set]
      by_cases e : j = i
      · subst e
        rw [if_pos rfl, if_pos rfl, he, if_pos hj]; rfl
      · rw [if_neg e, if_neg e]
    refine ⟨setBlock w r (.map ((es.set j ((s, v), bo)).map entS).toArray clk), ?_, ⟨es.set j ((s, v), bo), clk, by simp [setBlock, hlt], by rw [h4, List.map_set], ?_, ?_, nodup_put hn⟩, keepS_setBlock _ _ _⟩
    · have hf := findKey_s hk s es w
      rw [hp] at hf
      rw [← hm]
      rw [show es.map entS = (es.map entS).toArray.toList from rfl] at hf
      generalize (es.map entS).toArray = A at h hg hf ⊢
      simp [Instr.mapUpdate, run_underlying ht, MapKept.run_getObj_map h, hck, hf, hg, show (entS ((s, u), bo)).key = .string s from rfl, stays_s s, MapKept.run_setObj_map _ h, Result.andThen, setBlock]
    · intro x hx
      rcases List.mem_or_eq_of_mem_set hx with hx | hx
      · exact hb x hx
      · subst hx
        exact hb ((s, u), bo) (List.mem_of_getElem? he)
    · rw [List.map_set]
      have : (es.map Prod.snd).set j bo = es.map Prod.snd := by
        apply List.ext_getElem?
        intro i
        rw [List.getElem?_set]
        split
        · rename_i e; subst e
          rw [List.getElem?_map, he, if_pos (by rw [List.length_map]; exact hj)]; rfl
        · rfl
      simp only
      rw [this]; exact hd
theorem run_deleteS (hk : P.underlying k = some .string) (ht : P.underlying mt = some (.map k et)) (kt ty : TypeId) (h : MapS w r l) (s : ByteArray) :
    ∃ w', (Builtin.delete_ #[mt, kt] ty #[.map (some r), .string s]).run P w = .ok (.tuple #[]) w' ∧ MapS w' r (adel s l) ∧ Keep r w w' := by
  have hn := h.nodup
  have hlt := h.lt
  obtain ⟨es, clk, h, rfl, hb, hd, _⟩ := h
  have hck : ∀ em, (Instr.checkKey em 10000 k (.string s)).run P w = .ok () w := fun em => MapKept.run_checkKey hk (by simp [MapKept.IsKey]) em 9999
  cases hp : apos s (es.map Prod.fst) with
  | none =>
    have h3 := (apos_none hp).2.2.1
    refine ⟨setBlock w r (.map (es.map entS).toArray clk), ?_, ⟨es, clk, by simp [setBlock, hlt], h3.symm, hb, hd, nodup_del hn⟩, keepS_setBlock _ _ _⟩
    simp [Builtin.delete_, run_underlying ht, MapKept.run_getObj_map h, hck, findKey_s hk s es w, hp, MapKept.run_setObj_map _ h, Result.andThen, setBlock]
  | some j =>
    obtain ⟨hj, ⟨u, h2, h3⟩, _, h5⟩ := apos_some hp
    rw [List.length_map] at hj
    have he : (es.map entS).toArray.eraseIdxIfInBounds j = ((es.eraseIdx j).map entS).toArray := by
      rw [List.eraseIdxIfInBounds_toArray, eraseIdx_map']
    refine ⟨setBlock w r (.map ((es.eraseIdx j).map entS).toArray clk), ?_, ⟨es.eraseIdx j, clk, by simp [setBlock, hlt], by rw [h5, eraseIdx_map'], fun x hx => hb x (List.mem_of_mem_eraseIdx hx), ?_, nodup_del hn⟩, keepS_setBlock _ _ _⟩
    · simp [Builtin.delete_, run_underlying ht, MapKept.run_getObj_map h, hck, findKey_s hk s es w, hp, MapKept.run_setObj_map _ h, Result.andThen, setBlock, ← he]
    · exact hd.sublist ((List.eraseIdx_sublist _ _).map _)

theorem wpList_lookS {ops : Array Oper} {rest : List Oper} {o : Oper} {a : Act} {Q : Exit → Act → World → Prop} (hg : o.guard = none) (m x : Operand) (c : Bool) (hop : o.op = Op.lookup mt m x c)
    (hk : P.underlying k = some .string) (ht : P.underlying mt = some (.map k et)) (z : Value) (hz : ∀ w, (zeroValue et).run P w = .ok z w) (l : List (ByteArray × Value)) (h : MapS w r l) (s : ByteArray)
    (hm : a.eval m = .map (some r)) (hx : a.eval x = .string s)
    (hK : wpList P ops Q rest (a.put o.dst (if c then .tuple #[(alook s l).getD z, .bool (alook s l).isSome] else (alook s l).getD z)) w) : wpList P ops Q (o :: rest) a w := by
  refine wpList_plain hg fun K' hK' => ?_
  unfold Oper.wp
  simp [execOp, hop, hm, hx, run_lookS hk ht z hz h s c, Result.andThen]
  exact hK' _ _ hK
theorem wpList_lookNil {ops : Array Oper} {rest : List Oper} {o : Oper} {a : Act} {Q : Exit → Act → World → Prop} (hg : o.guard = none) (m x : Operand) (c : Bool) (hop : o.op = Op.lookup mt m x c)
    (hk : P.underlying k = some .string) (ht : P.underlying mt = some (.map k et)) (z : Value) (hz : ∀ w, (zeroValue et).run P w = .ok z w) (s : ByteArray)
    (hm : a.eval m = .map none) (hx : a.eval x = .string s)
    (hK : wpList P ops Q rest (a.put o.dst (if c then .tuple #[z, .bool false] else z)) w) : wpList P ops Q (o :: rest) a w := by
  refine wpList_plain hg fun K' hK' => ?_
  unfold Oper.wp
  simp [execOp, hop, hm, hx, run_lookNil hk ht z hz s c, Result.andThen]
  exact hK' _ _ hK
theorem wpList_deleteS {ops : Array Oper} {rest : List Oper} {o : Oper} {a : Act} {Q : Exit → Act → World → Prop} (hg : o.guard = none) (m x : Operand) (kt : TypeId) (hop : o.op = .call { callee := .builtin .delete, args := #[m, x], argTypes := #[mt, kt] }) (hd : o.dst = none)
    (hk : P.underlying k = some .string) (ht : P.underlying mt = some (.map k et)) (l : List (ByteArray × Value)) (h : MapS w r l) (s : ByteArray)
    (hm : a.eval m = .map (some r)) (hx : a.eval x = .string s)
    (hK : ∀ w', Hid (MapS w' r (adel s l)) → Hid (Keep r w w') → wpList P ops Q rest a w') : wpList P ops Q (o :: rest) a w := by
  refine wpList_plain hg fun K' hK' => ?_
  obtain ⟨w', h1, h2, h3⟩ := run_deleteS hk ht kt o.type h s
  unfold Oper.wp execOp
  simp only [hop, resolve, invoke, builtin, Sem.run_bind, Sem.run_pure, Result.andThen_ok, List.map_toArray, List.map_cons, List.map_nil, hm, hx, h1]
  exact hK' _ _ (by rw [hd]; exact hK w' h2 h3)
theorem wpList_updateS {ops : Array Oper} {rest : List Oper} {o : Oper} {a : Act} {Q : Exit → Act → World → Prop} (hg : o.guard = none) (m x z : Operand) (hop : o.op = Op.mapUpdate mt m x z) (hd : o.dst = none)
    (hk : P.underlying k = some .string) (ht : P.underlying mt = some (.map k et)) (l : List (ByteArray × Value)) (h : MapS w r l) (s : ByteArray) (v : Value)
    (hm : a.eval m = .map (some r)) (hx : a.eval x = .string s) (hv : a.eval z = v)
    (hK : ∀ w', Hid (MapS w' r (aput s v l)) → Hid (Keep r w w') → wpList P ops Q rest a w') : wpList P ops Q (o :: rest) a w := by
  refine wpList_plain hg fun K' hK' => ?_
  obtain ⟨w', h1, h2, h3⟩ := run_updateS hk ht h s v
  unfold Oper.wp
  simp [execOp, hop, hm, hx, hv, h1, Result.andThen]
  exact hK' _ _ (by rw [hd]; exact hK w' h2 h3)
theorem step_updateS {ops : Array Oper} {o : Oper} {ac : Act} {K : Act → World → Prop} {Q : Exit → Act → World → Prop} {E : Prop} (hgd : o.guard = none) (m x z : Operand) (hop : o.op = Op.mapUpdate mt m x z)
    (hk : P.underlying k = some .string) (ht : P.underlying mt = some (.map k et)) (l : List (ByteArray × Value)) (h : MapS w r l) (s : ByteArray) (v : Value)
    (hm : ac.eval m = .map (some r)) (hx : ac.eval x = .string s) (hv : ac.eval z = v)
    (hK : ∀ w', Hid (MapS w' r (aput s v l)) → Hid (Keep r w w') → K (ac.put o.dst undef) w') : if Region.wanted o (yielded ops ac.tmps) = true then Oper.wp P o ac w K Q else E := by
  have hw : Region.wanted o (yielded ops ac.tmps) = true := by simp [Region.wanted, hgd]
  rw [if_pos hw]
  obtain ⟨w', h1, h2, h3⟩ := run_updateS hk ht h s v
  unfold Oper.wp
  simp [execOp, hop, hm, hx, hv, h1, Result.andThen]
  exact hK w' h2 h3
end
end Go.Proofs.Ytlapnnkahijikaa
namespace Go.Proofs.Ytlapnnkahijikaa
open Go.ChangeShapes Go.WideShapes Go.ChangeAt Go.RowKit Go.Lib

theorem Blk.one {w : World} {b : Nat} {cs : List Value} (h : Blk w b cs) {i : Nat} {v : Value} (hv : cs[i]? = some v) : w.cell? ⟨b, i, none⟩ = some v := by rw [h.cell]; exact hv
theorem Try.info8 : (Try.prog.info? 5).map (fun i => (i.zero, i.size, i.bytes)) = some (some (.int .u8 0), 1, 1) := by kernel_rfl
theorem und8 : Try.prog.underlying 40 = some (.slice 5) := Try.underlying40

/-- A row of bytes of the call's own, from block B on. -/
def OwnB (w : World) (B : Nat) (v : Value) (bs : List (BitVec 8)) : Prop := w.ownsRow B 5 1 v bs.length (u8s bs)
/-- Bytes that v leads to. -/
def SrcB (w : World) (v : Value) (bs : List (BitVec 8)) : Prop := (v = .slice none 0 0 ∧ bs = []) ∨ ∃ b o cap, v = .slice (some ⟨b, o, none⟩) bs.length cap ∧ ∀ j u, (u8s bs)[j]? = some u → w.cell? ⟨b, o + j, none⟩ = some u
theorem u8s_append (a b : List (BitVec 8)) : u8s (a ++ b) = u8s a ++ u8s b := by unfold u8s; rw [List.map_append]
section
variable {w w' : World} {B : Nat} {v x : Value} {bs r : List (BitVec 8)}
theorem OwnB.nil (w : World) (B : Nat) : OwnB w B (.slice none 0 0) [] := World.ownsRow_nil w B _ _
theorem OwnB.lt (h : OwnB w B v bs) : ∀ k, v.ownBlock = some k → B ≤ k ∧ k < w.heap.size := World.ownsRow.lt h
theorem OwnB.same (h : OwnB w B v bs) (hb : ∀ k, v.ownBlock = some k → w'.heap[k]? = w.heap[k]?) : OwnB w' B v bs := by
  refine ⟨h.1, ?_⟩
  rcases h.2 with hn | ⟨g, cap, cur, hv, hg, hh, rest⟩
  · exact .inl hn
  · exact .inr ⟨g, cap, cur, hv, hg, by rw [hb g (by rw [hv]; rfl)]; exact hh, rest⟩
theorem OwnB.below (h : OwnB w B v bs) (hb : Below w.heap.size w w') : OwnB w' B v bs := h.same fun k hk => hb.block k (h.lt k hk).2
theorem OwnB.less {M : Nat} (h : OwnB w B v bs) (hM : M ≤ B) : OwnB w M v bs := by
  refine ⟨h.1, ?_⟩
  rcases h.2 with hn | ⟨g, cap, cur, hv, hg, rest⟩
  · exact .inl hn
  · exact .inr ⟨g, cap, cur, hv, Nat.le_trans hM hg, rest⟩
theorem OwnB.src (h : OwnB w B v bs) : SrcB w v bs := by
  have h0 := h
  rcases h.2 with ⟨hv, hn⟩ | ⟨g, cap, cur, hv, _, hg, _⟩
  · exact .inl ⟨hv, List.eq_nil_of_length_eq_zero hn⟩
  · refine .inr ⟨g, 0, cap, hv, fun j u hu => ?_⟩
    have := World.ownsRow.cells h0 (g := g) (by rw [hv]; rfl) j u hu
    rwa [Addr.add_mid] at this
/-- Its first n bytes. -/
theorem OwnB.take (h : OwnB w B v bs) {n : Nat} (hn : n ≤ bs.length) : ∃ a c, v = .slice a bs.length c ∧ bs.length ≤ c ∧ c ≤ maxLen ∧ (a = none → c = 0) ∧ OwnB w B (.slice a n c) (bs.take n) := by
  rcases h.2 with ⟨hv, h0⟩ | ⟨g, cap, cur, hv, hg, hh, h1, h2, h3, h4⟩
  · have : n = 0 := by omega
    subst this
    have hb : bs = [] := List.eq_nil_of_length_eq_zero h0
    subst hb
    exact ⟨none, 0, hv, Nat.le_refl _, Nat.zero_le _, fun _ => rfl, OwnB.nil w B⟩
  · refine ⟨some ⟨g, 0, none⟩, cap, hv, h1, h2, (fun e => by cases e), ?_, .inr ⟨g, cap, cur, ?_, hg, hh, ?_, h2, h3, ?_⟩⟩
    · simp
    · rw [List.length_take, Nat.min_eq_left hn]
    · rw [List.length_take, Nat.min_eq_left hn]; omega
    · have : u8s (bs.take n) = (u8s bs).take n := by unfold u8s; rw [List.map_take]
      rw [this, List.length_take, Nat.min_eq_left hn, ← h4, List.take_take, Nat.mul_one, Nat.mul_one, Nat.min_eq_left hn]
/-- The row lies where it lay, or in a new block. -/
def Moved (w : World) (v v' : Value) : Prop := v'.ownBlock = v.ownBlock ∨ ∃ g, w.heap.size ≤ g ∧ v'.ownBlock = some g
theorem run_append_b (ty : TypeId) (h : OwnB w B v bs) (hr : SrcB w x r) (hm : bs.length + r.length ≤ 100000000) (hN : B ≤ w.heap.size) :
    ∃ v' w', (Builtin.append_ #[40, 40] ty #[v, x]).run Try.prog w = .ok v' w' ∧ OwnB w' B v' (bs ++ r) ∧ w.grownBy w' v.ownBlock ∧ Moved w v v' := by
  obtain ⟨i, hi, hi1, hi2, hi3⟩ := info_parts Try.info8
  rcases hr with ⟨rfl, rfl⟩ | ⟨b, o, cap, rfl, hc⟩
  · exact ⟨v, w, run_append_owned_none w B _ ty _ i 1 Try.underlying40 hi v _ _ h, by rw [List.append_nil]; exact h, ⟨rfl, rfl, rfl, Nat.le_refl _, fun _ _ _ => rfl⟩, .inl rfl⟩
  · have hcells : ∀ j u, (u8s r)[j]? = some u → w.cell? ((⟨b, o, none⟩ : Addr).add j) = some u := fun j u hu => by rw [Addr.add_mid]; exact hc j u hu
    obtain ⟨v', w', hrun, h2, h3, h4⟩ := run_append_own w B 40 ty 5 i _ 1 1 Try.underlying40 hi hi1 hi2 hi3 rfl (by omega) v bs.length (u8s bs) h ⟨b, o, none⟩ r.length cap (u8s r) (by rw [u8s_length]; omega) hcells (u8s_mem r) (by unfold maxLen; omega) (by omega) hN
    refine ⟨v', w', hrun, ?_, h3, ?_⟩
    · unfold OwnB
      rw [List.length_append, u8s_append]; exact h2
    · have hlen : (u8s r).length = r.length * i.size := by rw [hi2, u8s_length]; omega
      have hfl : (u8s bs).length = bs.length * i.size := by rw [hi2, u8s_length]; omega
      rcases h.2 with ⟨rfl, h0⟩ | ⟨g, c, cur, rfl, hbg, hg, hnc, hcm, hcs, htake⟩
      · by_cases hm0 : r.length = 0
        · left
          rw [h4.2 ⟨rfl, hm0⟩]
        · have e := run_append_nil w 40 ty 5 i _ Try.underlying40 hi hi1 ⟨b, o, none⟩ r.length cap (u8s r) hlen hcells (by omega) (by omega) (by rw [hi3]; omega)
          rw [e] at hrun
          injection hrun with e1 _
          right
          exact ⟨w.heap.size, Nat.le_refl _, by rw [← e1]; rfl⟩
      · by_cases hroom : bs.length + r.length ≤ c
        · have e := run_append_room w 40 ty 5 i Try.underlying40 hi g bs.length c cur hg ⟨b, o, none⟩ r.length cap (u8s r) hlen hcells (u8s_mem r) hroom (by rw [hi2, u8s_length, hcs]; omega)
          rw [e] at hrun
          injection hrun with e1 _
          left
          rw [← e1]; rfl
        · have e := run_append_grow w 40 ty 5 i _ Try.underlying40 hi hi1 ⟨g, 0, none⟩ bs.length c (u8s bs) hfl (h.cells (g := g) rfl) ⟨b, o, none⟩ r.length cap (u8s r) hlen hcells (by omega) (by omega) (growslice_fits (by omega) (by rw [hi3]; omega))
          rw [e] at hrun
          injection hrun with e1 _
          right
          exact ⟨w.heap.size, Nat.le_refl _, by rw [← e1]; rfl⟩
end
section
variable {ops : Array Oper} {o : Oper} {ac : Act} {w : World} {Q : Exit → Act → World → Prop}
theorem wpList_append_b {rest : List Oper} (hgd : o.guard = none) (s x : Operand)
    (ho : o.op = .call { callee := .builtin .append, args := #[s, x], argTypes := #[40, 40] }) (B : Nat) (v : Value) (bs : List (BitVec 8)) (hs : ac.eval s = v) (h : OwnB w B v bs)
    (y : Value) (r : List (BitVec 8)) (hx : ac.eval x = y) (hr : SrcB w y r) (hm : bs.length + r.length ≤ 100000000) (hN : B ≤ w.heap.size)
    (hK : ∀ v' w', Hid (OwnB w' B v' (bs ++ r)) → Hid (w.grownBy w' v.ownBlock) → Hid (Moved w v v') → wpList Try.prog ops Q rest (ac.put o.dst v') w') : wpList Try.prog ops Q (o :: rest) ac w := by
  obtain ⟨v', w', hrun, h1, h2, h3⟩ := run_append_b o.type h hr hm hN
  refine wpList_plain hgd fun K hK' => ?_
  unfold Oper.wp execOp
  simp only [ho, resolve, invoke, builtin, Sem.run_bind, Sem.run_pure, Result.andThen_ok, List.map_toArray, List.map_cons, List.map_nil, hs, hx, hrun]
  exact hK' _ _ (hK v' w' h1 h2 h3)
end

/-- A string's bytes. -/
def strB (s : ByteArray) : List (BitVec 8) := s.data.toList.map (·.toBitVec)
theorem strB_length (s : ByteArray) : (strB s).length = s.size := by simp [strB]
/-- A text of bytes. -/
def ofB (bs : List (BitVec 8)) : ByteArray := strOfNums (bs.map Y)
theorem ofB_size (bs : List (BitVec 8)) : (ofB bs).size = bs.length := by unfold ofB; rw [strOfNums_size, List.length_map]
theorem strB_ofB (bs : List (BitVec 8)) : strB (ofB bs) = bs := by
  unfold strB ofB
  rw [strOfNums_data, List.map_map, List.map_map]
  conv => rhs; rw [← List.map_id bs]
  refine List.map_congr_left fun x _ => ?_
  have hx := x.isLt
  show (UInt8.ofNat (Y x).toNat).toBitVec = x
  unfold Y
  apply BitVec.eq_of_toNat_eq
  simp
theorem strB_inj {a b : ByteArray} (h : strB a = strB b) : a = b := by
  obtain ⟨⟨a⟩⟩ := a
  obtain ⟨⟨b⟩⟩ := b
  have : a = b := by
    unfold strB at h
    exact (List.map_inj_right fun x y e => UInt8.eq_of_toBitVec_eq e).1 h
  rw [this]
theorem ofB_strB (s : ByteArray) : ofB (strB s) = s := strB_inj (strB_ofB _)
theorem ofB_inj {a b : List (BitVec 8)} (h : ofB a = ofB b) : a = b := by rw [← strB_ofB a, ← strB_ofB b, h]
theorem strB_append (a b : ByteArray) : strB (a ++ b) = strB a ++ strB b := by
  unfold strB
  rw [ByteArray.data_append, Array.toList_append, List.map_append]
theorem SrcB.str {w : World} {v : Value} {bs : List (BitVec 8)} (h : SrcB w v bs) : (convert 40 9 v).run Try.prog w = .ok (.string (ofB bs)) w := by
  rcases h with ⟨rfl, rfl⟩ | ⟨b, o, cap, rfl, hc⟩
  · exact run_convert_bytes_nil w 40 5 Try.underlying40 Try.underlying5 0 0 9 Try.underlying9
  · exact run_convert_bytes_arg w 40 5 Try.underlying40 Try.underlying5 b o bs.length cap (bs.map Y) (by rw [List.length_map]) (fun i hi => by
      rw [hc i _ (u8s_get _ i hi)]
      congr 2
      rw [List.getD_eq_getElem?_getD, List.getD_eq_getElem?_getD, List.getElem?_map, List.getElem?_eq_getElem hi]; rfl) 9 Try.underlying9
theorem wpList_toBytes {ops : Array Oper} {rest : List Oper} {o : Oper} {a : Act} {w : World} {Q : Exit → Act → World → Prop} (hg : o.guard = none) (x : Operand) (ho : o.op = .convert 9 40 x) (s : ByteArray) (hx : a.eval x = .string s)
    (hK : ∀ b c w', Hid (SrcB w' (.slice (some ⟨b, 0, none⟩) s.size c) (strB s)) → Hid (Below w.heap.size w w') → wpList Try.prog ops Q rest (a.put o.dst (.slice (some ⟨b, 0, none⟩) s.size c)) w') : wpList Try.prog ops Q (o :: rest) a w := by
  refine wpList_plain hg fun K hK' => ?_
  unfold Oper.wp execOp
  simp only [ho, hx, Sem.run_bind, Sem.run_pure, Go.Lib.run_convert_string_bytes w 9 40 5 s Try.underlying9 Try.underlying40 Try.underlying5, Result.andThen_ok]
  refine hK' _ _ (hK _ _ _ ?_ ?_)
  · show SrcB _ _ _
    refine .inr ⟨w.heap.size, 0, grownCap w s.size 0 5, ?_, fun j u hu => ?_⟩
    · rw [show (strB s).length = s.size from strB_length s]
    · have hj : j < (strB s).length := by have := (List.getElem?_eq_some_iff.1 hu).1; rwa [u8s_length] at this
      have hj' : j < s.size := by rwa [strB_length] at hj
      rw [u8s_get _ j hj] at hu
      rw [Nat.zero_add, Go.Lib.bytesWorld_cell w 5 s j hj', ← hu]
      have hd : j < s.data.toList.length := by simpa using hj'
      unfold strB Y
      rw [List.getD_eq_getElem?_getD, List.getD_eq_getElem?_getD, List.getElem?_map, List.getElem?_eq_getElem hd]
      rfl
  · show Below _ _ _
    exact ⟨rfl, rfl, rfl, by rw [Go.Lib.bytesWorld_size]; omega, fun k hk => Go.Lib.bytesWorld_at_old w _ s k hk⟩

/-- A file: its bytes, and how many are safe. -/
structure Fl where
  b : List (BitVec 8)
  safe : Nat
instance : Inhabited Fl := ⟨⟨[], 0⟩⟩
/-- Files as they lie in memory: the map's block, and for each name the row of its bytes. -/
structure FS where
  m : Option Nat
  es : List (ByteArray × (Value × Fl))
  ops : Int
  counted : Bool
  left : Int
  off : Bool
def cellOf (p : Value × Fl) : Value := .agg #[p.1, .int .i64 (p.2.safe : Int)]
def FS.cs (S : FS) : List Value := [.map S.m, .int .i64 S.ops, .bool S.counted, .int .i64 S.left, .bool S.off]
/-- What can be seen of them. -/
def FS.L (S : FS) : List (ByteArray × Fl) := S.es.map (onB Prod.snd)
def FS.foot (S : FS) (f k : Nat) : Prop := k = f ∨ S.m = some k ∨ ∃ p ∈ S.es, p.2.1.ownBlock = some k
structure FsAt (w : World) (f : Nat) (S : FS) : Prop where
  blk : Blk w f S.cs
  bare : S.m = none → S.es = []
  map : ∀ r, S.m = some r → r ≠ f ∧ MapS w r (S.es.map (onB cellOf))
  row : ∀ p ∈ S.es, OwnB w 0 p.2.1 p.2.2.b ∧ ∀ k, p.2.1.ownBlock = some k → k ≠ f ∧ S.m ≠ some k
  apart : S.es.Pairwise fun p q => ∀ k, p.2.1.ownBlock = some k → q.2.1.ownBlock ≠ some k
  fits : ∀ p ∈ S.es, p.2.2.safe ≤ p.2.2.b.length ∧ p.2.2.b.length ≤ 16777216
structure Grown (f : Nat) (S S' : FS) (w w' : World) : Prop where
  os : w'.os = w.os
  tape : w'.tape = w.tape
  output : w'.output = w.output
  size : w.heap.size ≤ w'.heap.size
  block : ∀ k, k < w.heap.size → ¬ S.foot f k → w'.heap[k]? = w.heap[k]?
  foot : ∀ k, S'.foot f k → S.foot f k ∨ w.heap.size ≤ k
section
variable {w w' w'' : World} {f : Nat} {S S' S'' : FS}
theorem FsAt.lt (h : FsAt w f S) {k : Nat} (hk : S.foot f k) : k < w.heap.size := by
  rcases hk with rfl | hk | ⟨p, hp, hk⟩
  · exact h.blk.lt
  · exact (h.map k hk).2.lt
  · exact ((h.row p hp).1.lt k hk).2
theorem FsAt.same (h : FsAt w f S) (hb : ∀ k, S.foot f k → w'.heap[k]? = w.heap[k]?) : FsAt w' f S := by
  refine ⟨?_, h.bare, fun r hr => ⟨(h.map r hr).1, (h.map r hr).2.same (hb r (.inr (.inl hr)))⟩, fun p hp => ⟨(h.row p hp).1.same fun k hk => hb k (.inr (.inr ⟨p, hp, hk⟩)), (h.row p hp).2⟩, h.apart, h.fits⟩
  obtain ⟨t, ht⟩ := h.blk
  exact ⟨t, by rw [hb f (.inl rfl)]; exact ht⟩
theorem FsAt.below (h : FsAt w f S) (hb : Below w.heap.size w w') : FsAt w' f S := h.same fun k hk => hb.block k (h.lt hk)
theorem FsAt.nodup (h : FsAt w f S) : (S.es.map Prod.fst).Nodup := by
  cases hm : S.m with
  | none => rw [h.bare hm]; exact List.nodup_nil
  | some r =>
    have := (h.map r hm).2.nodup
    rw [List.map_map] at this
    exact this
theorem Grown.refl (f : Nat) (S : FS) (w : World) : Grown f S S w w := ⟨rfl, rfl, rfl, Nat.le_refl _, fun _ _ _ => rfl, fun _ h => .inl h⟩
theorem Grown.trans (h : Grown f S S' w w') (k : Grown f S' S'' w' w'') : Grown f S S'' w w'' :=
  ⟨k.os.trans h.os, k.tape.trans h.tape, k.output.trans h.output, Nat.le_trans h.size k.size,
    fun i hi hf => (k.block i (Nat.lt_of_lt_of_le hi h.size) fun e => (h.foot i e).elim hf fun e => by omega).trans (h.block i hi hf),
    fun i e => (k.foot i e).elim (fun e => h.foot i e) fun e => .inr (Nat.le_trans h.size e)⟩
theorem Grown.of_below (h : Below w.heap.size w w') : Grown f S S w w' := ⟨h.os, h.tape, h.output, h.size, fun k hk _ => h.block k hk, fun _ h => .inl h⟩
theorem Grown.thenBelow (h : Grown f S S' w w') (k : Below w'.heap.size w' w'') : Grown f S S' w w'' := h.trans (Grown.of_below k)
theorem Grown.below {B : Nat} (h : Grown f S S' w w') (hB : B ≤ w.heap.size) (hf : ∀ k, S.foot f k → B ≤ k) : Below B w w' :=
  ⟨h.os, h.tape, h.output, h.size, fun k hk => h.block k (by omega) fun e => by have := hf k e; omega⟩
/-- Only the head changes. -/
theorem FsAt.head (h : FsAt w f S) (k : Keep f w w') (hb : Blk w' f S'.cs) (hm : S'.m = S.m) (he : S'.es = S.es) : FsAt w' f S' ∧ Grown f S S' w w' := by
  have hfoot : ∀ i, S'.foot f i ↔ S.foot f i := fun i => by unfold FS.foot; rw [hm, he]
  refine ⟨⟨hb, by rw [hm, he]; exact h.bare, fun r hr => ?_, fun p hp => ?_, by rw [he]; exact h.apart, by rw [he]; exact h.fits⟩, ⟨k.os, k.tape, k.output, k.size, fun i hi hf => k.block i hi fun e => hf (.inl e), fun i hi => .inl ((hfoot i).1 hi)⟩⟩
  · rw [hm] at hr
    rw [he]
    exact ⟨(h.map r hr).1, (h.map r hr).2.same (k.block r (h.map r hr).2.lt (h.map r hr).1)⟩
  · rw [he] at hp
    refine ⟨(h.row p hp).1.same fun i hi => k.block i ((h.row p hp).1.lt i hi).2 ((h.row p hp).2 i hi).1, ?_⟩
    rw [hm]; exact (h.row p hp).2
theorem FsAt.new (w : World) (t : TypeId) : FsAt (w.alloc (.cells #[.map none, .int .i64 0, .bool false, .int .i64 0, .bool false] t)) w.heap.size ⟨none, [], 0, false, 0, false⟩ :=
  ⟨Blk.mk _ _ _ rfl rfl, fun _ => rfl, (fun r h => by cases h), (fun p hp => by cases hp), List.Pairwise.nil, (fun p hp => by cases hp)⟩
end
end Go.Proofs.Ytlapnnkahijikaa
namespace Go.Proofs.Ytlapnnkahijikaa
open Go.ChangeShapes Go.WideShapes Go.ChangeAt Go.RowKit Go.Lib

theorem OwnB.shape {w : World} {B : Nat} {v : Value} {bs : List (BitVec 8)} (h : OwnB w B v bs) : ∃ a cap, v = .slice a bs.length cap := by
  rcases h.src with ⟨rfl, rfl⟩ | ⟨b, o, cap, rfl, _⟩
  · exact ⟨_, _, rfl⟩
  · exact ⟨_, _, rfl⟩
/-- The power behind one act, and whether it came to it. -/
def FS.pow (S : FS) : FS :=
  if S.counted = false then { S with ops := S.ops + 1 } else if 0 < S.left then { S with ops := S.ops + 1, left := S.left - 1 } else { S with ops := S.ops + 1, off := true }
theorem FS.pow_m (S : FS) : S.pow.m = S.m := by unfold FS.pow; repeat' split
                                                all_goals rfl
theorem FS.pow_es (S : FS) : S.pow.es = S.es := by unfold FS.pow; repeat' split
                                                   all_goals rfl
theorem FS.pow_ops (S : FS) : S.pow.ops = S.ops + 1 := by unfold FS.pow; repeat' split
                                                          all_goals rfl
/-- The numbers of files that a few acts have come to. -/
structure FS.Sane (S : FS) : Prop where
  ops0 : 0 ≤ S.ops
  ops1 : S.ops ≤ 4611686018427387904
  left0 : -9223372036854775808 ≤ S.left
  left1 : S.left ≤ 9223372036854775807
set_option maxRecDepth 100000 in
set_option maxHeartbeats 1000000 in
theorem powered_any (f : Nat) (S : FS) (w : World) (h : FsAt w f S) (hs : S.Sane) :
    Calls Try.prog 42 #[.pointer (some ⟨f, 0, none⟩)] w fun e w' => e = .returned (.bool (!S.pow.off)) ∧ FsAt w' f S.pow ∧ Grown f S S.pow w w' := by
  obtain ⟨o0, o1, l0, l1⟩ := hs
  have H : Hid (∀ w', Keep f w w' → Blk w' f S.pow.cs → FsAt w' f S.pow ∧ Grown f S S.pow w w') := fun w' k hb => h.head k hb S.pow_m S.pow_es
  have HB : Hid (Blk w f S.cs) := h.blk
  have HP : Hid (S.pow = if S.counted = false then { S with ops := S.ops + 1 } else if 0 < S.left then { S with ops := S.ops + 1, left := S.left - 1 } else { S with ops := S.ops + 1, off := true }) := show _ = _ from rfl
  clear h
  obtain ⟨T, hT⟩ : ∃ T, T = S.pow := ⟨_, rfl⟩
  rw [← hT] at H HP ⊢
  clear hT
  have c1 : w.cell? ⟨f, 1, none⟩ = some (.int .i64 S.ops) := HB.out.one rfl
  have g1 : w.frozen? ⟨f, 1, none⟩ = false := HB.out.frozen 1
  go_enter Try.func42, Try.ntmps42
  go_upto_region 5 with fail
  generalize hw1 : World.setCell w _ _ = w1
  have HB1 : Hid (Blk w1 f [.map S.m, .int .i64 (S.ops + 1), .bool S.counted, .int .i64 S.left, .bool S.off]) := by rw [← hw1]; exact HB.out.set 1 _
  have HK1 : Hid (Keep f w w1) := by rw [← hw1]; exact (Keep.refl _ _).setCell _ _
  clear hw1 c1 g1 HB
  have c2 : w1.cell? ⟨f, 2, none⟩ = some (.bool S.counted) := HB1.out.one rfl
  have c3 : w1.cell? ⟨f, 3, none⟩ = some (.int .i64 S.left) := HB1.out.one rfl
  have c4 : w1.cell? ⟨f, 4, none⟩ = some (.bool S.off) := HB1.out.one rfl
  have g3 : w1.frozen? ⟨f, 3, none⟩ = false := HB1.out.frozen 3
  have g4 : w1.frozen? ⟨f, 4, none⟩ = false := HB1.out.frozen 4
  obtain ⟨m, es, ops, counted, left, off⟩ := S
  simp only at *
  cases counted with
  | false =>
    have HT : Hid (T = ⟨m, es, ops + 1, false, left, off⟩) := show _ = _ by rw [HP.out]; rfl
    go_wp2_with fail
    go_ret
    refine ⟨ret_bool (by rw [HT.out]), H.out _ HK1.out ?_⟩
    rw [HT.out]; exact HB1.out
  | true =>
    by_cases hl : 0 < left
    · have HT : Hid (T = ⟨m, es, ops + 1, true, left - 1, off⟩) := show _ = _ by rw [HP.out, if_neg (by simp), if_pos hl]
      go_upto_region 8 with fail
      generalize hw2 : World.setCell w1 _ _ = w2
      have HB2 : Hid (Blk w2 f [.map m, .int .i64 (ops + 1), .bool true, .int .i64 (left - 1), .bool off]) := by rw [← hw2]; exact HB1.out.set 3 _
      have HK2 : Hid (Keep f w w2) := by rw [← hw2]; exact HK1.out.setCell _ _
      clear hw2 c2 c3 c4 g3 g4
      have c4 : w2.cell? ⟨f, 4, none⟩ = some (.bool off) := HB2.out.one rfl
      go_wp2_with fail
      go_ret
      refine ⟨ret_bool (by rw [HT.out]), H.out _ HK2.out ?_⟩
      rw [HT.out]; exact HB2.out
    · have HT : Hid (T = ⟨m, es, ops + 1, true, left, true⟩) := show _ = _ by rw [HP.out, if_neg (by simp), if_neg hl]
      go_upto_region 8 with fail
      generalize hw2 : World.setCell w1 _ _ = w2
      have HB2 : Hid (Blk w2 f [.map m, .int .i64 (ops + 1), .bool true, .int .i64 left, .bool true]) := by rw [← hw2]; exact HB1.out.set 4 _
      have HK2 : Hid (Keep f w w2) := by rw [← hw2]; exact HK1.out.setCell _ _
      clear hw2 c2 c3 c4 g3 g4
      have c4 : w2.cell? ⟨f, 4, none⟩ = some (.bool true) := HB2.out.one rfl
      go_wp2_with fail
      go_ret
      refine ⟨ret_bool (by rw [HT.out]; rfl), H.out _ HK2.out ?_⟩
      rw [HT.out]; exact HB2.out
set_option maxHeartbeats 1000000 in
theorem powered_nil (w : World) : Calls Try.prog 42 #[.pointer none] w fun e w' => e = .returned (.bool false) ∧ w' = w := by
  go_enter Try.func42, Try.ntmps42
  go_wp2_with fail
  go_ret
  exact ⟨rfl, rfl⟩

theorem zeroC (w : World) : (zeroValue 64).run Try.prog w = .ok (.agg #[.slice none 0 0, .int .i64 0]) w := by
  have h : (Try.prog.info? 64).map (fun i => (i.zero, i.size, i.bytes)) = some (some (.agg #[.slice none 0 0, .int .i64 0]), 2, 32) := by kernel_rfl
  obtain ⟨i0, hi0, hi1, _, _⟩ := info_parts h
  unfold zeroValue
  rw [Sem.run_bind]
  simp only [typeInfo, Sem.run_bind]
  simp [hi0, hi1]
theorem sizeC : (Try.prog.info? 64).map (·.size) = some 2 := by kernel_rfl
theorem results_row_tmp {P : Program} {fn : Func} {p u : Tmp} {ty : TypeId} (h : fn.results = #[.cell p ty, .tmp u]) (tmps : Array Value) (w : World) (g : Nat) (t : TypeId) (cs : Array Value) (fr : Nat × Nat) (d : TypeDesc)
    (hp : tmps.getD p undef = .pointer (some ⟨g, 0, none⟩)) (hg : w.heap[g]? = some (.cells cs t fr))
    (hu : P.underlying ty = some d) (hd : (match d with | .struct _ | .array _ _ => true | _ => false) = true) (hi : (P.info? ty).map (·.size) = some cs.size) :
    (results fn tmps).run P w = .ok (.tuple #[.agg cs, tmps.getD u undef]) w := by
  rw [results_cell_tmp h, hp]
  simp [asAddr, run_loadVar_row w g t ty cs fr d hg hu hd hi, Result.andThen]
/-- What find tells. -/
def found (o : Option (Value × Fl)) : Value := .tuple #[(o.map cellOf).getD (.agg #[.slice none 0 0, .int .i64 0]), .bool o.isSome]
set_option maxRecDepth 100000 in
set_option maxHeartbeats 1000000 in
theorem find_any (f : Nat) (S : FS) (name : ByteArray) (w : World) (h : FsAt w f S) :
    Calls Try.prog 33 #[.pointer (some ⟨f, 0, none⟩), .string name] w fun e w' => e = .returned (found (alook name S.es)) ∧ Below w.heap.size w w' := by
  have HF : Hid (found (alook name S.es) = .tuple #[((alook name S.es).map cellOf).getD (.agg #[.slice none 0 0, .int .i64 0]), .bool (alook name S.es).isSome]) := show _ = _ from rfl
  have HSH : Hid (∀ p, alook name S.es = some p → ∃ a c, p.1 = .slice a p.2.b.length c) := fun p hp => (h.row (name, p) (mem_of_alook hp)).1.shape
  have c0 : w.cell? ⟨f, 0, none⟩ = some (.map S.m) := h.blk.one rfl
  have hff := h.blk.lt
  have HC : Hid ((S.m = none ∧ S.es = []) ∨ ∃ r, S.m = some r ∧ MapS w r (S.es.map (onB cellOf))) := by
    cases hm : S.m with
    | none => exact .inl ⟨rfl, h.bare hm⟩
    | some r => exact .inr ⟨r, rfl, (h.map r hm).2⟩
  clear h
  generalize found _ = F at *
  rcases HC.out with ⟨hm, he⟩ | ⟨r, hm, hM⟩
  · rw [hm] at c0
    rw [he] at HF
    have HF' : Hid (F = .tuple #[.agg #[.slice none 0 0, .int .i64 0], .bool false]) := HF.out
    clear HC HSH HF hm he
    go_enter Try.func33, Try.ntmps33
    go_wp2_with (refine wpList_lookNil rfl _ _ _ rfl Try.underlying9 Try.underlying45 _ zeroC name rfl rfl ?_)
    refine bodyPost_ret (v := .tuple #[.agg #[.slice none 0 0, .int .i64 0], .bool false]) ?_ rfl ⟨by rw [HF'.out], ((Below.refl _ _).alloc (Nat.le_refl _) _).alloc (by simp) _⟩
    obtain ⟨t, hb⟩ := (Blk.mk (b := w.heap.size) w #[.slice none 0 0, .int .i64 0] 64 rfl rfl).alloc (.cells #[.slice none 0 0, .int .i64 0] 64)
    exact results_row_tmp Try.results33 _ _ w.heap.size t _ _ _ rfl hb Try.underlying64 rfl sizeC
  · have HM : Hid (MapS w r (S.es.map (onB cellOf))) := hM
    rw [hm] at c0
    have hL : alook name (S.es.map (onB cellOf)) = (alook name S.es).map cellOf := alook_map _ _ _
    cases ha : alook name S.es with
    | none =>
      rw [ha] at HF hL
      have HL : Hid (alook name (S.es.map (onB cellOf)) = none) := hL
      have HF' : Hid (F = .tuple #[.agg #[.slice none 0 0, .int .i64 0], .bool false]) := HF.out
      clear HC HSH HF hm hM hL ha
      go_enter Try.func33, Try.ntmps33
      go_wp2_with (refine wpList_lookS rfl _ _ _ rfl Try.underlying9 Try.underlying45 _ zeroC _ (r := r) (MapS.same HM.out (by simp [heap_alloc_old, HM.out.lt])) name rfl rfl ?_; rw [HL.out]; simp only [Option.getD_none, Option.isSome_none, if_true])
      refine bodyPost_ret (v := .tuple #[.agg #[.slice none 0 0, .int .i64 0], .bool false]) ?_ rfl ⟨by rw [HF'.out], ((Below.refl _ _).alloc (Nat.le_refl _) _).alloc (by simp) _⟩
      obtain ⟨t, hb⟩ := (Blk.mk (b := w.heap.size) w #[.slice none 0 0, .int .i64 0] 64 rfl rfl).alloc (.cells #[.slice none 0 0, .int .i64 0] 64)
      exact results_row_tmp Try.results33 _ _ w.heap.size t _ _ _ rfl hb Try.underlying64 rfl sizeC
    | some p =>
      obtain ⟨a, c, hp⟩ := HSH.out p ha
      rw [ha] at HF hL
      obtain ⟨v, fl⟩ := p
      simp only at hp
      subst hp
      have HL : Hid (alook name (S.es.map (onB cellOf)) = some (.agg #[.slice a fl.b.length c, .int .i64 (fl.safe : Int)])) := hL
      have HF' : Hid (F = .tuple #[.agg #[.slice a fl.b.length c, .int .i64 (fl.safe : Int)], .bool true]) := HF.out
      clear HC HSH HF hm hM hL ha
      generalize fl.b.length = n at *
      generalize (fl.safe : Int) = sf at *
      go_enter Try.func33, Try.ntmps33
      go_wp2_with (refine wpList_lookS rfl _ _ _ rfl Try.underlying9 Try.underlying45 _ zeroC _ (r := r) (MapS.same HM.out (by simp [heap_alloc_old, HM.out.lt])) name rfl rfl ?_; rw [HL.out]; simp only [Option.getD_some, Option.isSome_some, if_true])
      refine bodyPost_ret (v := .tuple #[.agg #[.slice a n c, .int .i64 sf], .bool true]) ?_ rfl ⟨by rw [HF'.out], ((Below.refl _ _).alloc (Nat.le_refl _) _).alloc (by simp) _⟩
      obtain ⟨t, hb⟩ := (Blk.mk (b := w.heap.size) w #[.slice a n c, .int .i64 sf] 64 rfl rfl).alloc (.cells #[.slice a n c, .int .i64 sf] 64)
      exact results_row_tmp Try.results33 _ _ w.heap.size t _ _ _ rfl hb Try.underlying64 rfl sizeC
end Go.Proofs.Ytlapnnkahijikaa
