/- kv: a store's map, as a range over it reads it. No program's text is walked here. -/
import Derived.Test.YtlapnnkahijikaaGreatDoorZK2
import Derived.Test.YtlapnnkahijikaaGreatDoorZF5
namespace Go.Proofs.YtlapnnkahijikaaGreatDoor
open Go.ChangeShapes Go.WideShapes Go.ChangeAt Go.RowKit Go.Lib
open Go.Maps Go.Sort Go.Shelf

/-- What a value of the map is. -/
def unL : List Value → Option Pr
  | [.string k, .string x, .bool g] => some ⟨k, x, g⟩
  | _ => none
def unP : Value → Option Pr
  | .agg cs => unL cs.toList
  | _ => none
theorem unL_inv {l : List Value} {p : Pr} (h : unL l = some p) : l = p.cs := by
  unfold unL at h
  split at h
  · injection h with h; subst h; rfl
  · cases h
theorem unP_inv {v : Value} {p : Pr} (h : unP v = some p) : v = prV p := by
  unfold unP at h
  split at h
  · rename_i cs
    have := unL_inv h
    obtain ⟨l⟩ := cs
    simp only at this
    rw [this]; rfl
  · cases h
theorem unP_prV (p : Pr) : unP (prV p) = some p := rfl
theorem prV_inj {p q : Pr} (h : prV p = prV q) : p = q := by
  have := unP_prV p
  rw [h, unP_prV] at this
  injection this with this
  exact this.symm
def prR (v : Value) : Option (DataW Pr × List MemPlace) := (unP v).map fun p => (.held p, [])
theorem prR_prV (p : Pr) : prR (prV p) = some (.held p, []) := rfl
theorem prR_inv {v : Value} {y : DataW Pr × List MemPlace} (h : prR v = some y) : ∃ p, v = prV p ∧ y = (.held p, []) := by
  unfold prR at h
  cases e : unP v with
  | none => rw [e] at h; cases h
  | some p =>
    rw [e] at h
    injection h with h
    exact ⟨p, unP_inv e, h.symm⟩
def prD (A : List (ByteArray × Pr)) : DataW Pr := .map ((A.map fun p => (Lit.string p.1.data.toList, DataW.held p.2)).foldr DataW.insert [])
theorem rg_prR {P : Program} {k : TypeId} {x : MapEntry} {l : Lit} {p : Pr} (h : keyOf P k x.key = some l) (hv : x.val = prV p) : WideElems.rg P k prR x = (l, .held p) := by
  unfold WideElems.rg WideElems.rd
  rw [h, hv]; rfl
theorem MapP.owns {w : World} {r : Nat} {A : List (ByteArray × Pr)} (h : MapP w r A) (hs : ∀ p ∈ A, p.1.size ≤ maxLen) (hl : A.length ≤ maxLen) : w.ownsMap Tryz.prog 9 prR r A.length (prD A) := by
  have hn := MapS.nodup h
  obtain ⟨es, clk, h, hA, hb, hd, _⟩ := h
  have hm : ∀ x ∈ es, ∃ p, (x.1.1, p) ∈ A ∧ x.1.2 = prV p := fun x hx => by
    have : x.1 ∈ A.map (onB prV) := by rw [← hA]; exact List.mem_map.2 ⟨x, hx, rfl⟩
    obtain ⟨q, hq, e⟩ := List.mem_map.1 this
    exact ⟨q.2, by rw [← e]; exact hq, by rw [← e]; rfl⟩
  have hk : ∀ x ∈ es, keyOf Tryz.prog 9 (entS x).key = some (.string x.1.1.data.toList) := fun x hx => by
    obtain ⟨p, hp, _⟩ := hm x hx
    exact Go.WideMaps.keyOf_string_mk Tryz.underlying9 (hs _ hp)
  have hlen : es.length = A.length := by
    have := congrArg List.length hA
    simpa using this
  refine ⟨_, clk, h, ⟨by simp; omega, ⟨?_, ?_, ?_⟩, ?_⟩, by simp [hlen], ?_⟩
  · intro x hx
    simp only [List.mem_map] at hx
    obtain ⟨y, hy, rfl⟩ := hx
    exact hb y hy
  · simp only [List.map_map]
    exact hd
  · simp only [List.map_map]
    rw [← hA, List.map_map] at hn
    have : (es.map fun x => x.1.1).map Value.string = es.map ((fun x => x.key) ∘ entS) := by rw [List.map_map]; rfl
    rw [← this]
    refine List.pairwise_map.2 ((show (es.map fun x => x.1.1).Nodup from hn).imp fun {a b} hne e => hne ?_)
    injection e
  · intro x hx
    simp only [List.mem_map] at hx
    obtain ⟨y, hy, rfl⟩ := hx
    obtain ⟨p, _, hp⟩ := hm y hy
    exact ⟨_, by unfold WideElems.rd; rw [hk y hy, show (entS y).val = prV p from hp]; rfl⟩
  · unfold prD
    refine congrArg (fun z : List (Lit × DataW Pr) => DataW.map (List.foldr DataW.insert [] z)) ?_
    have e1 : (A.map fun p => (Lit.string p.1.data.toList, (DataW.held p.2 : DataW Pr))) = (A.map (onB prV)).map fun q => (Lit.string q.1.data.toList, ((unP q.2).map DataW.held).getD .nil) := by
      rw [List.map_map]; rfl
    rw [e1, ← hA, List.map_map]
    show _ = ((es.map entS).map _)
    rw [List.map_map]
    refine List.map_congr_left fun y hy => ?_
    obtain ⟨p, _, hp⟩ := hm y hy
    simp only [Function.comp]
    rw [rg_prR (hk y hy) hp, hp]; rfl
theorem prD_keys (A : List (ByteArray × Pr)) : (strKeys (prD A)).Perm (A.map fun p => bytesOf p.1) := by
  unfold prD strKeys
  have := (sorted_perm (A.map fun p => (Lit.string p.1.data.toList, (DataW.held p.2 : DataW Pr)))).map fun p => strOf p.1
  rw [List.map_map] at this
  exact this
theorem prD_size (A : List (ByteArray × Pr)) : size (prD A) = A.length := by unfold prD; rw [Go.Maps.size_eq, length_sorted, List.length_map]
theorem prD_at {A : List (ByteArray × Pr)} {k : List UInt8} {p : Pr} (h : ∀ zd, (prD A).atKey (.string k) zd = .held p) : (⟨k.toArray⟩, p) ∈ A := by
  have h0 := h .nil
  unfold prD DataW.atKey at h0
  simp only at h0
  split at h0
  · rename_i q hq
    have hm := List.mem_of_find?_eq_some hq
    have hs := List.find?_some hq
    have := mem_sorted.1 hm
    obtain ⟨a, ha, e⟩ := List.mem_map.1 this
    rw [← e] at hs h0
    simp only [Lit.sameKey] at hs
    have hk : a.1.data.toList = k := by simpa using hs
    injection h0 with h0
    have : a.1 = ⟨k.toArray⟩ := by
      rw [← hk]
    rw [← this, ← h0]; exact ha
  · cases h0
theorem all_perm {A : List (ByteArray × Pr)} (hn : (A.map Prod.fst).Nodup) {ps : List (List UInt8 × Pr)} (hp : (ps.map Prod.fst).Perm (strKeys (prD A))) (hv : ∀ p ∈ ps, ∀ zd, (prD A).atKey (.string p.1) zd = .held p.2) : (ps.map Prod.snd).Perm (A.map Prod.snd) := by
  have e1 : ps.map Prod.snd = (ps.map Prod.fst).map fun k => (alook ⟨k.toArray⟩ A).getD default := by
    rw [List.map_map]
    refine List.map_congr_left fun q hq => ?_
    simp only [Function.comp]
    rw [alook_of_mem hn (prD_at (hv q hq))]; rfl
  have e2 : A.map Prod.snd = (A.map fun p => bytesOf p.1).map fun k => (alook ⟨k.toArray⟩ A).getD default := by
    rw [List.map_map]
    refine List.map_congr_left fun q hq => ?_
    simp only [Function.comp]
    rw [mk_bytesOf, alook_of_mem hn (show (q.1, q.2) ∈ A from hq)]; rfl
  rw [e1, e2]
  exact (hp.trans (prD_keys A)).map _
end Go.Proofs.YtlapnnkahijikaaGreatDoor
