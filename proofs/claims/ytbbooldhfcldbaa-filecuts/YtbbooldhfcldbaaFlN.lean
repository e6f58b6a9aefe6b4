/- file: Names, by the contracts of the library's maps.Keys and slices.Sorted. -/
import Derived.Test.YtbbooldhfcldbaaFlM
namespace Go.Proofs.Ytbbooldhfcldbaa
open Go.ChangeShapes Go.WideShapes Go.ChangeAt Go.RowKit Go.Lib
open Go.Maps Go.Sort Go.Shelf

theorem sortsF (m : Nat) : AnyZ.SortsIn Try.prog Try.sortedF_ren Fence.wide m :=
  ⟨fun blk off cap ss W hH hblk hsz => callsIn_wide.2 (AnyM.slices_Sort_string Try.sortF blk off cap ss W hH hblk hsz),
   fun p cap W => callsIn_wide.2 (AnyM.slices_Sort_string_none Try.sortF p cap W)⟩
/-- Every element reads as one thing: the map's keys alone are looked at. -/
def anyR (_ : Value) : Option (DataW Unit × List MemPlace) := some (.lit (.bool true), [])
def namD (l : List (ByteArray × Value)) : DataW Unit := .map ((l.map fun p => (Lit.string p.1.data.toList, DataW.lit (.bool true))).foldr DataW.insert [])
def bytesOf (s : ByteArray) : List UInt8 := s.data.toList
theorem bytesOf_mk (l : List UInt8) : bytesOf ⟨l.toArray⟩ = l := by simp [bytesOf]
theorem mk_bytesOf (s : ByteArray) : (⟨(bytesOf s).toArray⟩ : ByteArray) = s := by cases s; simp [bytesOf]
theorem rg_of {P : Program} {k : TypeId} {x : MapEntry} {l : Lit} (h : keyOf P k x.key = some l) : WideElems.rg P k anyR x = (l, .lit (.bool true)) := by
  unfold WideElems.rg WideElems.rd
  rw [h]; rfl
theorem MapS.owns {w : World} {r : Nat} {l : List (ByteArray × Value)} (h : MapS w r l) (hs : ∀ p ∈ l, p.1.size ≤ maxLen) (hl : l.length ≤ maxLen) : w.ownsMap Try.prog 9 anyR r l.length (namD l) := by
  have hn := h.nodup
  obtain ⟨es, clk, h, rfl, hb, hd, _⟩ := h
  have hk : ∀ x ∈ es, keyOf Try.prog 9 (entS x).key = some (.string x.1.1.data.toList) := fun x hx =>
    Go.WideMaps.keyOf_string_mk Try.underlying9 (hs x.1 (List.mem_map.2 ⟨x, hx, rfl⟩))
  refine ⟨_, clk, h, ⟨by simpa using hl, ⟨?_, ?_, ?_⟩, ?_⟩, by simp, ?_⟩
  · intro x hx
    simp only [List.mem_map] at hx
    obtain ⟨y, hy, rfl⟩ := hx
    exact hb y hy
  · simp only [List.map_map]
    exact hd
  · simp only [List.map_map]
    rw [List.map_map] at hn
    have : (es.map fun x => x.1.1).map Value.string = es.map ((fun x => x.key) ∘ entS) := by rw [List.map_map]; rfl
    rw [← this]
    refine List.pairwise_map.2 ((show (es.map fun x => x.1.1).Nodup from hn).imp fun {a b} hne e => hne ?_)
    injection e
  · intro x hx
    simp only [List.mem_map] at hx
    obtain ⟨y, hy, rfl⟩ := hx
    exact ⟨_, by unfold WideElems.rd; rw [hk y hy]; rfl⟩
  · unfold namD
    rw [List.map_map]
    refine congrArg (fun z : List (Lit × DataW Unit) => DataW.map (List.foldr DataW.insert [] z)) ?_
    show _ = ((es.map entS).map _)
    rw [List.map_map]
    refine List.map_congr_left fun y hy => ?_
    simp only [Function.comp]
    rw [rg_of (hk y hy)]
theorem namD_keys (l : List (ByteArray × Value)) : (strKeys (namD l)).Perm (l.map fun p => bytesOf p.1) := by
  unfold namD strKeys
  have := (sorted_perm (l.map fun p => (Lit.string p.1.data.toList, (DataW.lit (.bool true) : DataW Unit)))).map fun p => strOf p.1
  rw [List.map_map] at this
  exact this
/-- Texts by their bytes. -/
def sortN (l : List ByteArray) : List ByteArray := ((l.map bytesOf).mergeSort leB).map fun b => ⟨b.toArray⟩
theorem sortN_nil : sortN [] = [] := by simp [sortN]
theorem sortN_enc (l : List ByteArray) : (sortN l).map Value.string = ((l.map bytesOf).mergeSort leB).map encStr := by
  unfold sortN
  rw [List.map_map]; rfl
theorem sortN_length (l : List ByteArray) : (sortN l).length = l.length := by
  unfold sortN
  rw [List.length_map, List.length_mergeSort, List.length_map]
set_option maxRecDepth 100000 in
set_option maxHeartbeats 2000000 in
theorem sortedKeys_some (r : Nat) (l : List (ByteArray × Value)) (w : World) (B : Nat) (h : MapS w r l) (hs : ∀ p ∈ l, p.1.size ≤ 1000) (hl : l.length ≤ 1000000) (hB : w.cell? ⟨B, 0, none⟩ = some (.map (some r))) :
    Calls Try.prog 39 #[.func (.func 50) #[] #[.pointer (some ⟨B, 0, none⟩)]] w fun e w' => ∃ v, e = .returned v ∧ OwnS w' w.heap.size v (sortN (l.map Prod.fst)) ∧ Below w.heap.size w w' := by
  refine (callsIn_wide (n := 5)).1 ?_
  have hsz : size (namD l) = l.length := by unfold namD; rw [Go.Maps.size_eq, length_sorted, List.length_map]
  have hseq : SeqGives Fence.wide 2 Try.prog 50 #[.pointer (some ⟨B, 0, none⟩)] encStr (fun ss => ss.Perm (strKeys (namD l))) (size (namD l)) w :=
    AnyZ.keys_gives (ρ := Try.keysF_ren) { Try.keysF with } Fence.wide _ trivial rfl (by omega) B r l.length (namD l) _ (World.block_lt_of_cell? w _ hB) hB (h.owns (fun p hp => by have := hs p hp; unfold maxLen; omega) (by unfold maxLen; omega))
  have cS := AnyZ.sorted_in Try.sortedF Fence.wide 5 trivial trivial trivial trivial rfl (by omega) (sortsF _) (enters_of Try.func49 (by kernel_rfl) rfl) 50 #[.pointer (some ⟨B, 0, none⟩)] trivial (enters_of Try.func50 (by kernel_rfl) rfl) _ _ (by rw [hsz]; unfold maxLen; omega) (by rw [hsz]; omega) _ hseq
  refine CallsIn.mono cS ?_
  rintro e w' ⟨v, ss, rfl, hS, hrow, _, hb⟩
  refine ⟨v, rfl, ?_, hb⟩
  have hp : ss.Perm ((l.map Prod.fst).map bytesOf) := by
    have := hS.trans (namD_keys l)
    rw [List.map_map]; exact this
  unfold OwnS
  rw [sortN_enc, sortN_length, List.length_map, ← mergeSort_of_perm hp]
  have hlen : ss.length = l.length := by rw [hp.length_eq]; simp
  rw [← hlen]
  exact hrow
set_option maxRecDepth 100000 in
set_option maxHeartbeats 2000000 in
theorem sortedKeys_none (w : World) (B : Nat) (hB : w.cell? ⟨B, 0, none⟩ = some (.map none)) :
    Calls Try.prog 39 #[.func (.func 50) #[] #[.pointer (some ⟨B, 0, none⟩)]] w fun e w' => ∃ v, e = .returned v ∧ OwnS w' w.heap.size v [] ∧ Below w.heap.size w w' := by
  refine (callsIn_wide (n := 5)).1 ?_
  have hseq : SeqGives Fence.wide 2 Try.prog 50 #[.pointer (some ⟨B, 0, none⟩)] encStr (fun ss : List (List UInt8) => ss = []) 0 w :=
    AnyZ.keys_gives_nil (ρ := Try.keysF_ren) { Try.keysF with } Fence.wide _ trivial rfl B _ (World.block_lt_of_cell? w _ hB) hB
  have cS := AnyZ.sorted_in Try.sortedF Fence.wide 5 trivial trivial trivial trivial rfl (by omega) (sortsF _) (enters_of Try.func49 (by kernel_rfl) rfl) 50 #[.pointer (some ⟨B, 0, none⟩)] trivial (enters_of Try.func50 (by kernel_rfl) rfl) _ 0 (Nat.zero_le _) (by omega) _ hseq
  refine CallsIn.mono cS ?_
  rintro e w' ⟨v, ss, rfl, rfl, hrow, _, hb⟩
  rw [List.mergeSort_nil] at hrow
  exact ⟨v, rfl, hrow, hb⟩
set_option maxRecDepth 100000 in
set_option maxHeartbeats 2000000 in
theorem keysF_any (m : Option Nat) (w : World) :
    Calls Try.prog 40 #[.map m] w fun e w' => e = .returned (.func (.func 50) #[] #[.pointer (some ⟨w.heap.size, 0, none⟩)]) ∧ w' = w.alloc (.cells #[.map m] 56) :=
  (callsIn_wide (n := 5)).1 (AnyZ.keys_in Try.keysF Fence.wide 5 trivial rfl m w)
set_option maxRecDepth 100000 in
set_option maxHeartbeats 2000000 in
theorem names_any (f : Nat) (S : FS) (w : World) (h : FsAt w f S) (hs : ∀ p ∈ S.L, p.1.size ≤ 1000) (hl : S.L.length ≤ 1000000) :
    Calls Try.prog 24 #[.pointer (some ⟨f, 0, none⟩)] w fun e w' => ∃ v, e = .returned v ∧ OwnS w' w.heap.size v (sortN (S.L.map Prod.fst)) ∧ Below w.heap.size w w' := by
  have cm : w.cell? ⟨f, 0, none⟩ = some (.map S.m) := h.blk.one rfl
  have HS : Hid (Calls Try.prog 39 #[.func (.func 50) #[] #[.pointer (some ⟨w.heap.size, 0, none⟩)]] (w.alloc (.cells #[.map S.m] 56)) fun e w' => ∃ v, e = .returned v ∧ OwnS w' (w.alloc (.cells #[.map S.m] 56)).heap.size v (sortN (S.L.map Prod.fst)) ∧ Below (w.alloc (.cells #[.map S.m] 56)).heap.size (w.alloc (.cells #[.map S.m] 56)) w') := by
    show Calls _ _ _ _ _
    cases hm : S.m with
    | none =>
      have : S.L = [] := by unfold FS.L; rw [h.bare hm]; rfl
      rw [this, List.map_nil, sortN_nil]
      exact sortedKeys_none _ _ (by simp)
    | some r =>
      have hM := (h.map r hm).2
      have hfst : (S.es.map (onB cellOf)).map Prod.fst = S.L.map Prod.fst := by unfold FS.L; rw [List.map_map, List.map_map]; rfl
      rw [← hfst]
      refine sortedKeys_some r _ _ _ (hM.same (heap_alloc_old _ _ hM.lt)) (fun p hp => ?_) (by unfold FS.L at hl; simpa using hl) (by simp)
      obtain ⟨q, hq, rfl⟩ := List.mem_map.1 hp
      exact hs (onB Prod.snd q) (List.mem_map.2 ⟨q, hq, rfl⟩)
  have HK : Hid (Calls Try.prog 40 #[.map S.m] w fun e w' => e = .returned (.func (.func 50) #[] #[.pointer (some ⟨w.heap.size, 0, none⟩)]) ∧ w' = w.alloc (.cells #[.map S.m] 56)) := keysF_any _ _
  clear h hs hl
  go_enter Try.func24, Try.ntmps24
  go_wp2_with fail
  refine Calls.mono HK.out ?_
  rintro e w1 ⟨rfl, rfl⟩
  go_wp2_with fail
  refine Calls.mono HS.out ?_
  rintro e w2 ⟨v, rfl, h1, h2⟩
  have H : Hid (OwnS w2 w.heap.size v (sortN (S.L.map Prod.fst)) ∧ Below w.heap.size w w2) := ⟨h1.less (by simp), ((Below.refl _ w).alloc (Nat.le_refl _) _).trans (h2.mono (by simp))⟩
  clear h1 h2 HS HK
  go_wp2_with fail
  go_ret
  exact ⟨v, rfl, H.out⟩
end Go.Proofs.Ytbbooldhfcldbaa
