/- BlockRules: what Make tells of its lists, under what the sums are. No function is walked here. -/
import Derived.Test.YtlaifphedhaemaaGreatDoorCRuA
namespace Go.Proofs.YtlaifphedhaemaaGreatDoor

/-- The number of the i-th transaction. -/
def I (i : Nat) : H32 := idH (baseT i)
def tsG (n T : Nat) (X : TxD) : List TxD := (List.range n).map fun i => if i = T then X else baseT i
theorem tsG_set (n T : Nat) (X : TxD) (h : T < n) : (ts0 n).set T X = tsG n T X := by
  apply List.ext_getElem?
  intro i
  unfold ts0 tsG
  rw [List.getElem?_set, List.getElem?_map, List.getElem?_map, List.length_map, List.length_range]
  by_cases hi : i < n
  · rw [List.getElem?_range hi]
    by_cases e : T = i
    · subst e; rw [if_pos rfl, if_pos h]; simp
    · rw [if_neg e]; simp [Ne.symm e]
  · rw [List.getElem?_eq_none (l := List.range n) (by simp; omega)]
    by_cases e : T = i
    · omega
    · rw [if_neg e]; rfl
theorem tsG_none (n : Nat) : ts0 n = tsG n n ⟨[], [], 0⟩ := by
  unfold ts0 tsG
  refine List.map_congr_left fun i hi => ?_
  have : i < n := List.mem_range.1 hi
  rw [if_neg (by omega)]
theorem nmH_inj {i j : Nat} (hi : i < 256) (hj : j < 256) (h : nmH i = nmH j) : i = j := nameB_inj hi hj (congrArg H32.b h)
theorem ptH_inj {h k : H32} (e : ptH h = ptH k) : h = k := H32.ext (congrArg Pt.tx e)
theorem ptH_txH (h : H32) : (ptH h).txH = h := rfl
/-- Places of a row without repetition. -/
theorem zip_keys (l : List H32) (s : Nat) : ((l.zipIdx s).map fun p => (p.1, (p.2 : Int))).map Prod.fst = l := by
  rw [List.map_map]
  induction l generalizing s with
  | nil => rfl
  | cons x l ih => rw [List.zipIdx_cons, List.map_cons, ih]; rfl
theorem look_zip (l : List H32) : ∀ (s i : Nat) (x : H32), l.Nodup → l[i]? = some x → look x ((l.zipIdx s).map fun p => (p.1, (p.2 : Int))) = some ((s + i : Nat) : Int) := by
  induction l with
  | nil => intro s i x _ h; simp at h
  | cons y l ih =>
    intro s i x hn h
    rw [List.zipIdx_cons, List.map_cons]
    unfold look
    cases i with
    | zero =>
      rw [List.getElem?_cons_zero] at h
      injection h with h
      rw [if_pos h.symm]; rfl
    | succ i =>
      rw [List.getElem?_cons_succ] at h
      obtain ⟨h1, h2⟩ := List.nodup_cons.1 hn
      have hne : x ≠ y := fun e => h1 (e ▸ List.mem_of_getElem? h)
      rw [if_neg hne, ih (s + 1) i x h2 h]
      congr 2; omega
theorem plc (l : List H32) (h : l.Nodup) : ∀ k, k ≤ l.length → placesM l k = ((l.take k).zipIdx 0).map fun p => (p.1, (p.2 : Int)) := by
  intro k
  induction k with
  | zero => intro _; rfl
  | succ k ih =>
    intro hk
    have hx : l[k]? = some (l.getD k default) := by rw [List.getD_eq_getElem?_getD, List.getElem?_eq_getElem (by omega)]; rfl
    have ht : l.take (k + 1) = l.take k ++ [l.getD k default] := by rw [List.take_add_one, hx]; rfl
    have hnew : l.getD k default ∉ l.take k := by
      have : (l.take (k + 1)).Nodup := List.Sublist.nodup (List.take_sublist _ _) h
      rw [ht] at this
      exact fun hm => (List.nodup_append.1 this).2.2 _ hm _ (by simp) rfl
    rw [placesM_succ, ih (by omega), put_new (by rw [zip_keys]; exact hnew), ht, List.zipIdx_append]
    simp [List.length_take, Nat.min_eq_left (show k ≤ l.length by omega)]
theorem plc_all (l : List H32) (h : l.Nodup) : placesM l l.length = (l.zipIdx 0).map fun p => (p.1, (p.2 : Int)) := by
  rw [plc l h l.length (Nat.le_refl _), List.take_of_length_le (Nat.le_refl _)]
theorem tog_con (ts : List TxD) (row : List H32) (h : ¬ (prevsL ts).Nodup) : togB ts row = false := by
  unfold togB conL
  rw [decide_eq_false h]; simp
theorem tog_ahead (ts : List TxD) (row : List H32) (hn : row.Nodup) {i j : Nat} {x : In} (hi : i < ts.length) (hx : x ∈ (ts.getD i ⟨[], [], 0⟩).ins) (hj : row[j]? = some x.prev.txH) (hij : i ≤ j) : togB ts row = false := by
  have : ahL ts (placesM row row.length) = true := by
    unfold ahL
    rw [List.any_eq_true]
    refine ⟨i, by simpa using hi, ?_⟩
    rw [List.any_eq_true]
    refine ⟨x, hx, ?_⟩
    unfold hitM
    rw [plc_all row hn, look_zip row 0 j _ hn hj]
    simp; omega
  unfold togB
  rw [this]; simp
theorem tog_ok (ts : List TxD) (row : List H32) (hn : row.Nodup) (hp : (prevsL ts).Nodup) (h : ∀ i, i < ts.length → ∀ x ∈ (ts.getD i ⟨[], [], 0⟩).ins, x.prev.txH ∉ row ∨ ∃ j, j < i ∧ row[j]? = some x.prev.txH) : togB ts row = true := by
  have ha : ahL ts (placesM row row.length) = false := by
    unfold ahL
    rw [List.any_eq_false]
    intro i hi
    simp only [Bool.not_eq_true]
    rw [List.any_eq_false]
    intro x hx
    simp only [Bool.not_eq_true]
    unfold hitM
    rw [plc_all row hn]
    rcases h i (by simpa using hi) x hx with h | ⟨j, hj, h⟩
    · rw [(look_none_iff _ _).2 (by rw [zip_keys]; exact h)]; rfl
    · rw [look_zip row 0 j _ hn h]; simp; omega
  unfold togB conL
  rw [ha, decide_eq_true hp, plc_all row hn]; simp
theorem mk_big (ts : List TxD) (h : 100 < ts.length) : mkE default 1 0 ts = 3 := by
  unfold mkE setE
  rw [if_neg (by decide), if_pos h]
theorem first_ok {ts : List TxD} (h : ∀ t ∈ ts, chkE t = 0) : firstE ts = 0 := by
  induction ts with
  | nil => rfl
  | cons t ts ih =>
    unfold firstE
    rw [if_pos (h t (by simp))]
    exact ih fun s hs => h s (by simp [hs])
theorem mk_few (ts : List TxD) (h : ts.length ≤ 100) (hc : ∀ t ∈ ts, chkE t = 0) : mkE default 1 0 ts = if togB ts (ts.map idH) = false then 1 else 0 := by
  unfold mkE setE
  rw [if_neg (by decide), if_neg (by omega), first_ok hc, if_neg (by simp)]
theorem chk_inH (l : List In) (lock : Int) (h0 : l ≠ []) (hl : l.length ≤ 100) (hi : l.all inOK = true) (hs : sole l = true) (hlk : wi lock 0 1000000 = true) : chkE ⟨l, [outK], lock⟩ = 0 := by
  rw [chk_sum (t := ⟨l, [outK], lock⟩) (by show ¬ (100 < l.length ∨ 100 < 1); omega) h0 hi hs (show ([outK].all fun o => scrOK o.scr) = true by decide) hlk]
  show totE [5] = 0
  decide
theorem inOK_inH (h : H32) : inOK (inH h) = true := by
  show (wi 0 0 99 && wi 0 0 65535 && witOK 1 0 ByteArray.empty.size) = true
  decide
theorem chk_one (h : H32) (lock : Int) (hlk : wi lock 0 1000000 = true) : chkE ⟨[inH h], [outK], lock⟩ = 0 :=
  chk_inH [inH h] lock (by simp) (by simp) (by simp [inOK_inH]) (by unfold sole; simp) hlk
theorem chk_two (h k : H32) (hne : h ≠ k) : chkE ⟨[inH h, inH k], [outK], 0⟩ = 0 :=
  chk_inH [inH h, inH k] 0 (by simp) (by simp) (by simp [inOK_inH]) (by
    unfold sole
    have : ptH h ≠ ptH k := fun e => hne (ptH_inj e)
    simp [inH, this]) (by decide)
theorem tsG_length (n T : Nat) (X : TxD) : (tsG n T X).length = n := by simp [tsG]
theorem tsG_get (n T : Nat) (X : TxD) (i : Nat) (hi : i < n) : (tsG n T X).getD i ⟨[], [], 0⟩ = if i = T then X else baseT i := by
  unfold tsG
  rw [List.getD_eq_getElem?_getD, List.getElem?_map, List.getElem?_range hi]; rfl
theorem tsG_chk (n T : Nat) (X : TxD) (hX : T < n → chkE X = 0) : ∀ t ∈ tsG n T X, chkE t = 0 := fun t ht => by
  obtain ⟨i, hi, rfl⟩ := List.mem_map.1 ht
  have hi' : i < n := List.mem_range.1 hi
  split
  · rename_i e; exact hX (by omega)
  · exact chk_one _ 0 (by decide)
def rowG (n T : Nat) (X : TxD) : List H32 := (List.range n).map fun i => if i = T then idH X else I i
theorem tsG_row (n T : Nat) (X : TxD) : (tsG n T X).map idH = rowG n T X := by
  unfold tsG rowG
  rw [List.map_map]
  refine List.map_congr_left fun i _ => ?_
  show idH (if i = T then X else baseT i) = _
  split <;> rfl
theorem rowG_get (n T : Nat) (X : TxD) (i : Nat) (hi : i < n) : (rowG n T X)[i]? = some (if i = T then idH X else I i) := by
  unfold rowG
  rw [List.getElem?_map, List.getElem?_range hi]; rfl
theorem rowG_mem {n T : Nat} {X : TxD} {h : H32} (hm : h ∈ rowG n T X) : ∃ i, i < n ∧ h = if i = T then idH X else I i := by
  obtain ⟨i, hi, rfl⟩ := List.mem_map.1 hm
  exact ⟨i, List.mem_range.1 hi, rfl⟩
theorem rowG_nodup (n T : Nat) (X : TxD) (h1 : ∀ i j, i < n → j < n → i ≠ j → I i ≠ I j) (hX : T < n → ∀ i, i < n → i ≠ T → idH X ≠ I i) : (rowG n T X).Nodup := by
  unfold rowG
  unfold List.Nodup
  rw [List.pairwise_map]
  refine List.Pairwise.imp_of_mem (fun {a b} ha hb hab => ?_) (List.nodup_range (n := n))
  have ha' : a < n := List.mem_range.1 ha
  have hb' : b < n := List.mem_range.1 hb
  by_cases e1 : a = T
  · rw [if_pos e1, if_neg (by rw [← e1]; exact hab.symm)]
    exact hX (by omega) b hb' (by rw [← e1]; exact hab.symm)
  · rw [if_neg e1]
    by_cases e2 : b = T
    · rw [if_pos e2]; exact (hX (by omega) a ha' e1).symm
    · rw [if_neg e2]; exact h1 a b ha' hb' hab
theorem prevsG (n T : Nat) (X : TxD) : prevsL (tsG n T X) = (List.range n).flatMap fun i => if i = T then X.ins.map In.prev else [ptH (nmH i)] := by
  unfold prevsL tsG
  rw [List.flatMap_map]
  congr 1
  funext i
  split <;> rfl
theorem prevsG_nodup (n T : Nat) (X : TxD) (hn : n ≤ 256) (hX : T < n → (X.ins.map In.prev).Nodup ∧ ∀ p ∈ X.ins.map In.prev, ∀ i, i < n → i ≠ T → p ≠ ptH (nmH i)) : (prevsL (tsG n T X)).Nodup := by
  rw [prevsG]
  unfold List.Nodup
  rw [List.pairwise_flatMap]
  refine ⟨fun i hi => ?_, List.Pairwise.imp_of_mem (fun {a b} ha hb hab => ?_) (List.nodup_range (n := n))⟩
  · have hi' : i < n := List.mem_range.1 hi
    split
    · rename_i e; exact (hX (by omega)).1
    · exact List.pairwise_singleton _ _
  · have ha' : a < n := List.mem_range.1 ha
    have hb' : b < n := List.mem_range.1 hb
    intro x hx y hy
    by_cases e1 : a = T
    · rw [if_pos e1] at hx
      rw [if_neg (by rw [← e1]; exact hab.symm), List.mem_singleton] at hy
      rw [hy]; exact (hX (by omega)).2 x hx b hb' (by rw [← e1]; exact hab.symm)
    · rw [if_neg e1, List.mem_singleton] at hx
      by_cases e2 : b = T
      · rw [if_pos e2] at hy
        rw [hx]; exact ((hX (by omega)).2 y hy a ha' e1).symm
      · rw [if_neg e2, List.mem_singleton] at hy
        rw [hx, hy]
        exact fun e => hab (nmH_inj (by omega) (by omega) (ptH_inj e))
/-- What the sums must be. -/
structure Sums : Prop where
  h1 : ∀ i j, i < 100 → j < 100 → i ≠ j → I i ≠ I j
  h2 : ∀ i j, i < 100 → j < 100 → nmH i ≠ I j
  h3 : ∀ F T i, F < 100 → T < 100 → i < 100 → idH ⟨[inH (I F), inH (nmH T)], [outK], 0⟩ ≠ I i
  h4 : ∀ F T i, F < 100 → T < 100 → i < 100 → nmH i ≠ idH ⟨[inH (I F), inH (nmH T)], [outK], 0⟩
theorem ruleC (S : Sums) (n : Nat) : mkE default 1 0 (ts0 n) = if 100 < n then 3 else 0 := by
  rw [tsG_none]
  by_cases hb : 100 < n
  · rw [if_pos hb]; exact mk_big _ (by rw [tsG_length]; exact hb)
  · rw [if_neg hb, mk_few _ (by rw [tsG_length]; omega) (tsG_chk n n _ fun h => by omega), tsG_row]
    rw [tog_ok _ _ (rowG_nodup n n _ (fun i j hi hj => S.h1 i j (by omega) (by omega)) fun h => by omega) (prevsG_nodup n n _ (by omega) fun h => by omega) ?_]
    · rfl
    · intro i hi x hx
      rw [tsG_length] at hi
      rw [tsG_get n n _ i hi, if_neg (by omega)] at hx
      obtain rfl : x = inH (nmH i) := List.mem_singleton.1 hx
      refine .inl fun hm => ?_
      obtain ⟨j, hj, e⟩ := rowG_mem hm
      rw [if_neg (by omega)] at e
      exact S.h2 i j (by omega) (by omega) e
theorem ruleA (n F T : Nat) (hF : F < n) (hT : T < n) (hne : F ≠ T) : mkE default 1 0 (tsA n F T) = if 100 < n then 3 else 1 := by
  unfold tsA
  rw [tsG_set n T _ hT]
  by_cases hb : 100 < n
  · rw [if_pos hb]; exact mk_big _ (by rw [tsG_length]; exact hb)
  · rw [if_neg hb, mk_few _ (by rw [tsG_length]; omega) (tsG_chk n T _ fun _ => chk_one _ 7 (by decide)), tog_con _ _ ?_, if_pos rfl]
    rw [prevsG]
    unfold List.Nodup
    rw [List.pairwise_flatMap]
    intro h
    have := h.2
    rcases Nat.lt_or_ge F T with hl | hl
    · have := List.pairwise_iff_getElem.1 this F T (by simpa using hF) (by simpa using hT) hl
      rw [List.getElem_range, List.getElem_range, if_neg hne, if_pos rfl] at this
      exact this (ptH (nmH F)) (by simp) (ptH (nmH F)) (by simp [inH]) rfl
    · have := List.pairwise_iff_getElem.1 this T F (by simpa using hT) (by simpa using hF) (by omega)
      rw [List.getElem_range, List.getElem_range, if_neg hne, if_pos rfl] at this
      exact this (ptH (nmH F)) (by simp [inH]) (ptH (nmH F)) (by simp) rfl
theorem ruleB (S : Sums) (n F T : Nat) (hF : F < n) (hT : T < n) (hne : F ≠ T) : mkE default 1 0 (tsB n F T) = if 100 < n then 3 else if T < F then 1 else 0 := by
  unfold tsB
  rw [tsG_set n T _ hT]
  by_cases hb : 100 < n
  · rw [if_pos hb]; exact mk_big _ (by rw [tsG_length]; exact hb)
  · have hck : chkE ⟨[inH (idH (baseT F)), inH (nmH T)], [outK], 0⟩ = 0 := chk_two _ _ (S.h2 T F (by omega) (by omega)).symm
    rw [if_neg hb, mk_few _ (by rw [tsG_length]; omega) (tsG_chk n T _ fun _ => hck), tsG_row]
    have hnd := rowG_nodup n T ⟨[inH (idH (baseT F)), inH (nmH T)], [outK], 0⟩ (fun i j hi hj => S.h1 i j (by omega) (by omega)) fun _ i hi _ => S.h3 F T i (by omega) (by omega) (by omega)
    by_cases hl : T < F
    · rw [if_pos hl, tog_ahead _ _ hnd (i := T) (j := F) (x := inH (idH (baseT F))) (by rw [tsG_length]; exact hT) (by rw [tsG_get n T _ T hT, if_pos rfl]; simp) (by rw [rowG_get n T _ F hF, if_neg hne]; rfl) (by omega), if_pos rfl]
    · rw [if_neg hl, tog_ok _ _ hnd (prevsG_nodup n T _ (by omega) fun _ => ?_) ?_]
      · rfl
      · intro i hi x hx
        rw [tsG_length] at hi
        rw [tsG_get n T _ i hi] at hx
        have hnm : ∀ k, k < n → nmH k ∉ rowG n T ⟨[inH (idH (baseT F)), inH (nmH T)], [outK], 0⟩ := fun k hk hm => by
          obtain ⟨j, hj, e⟩ := rowG_mem hm
          split at e
          · exact S.h4 F T k (by omega) (by omega) (by omega) e
          · exact S.h2 k j (by omega) (by omega) e
        split at hx
        · rename_i e
          simp only [List.mem_cons, List.not_mem_nil, or_false] at hx
          rcases hx with rfl | rfl
          · exact .inr ⟨F, by omega, by rw [rowG_get n T _ F hF, if_neg hne]; rfl⟩
          · exact .inl (hnm T hT)
        · obtain rfl : x = inH (nmH i) := List.mem_singleton.1 hx
          exact .inl (hnm i hi)
      · have hp : ptH (idH (baseT F)) ≠ ptH (nmH T) := fun e => S.h2 T F (by omega) (by omega) (ptH_inj e).symm
        refine ⟨by simp [inH, hp], fun p hp' i hi hiT => ?_⟩
        simp only [List.map_cons, List.map_nil, List.mem_cons, List.not_mem_nil, or_false] at hp'
        rcases hp' with rfl | rfl
        · exact fun e => S.h2 i F (by omega) (by omega) (ptH_inj e).symm
        · exact fun e => hiT (nmH_inj (by omega) (by omega) (ptH_inj e)).symm
end Go.Proofs.YtlaifphedhaemaaGreatDoor
