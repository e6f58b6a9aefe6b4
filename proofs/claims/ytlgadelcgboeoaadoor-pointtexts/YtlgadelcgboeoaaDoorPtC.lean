/- The order of outpoints, rows that are sorted, and rows without doubles: plain mathematics. -/
import Derived.Test.YtlgadelcgboeoaaDoorPCmp
import Derived.Test.YtlgadelcgboeoaaDoorPtB
import Derived.Lib.SlicesCompact
import Derived.Shelf.SlSortCmp.Insertion
namespace Go.Proofs.YtlgadelcgboeoaaDoor
open Go.Sort Go.Lib

theorem lessB_irrefl : ∀ a : List (BitVec 8), lessB a a = false
  | [] => rfl
  | x :: a => by rw [lessB, if_pos rfl, lessB_irrefl a]
theorem lessB_trans : ∀ a b c : List (BitVec 8), lessB a b = true → lessB b c = true → lessB a c = true
  | [], _, _, h, _ => by simp [lessB] at h
  | _ :: _, [], _, h, _ => by simp [lessB] at h
  | _ :: _, _ :: _, [], _, h => by simp [lessB] at h
  | x :: a, y :: b, z :: c, h, k => by
    rw [lessB] at h k ⊢
    by_cases e : x = y
    · subst e
      rw [if_pos rfl] at h
      by_cases f : x = z
      · subst f; rw [if_pos rfl] at k ⊢; exact lessB_trans a b c h k
      · rw [if_neg f] at k ⊢; exact k
    · rw [if_neg e] at h
      have h' := of_decide_eq_true h
      by_cases f : y = z
      · subst f; rw [if_neg e]; exact h
      · rw [if_neg f] at k
        have k' := of_decide_eq_true k
        have g : x ≠ z := fun g => by rw [g] at h'; omega
        rw [if_neg g]; exact decide_eq_true (by omega)
theorem lessB_conn : ∀ a b : List (BitVec 8), a.length = b.length → lessB a b = false → lessB b a = false → a = b
  | [], [], _, _, _ => rfl
  | [], _ :: _, h, _, _ => by simp at h
  | _ :: _, [], h, _, _ => by simp at h
  | x :: a, y :: b, hl, h, k => by
    rw [lessB] at h k
    by_cases e : x = y
    · subst e
      rw [if_pos rfl] at h k
      rw [lessB_conn a b (by simpa using hl) h k]
    · rw [if_neg e] at h
      rw [if_neg fun f => e f.symm] at k
      have h' := of_decide_eq_false h
      have k' := of_decide_eq_false k
      exact absurd (BitVec.eq_of_toNat_eq (by omega)) e

theorem ltPt_irrefl (p : Pt) : ltPt p p = false := by rw [ltPt, if_pos rfl]; simp
theorem ltPt_trans {p q r : Pt} (h : ltPt p q = true) (k : ltPt q r = true) : ltPt p r = true := by
  unfold ltPt at *
  by_cases e : p.tx = q.tx
  · rw [if_pos e] at h
    by_cases f : q.tx = r.tx
    · rw [if_pos f] at k; rw [if_pos (e.trans f)]; simp at *; omega
    · rw [if_neg f] at k; rw [if_neg (e ▸ f), e]; exact k
  · rw [if_neg e] at h
    by_cases f : q.tx = r.tx
    · rw [if_neg (f ▸ e), ← f]; exact h
    · rw [if_neg f] at k
      have t := lessB_trans _ _ _ h k
      by_cases g : p.tx = r.tx
      · rw [g, lessB_irrefl] at t; cases t
      · rw [if_neg g]; exact t
theorem ltPt_conn {p q : Pt} (h : ltPt p q = false) (k : ltPt q p = false) : p = q := by
  unfold ltPt at *
  by_cases e : p.tx = q.tx
  · rw [if_pos e] at h; rw [if_pos e.symm] at k
    simp at h k
    exact Pt.ext e (by omega)
  · rw [if_neg e] at h; rw [if_neg fun f => e f.symm] at k
    exact absurd (lessB_conn _ _ (p.len.trans q.len.symm) h k) e
theorem ltPt_asymm {p q : Pt} (h : ltPt p q = true) : ltPt q p = false := by
  cases k : ltPt q p with
  | false => rfl
  | true => have := ltPt_trans h k; rw [ltPt_irrefl] at this; cases this
/-- 'not behind' is transitive. -/
theorem ltPt_le {p q r : Pt} (h : ltPt q p = false) (k : ltPt r q = false) : ltPt r p = false := by
  cases t : ltPt r p with
  | false => rfl
  | true =>
    cases u : ltPt p q with
    | true => rw [ltPt_trans t u] at k; cases k
    | false => rw [ltPt_conn u h] at t; rw [t] at k; cases k
theorem ltPt_lt_le {p q r : Pt} (h : ltPt q p = false) (k : ltPt q r = true) : ltPt p r = true := by
  cases u : ltPt p q with
  | true => exact ltPt_trans u k
  | false => rw [ltPt_conn u h]; exact k

theorem ltOf_cmp (p q : Pt) : ltOf cmpPt p q = ltPt p q := by
  unfold ltOf cmpPt
  cases ltPt p q <;> cases ltPt q p <;> simp
theorem swo_cmp : SWO (ltOf cmpPt) where
  irrefl p := by rw [ltOf_cmp]; exact ltPt_irrefl p
  trans p q r h k := by rw [ltOf_cmp] at *; exact ltPt_trans h k
  ntrans p q r h k := by rw [ltOf_cmp] at *; exact ltPt_le k h

/-- None comes ahead of one that stands before it. -/
def Up (l : List Pt) : Prop := l.Pairwise fun p q => ltPt q p = false
/-- Each comes ahead of all that stand behind it. -/
def Inc (l : List Pt) : Prop := l.Pairwise fun p q => ltPt p q = true

theorem up_perm : ∀ {l m : List Pt}, Up l → Up m → l.Perm m → l = m
  | [], m, _, _, h => (List.nil_perm.1 h).symm
  | p :: l, [], _, _, h => by have := h.length_eq; simp at this
  | p :: l, q :: m, hl, hm, h => by
    have hl' := List.pairwise_cons.1 hl
    have hm' := List.pairwise_cons.1 hm
    have e : p = q := by
      rcases List.mem_cons.1 (h.mem_iff.1 (List.mem_cons_self)) with e | e
      · exact e
      · rcases List.mem_cons.1 (h.mem_iff.2 (List.mem_cons_self)) with f | f
        · exact f.symm
        · exact ltPt_conn (hm'.1 p e) (hl'.1 q f)
    subst e
    rw [up_perm hl'.2 hm'.2 h.cons_inv]
theorem inc_ext : ∀ {l m : List Pt}, Inc l → Inc m → (∀ p, p ∈ l ↔ p ∈ m) → l = m
  | [], [], _, _, _ => rfl
  | [], q :: m, _, _, h => by have := (h q).2 List.mem_cons_self; cases this
  | p :: l, [], _, _, h => by have := (h p).1 List.mem_cons_self; cases this
  | p :: l, q :: m, hl, hm, h => by
    have hl' := List.pairwise_cons.1 hl
    have hm' := List.pairwise_cons.1 hm
    have e : p = q := by
      rcases List.mem_cons.1 ((h p).1 List.mem_cons_self) with e | e
      · exact e
      · rcases List.mem_cons.1 ((h q).2 List.mem_cons_self) with f | f
        · exact f.symm
        · have := ltPt_asymm (hm'.1 p e); rw [hl'.1 q f] at this; cases this
    subst e
    rw [inc_ext hl'.2 hm'.2 fun x => ?_]
    constructor
    · intro hx
      rcases List.mem_cons.1 ((h x).1 (List.mem_cons_of_mem _ hx)) with e | e
      · have := hl'.1 x hx; rw [e, ltPt_irrefl] at this; cases this
      · exact e
    · intro hx
      rcases List.mem_cons.1 ((h x).2 (List.mem_cons_of_mem _ hx)) with e | e
      · have := hm'.1 x hx; rw [e, ltPt_irrefl] at this; cases this
      · exact e

theorem up_of_sorted {d : Array Pt} (h : SortedIn (ltOf cmpPt) 0 d.size d) : Up d.toList := by
  rw [Up, List.pairwise_iff_getElem]
  intro i j hi hj hij
  have := h i j (Nat.zero_le _) hij (by simpa using hj)
  rw [ltOf_cmp] at this
  simp at hi hj
  rw [getElem!_pos d i hi, getElem!_pos d j hj] at this
  simpa using this
theorem perm_of_permIn {d d' : Array Pt} (h : PermIn 0 d.size d d') : d'.toList.Perm d.toList := by
  have h3 := h.2.2
  have e1 : d'.extract 0 d.size = d' := by rw [← h.1]; simp
  have e2 : d.extract 0 d.size = d := by simp
  rw [e1, e2] at h3
  exact h3

/-- What is kept of a sorted row where doubles go. -/
theorem compact_up (d : Array Pt) (h : Up d.toList) : ∀ m, m ≤ d.size →
    Inc (compactUpTo d m) ∧ (∀ x, x ∈ compactUpTo d m ↔ ∃ j, j < m ∧ d[j]! = x) ∧ ∀ x ∈ compactUpTo d m, ltPt d[m - 1]! x = false := by
  have hup : ∀ i j, i ≤ j → j < d.size → ltPt d[j]! d[i]! = false := by
    intro i j hij hj
    by_cases e : i = j
    · subst e; exact ltPt_irrefl _
    · have := List.pairwise_iff_getElem.1 h i j (by simp; omega) (by simpa using hj) (by omega)
      rw [getElem!_pos d i (by omega), getElem!_pos d j hj]; simpa using this
  intro m
  induction m with
  | zero => intro _; exact ⟨List.Pairwise.nil, fun x => ⟨fun hx => by simp [compactUpTo] at hx, fun ⟨j, hj, _⟩ => absurd hj (Nat.not_lt_zero _)⟩, fun x hx => by simp [compactUpTo] at hx⟩
  | succ m ih =>
    intro hm
    obtain ⟨h1, h2, h3⟩ := ih (by omega)
    rw [compactUpTo_succ]
    by_cases hk : keeps d m = true
    · rw [if_pos hk]
      have hlt : ∀ x ∈ compactUpTo d m, ltPt x d[m]! = true := by
        intro x hx
        obtain ⟨j, hj, rfl⟩ := (h2 x).1 hx
        have hne : d[m]! ≠ d[m - 1]! := by
          intro e
          have : keeps d m = false := keeps_neg (by omega) e
          rw [this] at hk; cases hk
        have hl : ltPt d[m - 1]! d[m]! = true := by
          cases u : ltPt d[m - 1]! d[m]! with
          | true => rfl
          | false => exact absurd (ltPt_conn (hup (m - 1) m (by omega) (by omega)) u) hne
        exact ltPt_lt_le (h3 _ hx) hl
      refine ⟨List.pairwise_append.2 ⟨h1, List.pairwise_singleton _ _, fun x hx y hy => by rw [List.mem_singleton.1 hy]; exact hlt x hx⟩, fun x => ?_, fun x hx => ?_⟩
      · rw [List.mem_append, h2, List.mem_singleton]
        constructor
        · rintro (⟨j, hj, e⟩ | e)
          · exact ⟨j, by omega, e⟩
          · exact ⟨m, by omega, e.symm⟩
        · rintro ⟨j, hj, e⟩
          by_cases hjm : j = m
          · right; rw [← e, hjm]
          · left; exact ⟨j, by omega, e⟩
      · rcases List.mem_append.1 hx with hx | hx
        · exact ltPt_asymm (hlt x hx)
        · rw [List.mem_singleton.1 hx]; exact ltPt_irrefl _
    · have hk' : keeps d m = false := by simpa using hk
      rw [if_neg hk, List.append_nil]
      have hm0 : m ≠ 0 := fun e => by rw [keeps_lt_one d m (by omega)] at hk'; cases hk'
      have he : d[m]! = d[m - 1]! := by
        apply Classical.byContradiction
        intro hne
        rw [keeps_pos hne] at hk'; cases hk'
      refine ⟨h1, fun x => ?_, fun x hx => ?_⟩
      · rw [h2]
        constructor
        · rintro ⟨j, hj, e⟩; exact ⟨j, by omega, e⟩
        · rintro ⟨j, hj, e⟩
          by_cases hjm : j = m
          · exact ⟨m - 1, by omega, by rw [← he, ← hjm]; exact e⟩
          · exact ⟨j, by omega, e⟩
      · show ltPt d[m]! x = false
        rw [he]; exact h3 x hx
theorem compact_mem {d : Array Pt} (h : Up d.toList) (x : Pt) : x ∈ compactUpTo d d.size ↔ x ∈ d.toList := by
  rw [(compact_up d h d.size (Nat.le_refl _)).2.1 x]
  constructor
  · rintro ⟨j, hj, e⟩
    rw [getElem!_pos d j hj] at e
    rw [← e]; simp
  · intro hx
    obtain ⟨j, hj, e⟩ := List.getElem_of_mem hx
    simp at hj
    exact ⟨j, hj, by rw [getElem!_pos d j hj]; simpa using e⟩

/-- As long, and each of the first one's as often: the same, in some order. -/
theorem perm_of_counts {a b : List Pt} (hl : a.length = b.length) (h : ∀ x ∈ a, a.count x = b.count x) : a.Perm b := by
  have hp : (b.filter fun y => decide (y ∈ a)).Perm a := by
    rw [List.perm_iff_count]
    intro x
    by_cases hx : x ∈ a
    · rw [List.count_filter (by simpa using hx)]; exact (h x hx).symm
    · rw [List.count_eq_zero_of_not_mem hx, List.count_eq_zero_of_not_mem]
      intro hm
      exact hx (by simpa using (List.mem_filter.1 hm).2)
  have hf : (b.filter fun y => decide (y ∈ a)) = b := by
    rw [List.filter_eq_self]
    exact List.length_filter_eq_length_iff.1 (by rw [hp.length_eq, hl])
  rw [hf] at hp
  exact hp.symm
end Go.Proofs.YtlgadelcgboeoaaDoor
