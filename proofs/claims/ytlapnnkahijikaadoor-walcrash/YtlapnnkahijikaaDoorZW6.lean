/- wal: what its acts make of files, told of the log's file and the one beside it. No program's text is walked here. wal: what Append, Reset, Open and a crash make of the log's file. No program's text is walked here. wal: a log with power for all acts, act by act; a crash. Law 8: awake. wal: two logs in one place. -/
import Derived.Test.YtlapnnkahijikaaDoorZW5
import Derived.Lib.SlBytesConst
namespace Go.Proofs.YtlapnnkahijikaaDoor
open Go.ChangeShapes Go.WideShapes Go.ChangeAt Go.RowKit Go.Lib

section
variable {β : Type}
theorem aput_keys (s : ByteArray) (v : β) : ∀ l : List (ByteArray × β), (aput s v l).map Prod.fst = l.map Prod.fst ∨ (s ∉ l.map Prod.fst ∧ (aput s v l).map Prod.fst = l.map Prod.fst ++ [s])
  | [] => .inr ⟨by simp, rfl⟩
  | p :: l => by
    unfold aput
    by_cases h : s = p.1
    · rw [if_pos h]
      exact .inl (by rw [List.map_cons, List.map_cons, h])
    · rw [if_neg h, List.map_cons, List.map_cons]
      rcases aput_keys s v l with hk | ⟨hm, hk⟩
      · exact .inl (by rw [hk])
      · exact .inr ⟨by rw [List.mem_cons, not_or]; exact ⟨h, hm⟩, by rw [hk]; rfl⟩
theorem aput_nodup {s : ByteArray} {v : β} {l : List (ByteArray × β)} (h : (l.map Prod.fst).Nodup) : ((aput s v l).map Prod.fst).Nodup := by
  rcases aput_keys s v l with hk | ⟨hm, hk⟩
  · rw [hk]; exact h
  · rw [hk, List.nodup_append]
    refine ⟨h, by simp, fun a ha b hb e => ?_⟩
    rw [List.mem_singleton] at hb
    exact hm (by rw [← hb, ← e]; exact ha)
theorem aput_len (s : ByteArray) (v : β) (l : List (ByteArray × β)) : (aput s v l).length ≤ l.length + 1 := by
  rcases aput_keys s v l with hk | ⟨_, hk⟩ <;> have := congrArg List.length hk <;> simp at this <;> omega
theorem adel_nodup {s : ByteArray} {l : List (ByteArray × β)} (h : (l.map Prod.fst).Nodup) : ((adel s l).map Prod.fst).Nodup := h.sublist ((adel_sub s l).map _)
end
/-- Files with names of their own, not too many, and so many acts. -/
structure Good (A : Abs) (m : Nat) : Prop where
  nodup : (A.L.map Prod.fst).Nodup
  small : ∀ p ∈ A.L, p.1.size ≤ 1000
  len : A.L.length ≤ m
  ok : A.OK m
/-- Power for all acts. -/
def Live (A : Abs) : Prop := A.counted = false ∧ A.off = false
section
variable {A : Abs} {m : Nat} {n d : ByteArray} {bs : List (BitVec 8)}
theorem Live.pow (h : Live A) : A.pow.off = false ∧ A.pow.counted = false := by
  unfold Abs.pow
  rw [if_pos h.1]
  exact ⟨h.2, h.1⟩
theorem Abs.pow_counted (A : Abs) : A.pow.counted = A.counted := by unfold Abs.pow; repeat' split
                                                                    all_goals rfl
theorem beg_out {l : List ByteArray} (h : l.all nameOK = true) : (A.pow.off = false ∧ A.beg l = 0) ∨ (A.pow.off = true ∧ A.beg l = 7 ∧ ¬ Live A) := by
  unfold Abs.beg
  by_cases ho : A.pow.off = true
  · exact .inr ⟨ho, by rw [if_pos ho], fun hl => by have := hl.pow.1; rw [ho] at this; cases this⟩
  · exact .inl ⟨by simpa using ho, by rw [if_neg ho, if_pos h]⟩
theorem nameOK_small {s : ByteArray} (h : nameOK s = true) : s.size ≤ 1000 := by have := nameOK_size h; omega
theorem Good.put (h : Good A m) (hn : nameOK n = true) (fl : Fl) : Good { A.pow with L := aput n fl A.L } (m + 1) := by
  refine ⟨aput_nodup h.nodup, fun p hp => ?_, ?_, h.ok.pow _⟩
  · rcases mem_put hp with rfl | ⟨hp, _⟩
    · exact nameOK_small hn
    · exact h.small p hp
  · have h1 := h.len
    have h2 := aput_len n fl A.L
    show (aput n fl A.L).length ≤ m + 1
    omega
theorem Good.del (h : Good A m) : Good { A.pow with L := adel n A.L } (m + 1) :=
  ⟨adel_nodup h.nodup, fun p hp => h.small p ((adel_sub n A.L).subset hp), by have h1 := h.len; have h2 := (adel_sub n A.L).length_le; show (adel n A.L).length ≤ m + 1; omega, h.ok.pow _⟩
theorem Good.pow (h : Good A m) : Good A.pow (m + 1) := ⟨by rw [Abs.pow_L]; exact h.nodup, by rw [Abs.pow_L]; exact h.small, by rw [Abs.pow_L]; have := h.len; omega, h.ok.pow'⟩
theorem Good.mono {m' : Nat} (h : Good A m) (hm : m ≤ m') : Good A m' := ⟨h.nodup, h.small, by have := h.len; omega, h.ok.mono hm⟩
theorem pow_alook (x : ByteArray) : alook x A.pow.L = alook x A.L := by rw [Abs.pow_L]
/-- What an act leaves: power as before, or none; names as they should be. -/
structure Kept (A A' : Abs) (m : Nat) : Prop where
  good : Good A' (m + 1)
  live : Live A → Live A'
theorem kept_L {L : List (ByteArray × Fl)} (hg : Good { A.pow with L := L } (m + 1)) : Kept A { A.pow with L := L } m := ⟨hg, fun hl => ⟨hl.pow.2, hl.pow.1⟩⟩
theorem kept_pow (h : Good A m) : Kept A A.pow m := ⟨h.pow, fun hl => ⟨hl.pow.2, hl.pow.1⟩⟩
theorem app_out (h : Good A m) (hn : nameOK n = true) (hb : bs.length + (flOf (alook n A.L)).b.length ≤ 16777216) :
    Kept A (A.app n bs) m ∧ ((A.appE n bs = 0 ∧ ∀ x, alook x (A.app n bs).L = if x = n then some ⟨(flOf (alook n A.L)).b ++ bs, (flOf (alook n A.L)).safe⟩ else alook x A.L) ∨ (A.appE n bs = 7 ∧ ¬ Live A ∧ ∀ x, alook x (A.app n bs).L = alook x A.L)) := by
  rcases beg_out (A := A) (l := [n]) (by simp [hn]) with ⟨_, h2⟩ | ⟨_, h2, h3⟩
  · have he : A.appE n bs = 0 := by unfold Abs.appE; rw [if_pos h2, if_pos hb]
    have ha : A.app n bs = { A.pow with L := aput n ⟨(flOf (alook n A.L)).b ++ bs, (flOf (alook n A.L)).safe⟩ A.L } := by unfold Abs.app; rw [if_pos he]
    rw [ha]
    exact ⟨kept_L (h.put hn _), .inl ⟨he, fun x => alook_put _ _ _ _⟩⟩
  · have he : A.appE n bs = 7 := by unfold Abs.appE; rw [if_neg (by omega), h2]
    have ha : A.app n bs = A.pow := by unfold Abs.app; rw [if_neg (by omega)]
    rw [ha]
    exact ⟨kept_pow h, .inr ⟨he, h3, fun x => pow_alook x⟩⟩
theorem syn_out {fl : Fl} (h : Good A m) (hn : nameOK n = true) (hf : alook n A.L = some fl) :
    Kept A (A.syn n) m ∧ ((A.opn [n] n = 0 ∧ ∀ x, alook x (A.syn n).L = if x = n then some ⟨fl.b, fl.b.length⟩ else alook x A.L) ∨ (A.opn [n] n = 7 ∧ ¬ Live A ∧ ∀ x, alook x (A.syn n).L = alook x A.L)) := by
  rcases beg_out (A := A) (l := [n]) (by simp [hn]) with ⟨_, h2⟩ | ⟨_, h2, h3⟩
  · have he : A.opn [n] n = 0 := by unfold Abs.opn; rw [if_pos h2, hf]; rfl
    have ha : A.syn n = { A.pow with L := aput n ⟨fl.b, fl.b.length⟩ A.L } := by unfold Abs.syn; rw [if_pos he, hf]; rfl
    rw [ha]
    exact ⟨kept_L (h.put hn _), .inl ⟨he, fun x => alook_put _ _ _ _⟩⟩
  · have he : A.opn [n] n = 7 := by unfold Abs.opn; rw [if_neg (by omega), h2]
    have ha : A.syn n = A.pow := by unfold Abs.syn; rw [if_neg (by omega)]
    rw [ha]
    exact ⟨kept_pow h, .inr ⟨he, h3, fun x => pow_alook x⟩⟩
theorem ren_out {fl : Fl} (h : Good A m) (hn : nameOK n = true) (hd : nameOK d = true) (hf : alook n A.L = some fl) :
    Kept A (A.ren n d) m ∧ ((A.opn [d, n] n = 0 ∧ ∀ x, alook x (A.ren n d).L = if x = d then some fl else if x = n then none else alook x A.L) ∨ (A.opn [d, n] n = 7 ∧ ¬ Live A ∧ ∀ x, alook x (A.ren n d).L = alook x A.L)) := by
  rcases beg_out (A := A) (l := [d, n]) (by simp [hn, hd]) with ⟨_, h2⟩ | ⟨_, h2, h3⟩
  · have he : A.opn [d, n] n = 0 := by unfold Abs.opn; rw [if_pos h2, hf]; rfl
    have ha : A.ren n d = { A.pow with L := aput d fl (adel n A.L) } := by unfold Abs.ren; rw [if_pos he, hf]; rfl
    rw [ha]
    refine ⟨kept_L ⟨aput_nodup (adel_nodup h.nodup), fun p hp => ?_, ?_, h.ok.pow _⟩, .inl ⟨he, fun x => ?_⟩⟩
    · rcases mem_put hp with rfl | ⟨hp, _⟩
      · exact nameOK_small hd
      · exact h.small p ((adel_sub n A.L).subset hp)
    · have h1 := h.len
      have h2 := (adel_sub n A.L).length_le
      have h3 := aput_len d fl (adel n A.L)
      show (aput d fl (adel n A.L)).length ≤ m + 1
      omega
    · rw [alook_put, alook_del h.nodup]
  · have he : A.opn [d, n] n = 7 := by unfold Abs.opn; rw [if_neg (by omega), h2]
    have ha : A.ren n d = A.pow := by unfold Abs.ren; rw [if_neg (by omega)]
    rw [ha]
    exact ⟨kept_pow h, .inr ⟨he, h3, fun x => pow_alook x⟩⟩
theorem rem_out (h : Good A m) (hn : nameOK n = true) :
    Kept A (A.rem n) m ∧ (((A.opn [n] n = 0 ∨ A.opn [n] n = 5) ∧ ∀ x, alook x (A.rem n).L = if x = n then none else alook x A.L) ∨ (A.opn [n] n = 7 ∧ ¬ Live A ∧ ∀ x, alook x (A.rem n).L = alook x A.L)) := by
  rcases beg_out (A := A) (l := [n]) (by simp [hn]) with ⟨_, h2⟩ | ⟨_, h2, h3⟩
  · cases hf : alook n A.L with
    | some fl =>
      have he : A.opn [n] n = 0 := by unfold Abs.opn; rw [if_pos h2, hf]; rfl
      have ha : A.rem n = { A.pow with L := adel n A.L } := by unfold Abs.rem; rw [if_pos he]
      rw [ha]
      exact ⟨kept_L h.del, .inl ⟨.inl he, fun x => alook_del h.nodup x⟩⟩
    | none =>
      have he : A.opn [n] n = 5 := by unfold Abs.opn; rw [if_pos h2, hf]; rfl
      have ha : A.rem n = A.pow := by unfold Abs.rem; rw [if_neg (by omega)]
      rw [ha]
      refine ⟨kept_pow h, .inl ⟨.inr he, fun x => ?_⟩⟩
      rw [pow_alook]
      by_cases hx : x = n
      · rw [if_pos hx, hx, hf]
      · rw [if_neg hx]
  · have he : A.opn [n] n = 7 := by unfold Abs.opn; rw [if_neg (by omega), h2]
    have ha : A.rem n = A.pow := by unfold Abs.rem; rw [if_neg (by omega)]
    rw [ha]
    exact ⟨kept_pow h, .inr ⟨he, h3, fun x => pow_alook x⟩⟩
theorem tru_out {fl : Fl} {z : Nat} (h : Good A m) (hn : nameOK n = true) (hf : alook n A.L = some fl) (hz : z ≤ fl.b.length) :
    Kept A (A.tru n z) m ∧ ((A.truE n z = 0 ∧ ∀ x, alook x (A.tru n z).L = if x = n then some ⟨fl.b.take z, min fl.safe z⟩ else alook x A.L) ∨ (A.truE n z = 7 ∧ ¬ Live A ∧ ∀ x, alook x (A.tru n z).L = alook x A.L)) := by
  rcases beg_out (A := A) (l := [n]) (by simp [hn]) with ⟨_, h2⟩ | ⟨_, h2, h3⟩
  · have ho : A.opn [n] n = 0 := by unfold Abs.opn; rw [if_pos h2, hf]; rfl
    have he : A.truE n z = 0 := by unfold Abs.truE; rw [if_pos ho, hf, if_pos ⟨by omega, by show (z : Int) ≤ fl.b.length; omega⟩]
    have ha : A.tru n z = { A.pow with L := aput n ⟨fl.b.take z, min fl.safe z⟩ A.L } := by unfold Abs.tru; rw [if_pos he, hf]; rfl
    rw [ha]
    exact ⟨kept_L (h.put hn _), .inl ⟨he, fun x => alook_put _ _ _ _⟩⟩
  · have ho : A.opn [n] n = 7 := by unfold Abs.opn; rw [if_neg (by omega), h2]
    have he : A.truE n z = 7 := by unfold Abs.truE; rw [if_neg (by omega), ho]
    have ha : A.tru n z = A.pow := by unfold Abs.tru; rw [if_neg (by omega)]
    rw [ha]
    exact ⟨kept_pow h, .inr ⟨he, h3, fun x => pow_alook x⟩⟩
end
end Go.Proofs.YtlapnnkahijikaaDoor
namespace Go.Proofs.YtlapnnkahijikaaDoor
open Go.ChangeShapes Go.WideShapes Go.ChangeAt Go.RowKit Go.Lib

/-- The log's file holds these records, safe, and nothing stands beside it. -/
def LogF (A : Abs) (nm : ByteArray) (X : List (List (BitVec 8))) : Prop := alook nm A.L = some ⟨frs X, (frs X).length⟩ ∧ alook (bes nm) A.L = none
theorem bes_ne (nm : ByteArray) : bes nm ≠ nm := fun e => by
  have := congrArg ByteArray.size e
  unfold bes at this
  rw [ByteArray.size_append] at this
  have h4 : besE.size = 4 := rfl
  omega
section
variable {A : Abs} {m : Nat} {nm : ByteArray} {X rs : List (List (BitVec 8))} {r : List (BitVec 8)}
theorem ask_ok (h : ∀ r ∈ rs, r.length ≤ 1048576) : askE false rs = 0 := by
  unfold askE
  rw [if_pos (List.all_eq_true.2 fun x hx => by simpa using h x hx)]; rfl
theorem wr_out (h : Good A m) (n : ByteArray) (hn : nameOK n = true) (bs : List (BitVec 8)) (hb : bs.length + (flOf (alook n A.L)).b.length ≤ 16777216) :
    Good (wrA A n bs) (m + 2) ∧ (Live A → Live (wrA A n bs)) ∧
    ((wrE A n bs = 0 ∧ ∀ x, alook x (wrA A n bs).L = if x = n then some ⟨(flOf (alook n A.L)).b ++ bs, ((flOf (alook n A.L)).b ++ bs).length⟩ else alook x A.L) ∨
     (wrE A n bs = 7 ∧ ¬ Live A ∧ ((∀ x, alook x (wrA A n bs).L = alook x A.L) ∨ ∀ x, alook x (wrA A n bs).L = if x = n then some ⟨(flOf (alook n A.L)).b ++ bs, (flOf (alook n A.L)).safe⟩ else alook x A.L))) := by
  obtain ⟨k1, o1⟩ := app_out h hn hb
  rcases o1 with ⟨e1, f1⟩ | ⟨e1, l1, f1⟩
  · have hE : wrE A n bs = (A.app n bs).opn [n] n := by unfold wrE; rw [if_pos e1]
    have hA : wrA A n bs = (A.app n bs).syn n := by unfold wrA; rw [if_pos e1]
    have ff := f1 n
    rw [if_pos rfl] at ff
    obtain ⟨k2, o2⟩ := syn_out k1.good hn ff
    rw [hE, hA]
    refine ⟨k2.good, fun hl => k2.live (k1.live hl), ?_⟩
    rcases o2 with ⟨e2, f2⟩ | ⟨e2, l2, f2⟩
    · refine .inl ⟨e2, fun x => ?_⟩
      rw [f2 x]
      by_cases hx : x = n
      · rw [if_pos hx, if_pos hx]
      · rw [if_neg hx, if_neg hx, f1 x, if_neg hx]
    · exact .inr ⟨e2, fun hl => l2 (k1.live hl), .inr fun x => by rw [f2 x, f1 x]⟩
  · have hE : wrE A n bs = 7 := by unfold wrE; rw [if_neg (by omega), e1]
    have hA : wrA A n bs = A.app n bs := by unfold wrA; rw [if_neg (by omega)]
    rw [hE, hA]
    exact ⟨k1.good.mono (by omega), k1.live, .inr ⟨rfl, l1, .inl f1⟩⟩
/-- Append. -/
theorem apnd_out (h : Good A m) (hn : nameOK nm = true) (hX : LogF A nm X) (hr : r.length ≤ 1048576) (hb : (frB r).length + (frs X).length ≤ 16777216) :
    Good (apA A false nm r) (m + 2) ∧ (Live A → Live (apA A false nm r)) ∧ (∀ x, x ≠ nm → alook x (apA A false nm r).L = alook x A.L) ∧
    ((apE A false nm r = 0 ∧ apD A false nm r = false ∧ (∀ size, apZ A size false nm r = size + (frB r).length) ∧ LogF (apA A false nm r) nm (X ++ [r])) ∨
     (apE A false nm r = 7 ∧ apD A false nm r = true ∧ ¬ Live A ∧ ∃ t s, alook nm (apA A false nm r).L = some ⟨frs X ++ t, s⟩ ∧ (frs X).length ≤ s ∧ s ≤ (frs X ++ t).length ∧ (t = [] ∨ t = frB r))) := by
  have hf : flOf (alook nm A.L) = ⟨frs X, (frs X).length⟩ := by rw [hX.1]; rfl
  have ha := ask_ok (rs := [r]) (fun x hx => by rw [List.mem_singleton] at hx; rw [hx]; exact hr)
  obtain ⟨g, l, o⟩ := wr_out h nm hn (frB r) (by rw [hf]; exact hb)
  rw [hf] at o
  have hE : apE A false nm r = wrE A nm (frB r) := by unfold apE; rw [if_pos ha]
  have hA : apA A false nm r = wrA A nm (frB r) := by unfold apA; rw [if_pos ha]
  have hD : apD A false nm r = (false || wrE A nm (frB r) == 7) := by unfold apD; rw [if_pos ha]
  have hZ : ∀ size, apZ A size false nm r = if wrE A nm (frB r) = 0 then size + (frB r).length else size := fun size => by unfold apZ; rw [if_pos ha]
  rw [hE, hA, hD]
  rcases o with ⟨e, f⟩ | ⟨e, nl, f⟩
  · refine ⟨g, l, fun x hx => by rw [f x, if_neg hx], .inl ⟨e, by rw [e]; rfl, fun size => by rw [hZ size, if_pos e], ?_, ?_⟩⟩
    · rw [f nm, if_pos rfl, frs_append, frs_one]
    · rw [f (bes nm), if_neg (bes_ne nm)]; exact hX.2
  · rcases f with f | f
    · exact ⟨g, l, fun x _ => f x, .inr ⟨e, by rw [e]; rfl, nl, [], (frs X).length, by rw [f nm, List.append_nil]; exact hX.1, Nat.le_refl _, by rw [List.append_nil]; exact Nat.le_refl _, .inl rfl⟩⟩
    · refine ⟨g, l, fun x hx => by rw [f x, if_neg hx], .inr ⟨e, by rw [e]; rfl, nl, frB r, (frs X).length, by rw [f nm, if_pos rfl], Nat.le_refl _, by rw [List.length_append]; omega, .inr rfl⟩⟩
/-- Reset. -/
theorem rset_out (h : Good A m) (hn : nameOK nm = true) (hn2 : nameOK (bes nm) = true) (hX : LogF A nm X) (hr : ∀ r ∈ rs, r.length ≤ 1048576) (hb : (frs rs).length ≤ 16777216) :
    Good (rsA A false nm rs) (m + 3) ∧ (Live A → Live (rsA A false nm rs)) ∧ (∀ x, x ≠ nm → x ≠ bes nm → alook x (rsA A false nm rs).L = alook x A.L) ∧
    ((rsE A false nm rs = 0 ∧ rsD A false nm rs = false ∧ (∀ size, rsZ A size false nm rs = (frs rs).length) ∧ LogF (rsA A false nm rs) nm rs) ∨
     (rsE A false nm rs = 7 ∧ rsD A false nm rs = true ∧ ¬ Live A ∧ alook nm (rsA A false nm rs).L = some ⟨frs X, (frs X).length⟩)) := by
  have hf : flOf (alook (bes nm) A.L) = ⟨[], 0⟩ := by rw [hX.2]; rfl
  have ha := ask_ok hr
  obtain ⟨g, l, o⟩ := wr_out h (bes nm) hn2 (frs rs) (by rw [hf]; exact hb)
  rw [hf] at o
  have hD : rsD A false nm rs = (false || rsE A false nm rs == 7) := by unfold rsD; rw [if_pos ha]
  have hbn := bes_ne nm
  rcases o with ⟨e, f⟩ | ⟨e, nl, f⟩
  · have hE : rsE A false nm rs = (wrA A (bes nm) (frs rs)).opn [nm, bes nm] (bes nm) := by unfold rsE; rw [if_pos ha, if_pos e]
    have hA : rsA A false nm rs = (wrA A (bes nm) (frs rs)).ren (bes nm) nm := by unfold rsA; rw [if_pos ha, if_pos e]
    have ff := f (bes nm)
    rw [if_pos rfl, List.nil_append] at ff
    obtain ⟨k2, o2⟩ := ren_out g hn2 hn ff
    rcases o2 with ⟨e2, f2⟩ | ⟨e2, l2, f2⟩
    · rw [hD]
      have hE0 : rsE A false nm rs = 0 := hE.trans e2
      refine ⟨by rw [hA]; exact k2.good, fun hl => by rw [hA]; exact k2.live (l hl), fun x h1 h2 => by rw [hA, f2 x, if_neg h1, if_neg h2, f x, if_neg h2], .inl ⟨hE0, by rw [hE0]; rfl, fun size => by unfold rsZ; rw [if_pos hE0], ?_, ?_⟩⟩
      · rw [hA, f2 nm, if_pos rfl]
      · rw [hA, f2 (bes nm), if_neg hbn, if_pos rfl]
    · rw [hD]
      have hE7 : rsE A false nm rs = 7 := hE.trans e2
      refine ⟨by rw [hA]; exact k2.good, fun hl => by rw [hA]; exact k2.live (l hl), fun x h1 h2 => by rw [hA, f2 x, f x, if_neg h2], .inr ⟨hE7, by rw [hE7]; rfl, fun hl => l2 (l hl), ?_⟩⟩
      rw [hA, f2 nm, f nm, if_neg (Ne.symm hbn)]; exact hX.1
  · have hE : rsE A false nm rs = 7 := by unfold rsE; rw [if_pos ha, if_neg (by omega), e]
    have hA : rsA A false nm rs = wrA A (bes nm) (frs rs) := by unfold rsA; rw [if_pos ha, if_neg (by omega)]
    rw [hD, hA]
    have fx : ∀ x, x ≠ bes nm → alook x (wrA A (bes nm) (frs rs)).L = alook x A.L := fun x hx => by
      rcases f with f | f
      · exact f x
      · rw [f x, if_neg hx]
    exact ⟨g.mono (by omega), l, fun x _ h2 => fx x h2, .inr ⟨hE, by rw [hE]; rfl, nl, by rw [fx nm (Ne.symm hbn)]; exact hX.1⟩⟩
/-- mend, at a file that begins with records, whatever is torn behind them, or at none. -/
theorem mend_out {t : List (BitVec 8)} {s : Nat} (h : Good A m) (hn : nameOK nm = true) (hn2 : nameOK (bes nm) = true) (hX : ∀ r ∈ X, r.length ≤ 1048576) (ht : firstR t = none) (hf : flOf (alook nm A.L) = ⟨frs X ++ t, s⟩) (hb : (frs X ++ t).length ≤ 16777216) :
    Good (mend A nm).2.1 (m + 4) ∧ (Live A → Live (mend A nm).2.1) ∧ (∀ x, x ≠ nm → x ≠ bes nm → alook x (mend A nm).2.1.L = alook x A.L) ∧
    (((mend A nm).1 = 0 ∧ (mend A nm).2.2 = (frs X).length ∧ LogF (mend A nm).2.1 nm X) ∨
     ((mend A nm).1 = 7 ∧ ¬ Live A ∧ (alook nm (mend A nm).2.1.L = alook nm A.L ∨ alook nm (mend A nm).2.1.L = some ⟨frs X ++ t, s⟩ ∨ alook nm (mend A nm).2.1.L = some ⟨frs X, min s (frs X).length⟩))) := by
  have hbn := bes_ne nm
  obtain ⟨k1, o1⟩ := rem_out h hn2
  have f1n : alook nm (A.rem (bes nm)).L = alook nm A.L ∧ ∀ x, x ≠ bes nm → alook x (A.rem (bes nm)).L = alook x A.L := by
    have key : ∀ x, x ≠ bes nm → alook x (A.rem (bes nm)).L = alook x A.L := fun x hx => by
      rcases o1 with ⟨_, f⟩ | ⟨_, _, f⟩
      · rw [f x, if_neg hx]
      · exact f x
    exact ⟨key nm (Ne.symm hbn), key⟩
  rcases o1 with ⟨e1, f1⟩ | ⟨e1, l1, f1⟩
  · have hM1 : mend A nm = (if (mnd1 A nm).appE nm [] = 0 then
      (if (mnd2 A nm).truE nm (mndZ A nm) = 0 then ((mnd3 A nm).opn [nm] nm, (mnd3 A nm).syn nm, mndZ A nm)
       else ((mnd2 A nm).truE nm (mndZ A nm), mnd3 A nm, mndZ A nm))
     else ((mnd1 A nm).appE nm [], mnd2 A nm, 0)) := by unfold mend; rw [if_pos e1]
    have hf1 : flOf (alook nm (mnd1 A nm).L) = ⟨frs X ++ t, s⟩ := by unfold mnd1; rw [f1n.1]; exact hf
    obtain ⟨k2, o2⟩ := app_out (A := mnd1 A nm) (bs := []) k1.good hn (by rw [hf1]; simpa using hb)
    rw [hf1] at o2
    rcases o2 with ⟨e2, f2⟩ | ⟨e2, l2, f2⟩
    · rw [if_pos e2] at hM1
      have hf2 : alook nm (mnd2 A nm).L = some ⟨frs X ++ t, s⟩ := by
        have := f2 nm
        rw [if_pos rfl, List.append_nil] at this
        exact this
      have hz : mndZ A nm = (frs X).length := by
        unfold mndZ fileB
        rw [hf2]
        show (wholeR (frs X ++ t)).2 = _
        rw [wholeR_frs X t hX ht]
      rw [hz] at hM1
      obtain ⟨k3, o3⟩ := tru_out (A := mnd2 A nm) (z := (frs X).length) k2.good hn hf2 (by show (frs X).length ≤ (frs X ++ t).length; rw [List.length_append]; omega)
      have hm3 : mnd3 A nm = (mnd2 A nm).tru nm ((frs X).length : Nat) := by unfold mnd3; rw [hz]
      have fb2 : ∀ x, x ≠ nm → x ≠ bes nm → alook x (mnd2 A nm).L = alook x A.L := fun x h1 h2 => by
        have := f2 x
        rw [if_neg h1] at this
        exact this.trans (f1n.2 x h2)
      rcases o3 with ⟨e3, f3⟩ | ⟨e3, l3, f3⟩
      · rw [if_pos e3] at hM1
        rw [← hm3] at k3 f3
        have hf3 : alook nm (mnd3 A nm).L = some ⟨frs X, min s (frs X).length⟩ := by
          rw [f3 nm, if_pos rfl]
          show some (Fl.mk ((frs X ++ t).take (frs X).length) _) = _
          rw [List.take_left' rfl]
        obtain ⟨k4, o4⟩ := syn_out k3.good hn hf3
        rcases o4 with ⟨e4, f4⟩ | ⟨e4, l4, f4⟩
        · rw [hM1]
          refine ⟨k4.good, fun hl => k4.live (k3.live (k2.live (k1.live hl))), fun x h1 h2 => by show alook x ((mnd3 A nm).syn nm).L = _; rw [f4 x, if_neg h1, f3 x, if_neg h1, fb2 x h1 h2], .inl ⟨e4, rfl, ?_, ?_⟩⟩
          · show alook nm ((mnd3 A nm).syn nm).L = _
            rw [f4 nm, if_pos rfl]
          · show alook (bes nm) ((mnd3 A nm).syn nm).L = _
            rw [f4 _, if_neg hbn, f3 _, if_neg hbn]
            have := f2 (bes nm)
            rw [if_neg hbn] at this
            refine this.trans ?_
            show alook (bes nm) (A.rem (bes nm)).L = none
            rw [f1 _, if_pos rfl]
        · rw [hM1]
          refine ⟨k4.good, fun hl => k4.live (k3.live (k2.live (k1.live hl))), fun x h1 h2 => by show alook x ((mnd3 A nm).syn nm).L = _; rw [f4 x, f3 x, if_neg h1, fb2 x h1 h2], .inr ⟨e4, fun hl => l4 (k3.live (k2.live (k1.live hl))), .inr (.inr ?_)⟩⟩
          show alook nm ((mnd3 A nm).syn nm).L = _
          rw [f4 nm, hf3]
      · rw [if_neg (by omega)] at hM1
        rw [← hm3] at k3 f3
        rw [hM1]
        exact ⟨k3.good.mono (by omega), fun hl => k3.live (k2.live (k1.live hl)), fun x h1 h2 => by show alook x (mnd3 A nm).L = _; rw [f3 x, fb2 x h1 h2], .inr ⟨e3, fun hl => l3 (k2.live (k1.live hl)), .inr (.inl (by show alook nm (mnd3 A nm).L = _; rw [f3 nm, hf2]))⟩⟩
    · rw [if_neg (by omega)] at hM1
      rw [hM1]
      refine ⟨k2.good.mono (by omega), fun hl => k2.live (k1.live hl), fun x _ h2 => (f2 x).trans (f1n.2 x h2), .inr ⟨e2, fun hl => l2 (k1.live hl), .inl ((f2 nm).trans f1n.1)⟩⟩
  · have hM1 : mend A nm = (A.opn [bes nm] (bes nm), mnd1 A nm, 0) := by unfold mend; rw [if_neg (by omega)]
    rw [hM1]
    exact ⟨k1.good.mono (by omega), k1.live, fun x _ _ => f1 x, .inr ⟨e1, l1, .inl (f1 nm)⟩⟩
end
end Go.Proofs.YtlapnnkahijikaaDoor
namespace Go.Proofs.YtlapnnkahijikaaDoor
open Go.ChangeShapes Go.WideShapes Go.ChangeAt Go.RowKit Go.Lib

theorem keepOf_le (fl : Fl) (ps : List Int) : fl.safe ≤ (keepOf fl ps).1 ∧ (fl.safe ≤ fl.b.length → (keepOf fl ps).1 ≤ fl.b.length) := by
  unfold keepOf
  by_cases h : fl.safe < fl.b.length
  · rw [if_pos h]
    cases ps with
    | nil => exact ⟨Nat.le_refl _, fun _ => Nat.le_of_lt h⟩
    | cons p ps =>
      have := remF_le p (fl.b.length - fl.safe)
      exact ⟨by simp only; omega, fun _ => by simp only; omega⟩
  · rw [if_neg h]; exact ⟨Nat.le_refl _, fun h => h⟩
theorem crash_go (L : List (ByteArray × Fl)) (x : ByteArray) : ∀ (ns : List ByteArray) (ps : List Int) (acc : List (ByteArray × Fl)),
    (x ∈ ns → ∃ k, alook x (crashGo L ns ps acc) = some ⟨(flOf (alook x L)).b.take k, k⟩ ∧ (flOf (alook x L)).safe ≤ k ∧ ((flOf (alook x L)).safe ≤ (flOf (alook x L)).b.length → k ≤ (flOf (alook x L)).b.length)) ∧ (x ∉ ns → alook x (crashGo L ns ps acc) = alook x acc)
  | [], _, acc => ⟨fun h => (List.not_mem_nil h).elim, fun _ => rfl⟩
  | n :: ns, ps, acc => by
    unfold crashGo
    obtain ⟨h1, h2⟩ := crash_go L x ns (keepOf (flOf (alook n L)) ps).2 (aput n ⟨(flOf (alook n L)).b.take (keepOf (flOf (alook n L)) ps).1, (keepOf (flOf (alook n L)) ps).1⟩ acc)
    refine ⟨fun hm => ?_, fun hm => ?_⟩
    · by_cases hx : x ∈ ns
      · exact h1 hx
      · rcases List.mem_cons.1 hm with e | e
        · subst e
          have := keepOf_le (flOf (alook x L)) ps
          exact ⟨_, by rw [h2 hx, alook_put, if_pos rfl], this.1, this.2⟩
        · exact absurd e hx
    · rw [List.mem_cons, not_or] at hm
      rw [h2 hm.2, alook_put, if_neg hm.1]
theorem crash_keep (L : List (ByteArray × Fl)) : ∀ (ns : List ByteArray) (ps : List Int) (acc : List (ByteArray × Fl)), (acc.map Prod.fst).Nodup → ((crashGo L ns ps acc).map Prod.fst).Nodup ∧ (∀ p ∈ crashGo L ns ps acc, p ∈ acc ∨ p.1 ∈ ns) ∧ (crashGo L ns ps acc).length ≤ acc.length + ns.length
  | [], _, acc, h => ⟨h, fun p hp => .inl hp, Nat.le_refl _⟩
  | n :: ns, ps, acc, h => by
    unfold crashGo
    obtain ⟨h1, h2, h3⟩ := crash_keep L ns (keepOf (flOf (alook n L)) ps).2 (aput n ⟨(flOf (alook n L)).b.take (keepOf (flOf (alook n L)) ps).1, (keepOf (flOf (alook n L)) ps).1⟩ acc) (aput_nodup h)
    refine ⟨h1, fun p hp => ?_, ?_⟩
    · rcases h2 p hp with hp | hp
      · rcases mem_put hp with rfl | ⟨hp, _⟩
        · exact .inr (List.mem_cons_self ..)
        · exact .inl hp
      · exact .inr (List.mem_cons_of_mem _ hp)
    · have := aput_len n ⟨(flOf (alook n L)).b.take (keepOf (flOf (alook n L)) ps).1, (keepOf (flOf (alook n L)) ps).1⟩ acc
      rw [List.length_cons]; omega
theorem mem_sortN_iff {x : ByteArray} {l : List ByteArray} : x ∈ sortN l ↔ x ∈ l := by
  unfold sortN
  rw [List.mem_map]
  constructor
  · rintro ⟨b, hb, rfl⟩
    rw [List.mem_mergeSort] at hb
    obtain ⟨y, hy, rfl⟩ := List.mem_map.1 hb
    rw [mk_bytesOf]; exact hy
  · intro h
    exact ⟨bytesOf x, by rw [List.mem_mergeSort]; exact List.mem_map.2 ⟨x, h, rfl⟩, mk_bytesOf x⟩
theorem crash_out {A : Abs} {m : Nat} (h : Good A m) (ps : List Int) :
    Good (A.crash ps) m ∧ Live (A.crash ps) ∧ (∀ x fl, alook x A.L = some fl → ∃ k, alook x (A.crash ps).L = some ⟨fl.b.take k, k⟩ ∧ fl.safe ≤ k ∧ (fl.safe ≤ fl.b.length → k ≤ fl.b.length)) := by
  obtain ⟨h1, h2, h3⟩ := crash_keep A.L (sortN (A.L.map Prod.fst)) ps [] (by simp)
  refine ⟨⟨h1, fun p hp => ?_, ?_, ⟨Int.le_refl _, by show (0 : Int) ≤ m; omega, by show (-9223372036854775808 : Int) ≤ 0; omega, by show (0 : Int) ≤ 9223372036854775807; omega⟩⟩, ⟨rfl, rfl⟩, fun x fl hx => ?_⟩
  · rcases h2 p hp with hp | hp
    · cases hp
    · rw [mem_sortN_iff] at hp
      obtain ⟨q, hq, e⟩ := List.mem_map.1 hp
      rw [← e]; exact h.small q hq
  · have := h.len
    rw [sortN_length, List.length_map] at h3
    simp only [List.length_nil, Nat.zero_add] at h3
    show (crashGo A.L (sortN (A.L.map Prod.fst)) ps []).length ≤ m
    omega
  · have hm : x ∈ sortN (A.L.map Prod.fst) := mem_sortN_iff.2 (List.mem_map.2 ⟨_, mem_of_alook hx, rfl⟩)
    obtain ⟨k, h1, h2, h3⟩ := (crash_go A.L x (sortN (A.L.map Prod.fst)) ps []).1 hm
    rw [hx] at h1 h2 h3
    exact ⟨k, h1, h2, h3⟩
theorem recR_is {A : Abs} {nm : ByteArray} {X : List (List (BitVec 8))} (h : LogF A nm X) (hX : ∀ r ∈ X, r.length ≤ 1048576) : recR A nm (frs X).length = X := by
  unfold recR fileB
  rw [h.1]
  show (wholeR ((frs X).take (min (frs X).length (frs X).length))).1 = X
  rw [Nat.min_self, List.take_length]
  have := wholeR_frs X [] hX firstR_nil
  rw [List.append_nil] at this
  rw [this]
/-- A log that has power for all acts. -/
structure Lg (w wi : World) (f : Nat) (S : FS) (l : Nat) (nm : ByteArray) (X : List (List (BitVec 8))) (Bl : List (Nat × List Value)) (m : Nat) : Prop where
  sys : Sys w wi f S ((l, lgC f nm (frs X).length false) :: Bl)
  file : LogF S.abs nm X
  good : Good S.abs m
  live : Live S.abs
  small : ∀ r ∈ X, r.length ≤ 1048576
/-- What an act of such a log leaves. -/
def LgStep (w wi : World) (f : Nat) (S : FS) (l : Nat) (nm : ByteArray) (ids : List Nat) (X' : List (List (BitVec 8))) (Bl : List (Nat × List Value)) (m : Nat) (w' : World) : Prop :=
  ∃ S', Lg w w' f S' l nm X' Bl m ∧ GrB f ids S S' wi w' ∧ ∀ x, x ≠ nm → x ≠ bes nm → alook x S'.abs.L = alook x S.abs.L
structure NameL (nm : ByteArray) : Prop where
  lo : 1 ≤ nm.size
  hi : nm.size ≤ 40
theorem NameL.ok {nm : ByteArray} (h : NameL nm) : nameOK nm = true ∧ nameOK (bes nm) = true := by
  have h4 : besE.size = 4 := rfl
  have h1 := h.lo
  have h2 := h.hi
  unfold nameOK bes
  rw [ByteArray.size_append, h4]
  simp
  omega
section
variable {w wi : World} {f : Nat} {S : FS} {l : Nat} {nm : ByteArray} {X : List (List (BitVec 8))} {Bl : List (Nat × List Value)} {m : Nat}
theorem Lg.below {wj : World} (h : Lg w wi f S l nm X Bl m) (hb : Below wi.heap.size wi wj) : Lg w wj f S l nm X Bl m := ⟨h.sys.below hb, h.file, h.good, h.live, h.small⟩
theorem lg_append (hK : Kw w) (h : Lg w wi f S l nm X Bl m) (hm : m ≤ 1000000000000) (hn : NameL nm) (v : Value) (r : List (BitVec 8)) (hv : Bw wi v r) (hr : r.length ≤ 1048576) (hb : (frB r).length + (frs X).length ≤ 16777216) :
    Calls Tryd.prog 11 #[.pointer (some ⟨l, 0, none⟩), v] wi fun e w' => e = .returned (.int .i64 0) ∧ LgStep w wi f S l nm (((l, lgC f nm (frs X).length false) :: Bl).map Prod.fst) (X ++ [r]) Bl (m + 2) w' := by
  obtain ⟨g1, g2, g3, g4⟩ := apnd_out h.good hn.ok.1 h.file hr hb
  rcases g4 with ⟨e, d, z, lf⟩ | ⟨_, _, nl, _⟩
  · refine (lappend_any hK l nm (frs X).length false h.sys h.good.ok (by omega) (by omega) v r hv (by omega)).mono ?_
    rintro _ w' ⟨rfl, S', hS', hs, hg⟩
    refine ⟨by rw [e], S', ⟨?_, ?_, ?_, ?_, ?_⟩, hg, fun x h1 _ => by rw [hS']; exact g3 x h1⟩
    · rw [d, z] at hs
      rw [frs_append, frs_one, List.length_append]; exact hs
    · rw [hS']; exact lf
    · rw [hS']; exact g1
    · rw [hS']; exact g2 h.live
    · intro x hx
      rcases List.mem_append.1 hx with hx | hx
      · exact h.small x hx
      · rw [List.mem_singleton] at hx; rw [hx]; exact hr
  · exact absurd h.live nl
theorem lg_reset (hK : Kw w) (h : Lg w wi f S l nm X Bl m) (hm : m ≤ 1000000000000) (hn : NameL nm) (v : Value) (rs : List (List (BitVec 8))) (hv : RowsB wi v rs) (hl : rs.length ≤ 1000000) (hr : ∀ r ∈ rs, r.length ≤ 1048576) (hb : (frs rs).length ≤ 16777216) :
    Calls Tryd.prog 15 #[.pointer (some ⟨l, 0, none⟩), v] wi fun e w' => e = .returned (.int .i64 0) ∧ LgStep w wi f S l nm (((l, lgC f nm (frs X).length false) :: Bl).map Prod.fst) rs Bl (m + 3) w' := by
  obtain ⟨g1, g2, g3, g4⟩ := rset_out h.good hn.ok.1 hn.ok.2 h.file hr hb
  rcases g4 with ⟨e, d, z, lf⟩ | ⟨_, _, nl, _⟩
  · refine (lreset_any hK l nm (frs X).length false h.sys h.good.ok (by omega) hn.hi v rs hv hl (by omega)).mono ?_
    rintro _ w' ⟨rfl, S', hS', hs, hg⟩
    refine ⟨by rw [e], S', ⟨?_, ?_, ?_, ?_, hr⟩, hg, fun x h1 h2 => by rw [hS']; exact g3 x h1 h2⟩
    · rw [d, z] at hs; exact hs
    · rw [hS']; exact lf
    · rw [hS']; exact g1
    · rw [hS']; exact g2 h.live
  · exact absurd h.live nl
theorem lg_open (hK : Kw w) (h : Sys w wi f S Bl) (hg : Good S.abs m) (hlv : Live S.abs) (hm : m ≤ 1000000000000) (hn : NameL nm) {t : List (BitVec 8)} {s : Nat} (hX : ∀ r ∈ X, r.length ≤ 1048576) (ht : firstR t = none) (hf : flOf (alook nm S.abs.L) = ⟨frs X ++ t, s⟩) (hb : (frs X ++ t).length ≤ 16777216) :
    Calls Tryd.prog 6 #[.pointer (some ⟨f, 0, none⟩), .string nm] wi fun e w' => ∃ l, e = .returned (.tuple #[.pointer (some ⟨l, 0, none⟩), .int .i64 0]) ∧ wi.heap.size ≤ l ∧ LgStep w wi f S l nm (Bl.map Prod.fst) X Bl (m + 4) w' := by
  obtain ⟨g1, g2, g3, g4⟩ := mend_out hg hn.ok.1 hn.ok.2 hX ht hf hb
  rcases g4 with ⟨e, z, lf⟩ | ⟨_, nl, _⟩
  · refine (wopen_any hK nm h hg.ok (by omega) hn.lo hn.hi).mono ?_
    rintro _ w' (⟨_, l, rfl, hl, S', hS', hs, hg'⟩ | ⟨hne, _⟩)
    · refine ⟨l, rfl, hl, S', ⟨?_, ?_, ?_, ?_, hX⟩, hg', fun x h1 h2 => by rw [hS']; exact g3 x h1 h2⟩
      · rw [z] at hs; exact hs
      · rw [hS']; exact lf
      · rw [hS']; exact g1
      · rw [hS']; exact g2 hlv
    · exact absurd e hne
  · exact absurd hlv nl
theorem lg_has (hK : Kw w) (h : Lg w wi f S l nm X Bl m) (v : Value) (rs : List (List (BitVec 8))) (hv : RowsB wi v rs) (hn : rs.length ≤ 1000000) :
    Calls Tryd.prog 13 #[.pointer (some ⟨l, 0, none⟩), v] wi fun e w' => e = .returned (.bool (decide (X = rs))) ∧ Below wi.heap.size wi w' := by
  have := has_any hK l nm (frs X).length false h.sys v rs hv hn
  rw [recR_is h.file h.small] at this
  exact this
end
set_option maxRecDepth 100000 in
set_option maxHeartbeats 4000000 in
theorem lappend_nil (w : World) :
    Calls Tryd.prog 11 #[.pointer none, .slice none 0 0] w fun e w' => e = .returned (.int .i64 7) ∧ Below w.heap.size w w' := by
  go_enter Tryd.func11, Tryd.ntmps11
  go_wp2_with fail
  refine wp_scope_hops 1 ?_
  go_hide hQ
  go_wp2_with fail
  generalize hw1 : World.alloc w _ = w1
  have HC1 : Hid (Blk w1 w.heap.size [.slice none 0 0]) := by rw [← hw1]; exact Blk.mk w _ _ rfl rfl
  have HB1 : Hid (Below w.heap.size w w1) := by rw [← hw1]; exact (Below.refl _ _).alloc (Nat.le_refl _) _
  clear hw1
  refine Calls.mono (ask_any none true _ [[]] w1 (rows_one HC1.out (.inl (Bs.nil _))) (by simp) (dead_nil w1)) ?_
  rintro e w2 ⟨rfl, rfl⟩
  have HE : Hid (askE true [[]] = 7) := show _ = _ from rfl
  rw [HE.out]
  go_wp2_with fail
  go_step3
  simp only [Exit.then]
  subst hQ
  rw [hops_goto]
  refine ⟨_, rfl, ?_⟩
  go_hide hQ
  go_wp2_with fail
  subst hQ
  rw [hops_ret]
  go_ret
  exact ⟨rfl, HB1.out⟩
set_option maxRecDepth 100000 in
set_option maxHeartbeats 4000000 in
theorem lreset_nil (w : World) :
    Calls Tryd.prog 15 #[.pointer none, .slice none 0 0] w fun e w' => e = .returned (.int .i64 7) ∧ w' = w := by
  have HA : Hid (Calls Tryd.prog 21 #[.pointer none, .slice none 0 0] w fun e w' => e = .returned (.int .i64 7) ∧ w' = w) := ask_any none true _ [] w ⟨[], .inl ⟨rfl, rfl⟩, (All2.nil w).weak⟩ (by simp) (dead_nil w)
  go_enter Tryd.func15, Tryd.ntmps15
  go_wp2_with fail
  refine wp_scope_hops 1 ?_
  go_hide hQ
  go_wp2_with fail
  refine Calls.mono HA.out ?_
  rintro e w2 ⟨rfl, rfl⟩
  go_wp2_with fail
  go_step3
  simp only [Exit.then]
  subst hQ
  rw [hops_goto]
  refine ⟨_, rfl, ?_⟩
  go_hide hQ
  go_wp2_with fail
  subst hQ
  rw [hops_ret]
  go_ret
  exact ⟨rfl, rfl⟩
end Go.Proofs.YtlapnnkahijikaaDoor
namespace Go.Proofs.YtlapnnkahijikaaDoor
open Go.ChangeShapes Go.WideShapes Go.ChangeAt Go.RowKit Go.Lib

theorem new_lg (w : World) :
    Calls Tryd.prog 5 #[] w fun e w' => ∃ f S, e = .returned (.pointer (some ⟨f, 0, none⟩)) ∧ Sys w w' f S [] ∧ Good S.abs 0 ∧ Live S.abs ∧ S.abs.L = [] := by
  refine (new_any w).mono ?_
  rintro _ w' ⟨rfl, hf, hb, _⟩
  refine ⟨w.heap.size, FS.zero, rfl, ⟨hb, hf, fun k hk => ?_, (fun p hp => by cases hp), List.nodup_nil⟩, ⟨List.nodup_nil, (fun p hp => by cases hp), Nat.le_refl _, ⟨Int.le_refl _, Int.le_refl _, by decide, by decide⟩⟩, ⟨rfl, rfl⟩, rfl⟩
  rcases hk with e | e | ⟨p, hp, _⟩
  · rw [e]; exact Nat.le_refl _
  · cases e
  · cases hp
/-- A crash, and what it leaves: files of their own. -/
theorem crash_lg {w wi : World} {f : Nat} {S : FS} {Bl : List (Nat × List Value)} {m : Nat} (h : Sys w wi f S Bl) (hg : Good S.abs m) (hm : m ≤ 1000000) (a : Option Addr) (n c : Nat) (Z : List Int) (hz : Ints wi a Z) (hn : Z.length = n) (hc : n ≤ c) (hcm : c ≤ maxLen) :
    Calls Tryd.prog 12 #[.pointer (some ⟨f, 0, none⟩), .slice a n c] wi fun e w' => ∃ g T, e = .returned (.pointer (some ⟨g, 0, none⟩)) ∧ T.abs = S.abs.crash Z ∧ Sys wi w' g T [] := by
  refine (crash_any f S a n c Z wi h.fs hg.small (by have : S.L.length ≤ m := hg.len; omega) hz hn hc hcm).mono ?_
  rintro _ w' ⟨g, T, rfl, hT, hfT, hgl, hb⟩
  exact ⟨g, T, rfl, hT, hb, hfT, hgl, (fun p hp => by cases hp), List.nodup_nil⟩
def nW : ByteArray := ⟨#[119]⟩
theorem nameL_w : NameL ⟨#[119]⟩ := ⟨by decide, by decide⟩
def oneB : List (BitVec 8) := [111#8, 110#8, 101#8]
theorem oneB_frs : (frs [oneB]).length = 36 := by rw [frs_one, frB_length]; rfl
theorem bs_one {w : World} {b : Nat} (h : ∀ j, w.cell? ⟨b, j, none⟩ = (#[Value.int .u8 111, Value.int .u8 110, Value.int .u8 101] : Array Value)[j]?) : Bs w (.slice (some ⟨b, 0, none⟩) 3 3) oneB :=
  ⟨some ⟨b, 0, none⟩, 3, rfl, Nat.le_refl _, by unfold maxLen; omega, .inr ⟨b, 0, rfl, fun j hj => by
    rw [Nat.zero_add, h j]
    match j, hj with
    | 0, _ => rfl
    | 1, _ => rfl
    | 2, _ => rfl
    | j + 3, hj => exact absurd hj (by simp [oneB])⟩⟩
set_option maxRecDepth 100000 in
set_option maxHeartbeats 8000000 in
theorem wawake_any (w : World) (hK : Kw w) :
    Calls Tryd.prog 4 #[] w fun e w' => e = .returned (.bool true) ∧ Below w.heap.size w w' := by
  have HK : Hid (Kw w) := hK
  clear hK
  go_enter Tryd.func4, Tryd.ntmps4
  go_wp2_with fail
  refine Calls.mono (new_lg w) ?_
  rintro e w1 ⟨f, S1, rfl, hs1, hg1, hl1, hL1⟩
  have HOP : Hid (Calls Tryd.prog 6 #[.pointer (some ⟨f, 0, none⟩), .string ⟨#[119]⟩] w1 fun e w' => ∃ l, e = .returned (.tuple #[.pointer (some ⟨l, 0, none⟩), .int .i64 0]) ∧ w1.heap.size ≤ l ∧ LgStep w w1 f S1 l ⟨#[119]⟩ (([] : List (Nat × List Value)).map Prod.fst) [] [] 4 w') :=
    lg_open (X := []) (t := []) (s := 0) HK.out hs1 hg1 hl1 (by omega) nameL_w (fun r hr => by cases hr) firstR_nil (by rw [hL1]; rfl) (by simp [frs])
  clear hs1 hg1 hl1 hL1
  go_wp2_with fail
  refine Calls.mono HOP.out ?_
  rintro e w2 ⟨l, rfl, _, S2, hL2, _, _⟩
  have HL2 : Hid (Lg w w2 f S2 l ⟨#[119]⟩ [] [] 4) := hL2
  clear hL2 HOP
  go_wp2_with fail
  refine Calls.mono (wopen_bad none ⟨#[119]⟩ w2 (.inl rfl) (by decide)) ?_
  rintro e w3 ⟨rfl, hb3⟩
  have HL3 : Hid (Lg w w3 f S2 l ⟨#[119]⟩ [] [] 4) := HL2.out.below hb3
  clear hb3 HL2
  go_wp2_with fail
  refine Calls.mono (wopen_bad (some ⟨f, 0, none⟩) ⟨#[]⟩ w3 (.inr (.inl rfl)) (by decide)) ?_
  rintro e w4 ⟨rfl, hb4⟩
  have HL4 : Hid (Lg w w4 f S2 l ⟨#[119]⟩ [] [] 4) := HL3.out.below hb4
  clear hb4 HL3
  have kc := fun (w : World) (C : Array Value) (n c : Nat) => Lib.run_convert_bytes_const (P := Tryd.prog) w 40 5 C n c Tryd.underlying40 Tryd.underlying5
  go_wp2_with fail
  clear kc
  generalize hw5 : World.alloc w4 _ = w5
  have HC5 : Hid (Bs w5 (.slice (some ⟨w4.heap.size, 0, none⟩) 3 3) oneB) := bs_one fun j => by rw [← hw5]; exact World.cell?_alloc_mark _ _ _ _ _
  have HB5 : Hid (Below w4.heap.size w4 w5) := by rw [← hw5]; exact (Below.refl _ _).alloc (Nat.le_refl _) _
  clear hw5
  have hap := lg_append HK.out (HL4.out.below HB5.out) (by omega) nameL_w _ oneB (.inl HC5.out) (by decide) (by rw [← frs_one, oneB_frs]; decide)
  have HAP : Hid (Calls Tryd.prog 11 #[.pointer (some ⟨l, 0, none⟩), .slice (some ⟨w4.heap.size, 0, none⟩) 3 3] w5 fun e w' => e = .returned (.int .i64 0) ∧ LgStep w w5 f S2 l ⟨#[119]⟩ (((l, lgC f ⟨#[119]⟩ (frs []).length false) :: []).map Prod.fst) ([] ++ [oneB]) [] (4 + 2) w') := hap
  clear hap HL4
  refine Calls.mono HAP.out ?_
  rintro e w6 ⟨rfl, S6, hL6, _, _⟩
  have HL6 : Hid (Lg w w6 f S6 l ⟨#[119]⟩ [oneB] [] 6) := hL6
  clear hL6 HAP HC5 HB5
  go_wp2_with fail
  refine Calls.mono (crash_lg HL6.out.sys HL6.out.good (by omega) none 0 0 [] (.inl rfl) rfl (Nat.le_refl _) (by unfold maxLen; omega)) ?_
  rintro e w7 ⟨g, T, rfl, hT, hs7⟩
  obtain ⟨hgT, hlT, hkT⟩ := crash_out HL6.out.good []
  obtain ⟨k, hk1, hk2, hk3⟩ := hkT ⟨#[119]⟩ _ HL6.out.file.1
  have hk : k = (frs [oneB]).length := by have := hk3 (Nat.le_refl _); simp only at hk2 this; omega
  rw [hk] at hk1
  simp only [List.take_length] at hk1
  rw [← hT] at hk1 hgT hlT
  have HOP : Hid (Calls Tryd.prog 6 #[.pointer (some ⟨g, 0, none⟩), .string ⟨#[119]⟩] w7 fun e w' => ∃ l, e = .returned (.tuple #[.pointer (some ⟨l, 0, none⟩), .int .i64 0]) ∧ w7.heap.size ≤ l ∧ LgStep w6 w7 g T l ⟨#[119]⟩ (([] : List (Nat × List Value)).map Prod.fst) [oneB] [] (6 + 4) w') :=
    lg_open (X := [oneB]) (t := []) (s := (frs [oneB]).length) (HL6.out.sys.kw HK.out) hs7 hgT hlT (by omega) nameL_w (fun r hr => by rw [List.mem_singleton] at hr; rw [hr]; decide) firstR_nil (by rw [hk1, List.append_nil]; rfl) (by rw [List.append_nil, oneB_frs]; decide)
  clear hs7 hgT hlT hkT hk1 hk2 hk3 hk hT
  go_wp2_with fail
  refine Calls.mono HOP.out ?_
  rintro e w8 ⟨l2, rfl, _, S8, hL8, _, _⟩
  have HL8 : Hid (Lg w6 w8 g S8 l2 ⟨#[119]⟩ [oneB] [] 10) := hL8
  have HL68 : Hid (Lg w w8 f S6 l ⟨#[119]⟩ [oneB] [] 6) := HL6.out.below hL8.sys.base
  have HK6 : Hid (Kw w6) := HL6.out.sys.kw HK.out
  clear hL8 HOP HL6
  have kc := fun (w : World) (C : Array Value) (n c : Nat) => Lib.run_convert_bytes_const (P := Tryd.prog) w 40 5 C n c Tryd.underlying40 Tryd.underlying5
  go_wp2_with fail
  clear kc
  generalize hw9 : World.alloc w8 _ = w9
  have hz9 : w9.heap.size = w8.heap.size + 1 := by rw [← hw9]; simp
  have hb9 : Below w8.heap.size w8 w9 := by rw [← hw9]; exact (Below.refl _ _).alloc (Nat.le_refl _) _
  have hc9 : Bs w9 (.slice (some ⟨w8.heap.size, 0, none⟩) 3 3) oneB := bs_one fun j => by rw [← hw9]; exact World.cell?_alloc_mark _ _ _ _ _
  clear hw9
  generalize hw10 : World.alloc w9 _ = w10
  have hb10 : Below w9.heap.size w9 w10 := by rw [← hw10]; exact (Below.refl _ _).alloc (Nat.le_refl _) _
  have hr10 : RowsB w10 (.slice (some ⟨w8.heap.size + 1, 0, none⟩) 1 1) [oneB] := rows_one (x := .slice (some ⟨w8.heap.size, 0, none⟩) 3 3) (by rw [← hw10]; exact Blk.mk w9 _ _ hz9.symm rfl) (.inl (hc9.below hb10))
  clear hw10
  have hb8 : Below w8.heap.size w8 w10 := hb9.trans (hb10.mono hb9.size)
  have HL810 : Hid (Lg w6 w10 g S8 l2 ⟨#[119]⟩ [oneB] [] 10) := HL8.out.below hb8
  have HL10 : Hid (Lg w w10 f S6 l ⟨#[119]⟩ [oneB] [] 6) := HL68.out.below hb8
  have HHA : Hid (Calls Tryd.prog 13 #[.pointer (some ⟨l2, 0, none⟩), .slice (some ⟨w8.heap.size + 1, 0, none⟩) 1 1] w10 fun e w' => e = .returned (.bool true) ∧ Below w10.heap.size w10 w') := by
    have := lg_has HK6.out HL810.out _ [oneB] hr10 (by simp)
    rw [show decide ([oneB] = [oneB]) = true by simp] at this
    exact this
  clear hz9 hb9 hc9 hb10 hr10 hb8 HL8 HL68 HL810 HK6
  refine Calls.mono HHA.out ?_
  rintro e w11 ⟨rfl, hb11⟩
  have HL11 : Hid (Lg w w11 f S6 l ⟨#[119]⟩ [oneB] [] 6) := HL10.out.below hb11
  clear hb11 HHA HL10
  go_wp2_with fail
  refine Calls.mono (dead_any l f ⟨#[119]⟩ _ false w11 HL11.out.sys.blk) ?_
  rintro e w12 ⟨rfl, rfl⟩
  go_wp2_with fail
  refine Calls.mono (bytes_any l f ⟨#[119]⟩ _ false w12 HL11.out.sys.blk) ?_
  rintro e w13 ⟨rfl, rfl⟩
  rw [oneB_frs]
  go_wp2_with fail
  refine Calls.mono (lappend_nil w13) ?_
  rintro e w14 ⟨rfl, hb14⟩
  have HB14 : Hid (Below w.heap.size w w14) := HL11.out.sys.base.trans (hb14.mono HL11.out.sys.base.size)
  clear hb14 HL11
  go_wp2_with fail
  refine Calls.mono (dead_nil w14) ?_
  rintro e w15 ⟨rfl, rfl⟩
  go_wp2_with fail
  refine Calls.mono (lreset_nil w15) ?_
  rintro e w16 ⟨rfl, rfl⟩
  go_wp2_with fail
  refine Calls.mono (records_nil w16) ?_
  rintro e w17 ⟨rfl, rfl⟩
  go_wp2_with fail
  go_ret
  exact ⟨rfl, HB14.out⟩
end Go.Proofs.YtlapnnkahijikaaDoor
namespace Go.Proofs.YtlapnnkahijikaaDoor
open Go.ChangeShapes Go.WideShapes Go.ChangeAt Go.RowKit Go.Lib

structure Apart (a b : ByteArray) : Prop where
  n1 : b ≠ a
  n2 : b ≠ bes a
  n3 : bes b ≠ a
  n4 : bes b ≠ bes a
theorem Apart.symm {a b : ByteArray} (h : Apart a b) : Apart b a := ⟨Ne.symm h.n1, Ne.symm h.n3, Ne.symm h.n2, Ne.symm h.n4⟩
structure Lg2 (w wi : World) (f : Nat) (S : FS) (l : Nat) (nm : ByteArray) (X : List (List (BitVec 8))) (l2 : Nat) (nm2 : ByteArray) (X2 : List (List (BitVec 8))) (m : Nat) : Prop where
  one : Lg w wi f S l nm X [(l2, lgC f nm2 (frs X2).length false)] m
  file2 : LogF S.abs nm2 X2
  small2 : ∀ r ∈ X2, r.length ≤ 1048576
section
variable {w wi wj : World} {f : Nat} {S : FS} {l l2 : Nat} {nm nm2 : ByteArray} {X X2 X' : List (List (BitVec 8))} {m m' : Nat}
theorem Lg2.swap (h : Lg2 w wi f S l nm X l2 nm2 X2 m) : Lg2 w wi f S l2 nm2 X2 l nm X m :=
  ⟨⟨h.one.sys.swap, h.file2, h.one.good, h.one.live, h.small2⟩, h.one.file, h.one.small⟩
theorem Lg2.below (h : Lg2 w wi f S l nm X l2 nm2 X2 m) (hb : Below wi.heap.size wi wj) : Lg2 w wj f S l nm X l2 nm2 X2 m := ⟨h.one.below hb, h.file2, h.small2⟩
theorem Lg2.step {w' : World} {ids : List Nat} (h : Lg2 w wi f S l nm X l2 nm2 X2 m) (ha : Apart nm nm2) (hs : LgStep w wi f S l nm ids X' [(l2, lgC f nm2 (frs X2).length false)] m' w') : ∃ S', Lg2 w w' f S' l nm X' l2 nm2 X2 m' ∧ GrB f ids S S' wi w' := by
  obtain ⟨S', h1, h2, h3⟩ := hs
  exact ⟨S', ⟨h1, ⟨by rw [h3 _ ha.n1 ha.n2]; exact h.file2.1, by rw [h3 _ ha.n3 ha.n4]; exact h.file2.2⟩, h.small2⟩, h2⟩
/-- The second log of a place. -/
theorem Lg.second {w' : World} {ids : List Nat} (h : Lg w wi f S l nm X [] m) (ha : Apart nm nm2) (hs : LgStep w wi f S l2 nm2 ids X2 [(l, lgC f nm (frs X).length false)] m' w') : ∃ S', Lg2 w w' f S' l nm X l2 nm2 X2 m' ∧ GrB f ids S S' wi w' := by
  obtain ⟨S', h1, h2, h3⟩ := hs
  have hb := ha.symm
  have : Lg2 w w' f S' l2 nm2 X2 l nm X m' := ⟨h1, ⟨by rw [h3 _ hb.n1 hb.n2]; exact h.file.1, by rw [h3 _ hb.n3 hb.n4]; exact h.file.2⟩, h.small⟩
  exact ⟨S', this.swap, h2⟩
end
theorem frs_bound {rs : List (List (BitVec 8))} {c : Nat} (h : ∀ r ∈ rs, r.length ≤ c) : (frs rs).length ≤ (c + 41) * rs.length := by
  induction rs with
  | nil => exact Nat.zero_le _
  | cons r rs ih =>
    rw [frs_cons, List.length_append, List.length_cons, Nat.mul_add]
    have h1 := frB_le r
    have h2 := h r (List.mem_cons_self ..)
    have h3 := ih fun x hx => h x (List.mem_cons_of_mem _ hx)
    omega
theorem takeB_next {α : Type} [Inhabited α] (L : List α) (k : Nat) (d : α) (h : k < L.length) : L.take (k + 1) = L.take k ++ [L.getD k d] := by
  rw [List.take_succ_eq_append_getElem h, List.getD_eq_getElem?_getD, List.getElem?_eq_getElem h]; rfl
theorem mem_getD {rs : List (List (BitVec 8))} {c : Nat} (h : ∀ j, j < rs.length → (rs.getD j []).length ≤ c) : ∀ r ∈ rs, r.length ≤ c := fun r hr => by
  obtain ⟨j, hj, rfl⟩ := List.getElem_of_mem hr
  have := h j hj
  rwa [List.getD_eq_getElem?_getD, List.getElem?_eq_getElem hj] at this
end Go.Proofs.YtlapnnkahijikaaDoor
