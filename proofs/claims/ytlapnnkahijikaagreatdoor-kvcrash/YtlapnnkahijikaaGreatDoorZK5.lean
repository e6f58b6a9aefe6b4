/- kv: (*Store).kept, Dead, Batches, Get, Put. -/
import Derived.Test.YtlapnnkahijikaaGreatDoorZK2
import Derived.Test.YtlapnnkahijikaaGreatDoorZK3
import Derived.Test.YtlapnnkahijikaaGreatDoorZK4
import Derived.Test.YtlapnnkahijikaaGreatDoorZW8
namespace Go.Proofs.YtlapnnkahijikaaGreatDoor
open Go.ChangeShapes Go.WideShapes Go.ChangeAt Go.RowKit Go.Lib

section
variable {w wi wj : World} {f : Nat} {S S' : FS} {Bl : List (Nat × List Value)} {r : Nat}
/-- A change of a block that stands apart. -/
theorem Sys.keepFree (h : Sys w wi f S Bl) (hk : Keep r wi wj) (hr : Free f S (Bl.map Prod.fst) wi r) (hw : w.heap.size ≤ r) : Sys w wj f S Bl := by
  refine ⟨h.base.trans ?_, h.fs.same fun j hj => hk.block j (h.fs.lt hj) fun e => hr.2.1 (by rw [← e]; exact hj), h.low, fun p hp => ⟨(h.blks p hp).1, (h.blks p hp).2.1, ?_⟩, h.nodup⟩
  · exact hk.below hw h.base.size
  · exact (h.blks p hp).2.2.keep hk fun e => hr.2.2 (List.mem_map.2 ⟨p, hp, e⟩)
theorem GrB.of_keep {ids : List Nat} (hk : Keep r wi wj) (hr : r ∈ ids) : GrB f ids S S wi wj := ⟨hk.size, fun k hk' _ hn => hk.block k hk' fun e => hn (by rw [e]; exact hr), fun _ h => .inl h⟩
theorem GrB.wider {ids ids' : List Nat} (h : GrB f ids S S' wi wj) (hi : ∀ k ∈ ids, k ∈ ids') : GrB f ids' S S' wi wj := ⟨h.size, fun k hk hf hn => h.block k hk hf fun e => hn (hi k e), h.foot⟩
theorem Keep.of_setCell (b i : Nat) (v : Value) : Keep b wi (wi.setCell ⟨b, i, none⟩ v) := (Keep.refl b wi).setCell i v
end
set_option maxRecDepth 100000 in
theorem kept_any (s r : Nat) (la : Option Addr) (m : Int) (w : World) (h : Blk w s (stC la r m)) :
    Calls Tryz.prog 32 #[.pointer (some ⟨s, 0, none⟩)] w fun e w' => e = .returned (.pointer la) ∧ w' = w := by
  have s0 : w.cell? ⟨s, 0, none⟩ = some (.pointer la) := h.one rfl
  clear h
  go_enter Tryz.func32, Tryz.ntmps32
  go_wp2_with fail
  go_ret
  exact ⟨rfl, rfl⟩
set_option maxRecDepth 100000 in
theorem kept_nil (w : World) :
    Calls Tryz.prog 32 #[.pointer none] w fun e w' => e = .returned (.pointer none) ∧ w' = w := by
  go_enter Tryz.func32, Tryz.ntmps32
  go_wp2_with fail
  go_ret
  exact ⟨rfl, rfl⟩
set_option maxRecDepth 100000 in
theorem kdead_any (s r l f : Nat) (m : Int) (nm : ByteArray) (size : Nat) (dead : Bool) (w : World) (h : Blk w s (stC (some ⟨l, 0, none⟩) r m)) (hl : Blk w l (lgC f nm size dead)) :
    Calls Tryz.prog 18 #[.pointer (some ⟨s, 0, none⟩)] w fun e w' => e = .returned (.bool dead) ∧ w' = w := by
  have HK : Hid _ := kept_any s r _ m w h
  have HD : Hid _ := dead_any l f nm size dead w hl
  clear h hl
  go_enter Tryz.func18, Tryz.ntmps18
  go_wp2_with fail
  refine Calls.mono HK.out ?_
  rintro e w1 ⟨rfl, rfl⟩
  go_wp2_with fail
  refine Calls.mono HD.out ?_
  rintro e w2 ⟨rfl, rfl⟩
  go_wp2_with fail
  go_ret
  exact ⟨rfl, rfl⟩
set_option maxRecDepth 100000 in
theorem kdead_nil (w : World) :
    Calls Tryz.prog 18 #[.pointer none] w fun e w' => e = .returned (.bool true) ∧ w' = w := by
  have HK : Hid _ := kept_nil w
  have HD : Hid _ := dead_nil w
  go_enter Tryz.func18, Tryz.ntmps18
  go_wp2_with fail
  refine Calls.mono HK.out ?_
  rintro e w1 ⟨rfl, rfl⟩
  go_wp2_with fail
  refine Calls.mono HD.out ?_
  rintro e w2 ⟨rfl, rfl⟩
  go_wp2_with fail
  go_ret
  exact ⟨rfl, rfl⟩
set_option maxRecDepth 100000 in
theorem batches_any (s r : Nat) (la : Option Addr) (m : Int) (w : World) (h : Blk w s (stC la r m)) :
    Calls Tryz.prog 17 #[.pointer (some ⟨s, 0, none⟩)] w fun e w' => e = .returned (.int .i64 m) ∧ w' = w := by
  have s0 : w.cell? ⟨s, 2, none⟩ = some (.int .i64 m) := h.one rfl
  clear h
  go_enter Tryz.func17, Tryz.ntmps17
  go_wp2_with fail
  go_ret
  exact ⟨rfl, rfl⟩
theorem zeroP (w : World) : (zeroValue 48).run Tryz.prog w = .ok (.agg #[.string ⟨#[]⟩, .string ⟨#[]⟩, .bool false]) w := by kernel_rfl
set_option maxRecDepth 100000 in
set_option maxHeartbeats 2000000 in
theorem get_some (s r : Nat) (la : Option Addr) (m : Int) (A : List (ByteArray × Pr)) (k : ByteArray) (p : Pr) (w : World) (h : Blk w s (stC la r m)) (hM : MapP w r A) (hp : alook k A = some p) :
    Calls Tryz.prog 26 #[.pointer (some ⟨s, 0, none⟩), .string k] w fun e w' => e = .returned (.tuple #[.string p.v, .bool true]) ∧ Below w.heap.size w w' := by
  have s1 : w.cell? ⟨s, 1, none⟩ = some (.map (some r)) := h.one rfl
  have HM : Hid (MapS w r (A.map (onB prV))) := hM
  obtain ⟨pk, pv, pg⟩ := p
  have hlk : alook k (A.map (onB prV)) = some (.agg #[.string pk, .string pv, .bool pg]) := by rw [alook_map, hp]; rfl
  have HLK : Hid (_ = _) := hlk
  clear h hM hp hlk
  go_enter Tryz.func26, Tryz.ntmps26
  go_wp2_with (refine wpList_lookS rfl _ _ true rfl Tryz.underlying9 Tryz.underlying59 _ zeroP _ HM.out k rfl rfl ?_; rw [HLK.out])
  go_ret2
  exact ⟨rfl, (Below.refl _ _).alloc (Nat.le_refl _) _⟩
set_option maxRecDepth 100000 in
set_option maxHeartbeats 2000000 in
theorem get_none (s r : Nat) (la : Option Addr) (m : Int) (A : List (ByteArray × Pr)) (k : ByteArray) (w : World) (h : Blk w s (stC la r m)) (hM : MapP w r A) (hp : alook k A = none) :
    Calls Tryz.prog 26 #[.pointer (some ⟨s, 0, none⟩), .string k] w fun e w' => e = .returned (.tuple #[.string ⟨#[]⟩, .bool false]) ∧ Below w.heap.size w w' := by
  have s1 : w.cell? ⟨s, 1, none⟩ = some (.map (some r)) := h.one rfl
  have HM : Hid (MapS w r (A.map (onB prV))) := hM
  have hlk : alook k (A.map (onB prV)) = none := by rw [alook_map, hp]; rfl
  have HLK : Hid (_ = _) := hlk
  clear h hM hp hlk
  go_enter Tryz.func26, Tryz.ntmps26
  go_wp2_with (refine wpList_lookS rfl _ _ true rfl Tryz.underlying9 Tryz.underlying59 _ zeroP _ HM.out k rfl rfl ?_; rw [HLK.out])
  go_ret2
  exact ⟨rfl, (Below.refl _ _).alloc (Nat.le_refl _) _⟩
/-- Put, refused for what was handed in. -/
theorem put_bad (s : Option Addr) (a : Option Addr) (n cap : Nat) (b : List Pr) (w : World) (hb : Els w a n cap b) (hk : kask b ≠ 0) :
    Calls Tryz.prog 12 #[.pointer s, .slice a n cap] w fun e w' => e = .returned (.int .i64 (kask b)) ∧ Below w.heap.size w w' := by
  have HA : Hid (Calls Tryz.prog 31 #[.slice a n cap] w fun e w' => e = .returned (.int .i64 (kask b)) ∧ Below w.heap.size w w') := kask_any a n cap b w hb
  have hz2 : (kask b != 0) = true := bne_iff_ne.2 hk
  clear hb hk
  generalize kask b = E at *
  go_enter Tryz.func12, Tryz.ntmps12
  go_wp2_with fail
  refine wp_scope_hops 1 ?_
  go_hide hQ
  go_wp2_with fail
  refine Calls.mono HA.out ?_
  rintro e w1 ⟨rfl, hb1⟩
  have HB1 : Hid (Below w.heap.size w w1) := hb1
  clear hb1
  go_wp2_with fail
  go_step3
  simp only [Exit.then]
  subst hQ
  rw [hops_goto]
  refine ⟨_, rfl, ?_⟩
  go_hide hQ
  go_wp2_with fail
  subst hQ
  rw [hops_ret]
  go_ret
  exact ⟨rfl, HB1.out⟩
theorem lappend_nil2 (v : Value) (bs : List (BitVec 8)) (w : World) (hv : Bw w v bs) (hl : bs.length ≤ 1048576) :
    Calls Tryz.prog 33 #[.pointer none, v] w fun e w' => e = .returned (.int .i64 7) ∧ Below w.heap.size w w' := by
  obtain ⟨a, c, rfl, _⟩ := hv.shape
  obtain ⟨z, hz⟩ : ∃ z, z = bs.length := ⟨_, rfl⟩
  rw [← hz] at hv ⊢
  have HV : Hid (Bw w (.slice a z c) bs) := hv
  have HE : Hid (askE true [bs] = 7) := by
    show _ = _
    unfold askE
    rw [if_pos (by simp [hl]), if_pos rfl]
  clear hv hz
  go_enter Tryz.func33, Tryz.ntmps33
  go_wp2_with fail
  refine wp_scope_hops 1 ?_
  go_hide hQ
  go_wp2_with fail
  generalize hw1 : World.alloc w _ = w1
  have HC1 : Hid (Blk w1 w.heap.size [.slice a z c]) := by rw [← hw1]; exact Blk.mk w _ _ rfl rfl
  have HB1 : Hid (Below w.heap.size w w1) := by rw [← hw1]; exact (Below.refl _ _).alloc (Nat.le_refl _) _
  clear hw1
  refine Calls.mono (ask_any none true _ [bs] w1 (rows_one HC1.out (HV.out.below HB1.out)) (by simp) (dead_nil w1)) ?_
  rintro e w2 ⟨rfl, rfl⟩
  rw [HE.out]
  go_wp2_with fail
  go_step3
  simp only [Exit.then]
  subst hQ
  rw [hops_goto]
  refine ⟨_, rfl, ?_⟩
  go_hide hQ
  go_wp2_with fail
  subst hQ
  rw [hops_ret]
  go_ret
  exact ⟨rfl, HB1.out⟩
theorem put_nil (a : Option Addr) (n cap : Nat) (b : List Pr) (w : World) (hb : Els w a n cap b) (hk : kask b = 0) (hl : (prsB b).length ≤ 1000000) :
    Calls Tryz.prog 12 #[.pointer none, .slice a n cap] w fun e w' => e = .returned (.int .i64 7) ∧ Below w.heap.size w w' := by
  have HA : Hid (Calls Tryz.prog 31 #[.slice a n cap] w fun e w' => e = .returned (.int .i64 0) ∧ Below w.heap.size w w') := hk ▸ kask_any a n cap b w hb
  have hs := kask_zero hk
  have HW : Hid (∀ w', Below w.heap.size w w' → Calls Tryz.prog 34 #[.slice a n cap] w' fun e w'' => ∃ v, e = .returned v ∧ OwnB w'' w'.heap.size v (batB b) ∧ Below w'.heap.size w' w'') := fun w' hb' => write_any' a n cap b w' (hb.below hb') (fun p hp => by
    have h1 := (pArg_of (hs.2.2 p hp).1).2.1
    have h2 := pBig_of (hs.2.2 p hp).2
    omega) (by omega)
  have HLB : Hid ((batB b).length ≤ 1048576) := by have := batB_le b; show _ ≤ _; omega
  clear hb hk hs
  go_enter Tryz.func12, Tryz.ntmps12
  go_wp2_with fail
  refine wp_scope_hops 1 ?_
  go_hide hQ
  go_wp2_with fail
  refine Calls.mono HA.out ?_
  rintro e w1 ⟨rfl, hb1⟩
  have HB1 : Hid (Below w.heap.size w w1) := hb1
  clear hb1
  go_wp2_with fail
  refine Calls.mono (kept_nil _) ?_
  rintro e w2 ⟨rfl, rfl⟩
  go_wp2_with fail
  refine Calls.mono (HW.out _ HB1.out) ?_
  rintro e w3 ⟨v3, rfl, ho3, hb3⟩
  have HB3 : Hid (Below w.heap.size w w3) := HB1.out.trans (hb3.mono HB1.out.size)
  obtain ⟨a3, c3, hv3⟩ := ho3.shape
  subst hv3
  have HN : Hid _ := lappend_nil2 _ (batB b) w3 (.inl ho3.toBs) HLB.out
  generalize (batB b).length = z at *
  clear ho3 hb3 HB1
  go_wp2_with fail
  refine Calls.mono HN.out ?_
  rintro e w4 ⟨rfl, hb4⟩
  have HB4 : Hid (Below w.heap.size w w4) := HB3.out.trans (hb4.mono HB3.out.size)
  clear hb4
  go_wp2_with fail
  go_step3
  simp only [Exit.then]
  subst hQ
  rw [hops_goto]
  refine ⟨_, rfl, ?_⟩
  go_hide hQ
  go_wp2_with fail
  subst hQ
  rw [hops_ret]
  go_ret
  exact ⟨rfl, HB4.out⟩
/-- A store that stands in memory apart from its log. -/
structure Sto (w wi : World) (f : Nat) (S : FS) (l s r : Nat) (m : Int) (A : List (ByteArray × Pr)) : Prop where
  blk : Blk wi s (stC (some ⟨l, 0, none⟩) r m)
  map : MapP wi r A
  ss : Free f S [l] wi s ∧ w.heap.size ≤ s
  rr : Free f S [l] wi r ∧ w.heap.size ≤ r
theorem Sto.ne {w wi : World} {f : Nat} {S : FS} {l s r : Nat} {m : Int} {A : List (ByteArray × Pr)} (h : Sto w wi f S l s r m A) : s ≠ r := h.map.ne_blk h.blk
theorem Sto.step {w wi wj : World} {f : Nat} {S S' : FS} {l s r : Nat} {m : Int} {A : List (ByteArray × Pr)} (h : Sto w wi f S l s r m A) (hg : GrB f [l] S S' wi wj) : Sto w wj f S' l s r m A := by
  refine ⟨?_, h.map.same (h.rr.1.same hg), ⟨h.ss.1.step hg, h.ss.2⟩, ⟨h.rr.1.step hg, h.rr.2⟩⟩
  obtain ⟨t, ht⟩ := h.blk
  exact ⟨t, by rw [h.ss.1.same hg]; exact ht⟩
theorem Sto.below {w wi wj : World} {f : Nat} {S : FS} {l s r : Nat} {m : Int} {A : List (ByteArray × Pr)} (h : Sto w wi f S l s r m A) (hb : Below wi.heap.size wi wj) : Sto w wj f S l s r m A := h.step (GrB.of_below hb)
/-- A change of the map, or of the store itself. -/
theorem Sto.keepR {w wi wj : World} {f : Nat} {S : FS} {l s r : Nat} {m : Int} {A A' : List (ByteArray × Pr)} (h : Sto w wi f S l s r m A) (hk : Keep r wi wj) (hM : MapP wj r A') : Sto w wj f S l s r m A' :=
  ⟨h.blk.keep hk h.ne, hM, ⟨⟨Nat.lt_of_lt_of_le h.ss.1.1 hk.size, h.ss.1.2⟩, h.ss.2⟩, ⟨⟨Nat.lt_of_lt_of_le h.rr.1.1 hk.size, h.rr.1.2⟩, h.rr.2⟩⟩
theorem Sto.keepS {w wi wj : World} {f : Nat} {S : FS} {l s r : Nat} {m m' : Int} {A : List (ByteArray × Pr)} (h : Sto w wi f S l s r m A) (hk : Keep s wi wj) (hB : Blk wj s (stC (some ⟨l, 0, none⟩) r m')) : Sto w wj f S l s r m' A :=
  ⟨hB, h.map.same (hk.block r h.map.lt h.ne.symm), ⟨⟨Nat.lt_of_lt_of_le h.ss.1.1 hk.size, h.ss.1.2⟩, h.ss.2⟩, ⟨⟨Nat.lt_of_lt_of_le h.rr.1.1 hk.size, h.rr.1.2⟩, h.rr.2⟩⟩
set_option maxRecDepth 100000 in
set_option maxHeartbeats 4000000 in
theorem put_ok {w wi : World} {f : Nat} {S : FS} {q : Nat} (hK : Kw w) (l : Nat) (nm : ByteArray) (size : Nat) (dead : Bool) (h : Sys w wi f S [(l, lgC f nm size dead)]) (s r : Nat) (m : Int) (A : List (ByteArray × Pr)) (hs : Sto w wi f S l s r m A) (hOK : S.abs.OK q) (hq : q ≤ 4611686018427387000) (hz : size ≤ 1000000000000) (hm0 : 0 ≤ m) (hm : m ≤ 1000000000000)
    (a : Option Addr) (n cap : Nat) (b : List Pr) (hb : ∀ S' wj, GrB f [l] S S' wi wj → Below w.heap.size w wj → Els wj a n cap b) (hk : kask b = 0) (hl : (prsB b).length ≤ 30000000) :
    Calls Tryz.prog 12 #[.pointer (some ⟨s, 0, none⟩), .slice a n cap] wi fun e w' => ∃ S', S'.abs = apA S.abs dead nm (batB b) ∧ Sys w w' f S' [(l, lgC f nm (apZ S.abs size dead nm (batB b)) (apD S.abs dead nm (batB b)))] ∧ e = .returned (.int .i64 (apE S.abs dead nm (batB b))) ∧ GrB f [l, s, r] S S' wi w' ∧
      Sto w w' f S' l s r (if apE S.abs dead nm (batB b) = 0 then m + 1 else m) (if apE S.abs dead nm (batB b) = 0 then abat A b else A) := by
  have hb0 := hb S wi (GrB.refl _ _ _ _) h.base
  have HA : Hid (Calls Tryz.prog 31 #[.slice a n cap] wi fun e w' => e = .returned (.int .i64 0) ∧ Below wi.heap.size wi w') := hk ▸ kask_any a n cap b wi hb0
  have hsz := kask_zero hk
  have HSZ : Hid (∀ p ∈ b, p.k.size ≤ 1000000 ∧ p.v.size ≤ 1000000) := fun p hp => by
    have h1 := (pArg_of (hsz.2.2 p hp).1).2.1
    have h2 := pBig_of (hsz.2.2 p hp).2
    omega
  have HW : Hid (∀ w', Below wi.heap.size wi w' → Calls Tryz.prog 34 #[.slice a n cap] w' fun e w'' => ∃ v, e = .returned v ∧ OwnB w'' w'.heap.size v (batB b) ∧ Below w'.heap.size w' w'') := fun w' hb' => write_any' a n cap b w' (hb0.below hb') HSZ.out hl
  have HAP : Hid (∀ (v : Value) (wj : World), Below wi.heap.size wi wj → Bw wj v (batB b) → Calls Tryz.prog 33 #[.pointer (some ⟨l, 0, none⟩), v] wj fun e w' => e = .returned (.int .i64 (apE S.abs dead nm (batB b))) ∧ Step w wj f S [l] (apA S.abs dead nm (batB b)) [(l, lgC f nm (apZ S.abs size dead nm (batB b)) (apD S.abs dead nm (batB b)))] w') :=
    fun v wj hbj hv => lappend_any hK l nm size dead (h.below hbj) hOK hq hz v (batB b) hv (by have := batB_le b; omega)
  have HB : Hid (∀ S' wj, GrB f [l] S S' wi wj → Below w.heap.size w wj → Els wj a n cap b) := hb
  have HS : Hid (Sto w wi f S l s r m A) := hs
  have HSET : Hid (∀ wj, Blk wj s (stC (some ⟨l, 0, none⟩) r m) → MapP wj r A → Els wj a n cap b → Calls Tryz.prog 30 #[.pointer (some ⟨s, 0, none⟩), .slice a n cap] wj fun e w' => e = .returned (.tuple #[]) ∧ MapP w' r (abat A b) ∧ Keep r wj w') := fun wj h1 h2 h3 => set_any s r _ m A a n cap b wj h1 h2 h3 HSZ.out
  clear hb hk hl hsz hb0 hOK h hs
  generalize apE S.abs dead nm (batB b) = E at *
  generalize apA S.abs dead nm (batB b) = A' at *
  generalize apZ S.abs size dead nm (batB b) = Z at *
  generalize apD S.abs dead nm (batB b) = D at *
  generalize batB b = bb at *
  go_enter Tryz.func12, Tryz.ntmps12
  go_wp2_with fail
  refine wp_scope_hops 1 ?_
  go_hide hQ
  go_wp2_with fail
  refine Calls.mono HA.out ?_
  rintro e w1 ⟨rfl, hb1⟩
  have HB1 : Hid (Below wi.heap.size wi w1) := hb1
  clear hb1
  go_wp2_with fail
  refine Calls.mono (kept_any s r _ m _ (HS.out.below HB1.out).blk) ?_
  rintro e w2 ⟨rfl, rfl⟩
  go_wp2_with fail
  refine Calls.mono (HW.out _ HB1.out) ?_
  rintro e w3 ⟨v3, rfl, ho3, hb3⟩
  have HB3 : Hid (Below wi.heap.size wi w3) := HB1.out.trans (hb3.mono HB1.out.size)
  obtain ⟨a3, n3, c3, hv3⟩ := ho3.any
  subst hv3
  have HN : Hid _ := HAP.out _ w3 HB3.out (.inl ho3.toBs)
  clear ho3 hb3 HB1 HAP HW HA
  go_wp2_with fail
  refine Calls.mono HN.out ?_
  rintro e w4 ⟨rfl, S4, hA4, hs4, hg4⟩
  have HA4 : Hid (S4.abs = A') := hA4
  have HS4 : Hid (Sys w w4 f S4 [(l, lgC f nm Z D)]) := hs4
  have HG4 : Hid (GrB f [l] S S4 wi w4) := (GrB.of_below HB3.out).trans hg4
  clear hA4 hs4 hg4 HN HB3
  have HST4 : Hid (Sto w w4 f S4 l s r m A) := HS.out.step HG4.out
  by_cases hE : E = 0
  · subst hE
    have HE4 : Hid (Els w4 a n cap b) := HB.out S4 w4 HG4.out HS4.out.base
    go_wp2_with fail
    refine Calls.mono (HSET.out w4 HST4.out.blk HST4.out.map HE4.out) ?_
    rintro e w5 ⟨rfl, hM5, hk5⟩
    have HK5 : Hid (Keep r w4 w5) := hk5
    have HST5 : Hid (Sto w w5 f S4 l s r m (abat A b)) := HST4.out.keepR hk5 hM5
    have HS5 : Hid (Sys w w5 f S4 [(l, lgC f nm Z D)]) := HS4.out.keepFree hk5 HST4.out.rr.1 HST4.out.rr.2
    clear hM5 hk5 HE4 HSET HS4
    have s2 : w5.cell? ⟨s, 2, none⟩ = some (.int .i64 m) := HST5.out.blk.one rfl
    have f2 : w5.frozen? ⟨s, 2, none⟩ = false := HST5.out.blk.frozen 2
    go_wp2_with fail
    generalize hw6 : World.setCell w5 _ _ = w6
    have HK6 : Hid (Keep s w5 w6) := by rw [← hw6]; exact Keep.of_setCell _ _ _
    have HB6 : Hid (Blk w6 s (stC (some ⟨l, 0, none⟩) r (m + 1))) := by rw [← hw6]; exact HST5.out.blk.set 2 _
    clear hw6 s2 f2
    have HST6 : Hid (Sto w w6 f S4 l s r (m + 1) (abat A b)) := HST5.out.keepS HK6.out HB6.out
    have HS6 : Hid (Sys w w6 f S4 [(l, lgC f nm Z D)]) := HS5.out.keepFree HK6.out HST5.out.ss.1 HST5.out.ss.2
    have HG6 : Hid (GrB f [l, s, r] S S4 wi w6) := ((HG4.out.wider (fun k hk => by simp at hk; simp [hk])).trans (GrB.of_keep HK5.out (by simp))).trans (GrB.of_keep HK6.out (by simp))
    clear HK5 HK6 HB6 HS5 HST4 HG4 HST5
    go_step3
    go_wp2_with fail
    subst hQ
    rw [hops_ret]
    go_ret
    exact ⟨S4, HA4.out, HS6.out, rfl, HG6.out, by rw [if_pos rfl, if_pos rfl]; exact HST6.out⟩
  · have hz2 : (E != 0) = true := bne_iff_ne.2 hE
    have HNE : Hid (E ≠ 0) := hE
    clear HB HSET hE
    go_wp2_with fail
    go_step3
    simp only [Exit.then]
    subst hQ
    rw [hops_goto]
    refine ⟨_, rfl, ?_⟩
    go_hide hQ
    go_wp2_with fail
    subst hQ
    rw [hops_ret]
    go_ret
    exact ⟨S4, HA4.out, HS4.out, rfl, HG4.out.wider (fun k hk => by simp at hk; simp [hk]), by rw [if_neg HNE.out, if_neg HNE.out]; exact HST4.out⟩
end Go.Proofs.YtlapnnkahijikaaGreatDoor
