/- coraclelaw9.KvShrinks: its walk. -/
import Derived.Test.YtlapnnkahijikaaGreatDoorCKxC
import Derived.Test.YtlapnnkahijikaaGreatDoorZW5
namespace Go.Proofs.YtlapnnkahijikaaGreatDoor
open Go.ChangeShapes Go.WideShapes Go.ChangeAt Go.RowKit Go.Lib

def kK : ByteArray := ⟨#[107]⟩
def xK (k : Int) : ByteArray := ⟨#[120]⟩ ++ ofB (letB 2 k)
theorem xK_size (k : Int) : (xK k).size = 3 := by unfold xK; rw [ByteArray.size_append, ofB_size, letB_length]; rfl
theorem klt_kx (k : Int) : klt kK (xK k) = true := by
  unfold klt bytesOf kK xK
  rw [ByteArray.data_append, Array.toList_append]
  exact decide_eq_true (List.cons_lt_cons_iff.2 (.inl (show (107 : UInt8) < 120 by decide)))
def kP (v : ByteArray) : Pr := ⟨kK, v, false⟩
def sB1 (v : ByteArray) (k : Int) : List Pr := [kP v, ⟨xK k, ⟨#[121]⟩, false⟩]
def sB2 (k : Int) : List Pr := [⟨xK k, ⟨#[]⟩, true⟩]
theorem shr_next (v : ByteArray) (k : Int) (T : List Pr) (h : T = [] ∨ T = [kP v]) : tbat (tbat T (sB1 v k)) (sB2 k) = [kP v] := by
  have h1 := klt_kx k
  have h2 := klt_irrefl kK
  have h3 := klt_irrefl (xK k)
  rcases h with rfl | rfl <;> simp [tbat, sB1, sB2, tput, kP, h1, h2, h3]
theorem sB1_ok (v : ByteArray) (k : Int) (hv : v.size ≤ 200) : kask (sB1 v k) = 0 ∧ ∀ p ∈ sB1 v k, SmP p := by
  have hx := xK_size k
  have hk : kK.size = 1 := rfl
  have hy : (ByteArray.mk #[121]).size = 1 := rfl
  have h : ∀ p ∈ sB1 v k, p.k.size ≤ 3 ∧ 1 ≤ p.k.size ∧ p.v.size ≤ 200 ∧ p.g = false := fun p hp => by
    simp only [sB1, List.mem_cons, List.not_mem_nil, or_false] at hp
    rcases hp with rfl | rfl
    · exact ⟨by show kK.size ≤ 3; omega, by show 1 ≤ kK.size; omega, hv, rfl⟩
    · exact ⟨by show (xK k).size ≤ 3; omega, by show 1 ≤ (xK k).size; omega, by show (ByteArray.mk #[121]).size ≤ 200; omega, rfl⟩
  refine ⟨kask_of (by simp [sB1]) (by simp [sB1]) fun p hp => ?_, fun p hp => ?_⟩
  · obtain ⟨h1, h2, h3, h4⟩ := h p hp
    unfold pArg pBig
    simp [h4]; omega
  · obtain ⟨h1, h2, h3, h4⟩ := h p hp
    exact ⟨by omega, by omega⟩
theorem sB2_ok (k : Int) : kask (sB2 k) = 0 ∧ ∀ p ∈ sB2 k, SmP p := by
  have hx := xK_size k
  have hy : (ByteArray.mk #[]).size = 0 := rfl
  refine ⟨kask_of (by simp [sB2]) (by simp [sB2]) fun p hp => ?_, fun p hp => ?_⟩
  · simp only [sB2, List.mem_cons, List.not_mem_nil, or_false] at hp
    subst hp
    unfold pArg pBig
    simp [hx, hy]
  · simp only [sB2, List.mem_cons, List.not_mem_nil, or_false] at hp
    subst hp
    exact ⟨by show (xK k).size ≤ 150; omega, by show (ByteArray.mk #[]).size ≤ 300; omega⟩
theorem kP_ok (v : ByteArray) (hv : v.size ≤ 200) : kask [kP v] = 0 ∧ ∀ p ∈ [kP v], SmP p := by
  have hk : kK.size = 1 := rfl
  refine ⟨kask_of (by simp) (by simp) fun p hp => ?_, fun p hp => ?_⟩
  · rw [List.mem_singleton] at hp
    subst hp
    unfold pArg pBig kP
    simp [hk]; omega
  · rw [List.mem_singleton] at hp
    subst hp
    exact ⟨by show kK.size ≤ 150; omega, by show v.size ≤ 300; omega⟩
/-- Put of a row that is written out. -/
theorem kv_put_lit {w wi : World} {f : Nat} {S : FS} {l s r : Nat} {nm : ByteArray} {m : Int} {H : List (List Pr)} {q : Nat} (hK : Kw w) (h : Kv w wi f S l s r nm m H q) (hq : q ≤ 1000000000000) (hn : NameL nm) (hm0 : 0 ≤ m) (hm : m ≤ 1000000000000) (b : List Pr) (n : Nat) (hbn : b.length = n) (hk : kask b = 0 ∧ ∀ p ∈ b, SmP p) (hl : H.flatten.length + b.length ≤ 1000) (T : TypeId) (cs : Array Value) (hcs : cs = (flatE b).toArray) :
    Calls Tryz.prog 12 #[.pointer (some ⟨s, 0, none⟩), .slice (some ⟨wi.heap.size, 0, none⟩) n n] (wi.alloc (.cells cs T)) fun e w' => e = .returned (.int .i64 0) ∧ ∃ S', Kv w w' f S' l s r nm (m + 1) (H ++ [b]) (q + 2) ∧ GrB f [l, s, r] S S' wi w' ∧ ∀ x, x ≠ nm → alook x S'.abs.L = alook x S.abs.L := by
  subst hcs
  have hb : Below wi.heap.size wi (wi.alloc (.cells (flatE b).toArray T)) := (Below.refl _ _).alloc (Nat.le_refl _) _
  refine (kv_put hK (h.below hb) hq hn hm0 hm _ n n b ((Els.lit wi b n T hbn (by omega)).free (h.fresh (Nat.le_refl _) (by simp))) hk.1 hk.2 hl).mono ?_
  rintro e w' ⟨rfl, S', h1, h2, h3⟩
  exact ⟨rfl, S', h1, (GrB.of_below hb).trans h2, h3⟩
/-- A place with no file but a store's. -/
def OnlyL (A : Abs) (nm : ByteArray) : Prop := ∀ x, x ≠ nm → alook x A.L = none
theorem OnlyL.step {A A' : Abs} {nm : ByteArray} (h : OnlyL A nm) (hf : alook (bes nm) A'.L = none) (hk : ∀ x, x ≠ nm → x ≠ bes nm → alook x A'.L = alook x A.L) : OnlyL A' nm := fun x hx => by
  by_cases e : x = bes nm
  · rw [e]; exact hf
  · rw [hk x hx e]; exact h x hx
theorem kv_size {w wi : World} {f : Nat} {S : FS} {l s r : Nat} {nm : ByteArray} {m : Int} {H : List (List Pr)} {q : Nat} (h : Kv w wi f S l s r nm m H q) (ho : OnlyL S.abs nm) (hn : NameL nm) :
    Calls Tryz.prog 24 #[.pointer (some ⟨f, 0, none⟩)] wi fun e w' => e = .returned (.int .i64 (frs (H.map batB)).length) ∧ Below wi.heap.size wi w' :=
  size_any9 h.lg.sys nm ⟨frs (H.map batB), (frs (H.map batB)).length⟩ (one_file h.lg.good h.lg.file.1 ho) (by have := hn.hi; omega) (by have := h.hist.frs; simp only; omega)
/-- The store of KvShrinks behind so many rounds. -/
structure Shr (v : ByteArray) (w wi : World) (f : Nat) (l s r : Nat) (k : Nat) : Prop where
  st : ∃ S H q, Kv w wi f S l s r ⟨#[115]⟩ (2 * k : Nat) H q ∧ q = 4 + 4 * k ∧ OnlyL S.abs ⟨#[115]⟩ ∧ H.flatten.length = 3 * k ∧ thist H = if k = 0 then [] else [kP v]
set_option maxRecDepth 100000 in
set_option maxHeartbeats 8000000 in
theorem kshrinks_any (a : Int) (v : ByteArray) (w : World) (hK : Kw w) :
    Calls Tryz.prog 5 #[.int .i64 a, .string v] w fun e w' => e = .returned (.bool true) ∧ Below w.heap.size w w' := by
  have HK : Hid (Kw w) := hK
  have HAW : Hid (∀ w', Kw w' → Calls Tryz.prog 8 #[] w' fun e w'' => e = .returned (.bool true) ∧ Below w'.heap.size w' w'') := fun w' h => kawake_any w' h
  clear hK
  by_cases hsz : 1 ≤ a ∧ a ≤ 40 ∧ v.size ≤ 200
  · obtain ⟨h1, h2, h3⟩ := hsz
    obtain ⟨n, hn⟩ : ∃ n : Nat, a = n := ⟨a.toNat, by omega⟩
    subst hn
    have h1' : ¬ ((n : Int) < 1) := by omega
    have h2' : ¬ ((n : Int) > 40) := by omega
    have h3' : ¬ ((v.size : Int) > 200) := by omega
    have HV : Hid (v.size ≤ 200) := h3
    have HN : Hid (1 ≤ n ∧ n ≤ 40) := show _ ∧ _ by omega
    clear h3
    go_enter Tryz.func5, Tryz.ntmps5
    go_wp2_with fail
    refine Calls.mono (new_lg w) ?_
    rintro e w1 ⟨f, S1, rfl, hs1, hg1, hl1, hL1⟩
    have HO : Hid _ := kv_open (H := []) (t := []) (z := 0) HK.out hs1 hg1 hl1 (by omega) nameL_s Hist.nil firstR_nil (by rw [hL1]; rfl) (by simp)
    have HL1 : Hid (OnlyL S1.abs ⟨#[115]⟩) := fun x _ => by rw [hL1]; rfl
    clear hs1 hg1 hl1 hL1
    go_wp2_with fail
    refine Calls.mono HO.out ?_
    rintro e w2 ⟨s, l, r, rfl, _, S2, hk2, _, hx2⟩
    have HS2 : Hid (Shr v w w2 f l s r 0) := ⟨S2, [], 4, hk2, rfl, HL1.out.step hk2.lg.file.2 hx2, rfl, rfl⟩
    clear hk2 hx2 HO HL1
    go_wp2_with fail
    go_loopw [8] (fun i wr => ∃ k : Nat, k ≤ n ∧ i = .int .i64 k ∧ Hid (Shr v w wr f l s r k)) (fun i _ => n - (intOf i).toNat)
    case atStart => exact ⟨0, Nat.zero_le _, rfl, HS2.out⟩
    case round =>
      obtain ⟨k, hk, rfl, HS⟩ := hrel
      clear HS2
      by_cases hlt : k < n
      · have e0 : (0 : Int) ≤ (k : Int) := by omega
        have e1 : (k : Int) < (n : Int) := by omega
        obtain ⟨S, H, q, hkv, hq, ho, hfl, hth⟩ := HS.out.st
        have HT : Hid (q = 4 + 4 * k ∧ OnlyL S.abs ⟨#[115]⟩ ∧ H.flatten.length = 3 * k ∧ (thist H = [] ∨ thist H = [kP v])) := ⟨hq, ho, hfl, by rw [hth]; split <;> simp⟩
        have HKV : Hid (Kv w wr f S l s r ⟨#[115]⟩ (2 * k : Nat) H q) := hkv
        clear hq ho hfl hth hkv HS
        go_wp2_with fail
        refine Calls.mono (letters_is 2 k wr (by omega)) ?_
        rintro e w3 ⟨rfl, hb3⟩
        have HKV3 : Hid (Kv w w3 f S l s r ⟨#[115]⟩ (2 * k : Nat) H q) := HKV.out.below hb3
        clear hb3 HKV
        go_wp2_with fail
        have HPU : Hid _ := kv_put_lit HK.out HKV3.out (by have := HT.out.1; omega) nameL_s (by omega) (by omega) (sB1 v k) 2 rfl (sB1_ok v k HV.out) (by have := HT.out.2.2.1; simp only [sB1, List.length_cons, List.length_nil]; omega) 48 #[.string ⟨#[107]⟩, .string v, .bool false, .string (⟨#[120]⟩ ++ ofB (letB 2 k)), .string ⟨#[121]⟩, .bool false] rfl
        refine Calls.mono HPU.out ?_
        rintro e w4 ⟨rfl, S4, hk4, _, hx4⟩
        have HT4 : Hid (OnlyL S4.abs ⟨#[115]⟩) := HT.out.2.1.step hk4.lg.file.2 fun x h1 _ => hx4 x h1
        have HKV4 : Hid (Kv w w4 f S4 l s r ⟨#[115]⟩ ((2 * k : Nat) + 1) (H ++ [sB1 v k]) (q + 2)) := hk4
        clear hk4 hx4 HPU HKV3
        go_wp2_with fail
        refine Calls.mono (letters_is 2 k w4 (by omega)) ?_
        rintro e w5 ⟨rfl, hb5⟩
        have HKV5 : Hid (Kv w w5 f S4 l s r ⟨#[115]⟩ ((2 * k : Nat) + 1) (H ++ [sB1 v k]) (q + 2)) := HKV4.out.below hb5
        clear hb5 HKV4
        go_wp2_with fail
        have HPU : Hid _ := kv_put_lit HK.out HKV5.out (by have := HT.out.1; omega) nameL_s (by omega) (by omega) (sB2 k) 1 rfl (sB2_ok k) (by have := HT.out.2.2.1; simp only [List.flatten_append, List.length_append, List.flatten_cons, List.flatten_nil, sB1, sB2, List.length_cons, List.length_nil]; omega) 48 #[.string (⟨#[120]⟩ ++ ofB (letB 2 k)), .string ⟨#[]⟩, .bool true] rfl
        refine Calls.mono HPU.out ?_
        rintro e w6 ⟨rfl, S6, hk6, _, hx6⟩
        have HS6 : Hid (Shr v w w6 f l s r (k + 1)) := ⟨S6, H ++ [sB1 v k] ++ [sB2 k], q + 2 + 2, by
          have e : ((2 * (k + 1) : Nat) : Int) = ((2 * k : Nat) : Int) + 1 + 1 := by omega
          rw [e]; exact hk6, by have := HT.out.1; omega, HT4.out.step hk6.lg.file.2 fun x h1 _ => hx6 x h1, by have := HT.out.2.2.1; simp only [List.flatten_append, List.length_append, List.flatten_cons, List.flatten_nil, sB1, sB2, List.length_cons, List.length_nil]; omega, by
          rw [thist_snoc, thist_snoc, if_neg (by omega)]; exact shr_next v k _ HT.out.2.2.2⟩
        clear hk6 hx6 HPU HKV5 HT HT4
        go_wp2_with fail
        go_roundw
        case rel => exact ⟨k + 1, by omega, by go_num, HS6.out⟩
        case measure => simp [intOf]; omega
      · obtain rfl : k = n := by omega
        have e1 : ¬ (k : Int) < (k : Int) := by omega
        obtain ⟨S, H, q, hkv, hq, ho, hfl, hth⟩ := HS.out.st
        rw [if_neg (by have := HN.out; omega)] at hth
        have HT : Hid (q = 4 + 4 * k ∧ OnlyL S.abs ⟨#[115]⟩ ∧ thist H = [kP v]) := ⟨hq, ho, hth⟩
        have HKV : Hid (Kv w wr f S l s r ⟨#[115]⟩ (2 * k : Nat) H q) := hkv
        clear hq ho hfl hth hkv HS
        have HC : Hid _ := kv_compact HK.out HKV.out (by have := HT.out.1; have := HN.out; omega) nameL_s (by omega) (by have := HN.out; omega)
        go_wp2_with fail
        refine Calls.mono HC.out ?_
        rw [HT.out.2.2]
        rintro e w3 ⟨rfl, S3, hk3, _, hx3⟩
        have HO3 : Hid (OnlyL S3.abs ⟨#[115]⟩) := HT.out.2.1.step hk3.lg.file.2 hx3
        have HK3 : Hid (Kv w w3 f S3 l s r ⟨#[115]⟩ ((2 * k : Nat) + 1) (packH [kP v]) (q + 3)) := hk3
        clear hk3 hx3 HC HKV HT
        obtain ⟨A, hst, _⟩ := HK3.out.sto
        have HBA : Hid _ := batches_any s r _ _ w3 hst.blk
        clear hst
        go_wp2_with fail
        refine Calls.mono HBA.out ?_
        rintro e w4 ⟨rfl, rfl⟩
        clear HBA
        go_wp2_with fail
        have hfr := HK3.out.hist.frs
        have HSZ : Hid _ := kv_size HK3.out HO3.out nameL_s
        obtain ⟨z, hz⟩ : ∃ z, z = (frs ((packH [kP v]).map batB)).length := ⟨_, rfl⟩
        rw [← hz] at hfr HSZ
        have HZ : Hid (z = (frs ((packH [kP v]).map batB)).length) := hz
        have hz64 : (z : Int) ≤ 527000 := by omega
        clear hz hfr
        refine Calls.mono HSZ.out ?_
        rintro e w5 ⟨rfl, hb5⟩
        have HK5 : Hid (Kv w w5 f S3 l s r ⟨#[115]⟩ ((2 * k : Nat) + 1) (packH [kP v]) (q + 3)) := HK3.out.below hb5
        clear hb5 HSZ HK3 HO3
        have HW5 : Hid (Kw w5) := HK5.out.lg.sys.kw HK.out
        go_wp2_with fail
        refine Calls.mono (new_lg w5) ?_
        rintro e w6 ⟨g, S6, rfl, hs6, hg6, hl6, hL6⟩
        have HO : Hid _ := kv_open (H := []) (t := []) (z := 0) HW5.out hs6 hg6 hl6 (by omega) nameL_s Hist.nil firstR_nil (by rw [hL6]; rfl) (by simp)
        have HL6 : Hid (OnlyL S6.abs ⟨#[115]⟩) := fun x _ => by rw [hL6]; rfl
        clear hs6 hg6 hl6 hL6
        go_wp2_with fail
        refine Calls.mono HO.out ?_
        rintro e w7 ⟨s2, l2, r2, rfl, _, S7, hk7, _, hx7⟩
        have HO7 : Hid (OnlyL S7.abs ⟨#[115]⟩) := HL6.out.step hk7.lg.file.2 hx7
        have HK7 : Hid (Kv w5 w7 g S7 l2 s2 r2 ⟨#[115]⟩ 0 [] 4) := hk7
        clear hk7 hx7 HO HL6
        go_wp2_with fail
        have HPU : Hid _ := kv_put_lit HW5.out HK7.out (by omega) nameL_s (by omega) (by omega) [kP v] 1 rfl (kP_ok v HV.out) (by simp) 48 #[.string ⟨#[107]⟩, .string v, .bool false] rfl
        refine Calls.mono HPU.out ?_
        rintro e w8 ⟨rfl, S8, hk8, _, hx8⟩
        have HO8 : Hid (OnlyL S8.abs ⟨#[115]⟩) := HO7.out.step hk8.lg.file.2 fun x h1 _ => hx8 x h1
        have HK8 : Hid (Kv w5 w8 g S8 l2 s2 r2 ⟨#[115]⟩ (0 + 1) ([] ++ [[kP v]]) (4 + 2)) := hk8
        clear hk8 hx8 HPU HK7 HO7
        have HC : Hid _ := kv_compact HW5.out HK8.out (by omega) nameL_s (by omega) (by omega)
        go_wp2_with fail
        refine Calls.mono HC.out ?_
        rw [show thist ([] ++ [[kP v]]) = [kP v] from rfl]
        rintro e w9 ⟨rfl, S9, hk9, _, hx9⟩
        have HO9 : Hid (OnlyL S9.abs ⟨#[115]⟩) := HO8.out.step hk9.lg.file.2 hx9
        have HK9 : Hid (Kv w5 w9 g S9 l2 s2 r2 ⟨#[115]⟩ (0 + 1 + 1) (packH [kP v]) (4 + 2 + 3)) := hk9
        have HK59 : Hid (Kv w w9 f S3 l s r ⟨#[115]⟩ ((2 * k : Nat) + 1) (packH [kP v]) (q + 3)) := HK5.out.below hk9.lg.sys.base
        clear hk9 hx9 HC HK8 HO8 HK5
        go_wp2_with fail
        have ht10 := tab_lit1 w9 ⟨#[107]⟩ v
        have hz10 : ((w9.alloc (.cells #[.string ⟨#[107]⟩] 9)).alloc (.cells #[.string v] 9)).heap.size = w9.heap.size + 2 := by simp
        have hb10 : Below w9.heap.size w9 ((w9.alloc (.cells #[.string ⟨#[107]⟩] 9)).alloc (.cells #[.string v] 9)) := ((Below.refl _ w9).alloc (Nat.le_refl _) _).alloc (by simp) _
        generalize World.alloc (World.alloc w9 _) _ = wz at *
        generalize hw10 : World.alloc wz _ = w10
        have hbz : Below wz.heap.size wz w10 := by rw [← hw10]; exact (Below.refl _ _).alloc (Nat.le_refl _) _
        have HT10 : Hid (TabAt w10 w9.heap.size (.slice (some ⟨w9.heap.size, 0, none⟩) 1 1) (.slice (some ⟨w9.heap.size + 1, 0, none⟩) 1 1) [kP v]) := ht10.below hbz
        have HX10 : Hid (Blk w10 (w9.heap.size + 2) [.slice (some ⟨w9.heap.size, 0, none⟩) 1 1, .slice (some ⟨w9.heap.size + 1, 0, none⟩) 1 1]) := by rw [← hw10, ← hz10]; exact Blk.mk _ _ _ rfl rfl
        have HB10 : Hid (Below w9.heap.size w9 w10) := hb10.trans (hbz.mono hb10.size)
        have HK10 : Hid (Kv w5 w10 g S9 l2 s2 r2 ⟨#[115]⟩ (0 + 1 + 1) (packH [kP v]) (4 + 2 + 3)) := HK9.out.below HB10.out
        have HK510 : Hid (Kv w w10 f S3 l s r ⟨#[115]⟩ ((2 * k : Nat) + 1) (packH [kP v]) (q + 3)) := HK59.out.below HB10.out
        clear hw10 hbz ht10 hb10 hz10 HK9 HK59 HB10
        generalize w9.heap.size = y at *
        have hpk : decide (thist (packH [kP v]) = [kP v]) = true := decide_eq_true rfl
        have hgf : ∀ p ∈ [kP v], p.g = false := fun p hp => by rw [List.mem_singleton] at hp; rw [hp]; rfl
        have HSH : Hid _ := kv_shows HK510.out _ _ _ _ HT10.out hgf (by simp)
        refine Calls.mono HSH.out ?_
        rw [hpk]
        rintro e w11 ⟨rfl, hb11⟩
        have HK11 : Hid (Kv w5 w11 g S9 l2 s2 r2 ⟨#[115]⟩ (0 + 1 + 1) (packH [kP v]) (4 + 2 + 3)) := HK10.out.below hb11
        have HK511 : Hid (Kv w w11 f S3 l s r ⟨#[115]⟩ ((2 * k : Nat) + 1) (packH [kP v]) (q + 3)) := HK510.out.below hb11
        have HSH : Hid _ := kv_shows HK11.out _ _ _ _ (HT10.out.below hb11) hgf (by simp)
        have x0 : w11.cell? ⟨y + 2, 0, none⟩ = some (.slice (some ⟨y, 0, none⟩) 1 1) := cell_below' hb11 (HX10.out.one rfl)
        have x1 : w11.cell? ⟨y + 2, 1, none⟩ = some (.slice (some ⟨y + 1, 0, none⟩) 1 1) := cell_below' hb11 (HX10.out.one rfl)
        clear hb11 HT10 HX10 HK10 HK510
        go_wp2_with fail
        refine Calls.mono HSH.out ?_
        rw [hpk]
        rintro e w12 ⟨rfl, hb12⟩
        have HK12 : Hid (Kv w5 w12 g S9 l2 s2 r2 ⟨#[115]⟩ (0 + 1 + 1) (packH [kP v]) (4 + 2 + 3)) := HK11.out.below hb12
        have HK512 : Hid (Kv w w12 f S3 l s r ⟨#[115]⟩ ((2 * k : Nat) + 1) (packH [kP v]) (q + 3)) := HK511.out.below hb12
        clear hb12 x0 x1 HSH HK11 HK511 hpk hgf
        have HSZ : Hid _ := kv_size HK12.out HO9.out nameL_s
        rw [← HZ.out] at HSZ
        go_wp2_with fail
        refine Calls.mono HSZ.out ?_
        rintro e w13 ⟨rfl, hb13⟩
        have HK13 : Hid (Kv w w13 f S3 l s r ⟨#[115]⟩ ((2 * k : Nat) + 1) (packH [kP v]) (q + 3)) := HK512.out.below hb13
        have HA13 : Hid _ := HAW.out w13 (HK13.out.lg.sys.kw HK.out)
        have hle : (z : Int) ≤ (z : Int) + 64 := by omega
        clear hb13 HSZ HK12 HK512
        go_wp2_with fail
        refine Calls.mono HA13.out ?_
        rintro e w14 ⟨rfl, hb14⟩
        have HB14 : Hid (Below w.heap.size w w14) := HK13.out.lg.sys.base.trans (hb14.mono HK13.out.lg.sys.base.size)
        clear hb14 HA13 HK13
        go_wp2_with fail
        go_ret
        exact ⟨rfl, HB14.out⟩
  · have HA : Hid _ := HAW.out w HK.out
    by_cases h1 : a < 1
    · go_enter Tryz.func5, Tryz.ntmps5
      go_wp2_with fail
      refine Calls.mono HA.out ?_
      rintro e w1 ⟨rfl, hb1⟩
      have HB1 : Hid (Below w.heap.size w w1) := hb1
      clear hb1
      go_wp2_with fail
      go_ret
      exact ⟨rfl, HB1.out⟩
    · by_cases h2 : a > 40
      · go_enter Tryz.func5, Tryz.ntmps5
        go_wp2_with fail
        refine Calls.mono HA.out ?_
        rintro e w1 ⟨rfl, hb1⟩
        have HB1 : Hid (Below w.heap.size w w1) := hb1
        clear hb1
        go_wp2_with fail
        go_ret
        exact ⟨rfl, HB1.out⟩
      · have h3 : (v.size : Int) > 200 := by omega
        go_enter Tryz.func5, Tryz.ntmps5
        go_wp2_with fail
        refine Calls.mono HA.out ?_
        rintro e w1 ⟨rfl, hb1⟩
        have HB1 : Hid (Below w.heap.size w w1) := hb1
        clear hb1
        go_wp2_with fail
        go_ret
        exact ⟨rfl, HB1.out⟩
end Go.Proofs.YtlapnnkahijikaaGreatDoor
