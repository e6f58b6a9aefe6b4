/- strconv.Itoa and the document's own Decimal, of 0 to 99. -/
import Derived.Test.YtlgadelcgboeoaaDoorTRefText
import Derived.Test.YtlgadelcgboeoaaDoorLay2
namespace Go.Proofs.YtlgadelcgboeoaaDoor
open Go.ChangeShapes Go.WideShapes Go.ChangeAt Go.RowKit

theorem bytes_back (l : List UInt8) : (l.map (·.toBitVec)).map UInt8.ofBitVec = l := by
  rw [List.map_map]
  exact (List.map_congr_left fun x _ => rfl).trans (List.map_id l)
theorem itoa_small (n : Nat) (hn : n < 100) (w : World) :
    Calls Tryd.prog 35 #[.int .i64 n] w fun e w' => e = .returned (.string (str (dec2 n))) ∧ w = w' := by
  refine (Any.strconv_Itoa_small { Tryd.itoaS with } n hn w).mono ?_
  rintro e w' ⟨rfl, rfl⟩
  refine ⟨?_, rfl⟩
  rw [← dec_eq n hn]
  unfold dec str
  rw [bytes_back]

theorem empty_str (bs : List (BitVec 8)) : (⟨#[]⟩ : ByteArray) ++ str bs = str bs := by
  apply ext_data
  simp

/-- What is written so far, and what is left. -/
def Dec (n u : Nat) (bs : List (BitVec 8)) : Prop := (bs = [] ∧ u = n) ∨ (bs ≠ [] ∧ u = 0 ∧ bs = dec2 n) ∨ (bs = [BitVec.ofNat 8 (48 + n % 10)] ∧ u = n / 10 ∧ 0 < u)
theorem Dec.next {n u : Nat} {bs : List (BitVec 8)} (hn : n < 100) (h : Dec n u bs) (hg : 0 < u ∨ bs = []) : Dec n (u / 10) ([BitVec.ofNat 8 (48 + u % 10)] ++ bs) := by
  rcases h with ⟨rfl, rfl⟩ | ⟨h1, rfl, _⟩ | ⟨rfl, rfl, h0⟩
  · by_cases h10 : u < 10
    · refine .inr (.inl ⟨by simp, by omega, ?_⟩)
      unfold dec2
      rw [if_pos h10, Nat.mod_eq_of_lt h10]; rfl
    · exact .inr (.inr ⟨rfl, rfl, by omega⟩)
  · rcases hg with hg | hg
    · omega
    · exact absurd hg h1
  · refine .inr (.inl ⟨by simp, by omega, ?_⟩)
    unfold dec2
    rw [if_neg (by omega), Nat.mod_eq_of_lt (show n / 10 < 10 by omega)]; rfl
theorem Dec.len {n u : Nat} {bs : List (BitVec 8)} (h : Dec n u bs) : bs.length ≤ 2 := by
  rcases h with ⟨rfl, _⟩ | ⟨_, _, rfl⟩ | ⟨rfl, _⟩
  · simp
  · unfold dec2; split <;> simp
  · simp
/-- A slice's length. -/
def lenS : Value → Nat | .slice _ n _ => n | _ => 0
theorem byte_small (u : Nat) : Y (BitVec.ofNat 8 (48 + u % 10)) = 48 + (u : Int) % 10 := by
  unfold Y
  rw [BitVec.toNat_ofNat]
  omega

set_option maxRecDepth 100000 in
set_option maxHeartbeats 4000000 in
theorem refdec_any (n : Nat) (hn : n < 100) (w : World) :
    Calls Tryd.prog 37 #[.int .i64 n] w fun e w' => e = .returned (.string (str (dec2 n))) ∧ Below w.heap.size w w' := by
  have n0 : (0 : Int) ≤ (n : Int) := by omega
  have n1 : (n : Int) < 100 := by omega
  generalize hN : w.heap.size = N
  go_enter Tryd.func37, Tryd.ntmps37
  go_hide hQ
  go_wp2_with fail
  go_loopw [3, 5] (fun a v wr => ∃ (u : Nat) (bs : List (BitVec 8)), u ≤ n ∧ a = .int .u64 u ∧ Hid (OwnB wr N v bs) ∧ Hid (Dec n u bs) ∧ Hid (Below N w wr)) (fun a v _ => 2 * (intOf a).toNat + (1 - lenS v))
  case atStart => exact ⟨n, [], Nat.le_refl _, rfl, OwnB.nil _ _, .inl ⟨rfl, rfl⟩, Below.refl _ _⟩
  case round =>
    obtain ⟨u, bs, hu, rfl, HO, HD, HB⟩ := hrel
    obtain ⟨va, vc, hv⟩ := HO.out.src.shape
    subst hv
    have u0 : (0 : Int) ≤ (u : Int) := by omega
    have u1 : (u : Int) < 100 := by omega
    obtain ⟨x, hx⟩ : ∃ x, x = BitVec.ofNat 8 (48 + u % 10) := ⟨_, rfl⟩
    have hY : Y x = 48 + (u : Int) % 10 := by rw [hx]; exact byte_small u
    by_cases hg : 0 < u ∨ bs = []
    · have HD2 : Hid (Dec n (u / 10) ([x] ++ bs)) := by rw [hx]; exact HD.out.next hn hg
      have hm : ((0 : Int) < (u : Int)) ∨ (¬ (0 : Int) < (u : Int) ∧ (bs.length : Int) = 0) := by
        rcases hg with h | h
        · exact .inl (by omega)
        · by_cases h' : 0 < u
          · exact .inl (by omega)
          · exact .inr ⟨by omega, by rw [h]; rfl⟩
      have HLIT : Hid (OwnB (wr.alloc (.cells #[.int .u8 (48 + (u : Int) % 10)] 5)) N (.slice (some ⟨wr.heap.size, 0, none⟩) 1 1) [x] ∧ SrcB (wr.alloc (.cells #[.int .u8 (48 + (u : Int) % 10)] 5)) (.slice va bs.length vc) bs ∧ Below N w (wr.alloc (.cells #[.int .u8 (48 + (u : Int) % 10)] 5)) ∧ N ≤ (wr.alloc (.cells #[.int .u8 (48 + (u : Int) % 10)] 5)).heap.size) := by
        have hs : N ≤ wr.heap.size := by rw [← hN]; exact HB.out.size
        refine ⟨?_, (HO.out.below ((Below.refl _ wr).alloc (Nat.le_refl _) _)).src, HB.out.alloc hs _, by simp; omega⟩
        rw [← hY]
        exact (OwnB.lit wr [x] (by simp)).less hs
      have hbl := HD.out.len
      clear hx hY HO HB HD
      rcases hm with g1 | ⟨g1, g2⟩
      · go_wp2_with (at_builtin; refine wpList_append_b rfl _ _ rfl N _ [x] rfl HLIT.out.1 _ bs rfl HLIT.out.2.1 (by simp; omega) HLIT.out.2.2.2 ?_; intro v2 w2 HO2 HG2)
        obtain ⟨va2, vc2, hv2⟩ := HO2.out.src.shape
        subst hv2
        refine ⟨⟨u / 10, [x] ++ bs, by omega, by go_num, HO2, HD2, HLIT.out.2.2.1.trans (HLIT.out.1.grown HG2.out HLIT.out.2.2.2)⟩, ?_⟩
        simp [intOf, lenS]; omega
      · obtain rfl : u = 0 := by omega
        obtain rfl : bs = [] := List.eq_nil_of_length_eq_zero (by omega)
        have HL2 : Hid (OwnB (wr.alloc (.cells #[.int .u8 48] 5)) N (.slice (some ⟨wr.heap.size, 0, none⟩) 1 1) [x] ∧ SrcB (wr.alloc (.cells #[.int .u8 48] 5)) (.slice va 0 vc) [] ∧ Below N w (wr.alloc (.cells #[.int .u8 48] 5)) ∧ N ≤ (wr.alloc (.cells #[.int .u8 48] 5)).heap.size) := HLIT
        clear HLIT
        go_wp2_with (at_builtin; refine wpList_append_b rfl _ _ rfl N _ [x] rfl HL2.out.1 _ [] rfl HL2.out.2.1 (by simp) HL2.out.2.2.2 ?_; intro v2 w2 HO2 HG2)
        obtain ⟨va2, vc2, hv2⟩ := HO2.out.src.shape
        subst hv2
        refine ⟨⟨0, [x] ++ [], by omega, rfl, HO2, HD2, HL2.out.2.2.1.trans (HL2.out.1.grown HG2.out HL2.out.2.2.2)⟩, ?_⟩
        simp [intOf, lenS]
    · obtain ⟨h0, h1⟩ : u = 0 ∧ bs = dec2 n := by
        rcases HD.out with ⟨h1, _⟩ | ⟨_, h2, h3⟩ | ⟨_, _, h4⟩
        · exact absurd (.inr h1) hg
        · exact ⟨h2, h3⟩
        · exact absurd (.inl h4) hg
      subst h0
      have hbl : ¬ (bs.length : Int) = 0 := fun h => hg (.inr (List.eq_nil_of_length_eq_zero (by omega)))
      have c1 := HO.out.src.str
      have HEQ : Hid (bs = dec2 n) := h1
      have hsz : (str bs).size ≤ 2 := by rw [str_size]; exact HD.out.len
      have hemp : (⟨#[]⟩ : ByteArray) ++ str bs = str bs := empty_str bs
      clear h1 hx hY hg
      go_wp2_with fail
      subst hQ
      go_ret
      rw [HEQ.out]
      exact ⟨rfl, HB.out⟩
end Go.Proofs.YtlgadelcgboeoaaDoor
