/- A transaction that was read is written as it was; the document's Decode in numbers. -/
import Derived.Test.YteikbpkjikacmaaGreatDoorCRfM
namespace Go.Proofs.YteikbpkjikacmaaGreatDoor
open Go.ChangeShapes Go.WideShapes Go.ChangeAt Go.RowKit

theorem Inv.at {α : Type} {f : RS → α × RS} {wf : α → List (BitVec 8)} (hf : Inv f wf) (ef : Ext f) {s : RS} {v : α} {s' : RS} (h : f s = (v, s')) (hs : s'.2 = false) : s.1 = wf v ++ s'.1 ∧ s.2 = false := by
  obtain ⟨x, b⟩ := s
  obtain ⟨y, c⟩ := s'
  simp only at hs
  subst hs
  exact ⟨hf x b v y h, (ef x b [] _ _ h).1⟩
theorem rTx_of {s s1 s2 s3 s4 s5 s6 : RS} {n m : Nat} {I : List In} {O : List Out} {lk : Int} {W : List WitD}
    (h1 : rC s 100 = ((n : Int), s1)) (h2 : rMany rIn n s1 = (I, s2)) (h3 : rC s2 100 = ((m : Int), s3)) (h4 : rMany rOut m s3 = (O, s4)) (h5 : rN s4 = (lk, s5)) (h6 : rMany rWit n s5 = (W, s6)) :
    rTx s = (⟨List.zipWith putW I W, O, lk⟩, s6) := by
  unfold rTx
  simp only [h1, Int.toNat_natCast, h2, h3, h4, h5, h6]
theorem rTx_parts (s : RS) : ∃ (s1 s2 s3 s4 s5 s6 : RS) (n m : Nat) (I : List In) (O : List Out) (lk : Int) (W : List WitD), rC s 100 = ((n : Int), s1) ∧ rMany rIn n s1 = (I, s2) ∧ rC s2 100 = ((m : Int), s3) ∧ rMany rOut m s3 = (O, s4) ∧ rN s4 = (lk, s5) ∧ rMany rWit n s5 = (W, s6) ∧ rTx s = (⟨List.zipWith putW I W, O, lk⟩, s6) := by
  have hnn : ∀ s, 0 ≤ (rC s 100).1 := fun s => by
    unfold rC
    split
    · exact (rN_range s).1
    · exact Int.le_refl _
  obtain ⟨n, hn⟩ : ∃ n : Nat, (rC s 100).1 = n := ⟨(rC s 100).1.toNat, by have := hnn s; omega⟩
  have h1 : rC s 100 = ((n : Int), (rC s 100).2) := Prod.ext hn rfl
  obtain ⟨I, s2, h2⟩ : ∃ I s2, rMany rIn n (rC s 100).2 = (I, s2) := ⟨_, _, rfl⟩
  obtain ⟨m, hm⟩ : ∃ m : Nat, (rC s2 100).1 = m := ⟨(rC s2 100).1.toNat, by have := hnn s2; omega⟩
  have h3 : rC s2 100 = ((m : Int), (rC s2 100).2) := Prod.ext hm rfl
  obtain ⟨O, s4, h4⟩ : ∃ O s4, rMany rOut m (rC s2 100).2 = (O, s4) := ⟨_, _, rfl⟩
  obtain ⟨lk, s5, h5⟩ : ∃ lk s5, rN s4 = (lk, s5) := ⟨_, _, rfl⟩
  obtain ⟨W, s6, h6⟩ : ∃ W s6, rMany rWit n s5 = (W, s6) := ⟨_, _, rfl⟩
  exact ⟨_, s2, _, s4, s5, s6, n, m, I, O, lk, W, h1, h2, h3, h4, h5, h6, rTx_of h1 h2 h3 h4 h5 h6⟩
/-- A transaction that was read whole is written as it was. -/
theorem enc_dec {bs : List (BitVec 8)} {t : TxD} (h : rTx (bs, false) = (t, ([], false))) (hc : chkE t = 0) : encB t = bs := by
  obtain ⟨s1, s2, s3, s4, s5, s6, n, m, I, O, lk, W, h1, h2, h3, h4, h5, h6, e⟩ := rTx_parts (bs, false)
  rw [h] at e
  injection e with e1 e2
  subst e2
  obtain ⟨g6, f5⟩ := (rMany_inv rWit_inv rWit_ext n).at (rMany_ext rWit_ext n) h6 rfl
  obtain ⟨g5, f4⟩ := rN_inv.at rN_ext h5 f5
  obtain ⟨g4, f3⟩ := (rMany_inv rOut_inv rOut_ext m).at (rMany_ext rOut_ext m) h4 f4
  obtain ⟨g3, f2⟩ := (rC_inv 100).at (rC_ext 100) h3 f3
  obtain ⟨g2, f1⟩ := (rMany_inv rIn_inv rIn_ext n).at (rMany_ext rIn_ext n) h2 f2
  obtain ⟨g1, _⟩ := (rC_inv 100).at (rC_ext 100) h1 f1
  have lI : I.length = n := by have := rMany_length rIn n s1; rw [h2] at this; exact this
  have lO : O.length = m := by have := rMany_length rOut m s3; rw [h4] at this; exact this
  have lW : W.length = n := by have := rMany_length rWit n s5; rw [h6] at this; exact this
  subst e1
  unfold encB
  rw [if_pos hc]
  unfold bodyB
  simp only
  rw [List.length_zipWith, lI, lW, Nat.min_self, lO, zip_in I W (by rw [lI, lW]), zip_wit I W (by rw [lI, lW])]
  simp only at g1
  rw [g1, g2, g3, g4, g5, g6]
  simp [List.append_assoc]
theorem agr_count {s s1 : RS} {n : Int} (h : Agr rN s n s1) (hn : n ≤ 100) : Agr (rC · 100) s n s1 := by
  refine ⟨fun hs => ?_, fun hf => ?_⟩
  · have e := h.1 hs
    show rC s 100 = _
    unfold rC; rw [e, if_pos hn]
  · simp only [rC] at hf
    by_cases hc : (rN s).1 ≤ 100
    · rw [if_pos hc] at hf; exact h.2 hf
    · rw [if_neg hc] at hf; cases hf
theorem agr_great {s s1 : RS} {n : Int} (h : Agr rN s n s1) (hn : 100 < n) : (rC s 100).2.2 = true := by
  unfold rC
  by_cases hc : (rN s).1 ≤ 100
  · rw [if_pos hc]
    cases hf : (rN s).2.2 with
    | true => rfl
    | false =>
      have e := h.1 (h.2 hf)
      rw [e] at hc
      simp only at hc
      omega
  · rw [if_neg hc]
theorem agr_in {s s1 s2 : RS} {p : Pt} {n : Int} (h1 : Agr rP s p s1) (h2 : Agr rN s1 n s2) : Agr rIn s ⟨p, n, 0, 0, ByteArray.empty⟩ s2 :=
  Agr.seq (r := rIn) (f := fun p n => (⟨p, n, 0, 0, ByteArray.empty⟩ : In)) (fun _ => rfl) rN_ext h1 h2
theorem agr_out {s s1 s2 : RS} {v : Int} {c : Scr} (h1 : Agr rN s v s1) (h2 : Agr rS s1 c s2) : Agr rOut s ⟨v, c⟩ s2 :=
  Agr.seq (r := rOut) (f := fun v c => (⟨v, c⟩ : Out)) (fun _ => rfl) rS_ext h1 h2
theorem agr_wit {s s1 s2 s3 : RS} {k key : Int} {x : ByteArray} (h1 : Agr rN s k s1) (h2 : Agr rN s1 key s2) (h3 : Agr rX s2 x s3) : Agr rWit s ⟨k, key, x⟩ s3 := by
  have h12 := Agr.seq (r := fun s => (((rN s).1, (rN (rN s).2).1), (rN (rN s).2).2)) (f := fun a b => (a, b)) (fun _ => rfl) rN_ext h1 h2
  exact Agr.seq (r := rWit) (f := fun (a : Int × Int) x => (⟨a.1, a.2, x⟩ : WitD)) (fun _ => rfl) rX_ext h12 h3
theorem agr_tx {s s1 s2 s3 s4 s5 s6 : RS} {n m : Nat} {I : List In} {O : List Out} {lk : Int} {W : List WitD}
    (h1 : Agr (rC · 100) s (n : Int) s1) (h2 : Agr (rMany rIn n) s1 I s2) (h3 : Agr (rC · 100) s2 (m : Int) s3) (h4 : Agr (rMany rOut m) s3 O s4) (h5 : Agr rN s4 lk s5) (h6 : Agr (rMany rWit n) s5 W s6) :
    Agr rTx s ⟨List.zipWith putW I W, O, lk⟩ s6 := by
  refine ⟨fun hs => ?_, fun hf => ?_⟩
  · have e6 := h6.1 hs
    have f5 := (rMany_ext rWit_ext n).flag (s := s5) (by rw [e6]; exact hs)
    have e5 := h5.1 f5
    have f4 := rN_ext.flag (s := s4) (by rw [e5]; exact f5)
    have e4 := h4.1 f4
    have f3 := (rMany_ext rOut_ext m).flag (s := s3) (by rw [e4]; exact f4)
    have e3 : rC s2 100 = ((m : Int), s3) := h3.1 f3
    have f2 := (rC_ext 100).flag (s := s2) (by rw [e3]; exact f3)
    have e2 := h2.1 f2
    have f1 := (rMany_ext rIn_ext n).flag (s := s1) (by rw [e2]; exact f2)
    exact rTx_of (h1.1 f1) e2 e3 e4 e5 e6
  · obtain ⟨t1, t2, t3, t4, t5, t6, n', m', I', O', lk', W', g1, g2, g3, g4, g5, g6, e⟩ := rTx_parts s
    rw [e] at hf
    simp only at hf
    have f5 := (rMany_ext rWit_ext n').flag (s := t5) (by rw [g6]; exact hf)
    have f4 := rN_ext.flag (s := t4) (by rw [g5]; exact f5)
    have f3 := (rMany_ext rOut_ext m').flag (s := t3) (by rw [g4]; exact f4)
    have f2 := (rC_ext 100).flag (s := t2) (by rw [g3]; exact f3)
    have f1 := (rMany_ext rIn_ext n').flag (s := t1) (by rw [g2]; exact f2)
    have a1 := h1.1 (h1.2 (by show (rC s 100).2.2 = false; rw [g1]; exact f1))
    have b1 : ((n' : Int), t1) = ((n : Int), s1) := g1.symm.trans a1
    injection b1 with b1 b2
    have b1 : n' = n := by omega
    subst b1; subst b2
    have a2 := h2.1 (h2.2 (by rw [g2]; exact f2))
    have b3 := g2.symm.trans a2
    injection b3 with b3 b4
    subst b4
    have a3 := h3.1 (h3.2 (by show (rC t2 100).2.2 = false; rw [g3]; exact f3))
    have b5 : ((m' : Int), t3) = ((m : Int), s3) := g3.symm.trans a3
    injection b5 with b5 b6
    have b5 : m' = m := by omega
    subst b5; subst b6
    have a4 := h4.1 (h4.2 (by rw [g4]; exact f4))
    have b7 := g4.symm.trans a4
    injection b7 with b7 b8
    subst b8
    have a5 := h5.1 (h5.2 (by rw [g5]; exact f5))
    have b9 := g5.symm.trans a5
    injection b9 with b9 b10
    subst b10
    exact h6.2 (by rw [g6]; exact hf)
theorem rTx_flags {s : RS} (h : (rTx s).2.2 = false) : (rC s 100).2.2 = false ∧ ∀ (n : Nat) (s1 : RS) (I : List In) (s2 : RS), rC s 100 = ((n : Int), s1) → rMany rIn n s1 = (I, s2) → (rC s2 100).2.2 = false := by
  obtain ⟨t1, t2, t3, t4, t5, t6, n', m', I', O', lk', W', g1, g2, g3, g4, g5, g6, e⟩ := rTx_parts s
  rw [e] at h
  simp only at h
  have f5 := (rMany_ext rWit_ext n').flag (s := t5) (by rw [g6]; exact h)
  have f4 := rN_ext.flag (s := t4) (by rw [g5]; exact f5)
  have f3 := (rMany_ext rOut_ext m').flag (s := t3) (by rw [g4]; exact f4)
  have f2 := (rC_ext 100).flag (s := t2) (by rw [g3]; exact f3)
  have f1 := (rMany_ext rIn_ext n').flag (s := t1) (by rw [g2]; exact f2)
  refine ⟨by rw [g1]; exact f1, fun n s1 I s2 k1 k2 => ?_⟩
  have b1 := g1.symm.trans k1
  injection b1 with b1 b2
  have b1 : n' = n := by omega
  subst b1; subst b2
  have b3 := g2.symm.trans k2
  injection b3 with _ b4
  subst b4
  rw [g3]; exact f3
/-- No transaction. -/
def noT : TxD := ⟨[], [], 0⟩
theorem dec_lame {bs : List (BitVec 8)} (h : (rTx (bs, false)).2.2 = true) : decT bs = (noT, 2) := by
  unfold decT
  rw [if_neg]
  · rfl
  · rintro ⟨h1, _⟩
    unfold rD at h1
    rw [h] at h1
    simp at h1
theorem dec_great {bs : List (BitVec 8)} {s1 : RS} {n : Int} (h : Agr rN (bs, false) n s1) (hn : 100 < n) : decT bs = (noT, 2) := by
  refine dec_lame ?_
  cases hf : (rTx (bs, false)).2.2 with
  | true => rfl
  | false => have := (rTx_flags hf).1; rw [agr_great h hn] at this; cases this
theorem dec_great2 {bs : List (BitVec 8)} {s1 s2 s3 : RS} {n : Nat} {I : List In} {m : Int} (h1 : Agr (rC · 100) (bs, false) (n : Int) s1) (h2 : Agr (rMany rIn n) s1 I s2) (h3 : Agr rN s2 m s3) (hm : 100 < m) : decT bs = (noT, 2) := by
  refine dec_lame ?_
  cases hf : (rTx (bs, false)).2.2 with
  | true => rfl
  | false =>
    obtain ⟨f1, f2⟩ := rTx_flags hf
    have e1 : rC (bs, false) 100 = ((n : Int), s1) := h1.1 (h1.2 f1)
    obtain ⟨I', t2, e2⟩ : ∃ I' t2, rMany rIn n s1 = (I', t2) := ⟨_, _, rfl⟩
    have f3 := f2 n s1 I' t2 e1 e2
    have f4 := (rC_ext 100).flag f3
    have e3 := h2.1 (h2.2 (by rw [e2]; exact f4))
    have b := e2.symm.trans e3
    injection b with _ b
    subst b
    rw [agr_great h3 hm] at f3
    cases f3
/-- What the document's Decode says: read, and written again. -/
theorem dec_ref {bs : List (BitVec 8)} {t : TxD} {s' : RS} (h : Agr rTx (bs, false) t s') : decT bs = if s'.2 = false ∧ chkE t = 0 ∧ encB t = bs then (t, 0) else (noT, 2) := by
  by_cases hc : s'.2 = false ∧ chkE t = 0 ∧ encB t = bs
  · rw [if_pos hc, ← hc.2.2]; exact dec_enc t hc.2.1
  · rw [if_neg hc]
    unfold decT
    rw [if_neg]
    · rfl
    · rintro ⟨h1, h2⟩
      unfold rD at h1
      obtain ⟨x, b, e⟩ : ∃ x b, (rTx (bs, false)).2 = (x, b) := ⟨_, _, rfl⟩
      rw [e] at h1
      simp at h1
      obtain ⟨hb, hx⟩ := h1
      subst hb; subst hx
      have hs := h.2 (by rw [e])
      have e2 := h.1 hs
      rw [e2] at h2 e
      simp only at h2 e
      subst e
      exact hc ⟨rfl, h2, enc_dec e2 h2⟩
end Go.Proofs.YteikbpkjikacmaaGreatDoor
