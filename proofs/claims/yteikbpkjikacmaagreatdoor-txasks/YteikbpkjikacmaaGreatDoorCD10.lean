/- A transaction is read as it was written: plain mathematics. -/
import Derived.Test.YteikbpkjikacmaaGreatDoorCD8
import Derived.Test.YteikbpkjikacmaaGreatDoorCD9
namespace Go.Proofs.YteikbpkjikacmaaGreatDoor
open Go.RowKit

theorem totR_all {Z : List Int} : ∀ {s o : Int}, totR s Z = some o → ∀ z ∈ Z, Amt z := by
  induction Z with
  | nil => intro s o _ z hz; cases hz
  | cons y Z ih =>
    intro s o h z hz
    rw [totR] at h
    split at h
    · rename_i hc
      rcases List.mem_cons.1 hz with rfl | hz
      · exact hc.1
      · exact ih h z hz
    · cases h
theorem chk_parts {t : TxD} (h : chkE t = 0) : t.ins.length ≤ 100 ∧ t.outs.length ≤ 100 ∧ (∀ x ∈ t.ins, inOK x = true) ∧ (∀ x ∈ t.outs, scrOK x.scr = true) ∧ wi t.lock 0 1000000 = true ∧ (∀ x ∈ t.outs, Amt x.value) := by
  unfold chkE at h
  split at h
  · cases h
  · rename_i h1
    split at h
    · cases h
    · split at h
      · cases h
      · rename_i h3
        split at h
        · cases h
        · split at h
          · cases h
          · rename_i h5
            split at h
            · cases h
            · rename_i h6
              refine ⟨by omega, by omega, List.all_eq_true.1 (by simpa using h3), List.all_eq_true.1 (by simpa using h5), by simpa using h6, fun x hx => ?_⟩
              unfold totE at h
              cases ht : totR 0 (t.outs.map Out.value) with
              | none => rw [ht] at h; cases h
              | some o => exact totR_all ht _ (List.mem_map_of_mem hx)
theorem wi_ok {n lo hi : Int} (h : wi n lo hi = true) (h0 : 0 ≤ lo) (h1 : hi ≤ 4611686018427387904) : okN n := by
  have := of_decide_eq_true h
  exact ⟨by omega, by omega⟩
theorem rTx_enc (t : TxD) (h : chkE t = 0) (r : List (BitVec 8)) (b : Bool) : rTx (bodyB t ++ t.ins.flatMap witB ++ r, b) = (t, (r, b)) := by
  obtain ⟨hi, ho, h1, h2, h3, h4⟩ := chk_parts h
  have e0 : bodyB t ++ t.ins.flatMap witB ++ r = numB t.ins.length ++ (t.ins.flatMap inB ++ (numB t.outs.length ++ (t.outs.flatMap outB ++ (numB t.lock ++ (t.ins.flatMap witB ++ r))))) := by
    simp [bodyB, List.append_assoc]
  have hin : ∀ x ∈ t.ins, okN x.prev.n ∧ okN x.seq ∧ okN x.kind ∧ okN x.key ∧ x.pre.size ≤ 64 := fun x hx => by
    have := h1 x hx
    have hp := inOK_pre this
    unfold inOK witOK at this
    simp only [Bool.and_eq_true] at this
    exact ⟨wi_ok this.1.1 (by omega) (by omega), wi_ok this.1.2 (by omega) (by omega), wi_ok this.2.1.1 (by omega) (by omega), wi_ok this.2.1.2 (by omega) (by omega), hp⟩
  have e1 : ∀ r, rMany rIn t.ins.length (t.ins.flatMap inB ++ r, b) = (t.ins.map (fun x => ⟨x.prev, x.seq, 0, 0, ByteArray.empty⟩), (r, b)) := fun r =>
    rMany_all rIn inB _ t.ins r b fun x hx r => rIn_in x (hin x hx).1 (hin x hx).2.1 r b
  have e2 : ∀ r, rMany rOut t.outs.length (t.outs.flatMap outB ++ r, b) = (t.outs.map (fun x => x), (r, b)) := fun r =>
    rMany_all rOut outB (fun x => x) t.outs r b fun x hx r => by
      have := h2 x hx
      unfold scrOK at this
      simp only [Bool.and_eq_true] at this
      have hv := h4 x hx
      unfold Amt at hv
      exact rOut_out x ⟨by omega, by omega⟩ (wi_ok this.1.1 (by omega) (by omega)) (wi_ok this.1.2.1.1 (by omega) (by omega)) (wi_ok this.1.2.1.2 (by omega) (by omega)) (wi_ok this.1.2.2 (by omega) (by omega)) (wi_ok this.2.1 (by omega) (by omega)) (wi_ok this.2.2 (by omega) (by omega)) r b
  have e3 : ∀ r, rMany rWit t.ins.length (t.ins.flatMap witB ++ r, b) = (t.ins.map (fun x => ⟨x.kind, x.key, x.pre⟩), (r, b)) := fun r =>
    rMany_all rWit witB _ t.ins r b fun x hx r => rWit_wit x (hin x hx).2.2.1 (hin x hx).2.2.2.1 (hin x hx).2.2.2.2 r b
  rw [e0]
  simp only [rTx, rC_num (n := (t.ins.length : Int)) ⟨by omega, by omega⟩ 100 (by omega), rC_num (n := (t.outs.length : Int)) ⟨by omega, by omega⟩ 100 (by omega), Int.toNat_natCast, e1, e2, rN_num (wi_ok h3 (by omega) (by omega)), e3]
  have z : List.zipWith putW (t.ins.map (fun x => ⟨x.prev, x.seq, 0, 0, ByteArray.empty⟩)) (t.ins.map (fun x => ⟨x.kind, x.key, x.pre⟩)) = t.ins := by
    generalize t.ins = L
    induction L with
    | nil => rfl
    | cons x L ih => rw [List.map_cons, List.map_cons, List.zipWith_cons_cons, ih]; rfl
  rw [z]
  simp
/-- What Encode wrote, Decode reads. -/
theorem dec_enc (t : TxD) (h : chkE t = 0) : decT (encB t) = (t, 0) := by
  have e : rTx (encB t, false) = (t, ([], false)) := by
    have := rTx_enc t h [] false
    rw [List.append_nil] at this
    unfold encB
    rw [if_pos h]; exact this
  unfold decT
  rw [e, if_pos ⟨rfl, h⟩]
/-- With bytes behind it, it is none. -/
theorem dec_more (t : TxD) (h : chkE t = 0) (x : BitVec 8) (r : List (BitVec 8)) : (decT (encB t ++ x :: r)).2 = 2 := by
  have e : rTx (encB t ++ x :: r, false) = (t, (x :: r, false)) := by
    unfold encB
    rw [if_pos h]; exact rTx_enc t h _ false
  unfold decT
  rw [e, if_neg (by rintro ⟨h, _⟩; cases h)]
end Go.Proofs.YteikbpkjikacmaaGreatDoor
