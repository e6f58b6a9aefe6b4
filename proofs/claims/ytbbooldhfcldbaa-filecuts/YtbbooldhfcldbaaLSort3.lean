/- three names in order. -/
import Derived.Test.YtbbooldhfcldbaaLStr
namespace Go.Proofs.Ytbbooldhfcldbaa
open Go.ChangeShapes Go.WideShapes Go.ChangeAt Go.RowKit Go.Lib
theorem bytesOf_inj {a b : ByteArray} (h : bytesOf a = bytesOf b) : a = b := by rw [← mk_bytesOf a, ← mk_bytesOf b, h]
theorem sorted3 {a b c : ByteArray} (hab : a ≠ b) (hbc : b ≠ c) (hac : a ≠ c) : ∃ s0 s1 s2, sortN [a, b, c] = [s0, s1, s2] ∧ Op.bytesLess s0.toList s1.toList = true ∧ Op.bytesLess s1.toList s2.toList = true := by
  have tr : ∀ a b c : List UInt8, leB a b = true → leB b c = true → leB a c = true := fun a b c h1 h2 => by simp only [leB, decide_eq_true_eq] at *; exact List.le_trans h1 h2
  have tot : ∀ a b : List UInt8, (leB a b || leB b a) = true := fun a b => by simp only [leB, Bool.or_eq_true, decide_eq_true_eq]; exact List.le_total a b
  have hp := List.mergeSort_perm ([a, b, c].map bytesOf) leB
  have hs := List.pairwise_mergeSort tr tot ([a, b, c].map bytesOf)
  have hl := hp.length_eq
  have hn : ([a, b, c].map bytesOf).Nodup := by
    have e1 : bytesOf a ≠ bytesOf b := fun e => hab (bytesOf_inj e)
    have e2 : bytesOf b ≠ bytesOf c := fun e => hbc (bytesOf_inj e)
    have e3 : bytesOf a ≠ bytesOf c := fun e => hac (bytesOf_inj e)
    simp [e1, e2, e3]
  have hn' := hp.symm.nodup hn
  unfold sortN
  generalize (([a, b, c].map bytesOf).mergeSort leB) = l at *
  match l, hl with
  | [x0, x1, x2], _ =>
    refine ⟨_, _, _, rfl, ?_, ?_⟩
    · rw [Go.Proofs.bytesLess_eq, ByteArray.toList_mk, ByteArray.toList_mk, decide_eq_true_eq]
      have h1 : leB x0 x1 = true := by simp only [List.pairwise_cons] at hs; exact hs.1 x1 (by simp)
      simp only [leB, decide_eq_true_eq] at h1
      have h2 : x0 ≠ x1 := by intro e; simp [e] at hn'
      exact List.not_le.1 fun h => h2 (List.le_antisymm h1 h)
    · rw [Go.Proofs.bytesLess_eq, ByteArray.toList_mk, ByteArray.toList_mk, decide_eq_true_eq]
      have h1 : leB x1 x2 = true := by simp only [List.pairwise_cons] at hs; exact hs.2.1 x2 (by simp)
      simp only [leB, decide_eq_true_eq] at h1
      have h2 : x1 ≠ x2 := by intro e; simp [e] at hn'
      exact List.not_le.1 fun h => h2 (List.le_antisymm h1 h)
end Go.Proofs.Ytbbooldhfcldbaa
