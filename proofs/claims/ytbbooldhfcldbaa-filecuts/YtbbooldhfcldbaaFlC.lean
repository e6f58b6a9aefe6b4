/- file: begin. -/
import Derived.Test.YtbbooldhfcldbaaFlB
namespace Go.Proofs.Ytbbooldhfcldbaa
open Go.ChangeShapes Go.WideShapes Go.ChangeAt Go.RowKit Go.Lib

def nameOK (s : ByteArray) : Bool := decide (1 ≤ s.size) && decide (s.size ≤ 50)
/-- What begin tells. -/
def begE (S : FS) (l : List ByteArray) : Int := if S.pow.off = true then 7 else if l.all nameOK = true then 0 else 1
theorem allN_false {l : List ByteArray} {k : Nat} (hk : k < l.length) (hf : nameOK (l.getD k ByteArray.empty) = false) : l.all nameOK = false := by
  rw [List.all_eq_false]
  refine ⟨l.getD k ByteArray.empty, ?_, by rw [hf]; simp⟩
  rw [List.getD_eq_getElem?_getD, List.getElem?_eq_getElem hk]
  exact List.getElem_mem hk
theorem allN_true {l : List ByteArray} (h : ∀ j, j < l.length → nameOK (l.getD j ByteArray.empty) = true) : l.all nameOK = true := by
  rw [List.all_eq_true]
  intro x hx
  obtain ⟨j, hj, rfl⟩ := List.getElem_of_mem hx
  have := h j hj
  rwa [List.getD_eq_getElem?_getD, List.getElem?_eq_getElem hj] at this
set_option maxRecDepth 100000 in
set_option maxHeartbeats 2000000 in
theorem begin_any (f : Nat) (S : FS) (b n cap : Nat) (l : List ByteArray) (w : World) (h : FsAt w f S) (hs : S.Sane) (hl : l.length = n) (hn : n ≤ 1000) (hc : ∀ j x, l[j]? = some x → w.cell? ⟨b, j, none⟩ = some (.string x)) (hb : ¬ S.foot f b) :
    Calls Try.prog 36 #[.pointer (some ⟨f, 0, none⟩), .slice (some ⟨b, 0, none⟩) n cap] w fun e w' => e = .returned (.int .i64 (begE S l)) ∧ FsAt w' f S.pow ∧ Grown f S S.pow w w' := by
  have HPW : Hid (Calls Try.prog 46 #[.pointer (some ⟨f, 0, none⟩)] w fun e w' => e = .returned (.bool (!S.pow.off)) ∧ FsAt w' f S.pow ∧ Grown f S S.pow w w') := powered_any f S w h hs
  have HC : Hid (∀ w', Grown f S S.pow w w' → ∀ j x, l[j]? = some x → w'.cell? ⟨b, j, none⟩ = some (.string x)) := fun w' hg j x hx => by
    have hl := World.block_lt_of_cell? w _ (hc j x hx)
    have := hc j x hx
    unfold World.cell? at *
    rw [hg.block b hl hb]; exact this
  have HE : Hid (begE S l = if S.pow.off = true then 7 else if l.all nameOK = true then 0 else 1) := show _ = _ from rfl
  clear h hc hb hs
  generalize begE S l = E at *
  obtain ⟨T, hT⟩ : ∃ T, T = S.pow := ⟨_, rfl⟩
  rw [← hT] at HPW HC HE ⊢
  clear hT
  go_enter Try.func36, Try.ntmps36
  go_wp2_with fail
  refine wp_scope_hops 1 ?_
  go_hide hQ
  go_wp2_with fail
  refine Calls.mono HPW.out ?_
  rintro e w1 ⟨rfl, h1, hg1⟩
  have HW : Hid (FsAt w1 f T ∧ Grown f S T w w1) := ⟨h1, hg1⟩
  have HC1 : Hid (∀ j x, l[j]? = some x → w1.cell? ⟨b, j, none⟩ = some (.string x)) := HC.out w1 hg1
  clear h1 hg1 HC HPW
  cases hoff : T.off with
  | true =>
    rw [hoff] at HE
    have HE' : Hid (E = 7) := HE.out
    go_wp2_with fail
    go_step3
    simp only [Exit.then]
    subst hQ
    rw [hops_goto]
    refine ⟨_, rfl, ?_⟩
    go_hide hQ
    go_wp2_with fail
    subst hQ
    rw [hops_ret]
    go_ret
    exact ⟨ret_int HE'.out.symm, HW.out⟩
  | false =>
    rw [hoff] at HE
    go_wp2_with fail
    go_loopw [13] (fun i wr => ∃ k : Nat, k ≤ n ∧ i = .int .i64 k ∧ wr = w1 ∧ Hid (∀ j, j < k → nameOK (l.getD j ByteArray.empty) = true)) (fun i _ => n - (intOf i).toNat)
    case atStart => exact ⟨0, by omega, rfl, rfl, fun j hj => absurd hj (Nat.not_lt_zero _)⟩
    case round =>
      obtain ⟨k, hk, rfl, rfl, HALL⟩ := hrel
      by_cases hlt : k < n
      · have e0 : (0 : Int) ≤ (k : Int) := by omega
        have e1 : (k : Int) < (n : Int) := by omega
        obtain ⟨x, hx⟩ : ∃ x, x = l.getD k ByteArray.empty := ⟨_, rfl⟩
        have HX : Hid (x = l.getD k ByteArray.empty) := hx
        have ck : wr.cell? ⟨b, k, none⟩ = some (.string x) := HC1.out k x (by rw [hx, List.getD_eq_getElem?_getD, List.getElem?_eq_getElem (by omega)]; rfl)
        clear hx
        by_cases hz : x.size = 0
        · have hz' : ((x.size : Int) == 0) = true := by simp [hz]
          have HE' : Hid (E = 1) := show _ = _ by
            rw [HE.out, allN_false (k := k) (by omega) (by rw [← HX.out]; simp [nameOK, hz])]; rfl
          go_wp2_with fail
          go_step3
          subst hQ
          refine show hops _ _ _ 1 (Exit.goto 0) _ _ from ?_
          rw [hops_goto]
          refine ⟨_, rfl, ?_⟩
          go_hide hQ
          go_wp2_with fail
          subst hQ
          rw [hops_ret]
          go_ret
          exact ⟨ret_int HE'.out.symm, HW.out⟩
        · by_cases hy : x.size ≤ 50
          · have hz' : ((x.size : Int) == 0) = false := beq_eq_false_iff_ne.2 (by omega)
            have hy' : ¬ ((x.size : Int) > 50) := by omega
            have HOK : Hid (nameOK x = true) := show _ = _ by unfold nameOK; rw [decide_eq_true (by omega), decide_eq_true hy]; rfl
            go_wp2_with fail
            go_roundw
            case rel =>
              refine ⟨k + 1, by omega, by go_num, trivial, fun j hj => ?_⟩
              by_cases e : j = k
              · rw [e, ← HX.out]; exact HOK.out
              · exact HALL.out j (by omega)
            case measure => simp [intOf]; omega
          · have hz' : ((x.size : Int) == 0) = false := beq_eq_false_iff_ne.2 (by omega)
            have hy' : (x.size : Int) > 50 := by omega
            have HE' : Hid (E = 1) := show _ = _ by
              rw [HE.out, allN_false (k := k) (by omega) (by rw [← HX.out]; unfold nameOK; rw [decide_eq_false hy]; simp)]; rfl
            go_wp2_with fail
            go_step3
            subst hQ
            refine show hops _ _ _ 1 (Exit.goto 0) _ _ from ?_
            rw [hops_goto]
            refine ⟨_, rfl, ?_⟩
            go_hide hQ
            go_wp2_with fail
            subst hQ
            rw [hops_ret]
            go_ret
            exact ⟨ret_int HE'.out.symm, HW.out⟩
      · obtain rfl : k = n := by omega
        have HE' : Hid (E = 0) := show _ = _ by
          rw [HE.out, allN_true (fun j hj => HALL.out j (by omega))]; rfl
        go_wp2_with fail
        go_step3
        go_wp2_with fail
        subst hQ
        rw [hops_ret]
        go_ret
        exact ⟨ret_int HE'.out.symm, HW.out⟩
end Go.Proofs.Ytbbooldhfcldbaa
