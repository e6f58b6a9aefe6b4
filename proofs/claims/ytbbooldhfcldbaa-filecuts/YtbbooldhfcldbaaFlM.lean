/- file: Read; what it does when there are no files (nil). -/
import Derived.Test.YtbbooldhfcldbaaFlL
namespace Go.Proofs.Ytbbooldhfcldbaa
open Go.ChangeShapes Go.WideShapes Go.ChangeAt Go.RowKit Go.Lib

set_option maxRecDepth 100000 in
set_option maxHeartbeats 2000000 in
theorem read_any (f : Nat) (S : FS) (name : ByteArray) (w : World) (h : FsAt w f S) :
    Calls Try.prog 19 #[.pointer (some ⟨f, 0, none⟩), .string name] w fun e w' => ∃ v, e = .returned (.tuple #[v, .int .i64 (if (alook name S.L).isSome then 0 else 5)]) ∧ OwnB w' w.heap.size v (flOf (alook name S.L)).b ∧ Below w.heap.size w w' := by
  rw [alook_L]
  have HF : Hid (Calls Try.prog 38 #[.pointer (some ⟨f, 0, none⟩), .string name] w fun e w' => e = .returned (found (alook name S.es)) ∧ Below w.heap.size w w') := find_any f S name w h
  cases ha : alook name S.es with
  | none =>
    rw [ha] at HF
    have HV : Hid (found none = .tuple #[.agg #[.slice none 0 0, .int .i64 0], .bool false]) := show _ = _ from rfl
    clear h ha
    go_enter Try.func19, Try.ntmps19
    go_wp2_with fail
    refine wp_scope_hops 1 ?_
    go_hide hQ
    go_wp2_with fail
    refine Calls.mono HF.out ?_
    rintro e w1 ⟨rfl, hb1⟩
    rw [HV.out]
    go_wp2_with fail
    go_step3
    simp only [Exit.then]
    subst hQ
    rw [hops_goto]
    refine ⟨_, rfl, ?_⟩
    go_hide hQ
    go_wp2_with fail
    subst hQ
    rw [hops_ret]
    go_ret2
    exact ⟨.slice none 0 0, rfl, OwnB.nil _ _, hb1.alloc hb1.size _⟩
  | some p =>
    obtain ⟨a, c, hp, ho⟩ := h.found name ha
    have hbn := (h.fits _ (mem_of_alook ha)).2
    rw [ha, hp] at HF
    obtain ⟨fl, hfl⟩ : ∃ fl, fl = p.2 := ⟨_, rfl⟩
    rw [← hfl] at HF ho hp
    have hbn' : fl.b.length ≤ 16777216 := by rw [hfl]; exact hbn
    have HO : Hid (OwnB w 0 (.slice a fl.b.length c) fl.b) := ho
    have HV : Hid (found (some (.slice a fl.b.length c, fl)) = .tuple #[.agg #[.slice a fl.b.length c, .int .i64 (fl.safe : Int)], .bool true]) := show _ = _ from rfl
    have HR : Hid (flOf (Option.map Prod.snd (some p)) = fl) := show _ = _ by rw [hp]; rfl
    rw [HR.out]
    clear h ha hp HR hbn hfl ho
    obtain ⟨n, hn⟩ : ∃ n, n = fl.b.length := ⟨_, rfl⟩
    rw [← hn] at HF HO HV hbn'
    have HN : Hid (n = fl.b.length) := hn
    clear hn
    go_enter Try.func19, Try.ntmps19
    go_wp2_with fail
    refine wp_scope_hops 1 ?_
    go_hide hQ
    go_wp2_with fail
    refine Calls.mono HF.out ?_
    rintro e w1 ⟨rfl, hb1⟩
    rw [HV.out]
    have HB1 : Hid (Below w.heap.size w w1) := hb1
    clear hb1 HF
    go_wp2_with fail
    have hb2 : Below w.heap.size w (w1.alloc (.cells #[.slice a n c, .int .i64 (fl.safe : Int)] 68)) := HB1.out.alloc HB1.out.size _
    refine Calls.mono (bclone_any _ fl.b _ ((HO.out.below hb2).src) (by rw [← HN.out]; omega)) ?_
    rintro e w3 ⟨v3, rfl, ho3, hb3⟩
    have HO3 : Hid (OwnB w3 w.heap.size v3 fl.b) := ho3.less hb2.size
    have HB3 : Hid (Below w.heap.size w w3) := hb2.trans (hb3.mono hb2.size)
    clear ho3 hb3 hb2
    go_wp2_with fail
    subst hQ
    rw [hops_ret]
    go_ret2
    exact ⟨v3, rfl, HO3.out, HB3.out⟩
end Go.Proofs.Ytbbooldhfcldbaa
