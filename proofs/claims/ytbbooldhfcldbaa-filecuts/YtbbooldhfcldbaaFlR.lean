/- coraclelaw7: awake; a few numbers of small files. -/
import Derived.Test.YtbbooldhfcldbaaFlQ
import Derived.Lib.SlBytesConst
namespace Go.Proofs.Ytbbooldhfcldbaa
open Go.ChangeShapes Go.WideShapes Go.ChangeAt Go.RowKit Go.Lib

theorem wpList_str_if {ops : Array Oper} {rest : List Oper} {o : Oper} {a : Act} {w : World} {Q : Exit → Act → World → Prop} (hw : Region.wanted o (yielded ops a.tmps) = true) (x : Operand) (ho : o.op = .convert 40 9 x) (v : Value) (bs : List (BitVec 8)) (hx : a.eval x = v) (hs : SrcB w v bs)
    (h : wpList Try.prog ops Q rest (a.put o.dst (.string (ofB bs))) w) : wpList Try.prog ops Q (o :: rest) a w :=
  wpList_step fun _ hK => by
    rw [if_pos hw]
    unfold Oper.wp execOp
    simp only [ho, hx, Sem.run_bind, Sem.run_pure, hs.str, Result.andThen_ok]
    exact hK _ _ h
theorem FsAt.keepB {w w' : World} {f : Nat} {S : FS} (h : FsAt w f S) (hb : Below w.heap.size w w') : FsAt w' f S := h.below hb
theorem sortN_one (x : ByteArray) : sortN [x] = [x] := by
  unfold sortN
  simp [mk_bytesOf]
theorem crash_one (A : Abs) (x : ByteArray) (fl : Fl) (ps : List Int) (h : A.L = [(x, fl)]) : A.crash ps = ⟨[(x, ⟨fl.b.take (keepOf fl ps).1, (keepOf fl ps).1⟩)], 0, false, 0, false⟩ := by
  unfold Abs.crash
  rw [h]
  show Abs.mk (crashGo _ (sortN [x]) ps []) _ _ _ _ = _
  rw [sortN_one]
  show Abs.mk (aput x ⟨(flOf (alook x [(x, fl)])).b.take (keepOf (flOf (alook x [(x, fl)])) ps).1, _⟩ []) _ _ _ _ = _
  have : flOf (alook x [(x, fl)]) = fl := by unfold alook; rw [if_pos rfl]; rfl
  rw [this]; rfl
def awA : ByteArray := ⟨#[97]⟩
def aw1 : Abs := ⟨[(⟨#[97]⟩, ⟨[120, 121], 0⟩)], 1, false, 0, false⟩
def aw2 : Abs := ⟨[(⟨#[97]⟩, ⟨[120, 121], 0⟩)], 2, false, 0, false⟩
theorem aw_app1 : FS.zero.abs.app ⟨#[97]⟩ [120, 121] = aw1 ∧ FS.zero.abs.appE ⟨#[97]⟩ [120, 121] = 0 := ⟨rfl, rfl⟩
theorem aw_app2 : aw1.app ⟨#[]⟩ [] = aw2 ∧ aw1.appE ⟨#[]⟩ [] = 1 := ⟨rfl, rfl⟩
theorem aw_cr0 : aw2.crash [] = ⟨[(⟨#[97]⟩, ⟨[], 0⟩)], 0, false, 0, false⟩ := crash_one aw2 ⟨#[97]⟩ ⟨[120, 121], 0⟩ [] rfl
theorem aw_cr1 : aw2.crash [1] = ⟨[(⟨#[97]⟩, ⟨[120], 1⟩)], 0, false, 0, false⟩ := crash_one aw2 ⟨#[97]⟩ ⟨[120, 121], 0⟩ [1] rfl
theorem alook_one {β : Type} (x : ByteArray) (v : β) : alook x [(x, v)] = some v := by unfold alook; rw [if_pos rfl]
theorem aw_a : alook ⟨#[97]⟩ aw2.L = some ⟨[120, 121], 0⟩ := rfl
theorem aw_b : alook ⟨#[98]⟩ aw2.L = none := rfl
theorem zero_L : FS.zero.abs = ⟨[], 0, false, 0, false⟩ := rfl
theorem FS.sane_of {S : FS} {A : Abs} (h : S.abs = A) (h0 : 0 ≤ A.ops) (h1 : A.ops ≤ 4611686018427387904) (h2 : -9223372036854775808 ≤ A.left) (h3 : A.left ≤ 9223372036854775807) : S.Sane := by
  subst h
  exact ⟨h0, h1, h2, h3⟩
set_option maxRecDepth 100000 in
set_option maxHeartbeats 2000000 in
theorem awake_any (w : World) : Calls Try.prog 9 #[] w fun e w' => e = .returned (.bool true) ∧ Below w.heap.size w w' := by
  have kc := fun (w : World) (C : Array Value) (n c : Nat) => Lib.run_convert_bytes_const (P := Try.prog) w 40 5 C n c Try.underlying40 Try.underlying5
  go_enter Try.func9, Try.ntmps9
  go_wp2_with fail
  refine Calls.mono (new_any w) ?_
  rintro e w1 ⟨rfl, hf1, hb1, hsz1⟩
  obtain ⟨f, hf⟩ : ∃ f, f = w.heap.size := ⟨_, rfl⟩
  rw [← hf] at hf1 ⊢
  have HF1 : Hid (FsAt w1 f FS.zero) := hf1
  have HB1 : Hid (Below w.heap.size w w1) := hb1
  have HFf : Hid (f = w.heap.size) := hf
  have HS1 : Hid (w1.heap.size = f + 1) := show _ = _ by rw [hsz1, hf]
  clear hf1 hb1 hsz1 hf
  go_wp2_with fail
  clear kc
  generalize hw2 : World.alloc w1 _ = w2
  have hb2 : Below w1.heap.size w1 w2 := by rw [← hw2]; exact (Below.refl _ _).alloc (Nat.le_refl _) _
  have hbk : ∀ j, w2.cell? ⟨w1.heap.size, j, none⟩ = (#[Value.int .u8 120, Value.int .u8 121] : Array Value)[j]? := fun j => by rw [← hw2]; exact World.cell?_alloc_mark _ _ _ _ _
  have hv2 : SrcB w2 (.slice (some ⟨w1.heap.size, 0, none⟩) 2 2) [120, 121] := .inr ⟨w1.heap.size, 0, 2, rfl, fun j u hu => by
    rw [Nat.zero_add]
    match j, hu with
    | 0, hu => rw [← hu]; exact hbk 0
    | 1, hu => rw [← hu]; exact hbk 1
    | j + 2, hu => cases hu⟩
  clear hw2
  refine Calls.mono (append_any f FS.zero ⟨#[97]⟩ _ [120, 121] w2 (HF1.out.below hb2) (FS.sane_of rfl (by decide) (by decide) (by decide) (by decide)) hv2 (by decide) (fun k hk e => by
    injection hk with hk
    rcases e with e | e | ⟨p, hp, _⟩
    · have := HS1.out; simp only at hk; omega
    · cases e
    · cases hp)) ?_
  rintro e w3 ⟨rfl, S3, ha3, hf3, hg3⟩
  rw [aw_app1.1] at ha3
  rw [aw_app1.2]
  have hft3 : ∀ k, FS.zero.foot f k → w.heap.size ≤ k := fun k e => by
    rcases e with e | e | ⟨p, hp, _⟩
    · rw [e, HFf.out]; exact Nat.le_refl _
    · cases e
    · cases hp
  have HB2 : Below w.heap.size w w2 := HB1.out.trans (hb2.mono HB1.out.size)
  have HB3 : Hid (Below w.heap.size w w3) := HB2.trans (hg3.below HB2.size hft3)
  have HF3 : Hid (FsAt w3 f S3 ∧ S3.abs = aw1 ∧ ∀ k, S3.foot f k → w.heap.size ≤ k) := ⟨hf3, ha3, fun k hk => (hg3.foot k hk).elim (hft3 k) fun e => Nat.le_trans HB2.size e⟩
  clear HF1 HB1 HS1 hb2 hv2 ha3 hf3 hg3 hft3 HB2
  go_wp2_with fail
  refine Calls.mono (append_any f S3 ⟨#[]⟩ _ [] w3 HF3.out.1 (FS.sane_of HF3.out.2.1 (by decide) (by decide) (by decide) (by decide)) (.inl ⟨rfl, rfl⟩) (by decide) (fun k hk => by cases hk)) ?_
  rintro e w4 ⟨rfl, S4, ha4, hf4, hg4⟩
  rw [HF3.out.2.1, aw_app2.1] at ha4
  rw [HF3.out.2.1, aw_app2.2]
  have HB4 : Hid (Below w.heap.size w w4) := HB3.out.trans (hg4.below HB3.out.size HF3.out.2.2)
  have HF4 : Hid (FsAt w4 f S4 ∧ S4.abs = aw2 ∧ ∀ k, S4.foot f k → w.heap.size ≤ k) := ⟨hf4, ha4, fun k hk => (hg4.foot k hk).elim (HF3.out.2.2 k) fun e => Nat.le_trans HB3.out.size e⟩
  clear ha4 hf4 hg4 HF3 HB3
  go_wp2_with fail
  have hL4 : S4.L = aw2.L := congrArg Abs.L HF4.out.2.1
  refine Calls.mono (crash_any f S4 none 0 0 [] w4 HF4.out.1 (by rw [hL4]; decide) (by rw [hL4]; decide) (.inl rfl) rfl (Nat.le_refl _) (Nat.zero_le _)) ?_
  rintro e w5 ⟨g5, T5, rfl, ha5, hf5, hg5, hb5⟩
  rw [HF4.out.2.1, aw_cr0] at ha5
  have HB5 : Hid (Below w.heap.size w w5) := HB4.out.trans (hb5.mono HB4.out.size)
  have HF5 : Hid (FsAt w5 f S4) := HF4.out.1.below hb5
  have HT5 : Hid (FsAt w5 g5 T5 ∧ T5.abs = ⟨[(⟨#[97]⟩, ⟨[], 0⟩)], 0, false, 0, false⟩) := ⟨hf5, ha5⟩
  clear ha5 hf5 hg5 hb5
  go_wp2_with fail
  generalize hw6 : World.alloc w5 _ = w6
  have hb6 : Below w5.heap.size w5 w6 := by rw [← hw6]; exact (Below.refl _ _).alloc (Nat.le_refl _) _
  have hi6 : Ints w6 (some ⟨w5.heap.size, 0, none⟩) [1] := .inr ⟨_, _, rfl, fun i hi => by
    have : i = 0 := by simpa using hi
    subst this
    rw [← hw6]; simp⟩
  clear hw6
  refine Calls.mono (crash_any f S4 (some ⟨w5.heap.size, 0, none⟩) 1 1 [1] w6 (HF5.out.below hb6) (by rw [hL4]; decide) (by rw [hL4]; decide) hi6 rfl (Nat.le_refl _) (by decide)) ?_
  rintro e w7 ⟨g7, T7, rfl, ha7, hf7, hg7, hb7⟩
  rw [HF4.out.2.1, aw_cr1] at ha7
  have hb67 : Below w5.heap.size w5 w7 := hb6.trans (hb7.mono hb6.size)
  have HB7 : Hid (Below w.heap.size w w7) := HB5.out.trans (hb67.mono HB5.out.size)
  have HF7 : Hid (FsAt w7 f S4) := HF5.out.below hb67
  have HT7 : Hid (FsAt w7 g5 T5 ∧ T5.abs = ⟨[(⟨#[97]⟩, ⟨[], 0⟩)], 0, false, 0, false⟩) := ⟨HT5.out.1.below hb67, HT5.out.2⟩
  have HU7 : Hid (FsAt w7 g7 T7 ∧ T7.abs = ⟨[(⟨#[97]⟩, ⟨[120], 1⟩)], 0, false, 0, false⟩) := ⟨hf7, ha7⟩
  have HA : Hid (S4.abs = aw2) := HF4.out.2.1
  clear ha7 hf7 hg7 hb7 hb67 hb6 hi6 HB5 HF5 HT5 HF4 HB4 hL4
  go_wp2_with fail
  refine Calls.mono (read_any g5 T5 ⟨#[97]⟩ w7 HT7.out.1) ?_
  rw [show T5.L = [(⟨#[97]⟩, ⟨[], 0⟩)] from congrArg Abs.L HT7.out.2, alook_one]
  rintro e w8 ⟨v8, rfl, ho8, hb8⟩
  obtain ⟨a8, c8, hv8⟩ := ho8.shape
  have hv8' : v8 = .slice a8 0 c8 := hv8
  subst hv8'
  simp only [Option.isSome_some, if_true]
  have HB8 : Hid (Below w.heap.size w w8) := HB7.out.trans (hb8.mono HB7.out.size)
  have HF8 : Hid (FsAt w8 f S4) := HF7.out.below hb8
  have HU8 : Hid (FsAt w8 g7 T7 ∧ T7.L = [(⟨#[97]⟩, ⟨[120], 1⟩)]) := ⟨HU7.out.1.below hb8, congrArg Abs.L HU7.out.2⟩
  clear ho8 hv8 hb8 HB7 HF7 HT7 HU7
  go_wp2_with fail
  refine Calls.mono (read_any g7 T7 ⟨#[97]⟩ w8 HU8.out.1) ?_
  rw [HU8.out.2, alook_one]
  rintro e w9 ⟨v9, rfl, ho9, hb9⟩
  obtain ⟨a9, c9, hv9⟩ := ho9.shape
  have hv9' : v9 = .slice a9 1 c9 := hv9
  subst hv9'
  simp only [Option.isSome_some, if_true]
  have HB9 : Hid (Below w.heap.size w w9) := HB8.out.trans (hb9.mono HB8.out.size)
  have HF9 : Hid (FsAt w9 f S4) := HF8.out.below hb9
  have HO9 : Hid (OwnB w9 w8.heap.size (.slice a9 1 c9) [120]) := ho9
  clear ho9 hv9 hb9 HB8 HF8 HU8
  go_wp2_with fail
  refine Calls.mono (read_any f S4 ⟨#[98]⟩ w9 HF9.out) ?_
  rw [show S4.L = aw2.L from congrArg Abs.L HA.out, aw_b]
  rintro e w10 ⟨v10, rfl, ho10, hb10⟩
  obtain ⟨a10, c10, hv10⟩ := ho10.shape
  have hv10' : v10 = .slice a10 0 c10 := hv10
  subst hv10'
  simp only [Option.isSome_none, Bool.false_eq_true, if_false]
  have HB10 : Hid (Below w.heap.size w w10) := HB9.out.trans (hb10.mono HB9.out.size)
  have HF10 : Hid (FsAt w10 f S4) := HF9.out.below hb10
  have HS10 : Hid (SrcB w10 (.slice a9 1 c9) [120]) := (HO9.out.below hb10).src
  have HX : Hid (ofB [120] = ⟨#[120]⟩) := show _ = _ from rfl
  clear ho10 hv10 hb10 HB9 HF9 HO9
  go_wp2_with (refine wpList_str_if (by rfl) _ rfl _ [120] rfl HS10.out ?_; rw [HX.out])
  refine Calls.mono (safe_any f S4 ⟨#[97]⟩ w10 HF10.out) ?_
  rw [show S4.L = aw2.L from congrArg Abs.L HA.out, aw_a]
  rintro e w11 ⟨rfl, hb11⟩
  have HB11 : Hid (Below w.heap.size w w11) := HB10.out.trans (hb11.mono HB10.out.size)
  have hs0 : safeOf (some ⟨[120, 121], 0⟩) = 0 := rfl
  rw [hs0]
  clear hb11 HB10 HF10 HS10 hs0
  go_wp2_with fail
  refine Calls.mono (sync_nil ⟨#[97]⟩ w11) ?_
  rintro e w12 ⟨rfl, hb12⟩
  have HB12 : Hid (Below w.heap.size w w12) := HB11.out.trans (hb12.mono HB11.out.size)
  clear hb12 HB11
  go_wp2_with fail
  refine Calls.mono (safe_nil ⟨#[97]⟩ w12) ?_
  rintro e w13 ⟨rfl, hb13⟩
  have HB13 : Hid (Below w.heap.size w w13) := HB12.out.trans (hb13.mono HB12.out.size)
  clear hb13 HB12
  go_wp2_with fail
  refine Calls.mono (crash_nil none 0 0 w13) ?_
  rintro e w14 ⟨rfl, rfl⟩
  go_wp2_with fail
  go_ret
  exact ⟨rfl, HB13.out⟩
end Go.Proofs.Ytbbooldhfcldbaa
