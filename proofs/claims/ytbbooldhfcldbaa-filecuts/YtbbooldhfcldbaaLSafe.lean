/- coraclelaw7.FileSafe: its walk. -/
import Derived.Test.YtbbooldhfcldbaaFlR
namespace Go.Proofs.Ytbbooldhfcldbaa
open Go.ChangeShapes Go.WideShapes Go.ChangeAt Go.RowKit Go.Lib

theorem wpList_toBytes_if {ops : Array Oper} {rest : List Oper} {o : Oper} {a : Act} {w : World} {Q : Exit → Act → World → Prop} (hw : Region.wanted o (yielded ops a.tmps) = true) (x : Operand) (ho : o.op = .convert 9 40 x) (s : ByteArray) (hx : a.eval x = .string s)
    (hK : ∀ c w', Hid (SrcB w' (.slice (some ⟨w.heap.size, 0, none⟩) s.size c) (strB s)) → Hid (Below w.heap.size w w') → wpList Try.prog ops Q rest (a.put o.dst (.slice (some ⟨w.heap.size, 0, none⟩) s.size c)) w') : wpList Try.prog ops Q (o :: rest) a w := by
  refine wpList_step fun K hK' => ?_
  rw [if_pos hw]
  unfold Oper.wp execOp
  simp only [ho, hx, Sem.run_bind, Sem.run_pure, Go.Lib.run_convert_string_bytes w 9 40 5 s Try.underlying9 Try.underlying40 Try.underlying5, Result.andThen_ok]
  refine hK' _ _ (hK _ _ ?_ ?_)
  · show SrcB _ _ _
    refine .inr ⟨w.heap.size, 0, grownCap w s.size 0 5, ?_, fun j u hu => ?_⟩
    · rw [show (strB s).length = s.size from strB_length s]
    · have hj : j < (strB s).length := by have := (List.getElem?_eq_some_iff.1 hu).1; rwa [u8s_length] at this
      have hj' : j < s.size := by rwa [strB_length] at hj
      rw [u8s_get _ j hj] at hu
      rw [Nat.zero_add, Go.Lib.bytesWorld_cell w 5 s j hj', ← hu]
      have hd : j < s.data.toList.length := by simpa using hj'
      unfold strB Y
      rw [List.getD_eq_getElem?_getD, List.getD_eq_getElem?_getD, List.getElem?_map, List.getElem?_eq_getElem hd]
      rfl
  · show Below _ _ _
    exact ⟨rfl, rfl, rfl, by rw [Go.Lib.bytesWorld_size]; omega, fun k hk => Go.Lib.bytesWorld_at_old w _ s k hk⟩
theorem round_any (p : Int) (m : Nat) (w : World) (hm : m ≤ 100000000) :
    Calls Try.prog 20 #[.int .i64 p, .int .i64 ((m : Int) + 1)] w fun e w' => e = .returned (.int .i64 (remF p m)) ∧ w' = w := by
  have j1 : -((m : Int) + 1) < p.tmod ((m : Int) + 1) := by
    have := Int.lt_tmod_of_pos p (show 0 < (m : Int) + 1 by omega); omega
  have j2 : p.tmod ((m : Int) + 1) < (m : Int) + 1 := Int.tmod_lt_of_pos p (by omega)
  have HK : Hid ((p.tmod ((m : Int) + 1) + ((m : Int) + 1)) % ((m : Int) + 1) = (remF p m : Int)) := by
    show _ = _
    have hr := remF_tmod p m
    have hle := remF_le p m
    by_cases hn : p.tmod ((m : Int) + 1) < 0
    · rw [hr.1 hn]
      exact Int.emod_eq_of_lt (by omega) (by omega)
    · rw [Int.add_emod_right, hr.2 hn]
      exact Int.emod_eq_of_lt (by omega) (by omega)
  go_enter Try.func20, Try.ntmps20
  go_wp2_with fail
  go_ret
  exact ⟨ret_int HK.out, rfl⟩
theorem sortN_two (x y : ByteArray) (h : bytesOf x ≤ bytesOf y) : sortN [x, y] = [x, y] := by
  unfold sortN
  rw [List.map_cons, List.map_cons, List.map_nil, List.mergeSort_of_pairwise]
  · simp [mk_bytesOf]
  · simp [h]
theorem beg_ok {A : Abs} {l : List ByteArray} (h1 : A.counted = false) (h2 : A.off = false) (h3 : l.all nameOK = true) : A.beg l = 0 ∧ A.pow = { A with ops := A.ops + 1 } := by
  have hp : A.pow = { A with ops := A.ops + 1 } := by unfold Abs.pow; rw [if_pos h1]
  refine ⟨?_, hp⟩
  unfold Abs.beg
  rw [hp]
  simp [h2, h3]
def nF : ByteArray := ⟨#[102]⟩
def nG : ByteArray := ⟨#[103]⟩
def nH : ByteArray := ⟨#[104]⟩
theorem app_plain (L : List (ByteArray × Fl)) (n : Int) (name : ByteArray) (bs : List (BitVec 8)) (h3 : nameOK name = true) (hb : bs.length + (flOf (alook name L)).b.length ≤ 16777216) :
    Abs.appE ⟨L, n, false, 0, false⟩ name bs = 0 ∧ Abs.app ⟨L, n, false, 0, false⟩ name bs = ⟨aput name ⟨(flOf (alook name L)).b ++ bs, (flOf (alook name L)).safe⟩ L, n + 1, false, 0, false⟩ := by
  obtain ⟨h1, h2⟩ := beg_ok (A := ⟨L, n, false, 0, false⟩) (l := [name]) rfl rfl (by simp [h3])
  have he : Abs.appE ⟨L, n, false, 0, false⟩ name bs = 0 := by unfold Abs.appE; rw [if_pos h1, if_pos hb]
  refine ⟨he, ?_⟩
  unfold Abs.app
  rw [if_pos he, h2]
theorem opn_plain (L : List (ByteArray × Fl)) (n : Int) (l : List ByteArray) (name : ByteArray) (fl : Fl) (h3 : l.all nameOK = true) (ha : alook name L = some fl) : Abs.opn ⟨L, n, false, 0, false⟩ l name = 0 := by
  obtain ⟨h1, _⟩ := beg_ok (A := ⟨L, n, false, 0, false⟩) (l := l) rfl rfl h3
  unfold Abs.opn
  rw [if_pos h1, ha]; rfl
theorem syn_plain (L : List (ByteArray × Fl)) (n : Int) (name : ByteArray) (fl : Fl) (h3 : nameOK name = true) (ha : alook name L = some fl) : Abs.opn ⟨L, n, false, 0, false⟩ [name] name = 0 ∧ Abs.syn ⟨L, n, false, 0, false⟩ name = ⟨aput name ⟨fl.b, fl.b.length⟩ L, n + 1, false, 0, false⟩ := by
  have he := opn_plain L n [name] name fl (by simp [h3]) ha
  obtain ⟨_, h2⟩ := beg_ok (A := ⟨L, n, false, 0, false⟩) (l := [name]) rfl rfl (by simp [h3])
  refine ⟨he, ?_⟩
  unfold Abs.syn
  rw [if_pos he, h2, ha]; rfl
theorem ren_plain (L : List (ByteArray × Fl)) (n : Int) (name dest : ByteArray) (fl : Fl) (h3 : nameOK name = true) (h4 : nameOK dest = true) (ha : alook name L = some fl) : Abs.opn ⟨L, n, false, 0, false⟩ [dest, name] name = 0 ∧ Abs.ren ⟨L, n, false, 0, false⟩ name dest = ⟨aput dest fl (adel name L), n + 1, false, 0, false⟩ := by
  have he := opn_plain L n [dest, name] name fl (by simp [h3, h4]) ha
  obtain ⟨_, h2⟩ := beg_ok (A := ⟨L, n, false, 0, false⟩) (l := [dest, name]) rfl rfl (by simp [h3, h4])
  refine ⟨he, ?_⟩
  unfold Abs.ren
  rw [if_pos he, h2, ha]; rfl
/-- The files of the law, act by act. -/
theorem safe_acts (A B : List (BitVec 8)) (hA : A.length ≤ 500) (hB : B.length ≤ 500) :
    (Abs.appE ⟨[], 0, false, 0, false⟩ nF A = 0 ∧ Abs.app ⟨[], 0, false, 0, false⟩ nF A = ⟨[(nF, ⟨A, 0⟩)], 1, false, 0, false⟩) ∧
    (Abs.opn ⟨[(nF, ⟨A, 0⟩)], 1, false, 0, false⟩ [nF] nF = 0 ∧ Abs.syn ⟨[(nF, ⟨A, 0⟩)], 1, false, 0, false⟩ nF = ⟨[(nF, ⟨A, A.length⟩)], 2, false, 0, false⟩) ∧
    (Abs.appE ⟨[(nF, ⟨A, A.length⟩)], 2, false, 0, false⟩ nF B = 0 ∧ Abs.app ⟨[(nF, ⟨A, A.length⟩)], 2, false, 0, false⟩ nF B = ⟨[(nF, ⟨A ++ B, A.length⟩)], 3, false, 0, false⟩) ∧
    (Abs.appE ⟨[(nF, ⟨A ++ B, A.length⟩)], 3, false, 0, false⟩ nG B = 0 ∧ Abs.app ⟨[(nF, ⟨A ++ B, A.length⟩)], 3, false, 0, false⟩ nG B = ⟨[(nF, ⟨A ++ B, A.length⟩), (nG, ⟨B, 0⟩)], 4, false, 0, false⟩) ∧
    (Abs.opn ⟨[(nF, ⟨A ++ B, A.length⟩), (nG, ⟨B, 0⟩)], 4, false, 0, false⟩ [nH, nG] nG = 0 ∧ Abs.ren ⟨[(nF, ⟨A ++ B, A.length⟩), (nG, ⟨B, 0⟩)], 4, false, 0, false⟩ nG nH = ⟨[(nF, ⟨A ++ B, A.length⟩), (nH, ⟨B, 0⟩)], 5, false, 0, false⟩) :=
  ⟨app_plain [] 0 nF A rfl (by show A.length + 0 ≤ _; omega), syn_plain _ 1 nF ⟨A, 0⟩ rfl rfl, app_plain _ 2 nF B rfl (by show B.length + A.length ≤ _; omega), app_plain _ 3 nG B rfl (by show B.length + 0 ≤ _; omega), ren_plain _ 4 nG nH ⟨B, 0⟩ rfl rfl rfl⟩
theorem safe_crash (A B : List (BitVec 8)) (p : Int) : Abs.crash ⟨[(nF, ⟨A ++ B, A.length⟩), (nH, ⟨B, 0⟩)], 5, false, 0, false⟩ [p, p] = ⟨[(nF, ⟨A ++ B.take (remF p B.length), A.length + remF p B.length⟩), (nH, ⟨B.take (remF p B.length), remF p B.length⟩)], 0, false, 0, false⟩ := by
  have hs : sortN [nF, nH] = [nF, nH] := sortN_two _ _ (by decide)
  have hk : ∃ ps, keepOf ⟨A ++ B, A.length⟩ [p, p] = (A.length + remF p B.length, ps) ∧ (keepOf ⟨B, 0⟩ ps).1 = remF p B.length := by
    by_cases hb : 0 < B.length
    · refine ⟨[p], ?_, ?_⟩
      · rw [keepOf_cons (by simp only [List.length_append]; omega)]
        simp only [List.length_append, Nat.add_sub_cancel_left]
      · rw [keepOf_cons (by simp only; omega)]
        simp
    · have h0 : B = [] := List.eq_nil_of_length_eq_zero (by omega)
      subst h0
      have hr : remF p 0 = 0 := by have := remF_le p 0; omega
      refine ⟨[p, p], ?_, ?_⟩
      · rw [keepOf_no (by simp)]
        simp only [List.length_nil, hr, Nat.add_zero]
      · rw [keepOf_no (by simp)]
        simp [hr]
  obtain ⟨ps, h1, h2⟩ := hk
  unfold Abs.crash
  show Abs.mk (crashGo _ (sortN [nF, nH]) [p, p] []) _ _ _ _ = _
  rw [hs]
  have e1 : flOf (alook nF [(nF, (⟨A ++ B, A.length⟩ : Fl)), (nH, ⟨B, 0⟩)]) = ⟨A ++ B, A.length⟩ := rfl
  have e2 : flOf (alook nH [(nF, (⟨A ++ B, A.length⟩ : Fl)), (nH, ⟨B, 0⟩)]) = ⟨B, 0⟩ := rfl
  unfold crashGo
  rw [e1, h1]
  unfold crashGo
  rw [e2, h2]
  unfold crashGo
  show Abs.mk [(nF, ⟨(A ++ B).take _, _⟩), (nH, _)] _ _ _ _ = _
  rw [List.take_length_add_append]
theorem strB_take (s : ByteArray) (n : Nat) : strB (s.extract 0 n) = (strB s).take n := by
  unfold strB
  rw [ByteArray.data_extract, ← List.map_take]
  congr 1
  rw [Array.toList_extract]
  simp [List.extract]
theorem names_two (x y : Fl) : ∀ q ∈ [(nF, x), (nH, y)], q.1.size ≤ 1000 := by
  intro q hq
  rcases List.mem_cons.1 hq with e | hq
  · rw [e]; exact of_decide_eq_true rfl
  · rcases List.mem_cons.1 hq with e | hq
    · rw [e]; exact of_decide_eq_true rfl
    · cases hq
/-- Files of the law's own. -/
def Own7 (w wi : World) (f : Nat) (A : Abs) : Prop := Below w.heap.size w wi ∧ ∃ S, FsAt wi f S ∧ S.abs = A ∧ ∀ k, S.foot f k → w.heap.size ≤ k
theorem Own7.after {w wi wj : World} {f : Nat} {S : FS} {A : Abs} (hb : Below w.heap.size w wi) (hf : ∀ k, S.foot f k → w.heap.size ≤ k) (h : After f S A wi wj) : Own7 w wj f A := by
  obtain ⟨S', h1, h2, h3⟩ := h
  exact ⟨hb.trans (h3.below hb.size hf), S', h2, h1, fun k hk => (h3.foot k hk).elim (hf k) fun e => Nat.le_trans hb.size e⟩
theorem Own7.below {w wi wj : World} {f : Nat} {A : Abs} (h : Own7 w wi f A) (hb : Below wi.heap.size wi wj) : Own7 w wj f A := by
  obtain ⟨h1, S, h2, h3, h4⟩ := h
  exact ⟨h1.trans (hb.mono h1.size), S, h2.below hb, h3, h4⟩
theorem Own7.new {w w1 : World} (hf : FsAt w1 w.heap.size FS.zero) (hb : Below w.heap.size w w1) : Own7 w w1 w.heap.size ⟨[], 0, false, 0, false⟩ :=
  ⟨hb, FS.zero, hf, rfl, fun k hk => by
    rcases hk with e | e | ⟨p, hp, _⟩
    · rw [e]; exact Nat.le_refl _
    · cases e
    · cases hp⟩
theorem Own7.drewB {w wi : World} {f : Nat} {A : Abs} (h : Own7 w wi f A) : Own7 w wi.drew f A := by
  obtain ⟨h1, S, h2, h3, h4⟩ := h
  exact ⟨h1.drew, S, h2.same fun _ _ => rfl, h3, h4⟩
theorem SrcB.drewB {w : World} {v : Value} {bs : List (BitVec 8)} (h : SrcB w v bs) : SrcB w.drew v bs := h
/-- Append, at files of the law's own, of bytes that lie elsewhere. -/
theorem own_append {w wi wj : World} {f : Nat} {A : Abs} (h : Own7 w wi f A) (hb : Below wi.heap.size wi wj) (name : ByteArray) (b c n : Nat) (bs : List (BitVec 8)) (hn : n = bs.length) (hbn : wi.heap.size ≤ b) (hs : SrcB wj (.slice (some ⟨b, 0, none⟩) n c) bs) (hl : bs.length ≤ 50000000)
    (h0 : 0 ≤ A.ops) (h1 : A.ops ≤ 4611686018427387904) (h2 : -9223372036854775808 ≤ A.left) (h3 : A.left ≤ 9223372036854775807) :
    Calls Try.prog 16 #[.pointer (some ⟨f, 0, none⟩), .string name, .slice (some ⟨b, 0, none⟩) n c] wj fun e w' => e = .returned (.int .i64 (A.appE name bs)) ∧ Own7 w w' f (A.app name bs) := by
  subst hn
  obtain ⟨hb1, S, hf, ha, hfo⟩ := h
  refine (append_any f S name _ bs wj (hf.below hb) (FS.sane_of ha h0 h1 h2 h3) hs hl fun k hk e => ?_).mono ?_
  · injection hk with hk
    have := hf.lt e
    simp only at hk
    omega
  · rintro e w' ⟨rfl, h⟩
    rw [ha] at h ⊢
    exact ⟨rfl, Own7.after (hb1.trans (hb.mono hb1.size)) hfo h⟩
theorem own_sync {w wi : World} {f : Nat} {A : Abs} (h : Own7 w wi f A) (name : ByteArray) (h0 : 0 ≤ A.ops) (h1 : A.ops ≤ 4611686018427387904) (h2 : -9223372036854775808 ≤ A.left) (h3 : A.left ≤ 9223372036854775807) :
    Calls Try.prog 17 #[.pointer (some ⟨f, 0, none⟩), .string name] wi fun e w' => e = .returned (.int .i64 (A.opn [name] name)) ∧ Own7 w w' f (A.syn name) := by
  obtain ⟨hb1, S, hf, ha, hfo⟩ := h
  refine (sync_any f S name wi hf (FS.sane_of ha h0 h1 h2 h3)).mono ?_
  rintro e w' ⟨rfl, h⟩
  rw [ha] at h ⊢
  exact ⟨rfl, Own7.after hb1 hfo h⟩
theorem own_rename {w wi : World} {f : Nat} {A : Abs} (h : Own7 w wi f A) (name dest : ByteArray) (h0 : 0 ≤ A.ops) (h1 : A.ops ≤ 4611686018427387904) (h2 : -9223372036854775808 ≤ A.left) (h3 : A.left ≤ 9223372036854775807) :
    Calls Try.prog 18 #[.pointer (some ⟨f, 0, none⟩), .string name, .string dest] wi fun e w' => e = .returned (.int .i64 (A.opn [dest, name] name)) ∧ Own7 w w' f (A.ren name dest) := by
  obtain ⟨hb1, S, hf, ha, hfo⟩ := h
  refine (rename_any f S name dest wi hf (FS.sane_of ha h0 h1 h2 h3)).mono ?_
  rintro e w' ⟨rfl, h⟩
  rw [ha] at h ⊢
  exact ⟨rfl, Own7.after hb1 hfo h⟩
theorem own_read {w wi : World} {f : Nat} {A : Abs} (h : Own7 w wi f A) (name : ByteArray) :
    Calls Try.prog 19 #[.pointer (some ⟨f, 0, none⟩), .string name] wi fun e w' => ∃ a c, e = .returned (.tuple #[.slice a (flOf (alook name A.L)).b.length c, .int .i64 (if (alook name A.L).isSome then 0 else 5)]) ∧ OwnB w' wi.heap.size (.slice a (flOf (alook name A.L)).b.length c) (flOf (alook name A.L)).b ∧ Below wi.heap.size wi w' := by
  obtain ⟨hb1, S, hf, ha, hfo⟩ := h
  refine (read_any f S name wi hf).mono ?_
  rw [show S.L = A.L from congrArg Abs.L ha]
  rintro e w' ⟨v, rfl, ho, hb⟩
  obtain ⟨a, c, rfl⟩ := ho.shape
  exact ⟨a, c, rfl, ho, hb⟩
theorem own_safe {w wi : World} {f : Nat} {A : Abs} (h : Own7 w wi f A) (name : ByteArray) :
    Calls Try.prog 21 #[.pointer (some ⟨f, 0, none⟩), .string name] wi fun e w' => e = .returned (.int .i64 (safeOf (alook name A.L))) ∧ Below wi.heap.size wi w' := by
  obtain ⟨hb1, S, hf, ha, hfo⟩ := h
  have := safe_any f S name wi hf
  rw [show S.L = A.L from congrArg Abs.L ha] at this
  exact this
/-- Crash: the old files stay, the new ones are the law's own, too. -/
theorem own_crash {w wi wj : World} {f : Nat} {A : Abs} (h : Own7 w wi f A) (hb : Below wi.heap.size wi wj) (a : Option Addr) (n cap : Nat) (Z : List Int) (hs : ∀ p ∈ A.L, p.1.size ≤ 1000) (hl : A.L.length ≤ 1000000) (hz : Ints wj a Z) (hn : Z.length = n) (hc : n ≤ cap) (hcm : cap ≤ maxLen) :
    Calls Try.prog 14 #[.pointer (some ⟨f, 0, none⟩), .slice a n cap] wj fun e w' => ∃ g, e = .returned (.pointer (some ⟨g, 0, none⟩)) ∧ Below wj.heap.size wj w' ∧ Own7 w w' g (A.crash Z) := by
  obtain ⟨hb1, S, hf, ha, hfo⟩ := h
  have hL : S.L = A.L := congrArg Abs.L ha
  refine (crash_any f S a n cap Z wj (hf.below hb) (by rw [hL]; exact hs) (by rw [hL]; exact hl) hz hn hc hcm).mono ?_
  rintro e w' ⟨g, T, rfl, hT, hfT, hg, hb2⟩
  have hbw : Below w.heap.size w wj := hb1.trans (hb.mono hb1.size)
  rw [ha] at hT
  exact ⟨g, rfl, hb2, hbw.trans (hb2.mono hbw.size), T, hfT, hT, fun k hk => Nat.le_trans hbw.size (hg k hk)⟩
set_option maxRecDepth 100000 in
set_option maxHeartbeats 2000000 in
theorem safe_big (a b : ByteArray) (p : Int) (w : World) (h : 500 < a.size ∨ 500 < b.size) :
    Calls Try.prog 5 #[.string a, .string b, .int .i64 p] w fun e w' => e = .returned (.bool true) ∧ Below w.heap.size w w' := by
  by_cases ha : 500 < a.size
  · have h1 : (a.size : Int) > 500 := by omega
    clear h
    go_enter Try.func5, Try.ntmps5
    go_wp2_with fail
    refine Calls.mono (awake_any w) ?_
    rintro e w1 ⟨rfl, hb⟩
    go_wp2_with fail
    go_ret
    exact ⟨rfl, hb⟩
  · have h1 : ¬ (a.size : Int) > 500 := by omega
    have h2 : (b.size : Int) > 500 := by omega
    clear h ha
    go_enter Try.func5, Try.ntmps5
    go_wp2_with fail
    refine Calls.mono (awake_any w) ?_
    rintro e w1 ⟨rfl, hb⟩
    go_wp2_with fail
    go_ret
    exact ⟨rfl, hb⟩
set_option maxRecDepth 100000 in
set_option maxHeartbeats 4000000 in
theorem safe_small (a b : ByteArray) (p : Int) (w : World) (ha : a.size ≤ 500) (hb : b.size ≤ 500) :
    Calls Try.prog 5 #[.string a, .string b, .int .i64 p] w fun e w' => e = .returned (.bool true) ∧ Below w.heap.size w w' := by
  have h1 : ¬ (a.size : Int) > 500 := by omega
  have h2 : ¬ (b.size : Int) > 500 := by omega
  go_enter Try.func5, Try.ntmps5
  go_wp2_with fail
  clear h1 h2
  refine Calls.mono (new_any w) ?_
  rintro e w1 ⟨rfl, hf1, hb1, hsz⟩
  clear hsz
  have HO1 : Hid (Own7 w w1 w.heap.size ⟨[], 0, false, 0, false⟩) := Own7.new hf1 hb1
  clear hf1 hb1
  obtain ⟨f, hf⟩ : ∃ f, f = w.heap.size := ⟨_, rfl⟩
  rw [← hf] at HO1 ⊢
  clear hf
  obtain ⟨q1, q2, q3, q4, q5⟩ := safe_acts (strB a) (strB b) (by rw [strB_length]; exact ha) (by rw [strB_length]; exact hb)
  have HQ1 : Hid (Abs.appE ⟨[], 0, false, 0, false⟩ ⟨#[102]⟩ (strB a) = 0 ∧ Abs.app ⟨[], 0, false, 0, false⟩ ⟨#[102]⟩ (strB a) = ⟨[(nF, ⟨strB a, 0⟩)], 1, false, 0, false⟩) := q1
  have HQ2 : Hid (Abs.opn ⟨[(nF, ⟨strB a, 0⟩)], 1, false, 0, false⟩ [⟨#[102]⟩] ⟨#[102]⟩ = 0 ∧ Abs.syn ⟨[(nF, ⟨strB a, 0⟩)], 1, false, 0, false⟩ ⟨#[102]⟩ = ⟨[(nF, ⟨strB a, (strB a).length⟩)], 2, false, 0, false⟩) := q2
  have HQ3 : Hid (Abs.appE ⟨[(nF, ⟨strB a, (strB a).length⟩)], 2, false, 0, false⟩ ⟨#[102]⟩ (strB b) = 0 ∧ Abs.app ⟨[(nF, ⟨strB a, (strB a).length⟩)], 2, false, 0, false⟩ ⟨#[102]⟩ (strB b) = ⟨[(nF, ⟨strB a ++ strB b, (strB a).length⟩)], 3, false, 0, false⟩) := q3
  have HQ4 : Hid (Abs.appE ⟨[(nF, ⟨strB a ++ strB b, (strB a).length⟩)], 3, false, 0, false⟩ ⟨#[103]⟩ (strB b) = 0 ∧ Abs.app ⟨[(nF, ⟨strB a ++ strB b, (strB a).length⟩)], 3, false, 0, false⟩ ⟨#[103]⟩ (strB b) = ⟨[(nF, ⟨strB a ++ strB b, (strB a).length⟩), (nG, ⟨strB b, 0⟩)], 4, false, 0, false⟩) := q4
  have HQ5 : Hid (Abs.opn ⟨[(nF, ⟨strB a ++ strB b, (strB a).length⟩), (nG, ⟨strB b, 0⟩)], 4, false, 0, false⟩ [⟨#[104]⟩, ⟨#[103]⟩] ⟨#[103]⟩ = 0 ∧ Abs.ren ⟨[(nF, ⟨strB a ++ strB b, (strB a).length⟩), (nG, ⟨strB b, 0⟩)], 4, false, 0, false⟩ ⟨#[103]⟩ ⟨#[104]⟩ = ⟨[(nF, ⟨strB a ++ strB b, (strB a).length⟩), (nH, ⟨strB b, 0⟩)], 5, false, 0, false⟩) := q5
  clear q1 q2 q3 q4 q5
  go_wp2_with (refine wpList_toBytes_if (by rfl) _ rfl a rfl ?_; intro c2 w2 HS2 HB2)
  refine Calls.mono (own_append HO1.out HB2.out ⟨#[102]⟩ _ c2 a.size (strB a) (strB_length a).symm (Nat.le_refl _) HS2.out (by rw [strB_length]; omega) (of_decide_eq_true rfl) (of_decide_eq_true rfl) (of_decide_eq_true rfl) (of_decide_eq_true rfl)) ?_
  rw [HQ1.out.1, HQ1.out.2]
  rintro e w3 ⟨rfl, ho3⟩
  have HO3 : Hid (Own7 w w3 f ⟨[(nF, ⟨strB a, 0⟩)], 1, false, 0, false⟩) := ho3
  clear ho3 HO1 HB2 HS2 HQ1
  go_wp2_with fail
  refine Calls.mono (own_sync HO3.out ⟨#[102]⟩ (of_decide_eq_true rfl) (of_decide_eq_true rfl) (of_decide_eq_true rfl) (of_decide_eq_true rfl)) ?_
  rw [HQ2.out.1, HQ2.out.2]
  rintro e w4 ⟨rfl, ho4⟩
  have HO4 : Hid (Own7 w w4 f ⟨[(nF, ⟨strB a, (strB a).length⟩)], 2, false, 0, false⟩) := ho4
  clear ho4 HO3 HQ2
  go_wp2_with (refine wpList_toBytes_if (by rfl) _ rfl b rfl ?_; intro c5 w5 HS5 HB5)
  refine Calls.mono (own_append HO4.out HB5.out ⟨#[102]⟩ _ c5 b.size (strB b) (strB_length b).symm (Nat.le_refl _) HS5.out (by rw [strB_length]; omega) (of_decide_eq_true rfl) (of_decide_eq_true rfl) (of_decide_eq_true rfl) (of_decide_eq_true rfl)) ?_
  rw [HQ3.out.1, HQ3.out.2]
  rintro e w6 ⟨rfl, ho6⟩
  have HO6 : Hid (Own7 w w6 f ⟨[(nF, ⟨strB a ++ strB b, (strB a).length⟩)], 3, false, 0, false⟩) := ho6
  clear ho6 HO4 HB5 HS5 HQ3
  go_wp2_with (refine wpList_toBytes_if (by rfl) _ rfl b rfl ?_; intro c7 w7 HS7 HB7)
  refine Calls.mono (own_append HO6.out HB7.out ⟨#[103]⟩ _ c7 b.size (strB b) (strB_length b).symm (Nat.le_refl _) HS7.out (by rw [strB_length]; omega) (of_decide_eq_true rfl) (of_decide_eq_true rfl) (of_decide_eq_true rfl) (of_decide_eq_true rfl)) ?_
  rw [HQ4.out.1, HQ4.out.2]
  rintro e w8 ⟨rfl, ho8⟩
  have HO8 : Hid (Own7 w w8 f ⟨[(nF, ⟨strB a ++ strB b, (strB a).length⟩), (nG, ⟨strB b, 0⟩)], 4, false, 0, false⟩) := ho8
  clear ho8 HO6 HB7 HS7 HQ4
  go_wp2_with fail
  refine Calls.mono (own_rename HO8.out ⟨#[103]⟩ ⟨#[104]⟩ (of_decide_eq_true rfl) (of_decide_eq_true rfl) (of_decide_eq_true rfl) (of_decide_eq_true rfl)) ?_
  rw [HQ5.out.1, HQ5.out.2]
  rintro e w9 ⟨rfl, ho9⟩
  have HO9 : Hid (Own7 w w9 f ⟨[(nF, ⟨strB a ++ strB b, (strB a).length⟩), (nH, ⟨strB b, 0⟩)], 5, false, 0, false⟩) := ho9
  clear ho9 HO8 HQ5
  go_wp2_with fail
  generalize hw10 : World.alloc w9 _ = w10
  have hbk : Blk w10 w9.heap.size [.int .i64 p, .int .i64 p] := by rw [← hw10]; exact Blk.mk _ _ _ rfl rfl
  have hb10 : Below w9.heap.size w9 w10 := by rw [← hw10]; exact (Below.refl _ _).alloc (Nat.le_refl _) _
  have hi10 : Ints w10 (some ⟨w9.heap.size, 0, none⟩) [p, p] := .inr ⟨_, _, rfl, fun i hi => by
    rw [Nat.zero_add]
    match i, hi with
    | 0, _ => exact hbk.one (i := 0) rfl
    | 1, _ => exact hbk.one (i := 1) rfl
    | i + 2, hi => exact absurd hi (by simp)⟩
  clear hw10
  refine Calls.mono (own_crash HO9.out hb10 _ 2 2 [p, p] (names_two _ _) (by simp) hi10 rfl (Nat.le_refl _) (by decide)) ?_
  rintro e w11 ⟨g, rfl, _, ho11⟩
  rw [safe_crash] at ho11
  rw [strB_length b] at ho11
  have hr := remF_le p b.size
  have HRd : Hid (∀ w', Calls Try.prog 20 #[.int .i64 p, .int .i64 ((b.size : Int) + 1)] w' fun e w'' => e = .returned (.int .i64 (remF p b.size)) ∧ w'' = w') := fun w' => round_any p _ w' (by omega)
  obtain ⟨r, hrr⟩ : ∃ r, r = remF p b.size := ⟨_, rfl⟩
  rw [← hrr] at ho11 hr HRd
  have HO11 : Hid (Own7 w w11 g ⟨[(nF, ⟨strB a ++ (strB b).take r, (strB a).length + r⟩), (nH, ⟨(strB b).take r, r⟩)], 0, false, 0, false⟩) := ho11
  clear ho11 hrr hi10 hb10 hbk HO9
  have hkx : (strB a ++ (strB b).take r).length = a.size + r := by rw [List.length_append, List.length_take, strB_length, strB_length]; omega
  have hky : ((strB b).take r).length = r := by rw [List.length_take, strB_length]; omega
  have HKX : Hid ((strB a ++ (strB b).take r).length = a.size + r ∧ ((strB b).take r).length = r) := ⟨hkx, hky⟩
  clear hkx hky
  have HX : Hid (ofB (strB a ++ (strB b).take r) = a ++ b.extract 0 r ∧ ofB ((strB b).take r) = b.extract 0 r) := by
    have h2 : ofB ((strB b).take r) = b.extract 0 r := strB_inj (by rw [strB_ofB, strB_take])
    exact ⟨strB_inj (by rw [strB_ofB, strB_append, strB_take]), h2⟩
  go_wp2_with fail
  refine Calls.mono (own_read HO11.out ⟨#[102]⟩) ?_
  rw [show alook ⟨#[102]⟩ [(nF, (⟨strB a ++ (strB b).take r, (strB a).length + r⟩ : Fl)), (nH, ⟨(strB b).take r, r⟩)] = some ⟨strB a ++ (strB b).take r, (strB a).length + r⟩ from rfl]
  rintro e w12 ⟨ax, cx, rfl, hox, hb12⟩
  rw [show flOf (some (⟨strB a ++ (strB b).take r, (strB a).length + r⟩ : Fl)) = ⟨strB a ++ (strB b).take r, (strB a).length + r⟩ from rfl] at hox ⊢
  simp only [Option.isSome_some, if_true]
  have HO12 : Hid (Own7 w w12 g ⟨[(nF, ⟨strB a ++ (strB b).take r, (strB a).length + r⟩), (nH, ⟨(strB b).take r, r⟩)], 0, false, 0, false⟩) := HO11.out.below hb12
  have HSx : Hid (SrcB w12 (.slice ax (a.size + r) cx) (strB a ++ (strB b).take r)) := by have := hox.src; simp only at this; rwa [HKX.out.1] at this
  rw [HKX.out.1]
  clear hox hb12 HO11
  go_wp2_with fail
  refine Calls.mono (own_read HO12.out ⟨#[104]⟩) ?_
  rw [show alook ⟨#[104]⟩ [(nF, (⟨strB a ++ (strB b).take r, (strB a).length + r⟩ : Fl)), (nH, ⟨(strB b).take r, r⟩)] = some ⟨(strB b).take r, r⟩ from rfl]
  rintro e w13 ⟨ay, cy, rfl, hoy, hb13⟩
  rw [show flOf (some (⟨(strB b).take r, r⟩ : Fl)) = ⟨(strB b).take r, r⟩ from rfl] at hoy ⊢
  simp only [Option.isSome_some, if_true]
  have HO13 : Hid (Own7 w w13 g ⟨[(nF, ⟨strB a ++ (strB b).take r, (strB a).length + r⟩), (nH, ⟨(strB b).take r, r⟩)], 0, false, 0, false⟩) := HO12.out.below hb13
  have HSx3 : Hid (SrcB w13 (.slice ax (a.size + r) cx) (strB a ++ (strB b).take r)) := HSx.out.below hb13
  have HSy3 : Hid (SrcB w13 (.slice ay r cy) ((strB b).take r)) := by have := hoy.src; simp only at this; rwa [HKX.out.2] at this
  rw [HKX.out.2]
  clear hoy hb13 HO12 HSx
  go_wp2_with fail
  refine Calls.mono (own_read HO13.out ⟨#[103]⟩) ?_
  rw [show alook ⟨#[103]⟩ [(nF, (⟨strB a ++ (strB b).take r, (strB a).length + r⟩ : Fl)), (nH, ⟨(strB b).take r, r⟩)] = none from rfl]
  rintro e w14 ⟨az, cz, rfl, hoz, hb14⟩
  rw [show (flOf none).b.length = 0 from rfl]
  simp only [Option.isSome_none, Bool.false_eq_true, if_false]
  have HO14 : Hid (Own7 w w14 g ⟨[(nF, ⟨strB a ++ (strB b).take r, (strB a).length + r⟩), (nH, ⟨(strB b).take r, r⟩)], 0, false, 0, false⟩) := HO13.out.below hb14
  have HSx4 : Hid (SrcB w14 (.slice ax (a.size + r) cx) (strB a ++ (strB b).take r)) := HSx3.out.below hb14
  have HSy4 : Hid (SrcB w14 (.slice ay r cy) ((strB b).take r)) := HSy3.out.below hb14
  clear hoz hb14 HO13 HSx3 HSy3
  go_wp2_with fail
  refine Calls.mono (HRd.out _) ?_
  rintro e w' ⟨rfl, rfl⟩
  have hr2 : (r : Int) ≤ (b.size : Int) := by omega
  have HMO : Hid (Try.prog.follows .mixedOrders = true) := show _ = _ by kernel_rfl
  have HSF : Hid (safeOf (alook ⟨#[102]⟩ [(nF, (⟨strB a ++ (strB b).take r, (strB a).length + r⟩ : Fl)), (nH, ⟨(strB b).take r, r⟩)]) = (a.size : Int) + (r : Int)) := by
    show safeOf (some (⟨strB a ++ (strB b).take r, (strB a).length + r⟩ : Fl)) = _
    rw [strB_length]
    show (((a.size + r : Nat)) : Int) = _
    omega
  clear HRd HKX
  go_upto_region 13 with fail
  refine wp_region_noPanic ?_
  refine wp_region_held_drew (S := fun w' => SrcB w' (.slice ax (a.size + r) cx) (strB a ++ (strB b).take r) ∧ SrcB w' (.slice ay r cy) ((strB b).take r) ∧ Own7 w w' g ⟨[(nF, ⟨strB a ++ (strB b).take r, (strB a).length + r⟩), (nH, ⟨(strB b).take r, r⟩)], 0, false, 0, false⟩) HMO.out (⟨HSx4.out.drewB, HSy4.out.drewB, HO14.out.drewB⟩) (fun hHeld => ?_)
  refine wpAnyH_take (i := 0) (oi := { dst := some 86, op := .move (.tmp 10), type := 38, pos := "law.go:149", after := #[], guard := none }) (v := ?_) rfl (by kernel_rfl) (by kernel_rfl) (by kernel_rfl) (fun _ _ _ h => h) (Or.inl ⟨by rfl, ?_⟩) (by assumption) ?_
  rotate_left
  · intro _ _; go_simp; first | done | with_reducible rfl
  simp only [Act.put, List.setIfInBounds_toArray, List.set_cons_zero, List.set_cons_succ]
  refine wpAnyH_take (i := 1) (oi := { dst := some 87, op := .binOp Go.BinOp.eql 38 (.tmp 86) (.const (.int .i64 0)) 38, type := 4, pos := "law.go:149", after := #[{ on := 0, ground := .data }], guard := none }) (v := ?_) rfl (by kernel_rfl) (by kernel_rfl) (by kernel_rfl) (fun _ _ _ h => h) (Or.inl ⟨by rfl, ?_⟩) (by assumption) ?_
  rotate_left
  · intro _ _; go_simp; first | done | with_reducible rfl
  simp only [Act.put, List.setIfInBounds_toArray, List.set_cons_zero, List.set_cons_succ]
  refine wpAnyH_take (i := 2) (oi := { dst := some 88, op := .move (.tmp 87), type := 4, pos := "law.go:149", after := #[{ on := 1, ground := .data }], guard := none }) (v := ?_) rfl (by kernel_rfl) (by kernel_rfl) (by kernel_rfl) (fun _ _ _ h => h) (Or.inl ⟨by rfl, ?_⟩) (by assumption) ?_
  rotate_left
  · intro _ _; go_simp; first | done | with_reducible rfl
  simp only [Act.put, List.setIfInBounds_toArray, List.set_cons_zero, List.set_cons_succ]
  refine wpAnyH_take (i := 3) (oi := { dst := some 89, op := .move (.tmp 9), type := 40, pos := "law.go:149", after := #[{ on := 2, ground := .guard }], guard := some (2, true) }) (v := ?_) rfl (by kernel_rfl) (by kernel_rfl) (by kernel_rfl) (fun _ _ _ h => h) (Or.inl ⟨by rfl, ?_⟩) (by assumption) ?_
  rotate_left
  · intro _ _; go_simp; first | done | with_reducible rfl
  simp only [Act.put, List.setIfInBounds_toArray, List.set_cons_zero, List.set_cons_succ]
  refine wpAnyH_take (i := 4) (oi := { dst := some 90, op := .convert 40 9 (.tmp 89), type := 9, pos := "law.go:149", after := #[{ on := 3, ground := .data }, { on := 2, ground := .guard }], guard := some (2, true) }) (v := .string (a ++ b.extract 0 r)) rfl (by kernel_rfl) (by kernel_rfl) (by kernel_rfl) (fun _ _ _ h => h) (Or.inl ⟨by rfl, ?_⟩) (by assumption) ?_
  · intro _ _; rename_i wz hz; have hcv := hz.1.str; rw [HX.out.1] at hcv; go_simp
  simp only [Act.put, List.setIfInBounds_toArray, List.set_cons_zero, List.set_cons_succ]
  refine wpAnyH_take (i := 5) (oi := { dst := some 91, op := .move (.tmp 0), type := 9, pos := "law.go:149", after := #[{ on := 2, ground := .guard }], guard := some (2, true) }) (v := ?_) rfl (by kernel_rfl) (by kernel_rfl) (by kernel_rfl) (fun _ _ _ h => h) (Or.inl ⟨by rfl, ?_⟩) (by assumption) ?_
  rotate_left
  · intro _ _; go_simp; first | done | with_reducible rfl
  simp only [Act.put, List.setIfInBounds_toArray, List.set_cons_zero, List.set_cons_succ]
  refine wpAnyH_take (i := 6) (oi := { dst := some 92, op := .move (.tmp 1), type := 9, pos := "law.go:149", after := #[{ on := 2, ground := .guard }], guard := some (2, true) }) (v := ?_) rfl (by kernel_rfl) (by kernel_rfl) (by kernel_rfl) (fun _ _ _ h => h) (Or.inl ⟨by rfl, ?_⟩) (by assumption) ?_
  rotate_left
  · intro _ _; go_simp; first | done | with_reducible rfl
  simp only [Act.put, List.setIfInBounds_toArray, List.set_cons_zero, List.set_cons_succ]
  refine wpAnyH_take (i := 7) (oi := { dst := some 93, op := .move (.tmp 15), type := 3, pos := "law.go:149", after := #[{ on := 2, ground := .guard }], guard := some (2, true) }) (v := ?_) rfl (by kernel_rfl) (by kernel_rfl) (by kernel_rfl) (fun _ _ _ h => h) (Or.inl ⟨by rfl, ?_⟩) (by assumption) ?_
  rotate_left
  · intro _ _; go_simp; first | done | with_reducible rfl
  simp only [Act.put, List.setIfInBounds_toArray, List.set_cons_zero, List.set_cons_succ]
  refine wpAnyH_take (i := 8) (oi := { dst := some 94, op := .slice 9 (.tmp 92) none (some (.tmp 93)) none, type := 9, pos := "law.go:149", after := #[{ on := 6, ground := .data }, { on := 7, ground := .data }, { on := 2, ground := .guard }], guard := some (2, true) }) (v := .string (b.extract 0 r)) rfl (by kernel_rfl) (by kernel_rfl) (by kernel_rfl) (fun _ _ _ h => h) (Or.inl ⟨by rfl, ?_⟩) (by assumption) ?_
  · intro _ _; go_simp
  simp only [Act.put, List.setIfInBounds_toArray, List.set_cons_zero, List.set_cons_succ]
  refine wpAnyH_take (i := 9) (oi := { dst := some 95, op := .binOp Go.BinOp.add 9 (.tmp 91) (.tmp 94) 9, type := 9, pos := "law.go:149", after := #[{ on := 5, ground := .data }, { on := 8, ground := .data }, { on := 2, ground := .guard }], guard := some (2, true) }) (v := .string (a ++ b.extract 0 r)) rfl (by kernel_rfl) (by kernel_rfl) (by kernel_rfl) (fun _ _ _ h => h) (Or.inl ⟨by rfl, ?_⟩) (by assumption) ?_
  · intro _ _; have hno : ¬ (9223372036854775807 < a.size + r) := (by omega); go_simp
  simp only [Act.put, List.setIfInBounds_toArray, List.set_cons_zero, List.set_cons_succ]
  refine wpAnyH_take (i := 10) (oi := { dst := some 96, op := .binOp Go.BinOp.eql 9 (.tmp 90) (.tmp 95) 9, type := 4, pos := "law.go:149", after := #[{ on := 4, ground := .data }, { on := 9, ground := .data }, { on := 2, ground := .guard }], guard := some (2, true) }) (v := .bool true) rfl (by kernel_rfl) (by kernel_rfl) (by kernel_rfl) (fun _ _ _ h => h) (Or.inl ⟨by rfl, ?_⟩) (by assumption) ?_
  · intro _ _; go_simp
  simp only [Act.put, List.setIfInBounds_toArray, List.set_cons_zero, List.set_cons_succ]
  refine wpAnyH_take (i := 11) (oi := { dst := some 97, op := .pick (.tmp 88) (.tmp 96) (.const (.bool false)), type := 4, pos := "law.go:149", after := #[{ on := 2, ground := .data }, { on := 10, ground := .data }], guard := none }) (v := ?_) rfl (by kernel_rfl) (by kernel_rfl) (by kernel_rfl) (fun _ _ _ h => h) (Or.inl ⟨by rfl, ?_⟩) (by assumption) ?_
  rotate_left
  · intro _ _; go_simp; first | done | with_reducible rfl
  simp only [Act.put, List.setIfInBounds_toArray, List.set_cons_zero, List.set_cons_succ]
  refine wpAnyH_take (i := 12) (oi := { dst := some 98, op := .move (.tmp 97), type := 4, pos := "law.go:149", after := #[{ on := 11, ground := .data }, { on := 2, ground := .chain }], guard := none }) (v := ?_) rfl (by kernel_rfl) (by kernel_rfl) (by kernel_rfl) (fun _ _ _ h => h) (Or.inl ⟨by rfl, ?_⟩) (by assumption) ?_
  rotate_left
  · intro _ _; go_simp; first | done | with_reducible rfl
  simp only [Act.put, List.setIfInBounds_toArray, List.set_cons_zero, List.set_cons_succ]
  refine wpAnyH_take (i := 13) (oi := { dst := some 99, op := .move (.tmp 12), type := 38, pos := "law.go:149", after := #[{ on := 12, ground := .guard }], guard := some (12, true) }) (v := ?_) rfl (by kernel_rfl) (by kernel_rfl) (by kernel_rfl) (fun _ _ _ h => h) (Or.inl ⟨by rfl, ?_⟩) (by assumption) ?_
  rotate_left
  · intro _ _; go_simp; first | done | with_reducible rfl
  simp only [Act.put, List.setIfInBounds_toArray, List.set_cons_zero, List.set_cons_succ]
  refine wpAnyH_take (i := 14) (oi := { dst := some 100, op := .binOp Go.BinOp.eql 38 (.tmp 99) (.const (.int .i64 0)) 38, type := 4, pos := "law.go:149", after := #[{ on := 13, ground := .data }, { on := 12, ground := .guard }], guard := some (12, true) }) (v := ?_) rfl (by kernel_rfl) (by kernel_rfl) (by kernel_rfl) (fun _ _ _ h => h) (Or.inl ⟨by rfl, ?_⟩) (by assumption) ?_
  rotate_left
  · intro _ _; go_simp; first | done | with_reducible rfl
  simp only [Act.put, List.setIfInBounds_toArray, List.set_cons_zero, List.set_cons_succ]
  refine wpAnyH_take (i := 15) (oi := { dst := some 101, op := .pick (.tmp 98) (.tmp 100) (.const (.bool false)), type := 4, pos := "law.go:149", after := #[{ on := 12, ground := .data }, { on := 14, ground := .data }], guard := none }) (v := ?_) rfl (by kernel_rfl) (by kernel_rfl) (by kernel_rfl) (fun _ _ _ h => h) (Or.inl ⟨by rfl, ?_⟩) (by assumption) ?_
  rotate_left
  · intro _ _; go_simp; first | done | with_reducible rfl
  simp only [Act.put, List.setIfInBounds_toArray, List.set_cons_zero, List.set_cons_succ]
  refine wpAnyH_take (i := 16) (oi := { dst := some 102, op := .move (.tmp 101), type := 4, pos := "law.go:149", after := #[{ on := 15, ground := .data }, { on := 12, ground := .chain }], guard := none }) (v := ?_) rfl (by kernel_rfl) (by kernel_rfl) (by kernel_rfl) (fun _ _ _ h => h) (Or.inl ⟨by rfl, ?_⟩) (by assumption) ?_
  rotate_left
  · intro _ _; go_simp; first | done | with_reducible rfl
  simp only [Act.put, List.setIfInBounds_toArray, List.set_cons_zero, List.set_cons_succ]
  refine wpAnyH_take (i := 17) (oi := { dst := some 103, op := .move (.tmp 11), type := 40, pos := "law.go:149", after := #[{ on := 16, ground := .guard }], guard := some (16, true) }) (v := ?_) rfl (by kernel_rfl) (by kernel_rfl) (by kernel_rfl) (fun _ _ _ h => h) (Or.inl ⟨by rfl, ?_⟩) (by assumption) ?_
  rotate_left
  · intro _ _; go_simp; first | done | with_reducible rfl
  simp only [Act.put, List.setIfInBounds_toArray, List.set_cons_zero, List.set_cons_succ]
  refine wpAnyH_take (i := 18) (oi := { dst := some 104, op := .convert 40 9 (.tmp 103), type := 9, pos := "law.go:149", after := #[{ on := 17, ground := .data }, { on := 16, ground := .guard }], guard := some (16, true) }) (v := .string (b.extract 0 r)) rfl (by kernel_rfl) (by kernel_rfl) (by kernel_rfl) (fun _ _ _ h => h) (Or.inl ⟨by rfl, ?_⟩) (by assumption) ?_
  · intro _ _; rename_i wz hz; have hcv := hz.2.1.str; rw [HX.out.2] at hcv; go_simp
  simp only [Act.put, List.setIfInBounds_toArray, List.set_cons_zero, List.set_cons_succ]
  refine wpAnyH_take (i := 19) (oi := { dst := some 105, op := .move (.tmp 1), type := 9, pos := "law.go:149", after := #[{ on := 16, ground := .guard }], guard := some (16, true) }) (v := ?_) rfl (by kernel_rfl) (by kernel_rfl) (by kernel_rfl) (fun _ _ _ h => h) (Or.inl ⟨by rfl, ?_⟩) (by assumption) ?_
  rotate_left
  · intro _ _; go_simp; first | done | with_reducible rfl
  simp only [Act.put, List.setIfInBounds_toArray, List.set_cons_zero, List.set_cons_succ]
  refine wpAnyH_take (i := 20) (oi := { dst := some 106, op := .move (.tmp 15), type := 3, pos := "law.go:149", after := #[{ on := 16, ground := .guard }], guard := some (16, true) }) (v := ?_) rfl (by kernel_rfl) (by kernel_rfl) (by kernel_rfl) (fun _ _ _ h => h) (Or.inl ⟨by rfl, ?_⟩) (by assumption) ?_
  rotate_left
  · intro _ _; go_simp; first | done | with_reducible rfl
  simp only [Act.put, List.setIfInBounds_toArray, List.set_cons_zero, List.set_cons_succ]
  refine wpAnyH_take (i := 21) (oi := { dst := some 107, op := .slice 9 (.tmp 105) none (some (.tmp 106)) none, type := 9, pos := "law.go:149", after := #[{ on := 19, ground := .data }, { on := 20, ground := .data }, { on := 16, ground := .guard }], guard := some (16, true) }) (v := .string (b.extract 0 r)) rfl (by kernel_rfl) (by kernel_rfl) (by kernel_rfl) (fun _ _ _ h => h) (Or.inl ⟨by rfl, ?_⟩) (by assumption) ?_
  · intro _ _; go_simp
  simp only [Act.put, List.setIfInBounds_toArray, List.set_cons_zero, List.set_cons_succ]
  refine wpAnyH_take (i := 22) (oi := { dst := some 108, op := .binOp Go.BinOp.eql 9 (.tmp 104) (.tmp 107) 9, type := 4, pos := "law.go:149", after := #[{ on := 18, ground := .data }, { on := 21, ground := .data }, { on := 16, ground := .guard }], guard := some (16, true) }) (v := .bool true) rfl (by kernel_rfl) (by kernel_rfl) (by kernel_rfl) (fun _ _ _ h => h) (Or.inl ⟨by rfl, ?_⟩) (by assumption) ?_
  · intro _ _; go_simp
  simp only [Act.put, List.setIfInBounds_toArray, List.set_cons_zero, List.set_cons_succ]
  refine wpAnyH_take (i := 23) (oi := { dst := some 109, op := .pick (.tmp 102) (.tmp 108) (.const (.bool false)), type := 4, pos := "law.go:149", after := #[{ on := 16, ground := .data }, { on := 22, ground := .data }], guard := none }) (v := ?_) rfl (by kernel_rfl) (by kernel_rfl) (by kernel_rfl) (fun _ _ _ h => h) (Or.inl ⟨by rfl, ?_⟩) (by assumption) ?_
  rotate_left
  · intro _ _; go_simp; first | done | with_reducible rfl
  simp only [Act.put, List.setIfInBounds_toArray, List.set_cons_zero, List.set_cons_succ]
  refine wpAnyH_take (i := 24) (oi := { dst := some 110, op := .move (.tmp 109), type := 4, pos := "law.go:149", after := #[{ on := 23, ground := .data }, { on := 16, ground := .chain }], guard := none }) (v := ?_) rfl (by kernel_rfl) (by kernel_rfl) (by kernel_rfl) (fun _ _ _ h => h) (Or.inl ⟨by rfl, ?_⟩) (by assumption) ?_
  rotate_left
  · intro _ _; go_simp; first | done | with_reducible rfl
  simp only [Act.put, List.setIfInBounds_toArray, List.set_cons_zero, List.set_cons_succ]
  refine wpAnyH_take (i := 25) (oi := { dst := some 111, op := .move (.tmp 14), type := 38, pos := "law.go:149", after := #[{ on := 24, ground := .guard }], guard := some (24, true) }) (v := ?_) rfl (by kernel_rfl) (by kernel_rfl) (by kernel_rfl) (fun _ _ _ h => h) (Or.inl ⟨by rfl, ?_⟩) (by assumption) ?_
  rotate_left
  · intro _ _; go_simp; first | done | with_reducible rfl
  simp only [Act.put, List.setIfInBounds_toArray, List.set_cons_zero, List.set_cons_succ]
  refine wpAnyH_take (i := 26) (oi := { dst := some 112, op := .binOp Go.BinOp.eql 38 (.tmp 111) (.const (.int .i64 5)) 38, type := 4, pos := "law.go:149", after := #[{ on := 25, ground := .data }, { on := 24, ground := .guard }], guard := some (24, true) }) (v := ?_) rfl (by kernel_rfl) (by kernel_rfl) (by kernel_rfl) (fun _ _ _ h => h) (Or.inl ⟨by rfl, ?_⟩) (by assumption) ?_
  rotate_left
  · intro _ _; go_simp; first | done | with_reducible rfl
  simp only [Act.put, List.setIfInBounds_toArray, List.set_cons_zero, List.set_cons_succ]
  refine wpAnyH_take (i := 27) (oi := { dst := some 113, op := .pick (.tmp 110) (.tmp 112) (.const (.bool false)), type := 4, pos := "law.go:149", after := #[{ on := 24, ground := .data }, { on := 26, ground := .data }], guard := none }) (v := ?_) rfl (by kernel_rfl) (by kernel_rfl) (by kernel_rfl) (fun _ _ _ h => h) (Or.inl ⟨by rfl, ?_⟩) (by assumption) ?_
  rotate_left
  · intro _ _; go_simp; first | done | with_reducible rfl
  simp only [Act.put, List.setIfInBounds_toArray, List.set_cons_zero, List.set_cons_succ]
  refine wpAnyH_take (i := 28) (oi := { dst := some 114, op := .move (.tmp 113), type := 4, pos := "law.go:149", after := #[{ on := 27, ground := .data }, { on := 24, ground := .chain }], guard := none }) (v := ?_) rfl (by kernel_rfl) (by kernel_rfl) (by kernel_rfl) (fun _ _ _ h => h) (Or.inl ⟨by rfl, ?_⟩) (by assumption) ?_
  rotate_left
  · intro _ _; go_simp; first | done | with_reducible rfl
  simp only [Act.put, List.setIfInBounds_toArray, List.set_cons_zero, List.set_cons_succ]
  refine wpAnyH_take (i := 29) (oi := { dst := some 115, op := .move (.tmp 8), type := 25, pos := "law.go:149", after := #[{ on := 28, ground := .guard }], guard := some (28, true) }) (v := ?_) rfl (by kernel_rfl) (by kernel_rfl) (by kernel_rfl) (fun _ _ _ h => h) (Or.inl ⟨by rfl, ?_⟩) (by assumption) ?_
  rotate_left
  · intro _ _; go_simp; first | done | with_reducible rfl
  simp only [Act.put, List.setIfInBounds_toArray, List.set_cons_zero, List.set_cons_succ]
  refine wpAnyH_take (i := 31) (oi := { dst := some 117, op := .move (.tmp 9), type := 40, pos := "law.go:149", after := #[{ on := 28, ground := .guard }], guard := some (28, true) }) (v := ?_) rfl (by kernel_rfl) (by kernel_rfl) (by kernel_rfl) (fun _ _ _ h => h) (Or.inl ⟨by rfl, ?_⟩) (by assumption) ?_
  rotate_left
  · intro _ _; go_simp; first | done | with_reducible rfl
  simp only [Act.put, List.setIfInBounds_toArray, List.set_cons_zero, List.set_cons_succ]
  refine wpAnyH_take (i := 32) (oi := { dst := some 118, op := .call { callee := .builtin Go.Builtin.len, args := #[.tmp 117], argTypes := #[40] }, type := 3, pos := "law.go:149", after := #[{ on := 31, ground := .data }, { on := 28, ground := .guard }], guard := some (28, true) }) (v := ?_) rfl (by kernel_rfl) (by kernel_rfl) (by kernel_rfl) (fun _ _ _ h => h) (Or.inl ⟨by rfl, ?_⟩) (by assumption) ?_
  rotate_left
  · intro _ _; go_simp; first | done | with_reducible rfl
  simp only [Act.put, List.setIfInBounds_toArray, List.set_cons_zero, List.set_cons_succ]
  refine wpAnyH_ready (rs := [30]) (by kernel_rfl) (by simp) ?_
  refine AllReadyH.cons (o := { dst := some 116, op := .call { callee := .value (.func 21), args := #[.tmp 115, .const (.string { data := #[102] })], argTypes := #[25, 9] }, type := 3, pos := "law.go:149", after := #[{ on := 29, ground := .data }, { on := 28, ground := .chain }, { on := 28, ground := .guard }], guard := some (28, true) }) rfl (fun K hK => ?_) AllReadyH.nil
  go_simp
  refine Calls.mono (own_safe hHeld.2.2 ⟨#[102]⟩) ?_; rintro e w15 ⟨rfl, hb15⟩; rw [HSF.out]
  go_simp
  refine hK.out _ _ (⟨hHeld.1.below hb15, hHeld.2.1.below hb15, hHeld.2.2.below hb15⟩) (fun hHeld => ?_)
  clear hK K
  refine wpAnyH_take (i := 33) (oi := { dst := some 119, op := .binOp Go.BinOp.eql 3 (.tmp 116) (.tmp 118) 3, type := 4, pos := "law.go:149", after := #[{ on := 30, ground := .data }, { on := 32, ground := .data }, { on := 28, ground := .guard }], guard := some (28, true) }) (v := .bool true) rfl (by kernel_rfl) (by kernel_rfl) (by kernel_rfl) (fun _ _ _ h => h) (Or.inl ⟨by rfl, ?_⟩) (by assumption) ?_
  · intro _ _; go_simp
  simp only [Act.put, List.setIfInBounds_toArray, List.set_cons_zero, List.set_cons_succ]
  refine wpAnyH_take (i := 34) (oi := { dst := some 120, op := .pick (.tmp 114) (.tmp 119) (.const (.bool false)), type := 4, pos := "law.go:149", after := #[{ on := 28, ground := .data }, { on := 33, ground := .data }], guard := none }) (v := ?_) rfl (by kernel_rfl) (by kernel_rfl) (by kernel_rfl) (fun _ _ _ h => h) (Or.inl ⟨by rfl, ?_⟩) (by assumption) ?_
  rotate_left
  · intro _ _; go_simp; first | done | with_reducible rfl
  simp only [Act.put, List.setIfInBounds_toArray, List.set_cons_zero, List.set_cons_succ]
  refine wpAnyH_take (i := 35) (oi := { dst := some 121, op := .move (.tmp 120), type := 4, pos := "law.go:149", after := #[{ on := 34, ground := .data }, { on := 30, ground := .chain }], guard := none }) (v := ?_) rfl (by kernel_rfl) (by kernel_rfl) (by kernel_rfl) (fun _ _ _ h => h) (Or.inl ⟨by rfl, ?_⟩) (by assumption) ?_
  rotate_left
  · intro _ _; go_simp; first | done | with_reducible rfl
  simp only [Act.put, List.setIfInBounds_toArray, List.set_cons_zero, List.set_cons_succ]
  refine wpAnyH_ready (rs := [36]) (by kernel_rfl) (by simp) ?_
  refine AllReadyH.cons (o := { dst := some 122, op := .call { callee := .value (.func 9), args := #[], argTypes := #[] }, type := 4, pos := "law.go:149", after := #[{ on := 35, ground := .chain }, { on := 35, ground := .guard }], guard := some (35, true) }) rfl (fun K hK => ?_) AllReadyH.nil
  go_simp
  refine Calls.mono (awake_any _) ?_; rintro e w16 ⟨rfl, hb16⟩
  go_simp
  refine hK.out _ _ (⟨hHeld.1.below hb16, hHeld.2.1.below hb16, hHeld.2.2.below hb16⟩) (fun hHeld => ?_)
  clear hK K
  refine wpAnyH_take (i := 37) (oi := { dst := some 123, op := .pick (.tmp 121) (.tmp 122) (.const (.bool false)), type := 4, pos := "law.go:149", after := #[{ on := 35, ground := .data }, { on := 36, ground := .data }], guard := none }) (v := ?_) rfl (by kernel_rfl) (by kernel_rfl) (by kernel_rfl) (fun _ _ _ h => h) (Or.inl ⟨by rfl, ?_⟩) (by assumption) ?_
  rotate_left
  · intro _ _; go_simp; first | done | with_reducible rfl
  simp only [Act.put, List.setIfInBounds_toArray, List.set_cons_zero, List.set_cons_succ]
  refine wpAnyH_take (i := 38) (oi := { dst := some 6, op := .assign (.tmp 123), type := 4, pos := "law.go:149", after := #[{ on := 37, ground := .data }, { on := 36, ground := .chain }, { on := 0, ground := .phase }, { on := 1, ground := .phase }, { on := 2, ground := .phase }, { on := 3, ground := .phase }, { on := 4, ground := .phase }, { on := 5, ground := .phase }, { on := 6, ground := .phase }, { on := 7, ground := .phase }, { on := 8, ground := .phase }, { on := 9, ground := .phase }, { on := 10, ground := .phase }, { on := 11, ground := .phase }, { on := 12, ground := .phase }, { on := 13, ground := .phase }, { on := 14, ground := .phase }, { on := 15, ground := .phase }, { on := 16, ground := .phase }, { on := 17, ground := .phase }, { on := 18, ground := .phase }, { on := 19, ground := .phase }, { on := 20, ground := .phase }, { on := 21, ground := .phase }, { on := 22, ground := .phase }, { on := 23, ground := .phase }, { on := 24, ground := .phase }, { on := 25, ground := .phase }, { on := 26, ground := .phase }, { on := 27, ground := .phase }, { on := 28, ground := .phase }, { on := 29, ground := .phase }, { on := 30, ground := .phase }, { on := 31, ground := .phase }, { on := 32, ground := .phase }, { on := 33, ground := .phase }, { on := 34, ground := .phase }, { on := 35, ground := .phase }, { on := 36, ground := .phase }, { on := 37, ground := .phase }], guard := none }) (v := ?_) rfl (by kernel_rfl) (by kernel_rfl) (by kernel_rfl) (fun _ _ _ h => h) (Or.inl ⟨by rfl, ?_⟩) (by assumption) ?_
  rotate_left
  · intro _ _; go_simp; first | done | with_reducible rfl
  simp only [Act.put, List.setIfInBounds_toArray, List.set_cons_zero, List.set_cons_succ]
  refine wpAnyH_done (by kernel_rfl) ?_ _
  refine NoPanic.normal ?_
  go_wp2_with fail
  go_ret
  exact ⟨rfl, hHeld.2.2.1⟩
theorem fsafe_any (a b : ByteArray) (p : Int) (w : World) :
    Calls Try.prog 5 #[.string a, .string b, .int .i64 p] w fun e w' => e = .returned (.bool true) ∧ Below w.heap.size w w' := by
  by_cases ha : a.size ≤ 500
  · by_cases hb : b.size ≤ 500
    · exact safe_small a b p w ha hb
    · exact safe_big a b p w (.inr (by omega))
  · exact safe_big a b p w (.inl (by omega))
end Go.Proofs.Ytbbooldhfcldbaa
