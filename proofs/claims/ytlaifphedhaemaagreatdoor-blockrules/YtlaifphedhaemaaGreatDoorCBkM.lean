/- block.readHead; bytes of a text; rows kept beside a reader. -/
import Derived.Test.YtlaifphedhaemaaGreatDoorCBkL
import Derived.Lib.ConvBytes
namespace Go.Proofs.YtlaifphedhaemaaGreatDoor
open Go.ChangeShapes Go.WideShapes Go.ChangeAt Go.RowKit

theorem Els.keepR {α : Type} [El α] {w w' : World} {R : Nat} {a : Option Addr} {n c : Nat} {l : List α} (h : Els w a n c l) (k : Keep R w w') (hk : 0 < El.k α) (hR : ∀ x : Addr, a = some x → x.block ≠ R) : Els w' a n c l := by
  refine h.later fun b o h0 e => ?_
  obtain ⟨b', o', e', hc⟩ := h.there h0
  rw [e] at e'
  injection e' with e'
  injection e' with e1 e2
  subst e1; subst e2
  have hl : 0 < (flatE l).length := by rw [flatE_length, h.len]; exact Nat.mul_pos h0 hk
  have := World.block_lt_of_cell? w _ (hc 0 _ (List.getElem?_eq_getElem hl))
  exact k.block b this (hR _ e)
theorem TxAt.keepR {w w' : World} {R B : Nat} {tv : TxV} {t : TxD} (h : TxAt w tv t) (k : Keep R w w') (hN : TxNew B tv) (hR : R < B) : TxAt w' tv t :=
  ⟨h.ins.keepR k (by decide) fun x hx => by have := hN.1 x hx; omega, h.outs.keepR k (by decide) fun x hx => by have := hN.2 x hx; omega⟩
theorem wpList_toBytes {ops : Array Oper} {rest : List Oper} {o : Oper} {a : Act} {w : World} {Q : Exit → Act → World → Prop} (hg : o.guard = none) (x : Operand) (ho : o.op = .convert 9 29 x) (s : ByteArray) (hx : a.eval x = .string s)
    (hK : ∀ b c w', Hid (SrcB w' (.slice (some ⟨b, 0, none⟩) s.size c) (strB s)) → Hid (Below w.heap.size w w') → wpList Tryz.prog ops Q rest (a.put o.dst (.slice (some ⟨b, 0, none⟩) s.size c)) w') : wpList Tryz.prog ops Q (o :: rest) a w := by
  refine wpList_plain hg fun K hK' => ?_
  unfold Oper.wp execOp
  simp only [ho, hx, Sem.run_bind, Sem.run_pure, Go.Lib.run_convert_string_bytes w 9 29 5 s Tryz.underlying9 Tryz.underlying29 Tryz.underlying5, Result.andThen_ok]
  refine hK' _ _ (hK _ _ _ ?_ ?_)
  · show SrcB _ _ _
    refine .inr ⟨w.heap.size, 0, grownCap w s.size 0 5, ?_, fun j u hu => ?_⟩
    · rw [show (strB s).length = s.size from strB_length s]
    · have hj : j < (strB s).length := by have := (List.getElem?_eq_some_iff.1 hu).1; rwa [u8s_length] at this
      have hj' : j < s.size := by rwa [strB_length] at hj
      rw [u8s_get _ j hj] at hu
      rw [Nat.zero_add, Go.Lib.bytesWorld_cell w 5 s j hj', ← hu]
      have hd : j < s.data.toList.length := by simpa using hj'
      unfold strB Y
      rw [List.getD_eq_getElem?_getD, List.getD_eq_getElem?_getD, List.getElem?_map, List.getElem?_eq_getElem hd]
      rfl
  · show Below _ _ _
    exact ⟨rfl, rfl, rfl, by rw [Go.Lib.bytesWorld_size]; omega, fun k hk => Go.Lib.bytesWorld_at_old w _ s k hk⟩

/-- A header that is read. -/
def rHd (s : RS) : Hd × RS :=
  let a := rH s; let b := rH a.2; let c := rN b.2; let d := rN c.2
  (⟨⟨a.1, rH_length s⟩, ⟨b.1, rH_length a.2⟩, c.1, d.1⟩, d.2)
set_option maxRecDepth 100000 in
set_option maxHeartbeats 4000000 in
theorem rhead_any (R N : Nat) (s : RS) (w : World) (h : Rd w R N s) :
    Calls Tryz.prog 37 #[.pointer (some ⟨R, 0, none⟩)] w fun e w' => e = .returned (.agg (rHd s).1.cs.toArray) ∧ Rd w' R N (rHd s).2 ∧ Keep R w w' := by
  have HR : Hid (Rd w R N s) := h
  have hRl := h.lt
  have hbase := h.base
  clear h
  have HV : Hid (rHd s = (⟨⟨(rH s).1, rH_length s⟩, ⟨(rH (rH s).2).1, rH_length (rH s).2⟩, (rN (rH (rH s).2).2).1, (rN (rN (rH (rH s).2).2).2).1⟩, (rN (rN (rH (rH s).2).2).2).2)) := show _ = _ from rfl
  go_enter Tryz.func37, Tryz.ntmps37
  go_wp2_with fail
  generalize hw1 : World.alloc w _ = w1
  have HZ1 : Hid (Blk w1 w.heap.size (default : Hd).cs) := by rw [← hw1]; exact Blk.mk _ _ _ rfl rfl
  have HK1 : Hid (Keep R w w1) := by rw [← hw1]; exact (Keep.refl _ _).alloc _
  have HR1 : Hid (Rd w1 R N s) := by rw [← hw1]; exact HR.out.below ((Below.refl _ _).alloc (Nat.le_refl _) _)
  clear hw1 HR
  generalize hT : w.heap.size = T at *
  have hTR : T ≠ R := by omega
  refine (rhash_any R N s w1 HR1.out).mono ?_
  rintro e w2 ⟨rfl, hr2, hk2⟩
  have HR2 : Hid (Rd w2 R N (rH s).2) := hr2
  have HK2 : Hid (Keep R w w2) := HK1.out.trans hk2
  have HZ2 : Hid (Blk w2 T (default : Hd).cs) := HZ1.out.keep hk2 hTR
  clear hr2 hk2 HK1 HR1 HZ1
  obtain ⟨x1, hx1⟩ : ∃ x : H32, x = ⟨(rH s).1, rH_length s⟩ := ⟨_, rfl⟩
  have HX1 : Hid (u8s (rH s).1 = x1.cs) := show _ = _ by rw [hx1]; rfl
  rw [HX1.out]
  rw [← hx1] at HV
  clear hx1 HX1
  generalize (rH s).2 = s2 at *
  go_wp2_with fail
  refine (rhash_any R N s2 w2 HR2.out).mono ?_
  rintro e w3 ⟨rfl, hr3, hk3⟩
  have HR3 : Hid (Rd w3 R N (rH s2).2) := hr3
  have HK3 : Hid (Keep R w w3) := HK2.out.trans hk3
  have HZ3 : Hid (Blk w3 T (default : Hd).cs) := HZ2.out.keep hk3 hTR
  clear hr3 hk3 HK2 HR2 HZ2
  obtain ⟨x2, hx2⟩ : ∃ x : H32, x = ⟨(rH s2).1, rH_length s2⟩ := ⟨_, rfl⟩
  have HX2 : Hid (u8s (rH s2).1 = x2.cs) := show _ = _ by rw [hx2]; rfl
  rw [HX2.out]
  rw [← hx2] at HV
  clear hx2 HX2
  generalize (rH s2).2 = s3 at *
  go_wp2_with fail
  refine (rnum_any R N s3 w3 HR3.out).mono ?_
  rintro e w4 ⟨rfl, hr4, hk4⟩
  have HR4 : Hid (Rd w4 R N (rN s3).2) := hr4
  have HK4 : Hid (Keep R w w4) := HK3.out.trans hk4
  have HZ4 : Hid (Blk w4 T (default : Hd).cs) := HZ3.out.keep hk4 hTR
  clear hr4 hk4 HK3 HR3 HZ3
  generalize (rN s3).1 = u at *
  generalize (rN s3).2 = s4 at *
  go_wp2_with fail
  refine (rnum_any R N s4 w4 HR4.out).mono ?_
  rintro e w5 ⟨rfl, hr5, hk5⟩
  have HR5 : Hid (Rd w5 R N (rN s4).2) := hr5
  have HK5 : Hid (Keep R w w5) := HK4.out.trans hk5
  have HZ5 : Hid (Blk w5 T (default : Hd).cs) := HZ4.out.keep hk5 hTR
  clear hr5 hk5 HK4 HR4 HZ4
  generalize (rN s4).1 = v at *
  generalize (rN s4).2 = s5 at *
  have hb1 : Hid (Tryz.prog.built 25 [(0, .agg x1.cs.toArray), (1, .agg x2.cs.toArray), (2, .int .i64 u), (3, .int .i64 v)] = some (Hd.cs ⟨x1, x2, u, v⟩).toArray) := built_hdA x1 x2 u v
  obtain ⟨H, hH⟩ : ∃ H : Hd, H = ⟨x1, x2, u, v⟩ := ⟨_, rfl⟩
  rw [← hH] at hb1
  have HHV : Hid (rHd s = (H, s5)) := show _ = _ by rw [hH]; exact HV.out
  clear hH HV
  obtain ⟨t, ht⟩ := HZ5.out
  have HT5 : Hid (w5.heap[T]? = some (.cells (default : Hd).cs.toArray t (0, 0))) := ht
  have HSZ : Hid ((default : Hd).cs.toArray.size = H.cs.toArray.size) := show _ = _ by simp [Hd.cs_length]
  clear ht
  go_wp2_with (first
    | (refine wpList_bld rfl 25 _ rfl _ _ hb1.out (by rw [Array.toList_map]; rfl) ?_)
    | (refine wpList_store_row rfl 25 _ _ rfl T H.cs.toArray rfl rfl t _ HT5.out (sizeHda H) HSZ.out H.cs_all ?_))
  refine bodyPost_ret (v := .agg H.cs.toArray) ?_ rfl ⟨by rw [HHV.out], ?_, ?_⟩
  · obtain ⟨tt, hb⟩ := Blk.row (ds := H.cs) ⟨t, HT5.out⟩
    exact results_cell_row Tryz.results37 _ _ T tt _ _ _ rfl hb Tryz.underlying25 rfl (sizeHda H)
  · rw [HHV.out]; exact HR5.out.row (by omega) (by omega) _
  · exact HK5.out.other ((Keep.refl _ _).setRow _) (by omega)
end Go.Proofs.YtlaifphedhaemaaGreatDoor
