/- What holds while the document's Decode runs. -/
import Derived.Test.YteikbpkjikacmaaGreatDoorCRfN
import Derived.Test.YteikbpkjikacmaaGreatDoorCGHold2
namespace Go.Proofs.YteikbpkjikacmaaGreatDoor
open Go.ChangeShapes Go.WideShapes Go.ChangeAt Go.RowKit

theorem built_rangeIn (g : Nat → BitVec 8) (n m : Int) : Tryz.prog.built 52 [(0, .agg (u8s ((List.range 32).map g) ++ [Value.int .i64 n]).toArray), (1, .int .i64 m)] = some (u8s ((List.range 32).map g) ++ [Value.int .i64 n] ++ [Value.int .i64 m, .int .i64 0, .int .i64 0, .string ByteArray.empty]).toArray := by kernel_rfl
theorem built_in (p : Pt) (m : Int) : Tryz.prog.built 52 [(0, .agg p.cs.toArray), (1, .int .i64 m)] = some (In.cs ⟨p, m, 0, 0, ByteArray.empty⟩).toArray := by
  have := built_rangeIn (fun i => p.tx.getD i 0) p.n m
  rw [as_range p.tx p.len] at this
  exact this
theorem built_rangeOut (g : Nat → BitVec 8) (v a b c d e f : Int) : Tryz.prog.built 56 [(0, .int .i64 v), (1, .agg ([Value.int .i64 a, .int .i64 b, .int .i64 c, .int .i64 d, .int .i64 e, .int .i64 f] ++ u8s ((List.range 32).map g)).toArray)] = some (Value.int .i64 v :: ([Value.int .i64 a, .int .i64 b, .int .i64 c, .int .i64 d, .int .i64 e, .int .i64 f] ++ u8s ((List.range 32).map g))).toArray := by kernel_rfl
theorem built_out (v : Int) (c : Scr) : Tryz.prog.built 56 [(0, .int .i64 v), (1, .agg c.cs.toArray)] = some (Out.cs ⟨v, c⟩).toArray := by
  have := built_rangeOut (fun i => c.hash.getD i 0) v c.kind c.key c.other c.rev c.delay c.expiry
  rw [as_range c.hash c.len] at this
  exact this
theorem wit_spliceR (x : In) (k key : Int) (pre : ByteArray) : In.cs ⟨x.prev, x.seq, k, key, pre⟩ = splice x.cs 34 [.int .i64 k, .int .i64 key, .string pre] := by
  unfold splice In.cs
  rw [List.take_append, List.drop_append, List.take_of_length_le (by rw [Pt.cs_length]; omega), List.drop_of_length_le (by rw [Pt.cs_length]; simp), Pt.cs_length]
  simp
structure DSt (w0 w : World) (T : Nat) (s : RS) (vi : Value) (li : List In) (vo : Value) (lo : List Out) (lk : Int) : Prop where
  rd : Rd w (T + 1) T s
  ans : Blk w T [.slice none 0 0, .slice none 0 0, .int .i64 0]
  var : Blk w (T + 2) [vi, vo, .int .i64 lk]
  ins : OwnE 52 w (T + 3) vi li
  outs : OwnE 56 w (T + 3) vo lo
  ap : ∀ k, vi.ownBlock = some k → vo.ownBlock ≠ some k
  bel : Below T w0 w
  sz : T + 3 ≤ w.heap.size
section
variable {w0 w w' : World} {T : Nat} {s s2 : RS} {vi vo v' : Value} {li : List In} {lo : List Out} {lk : Int}
theorem DSt.below (h : DSt w0 w T s vi li vo lo lk) (hb : Below w.heap.size w w') : DSt w0 w' T s vi li vo lo lk := by
  have hs := h.sz
  exact ⟨h.rd.below hb, h.ans.below hb h.ans.lt, h.var.below hb h.var.lt, h.ins.below hb, h.outs.below hb, h.ap, h.bel.trans (hb.mono (by omega)), Nat.le_trans h.sz hb.size⟩
theorem DSt.drew (h : DSt w0 w T s vi li vo lo lk) : DSt w0 w.drew T s vi li vo lo lk := h.below (Below.refl _ _).drew
theorem DSt.call (h : DSt w0 w T s vi li vo lo lk) (hR : Rd w' (T + 1) T s2) (hK : Keep (T + 1) w w') : DSt w0 w' T s2 vi li vo lo lk := by
  have hs := h.sz
  exact ⟨hR, h.ans.keep hK (by omega), h.var.keep hK (by omega), h.ins.same fun k hk => hK.block k (h.ins.lt k hk).2 (by have := (h.ins.lt k hk).1; omega), h.outs.same fun k hk => hK.block k (h.outs.lt k hk).2 (by have := (h.outs.lt k hk).1; omega), h.ap, h.bel.trans (hK.below (by omega) (by omega)), Nat.le_trans h.sz hK.size⟩
theorem DSt.addIn {x : In} (h : DSt w0 w T s vi li vo lo lk) (ho : OwnE 52 w' (T + 3) v' (li ++ [x])) (hg : w.grownBy w' vi.ownBlock) (hm : Moved w vi v') : DSt w0 (w'.setCell ⟨T + 2, 0, none⟩ v') T s v' (li ++ [x]) vo lo lk := by
  have hs := h.sz
  obtain ⟨k1, k2, k3⟩ := hold_store (i := 0) h.var (fun k hk => (h.ins.lt k hk).1) (show T + 2 < T + 3 by omega) hs ho hg
  refine ⟨h.rd.kept k3.size (k3.block _ (by omega) (by omega)) fun b hb _ => k3.block b (by omega) (by omega), h.ans.keepN k3 (by omega) (by omega), k1, k2, h.outs.same fun k hk => ?_, fun k hk => ?_, h.bel.trans (k3.below (by omega) (by omega)), Nat.le_trans hs k3.size⟩
  · have hk2 := h.outs.lt k hk
    rw [Below.heap_setCell w' _ v' k (by show k ≠ T + 2; omega)]
    exact hg.block k hk2.2 fun e => h.ap k e.symm hk
  · rcases hm with hm | ⟨g, hg2, hm⟩
    · exact h.ap k (by rw [← hm]; exact hk)
    · rw [hm] at hk
      injection hk with hk
      intro e
      have := (h.outs.lt k e).2
      omega
theorem DSt.addOut {x : Out} (h : DSt w0 w T s vi li vo lo lk) (ho : OwnE 56 w' (T + 3) v' (lo ++ [x])) (hg : w.grownBy w' vo.ownBlock) (hm : Moved w vo v') : DSt w0 (w'.setCell ⟨T + 2, 1, none⟩ v') T s vi li v' (lo ++ [x]) lk := by
  have hs := h.sz
  obtain ⟨k1, k2, k3⟩ := hold_store (i := 1) h.var (fun k hk => (h.outs.lt k hk).1) (show T + 2 < T + 3 by omega) hs ho hg
  refine ⟨h.rd.kept k3.size (k3.block _ (by omega) (by omega)) fun b hb _ => k3.block b (by omega) (by omega), h.ans.keepN k3 (by omega) (by omega), k1, h.ins.same fun k hk => ?_, k2, fun k hk => ?_, h.bel.trans (k3.below (by omega) (by omega)), Nat.le_trans hs k3.size⟩
  · have hk2 := h.ins.lt k hk
    rw [Below.heap_setCell w' _ v' k (by show k ≠ T + 2; omega)]
    exact hg.block k hk2.2 fun e => h.ap k hk e.symm
  · rcases hm with hm | ⟨g, hg2, hm⟩
    · rw [hm]; exact h.ap k hk
    · rw [hm]
      intro e
      injection e with e
      have := (h.ins.lt k hk).2
      omega
theorem DSt.lockSet (h : DSt w0 w T s vi li vo lo lk) (z : Int) : DSt w0 (w.setCell ⟨T + 2, 2, none⟩ (.int .i64 z)) T s vi li vo lo z := by
  have hs := h.sz
  have hK : Keep (T + 2) w (w.setCell ⟨T + 2, 2, none⟩ (.int .i64 z)) := (Keep.refl _ _).setCell 2 _
  exact ⟨h.rd.other hK (by omega) (by omega), h.ans.keep hK (by omega), h.var.set 2 _, h.ins.same fun k hk => hK.block k (h.ins.lt k hk).2 (by have := (h.ins.lt k hk).1; omega), h.outs.same fun k hk => hK.block k (h.outs.lt k hk).2 (by have := (h.outs.lt k hk).1; omega), h.ap, h.bel.trans (hK.below (by omega) (by omega)), Nat.le_trans hs hK.size⟩
theorem DSt.witSet {g n cap : Nat} (h : DSt w0 w T s (.slice (some ⟨g, 0, none⟩) n cap) li vo lo lk) (k : Nat) (hk : k < li.length) (a b : Int) (t : ByteArray) :
    DSt w0 (w.setCells g (k * 37 + 34) [.int .i64 a, .int .i64 b, .string t]) T s (.slice (some ⟨g, 0, none⟩) n cap) (li.set k (putW (li.getD k default) ⟨a, b, t⟩)) vo lo lk := by
  have hs := h.sz
  have hg := h.ins.lt g rfl
  have hK : Keep g w (w.setCells g (k * 37 + 34) [.int .i64 a, .int .i64 b, .string t]) := (Keep.refl _ _).setCells _ _
  refine ⟨h.rd.other hK (by omega) (by omega), h.ans.keep hK (by omega), h.var.keep hK (by omega), ?_, h.outs.same fun j hj => hK.block j (h.outs.lt j hj).2 fun e => h.ap g rfl (by rw [← e]; exact hj), h.ap, h.bel.trans (hK.below (by omega) (by omega)), Nat.le_trans hs hK.size⟩
  exact h.ins.setPart k 34 _ _ hk (by show 34 + 3 ≤ 37; omega) (wit_spliceR (li.getD k default) a b t)
end
end Go.Proofs.YteikbpkjikacmaaGreatDoor
