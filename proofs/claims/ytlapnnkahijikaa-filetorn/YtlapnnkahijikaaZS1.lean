/- 32-bit words as bit vectors: what the model's operations on uint32 do to them, and rotations. No program, no conditions. Contracts of the small functions under both sums: a turn, and the document's mixed and drawn. No conditions. Blocks that are known whole, and what becomes of them; rows of words and of bytes. No program, no conditions. The standard's sum, in plain mathematics: the schedule, the rounds, a block, all blocks, the closing. No program, no conditions. sha.schedule spreads 64 bytes over 64 words, as the standard says. No conditions. Sums of words, as the walk spells them. No program, no conditions. sha.mix takes one block into the words, as the standard says: where the round words lie as the program's text lays them. -/
import Derived.Laws.BitsAllLaws
import Derived.WalkKit
import Derived.Test.YtlapnnkahijikaaRows
import Derived.ProofKit
import Derived.OpenShut
import Derived.Handy
import Derived.WalkSpells
import Derived.WalkLawsBesides
import Derived.Deep.QuietTactic
import Derived.BigQuiet
import Derived.Below
import Derived.Laws.Rows
import Derived.ScopeJumps
import Derived.Deep.Quiet
import Derived.Deep.RegionHeld3
import Derived.Deep.CutBlock
namespace Go.Proofs.Ytlapnnkahijikaa

theorem w32_lt (x : BitVec 32) : x.toNat < 4294967296 := x.isLt

theorem w32_xor (x y : BitVec 32) : bits .xor .u32 (x.toNat : Int) (y.toNat : Int) = ((x ^^^ y).toNat : Int) := by
  rw [u32_xor_nat _ _ x.isLt y.isLt, BitVec.toNat_xor]
theorem w32_and (x y : BitVec 32) : bits .and .u32 (x.toNat : Int) (y.toNat : Int) = ((x &&& y).toNat : Int) := by
  rw [u32_and_nat _ _ x.isLt y.isLt, BitVec.toNat_and]
theorem w32_or (x y : BitVec 32) : bits .or .u32 (x.toNat : Int) (y.toNat : Int) = ((x ||| y).toNat : Int) := by
  rw [u32_or_nat _ _ x.isLt y.isLt, BitVec.toNat_or]
theorem w32_add (x y : BitVec 32) : ((x.toNat : Int) + (y.toNat : Int)) % 4294967296 = ((x + y).toNat : Int) := by
  rw [BitVec.toNat_add]; omega
theorem w32_addw (x y : BitVec 32) : IntKind.u32.wrap ((x.toNat : Int) + (y.toNat : Int)) = ((x + y).toNat : Int) := by
  rw [IntKind.wrap_u32', w32_add]
theorem w32_not (x : BitVec 32) : bits .xor .u32 4294967295 (x.toNat : Int) = ((~~~ x).toNat : Int) := by
  have h := w32_xor (BitVec.allOnes 32) x
  rw [BitVec.allOnes_xor] at h
  exact h

theorem w32_shr (x : BitVec 32) (k : Nat) : (x.toNat : Int) / ((2 ^ k : Nat) : Int) = ((x >>> k).toNat : Int) := by
  rw [BitVec.toNat_ushiftRight, Nat.shiftRight_eq_div_pow]; exact (Int.natCast_ediv _ _).symm
theorem w32_shl (x : BitVec 32) (k : Nat) : (x.toNat : Int) * ((2 ^ k : Nat) : Int) % 4294967296 = ((x <<< k).toNat : Int) := by
  rw [BitVec.toNat_shiftLeft, Nat.shiftLeft_eq]
  rw [show (4294967296 : Int) = ((2 ^ 32 : Nat) : Int) by rfl, ← Int.natCast_mul, ← Int.natCast_emod]

/-- A word, and a byte, as a number. -/
def U (x : BitVec 32) : Int := (x.toNat : Int)
def Y (x : BitVec 8) : Int := (x.toNat : Int)
theorem U_lo (x : BitVec 32) : 0 ≤ U x := by unfold U; omega
theorem U_hi (x : BitVec 32) : U x < 4294967296 := by have := x.isLt; unfold U; omega
theorem Y_lo (x : BitVec 8) : 0 ≤ Y x := by unfold Y; omega
theorem Y_hi (x : BitVec 8) : Y x < 256 := by have := x.isLt; unfold Y; omega
theorem U_inj {x y : BitVec 32} (h : U x = U y) : x = y := by unfold U at h; exact BitVec.eq_of_toNat_eq (by omega)
theorem Y_inj {x y : BitVec 8} (h : Y x = Y y) : x = y := by unfold Y at h; exact BitVec.eq_of_toNat_eq (by omega)
theorem U_xor (x y : BitVec 32) : bits .xor .u32 (U x) (U y) = U (x ^^^ y) := w32_xor x y
theorem U_and (x y : BitVec 32) : bits .and .u32 (U x) (U y) = U (x &&& y) := w32_and x y
theorem U_or (x y : BitVec 32) : bits .or .u32 (U x) (U y) = U (x ||| y) := w32_or x y
theorem U_not (x : BitVec 32) : bits .xor .u32 4294967295 (U x) = U (~~~ x) := w32_not x
theorem U_add (x y : BitVec 32) : (U x + U y) % 4294967296 = U (x + y) := w32_add x y
theorem U_addw (x y : BitVec 32) : IntKind.u32.wrap (U x + U y) = U (x + y) := w32_addw x y
theorem U_shr10 (x : BitVec 32) : U x / (1024 : Int) = U (x >>> 10) := w32_shr x 10
theorem U_shr3 (x : BitVec 32) : U x / (8 : Int) = U (x >>> 3) := w32_shr x 3

/-- A word turned to the right. -/
def ror (x : BitVec 32) (k : Nat) : BitVec 32 := x >>> k ||| x <<< (32 - k)

theorem ror_comm (x : BitVec 32) (k : Nat) : x <<< (32 - k) ||| x >>> k = ror x k := BitVec.or_comm _ _

def Ch (e f g : BitVec 32) : BitVec 32 := (e &&& f) ^^^ (~~~ e &&& g)
def Maj (a b c : BitVec 32) : BitVec 32 := ((a &&& b) ^^^ (a &&& c)) ^^^ (b &&& c)
def S1 (e : BitVec 32) : BitVec 32 := (ror e 6 ^^^ ror e 11) ^^^ ror e 25
def S0 (a : BitVec 32) : BitVec 32 := (ror a 2 ^^^ ror a 13) ^^^ ror a 22
def s1 (x : BitVec 32) : BitVec 32 := (ror x 17 ^^^ ror x 19) ^^^ (x >>> 10)
def s0 (x : BitVec 32) : BitVec 32 := (ror x 7 ^^^ ror x 18) ^^^ (x >>> 3)

theorem U_notm (x : BitVec 32) : bits .xor .u32 IntKind.u32.max (U x) = U (~~~ x) := U_not x
theorem Ch_U (e f g : BitVec 32) : bits .xor .u32 (bits .and .u32 (U e) (U f)) (bits .and .u32 (bits .xor .u32 IntKind.u32.max (U e)) (U g)) = U (Ch e f g) := by
  rw [U_notm, U_and, U_and, U_xor]; rfl
theorem Maj_U (a b c : BitVec 32) : bits .xor .u32 (bits .xor .u32 (bits .and .u32 (U a) (U b)) (bits .and .u32 (U a) (U c))) (bits .and .u32 (U b) (U c)) = U (Maj a b c) := by
  rw [U_and, U_and, U_and, U_xor, U_xor]; rfl
theorem S1_U (e : BitVec 32) : bits .xor .u32 (bits .xor .u32 (U (ror e 6)) (U (ror e 11))) (U (ror e 25)) = U (S1 e) := by
  rw [U_xor, U_xor]; rfl
theorem S0_U (a : BitVec 32) : bits .xor .u32 (bits .xor .u32 (U (ror a 2)) (U (ror a 13))) (U (ror a 22)) = U (S0 a) := by
  rw [U_xor, U_xor]; rfl
theorem sched_U (x2 x7 x15 x16 : BitVec 32) : IntKind.u32.wrap (IntKind.u32.wrap (IntKind.u32.wrap (bits .xor .u32 (U (ror x2 17 ^^^ ror x2 19)) (U x2 / 1024) + U x7) + bits .xor .u32 (U (ror x15 7 ^^^ ror x15 18)) (U x15 / 8)) + U x16) = U (((s1 x2 + x7) + s0 x15) + x16) := by
  rw [U_shr10, U_shr3, U_xor, U_xor, U_addw, U_addw, U_addw]; rfl
theorem Ch_other (e f g : BitVec 32) : g ^^^ (e &&& (f ^^^ g)) = Ch e f g := by
  unfold Ch
  ext i hi
  simp only [BitVec.getElem_xor, BitVec.getElem_and, BitVec.getElem_not]
  cases e[i] <;> cases f[i] <;> cases g[i] <;> rfl
theorem Maj_other (a b c : BitVec 32) : (a &&& b) ||| (c &&& (a ||| b)) = Maj a b c := by
  unfold Maj
  ext i hi
  simp only [BitVec.getElem_xor, BitVec.getElem_and, BitVec.getElem_or]
  cases a[i] <;> cases b[i] <;> cases c[i] <;> rfl

/-- Four bytes as a word, the first one greatest. -/
def word (a b c d : BitVec 8) : BitVec 32 := ((a.setWidth 32 <<< 24 ||| b.setWidth 32 <<< 16) ||| c.setWidth 32 <<< 8) ||| d.setWidth 32

theorem w8_w32 (b : BitVec 8) : (b.toNat : Int) = ((b.setWidth 32).toNat : Int) := by
  rw [BitVec.toNat_setWidth, Nat.mod_eq_of_lt (by have := b.isLt; omega)]
theorem w8_shl (b : BitVec 8) (k m : Nat) (hm : m = 2 ^ k) (hk : m ≤ 16777216) : (b.toNat : Int) * (m : Int) = ((b.setWidth 32 <<< k).toNat : Int) := by
  have hb := b.isLt
  rw [← w32_shl, ← w8_w32, ← hm]
  have : (b.toNat : Int) * (m : Int) < 4294967296 := by
    have h : b.toNat * m ≤ 255 * 16777216 := Nat.mul_le_mul (by omega) hk
    have h' : ((b.toNat * m : Nat) : Int) < 4294967296 := by omega
    rwa [Int.natCast_mul] at h'
  rw [Int.emod_eq_of_lt (Int.mul_nonneg (by omega) (by omega)) this]
theorem word_val (a b c d : BitVec 8) : bits .or .u32 (bits .or .u32 (bits .or .u32 ((a.toNat : Int) * 16777216) ((b.toNat : Int) * 65536)) ((c.toNat : Int) * 256)) (d.toNat : Int) = ((word a b c d).toNat : Int) := by
  have h1 := w8_shl a 24 16777216 rfl (by omega)
  have h2 := w8_shl b 16 65536 rfl (by omega)
  have h3 := w8_shl c 8 256 rfl (by omega)
  have h1' : (a.toNat : Int) * 16777216 = _ := h1
  have h2' : (b.toNat : Int) * 65536 = _ := h2
  have h3' : (c.toNat : Int) * 256 = _ := h3
  rw [h1', h2', h3', w8_w32 d, w32_or, w32_or, w32_or]; rfl

theorem word_U (a b c d : BitVec 8) : bits .or .u32 (bits .or .u32 (bits .or .u32 (Y a * 16777216) (Y b * 65536)) (Y c * 256)) (Y d) = U (word a b c d) := word_val a b c d

theorem fill_set {α : Type} (l : List α) (z x : α) (n k : Nat) (hl : l.length = k) (hk : k < n) : (l ++ List.replicate (n - k) z).set k x = (l ++ [x]) ++ List.replicate (n - (k + 1)) z := by
  rw [List.set_append_right _ _ (by omega), hl, Nat.sub_self, show n - k = (n - (k + 1)) + 1 by omega, List.replicate_succ, List.set_cons_zero]
  simp
end Go.Proofs.Ytlapnnkahijikaa
namespace Go.Proofs.Ytlapnnkahijikaa
open Go.ChangeShapes Go.WideShapes Go.ChangeAt Go.RowKit

theorem ret_u32 {a b : Int} (h : a = b) : Ending.returned (.int .u32 a) = .returned (.int .u32 b) := by rw [h]

end Go.Proofs.Ytlapnnkahijikaa
namespace Go.Proofs.Ytlapnnkahijikaa
open Go.RowKit

def u32s (l : List (BitVec 32)) : List Value := l.map fun x => Value.int .u32 (U x)
def u8s (l : List (BitVec 8)) : List Value := l.map fun x => Value.int .u8 (Y x)
@[simp] theorem u32s_length (l : List (BitVec 32)) : (u32s l).length = l.length := by simp [u32s]
@[simp] theorem u8s_length (l : List (BitVec 8)) : (u8s l).length = l.length := by simp [u8s]
theorem u32s_get (l : List (BitVec 32)) (i : Nat) (h : i < l.length) : (u32s l)[i]? = some (.int .u32 (U (l.getD i 0))) := by
  simp [u32s, h, List.getD_eq_getElem?_getD]
theorem u8s_get (l : List (BitVec 8)) (i : Nat) (h : i < l.length) : (u8s l)[i]? = some (.int .u8 (Y (l.getD i 0))) := by
  simp [u8s, h, List.getD_eq_getElem?_getD]
theorem u32s_set (l : List (BitVec 32)) (i : Nat) (x : BitVec 32) : (u32s l).set i (.int .u32 (U x)) = u32s (l.set i x) := by
  simp [u32s, List.map_set]
theorem u8s_set (l : List (BitVec 8)) (i : Nat) (x : BitVec 8) : (u8s l).set i (.int .u8 (Y x)) = u8s (l.set i x) := by
  simp [u8s, List.map_set]

theorem u32s_one (l : List (BitVec 32)) : (u32s l).toArray.all (·.oneCell') = true :=
  Array.all_eq_true_iff_forall_mem.2 (fun v hv => by
    have hv' : v ∈ u32s l := by simpa using hv
    obtain ⟨x, _, rfl⟩ := List.mem_map.1 hv'
    rfl)
theorem u8s_one (l : List (BitVec 8)) : (u8s l).toArray.all (·.oneCell') = true :=
  Array.all_eq_true_iff_forall_mem.2 (fun v hv => by
    have hv' : v ∈ u8s l := by simpa using hv
    obtain ⟨x, _, rfl⟩ := List.mem_map.1 hv'
    rfl)

/-- A scope in which the run jumps back to one label, as the library's 'wp_scope_jumps'; the first pass may use what is shown of the others. -/
theorem wp_scope_rounds {P : Program} {a : Act} {w : World} {Q : Exit → Act → World → Prop} {c rest : Code} (l : Nat) (J : Act → World → Prop) (μ : Act → World → Nat) (hf : findLabel c l = some (Code.skip.seq rest))
    (pass : ∀ a w, J a w → rest.wp P (Exit.jump l (fun a' w' => J a' w' ∧ μ a' w' < μ a w) Q) a w)
    (first : (∀ a w, J a w → rest.wp P (Exit.jump l J Q) a w) → c.wp P (Exit.jump l J Q) a w) : (Code.scope c).wp P Q a w := by
  refine wp_scope_jumps l J μ hf (first fun a w hJ => Code.wp_mono ?_ (pass a w hJ)) (fun a w hJ => wp_seq (wp_skip (pass a w hJ)))
  intro e a w h
  cases e with
  | goto l' => exact ⟨h.1, h.2.1⟩
  | _ => exact h

theorem jump_ret {l : Nat} {J : Act → World → Prop} {Q : Exit → Act → World → Prop} {a : Act} {w : World} (h : Q .ret a w) : Exit.jump l J Q .ret a w := h
theorem addr_ne (b : Nat) {o o' : Nat} (h : o ≠ o') : (⟨b, o, none⟩ : Addr) ≠ ⟨b, o', none⟩ := fun e => h (by injection e)
theorem cell_kept {w : World} {b o o' : Nat} {v : Value} {r : Option Value} (h : o ≠ o') (hc : w.cell? ⟨b, o', none⟩ = r) : (w.setCell ⟨b, o, none⟩ v).cell? ⟨b, o', none⟩ = r := by
  rw [World.cell?_setCell_other (h := addr_ne b h)]; exact hc
theorem i64_fit {n : Int} (h : -9223372036854775808 ≤ n) (h' : n ≤ 9223372036854775807) : IntKind.i64.wrap n = n := by
  rw [IntKind.wrap_i64]; omega
/-- An index that is less than m by so much. -/
theorem idx_sub (i d m : Nat) (e M : Int) (he : e = d) (hM : M = m) (hd : d ≤ i) (hi : i < m) (hm : m ≤ 1000000) :
    IntKind.i64.wrap ((i : Int) - e) = (i : Int) - e ∧ (0 : Int) ≤ (i : Int) - e ∧ (i : Int) - e < M ∧ ((i : Int) - e).toNat = i - d := by
  subst he; subst hM; exact ⟨i64_fit (by omega) (by omega), by omega, by omega, by omega⟩

/-- Block b holds just these cells, none of them frozen. -/
def Blk (w : World) (b : Nat) (cs : List Value) : Prop := ∃ t, w.heap[b]? = some (.cells cs.toArray t (0, 0))

section
variable {w w' : World} {b B : Nat} {cs : List Value}

theorem Blk.lt (h : Blk w b cs) : b < w.heap.size := by
  obtain ⟨t, h⟩ := h; exact (Array.getElem?_eq_some_iff.1 h).1
theorem Blk.cell (h : Blk w b cs) (i : Nat) : w.cell? ⟨b, i, none⟩ = cs[i]? := by
  obtain ⟨t, h⟩ := h; rw [cell_of_row w b i _ t _ h]; simp
theorem Blk.frozen (h : Blk w b cs) (i : Nat) : w.frozen? ⟨b, i, none⟩ = false := by
  obtain ⟨t, h⟩ := h; simp [World.frozen?, h]
theorem Blk.below (h : Blk w b cs) (hb : Below B w w') (hB : b < B) : Blk w' b cs := by
  obtain ⟨t, h⟩ := h; exact ⟨t, by rw [hb.block b hB]; exact h⟩
theorem Blk.drew (h : Blk w b cs) : Blk w.drew b cs := h
theorem Blk.drewN (h : Blk w b cs) (n : Nat) : Blk (w.drewN n) b cs := h
theorem Blk.alloc (h : Blk w b cs) (o : Obj) : Blk (w.alloc o) b cs := by
  have hl := h.lt; obtain ⟨t, h⟩ := h; exact ⟨t, by rw [Below.heap_alloc w o b hl]; exact h⟩
theorem Blk.new (w : World) (a : Array Value) (t : TypeId) : Blk (w.alloc (.cells a t)) w.heap.size a.toList := ⟨t, by rw [heap_alloc_new]⟩
theorem Blk.mk (w : World) (a : Array Value) (t : TypeId) {b : Nat} {cs : List Value} (hb : b = w.heap.size) (hc : a = cs.toArray) : Blk (w.alloc (.cells a t)) b cs := by
  subst hb; subst hc; exact Blk.new _ _ _
theorem Blk.other (h : Blk w b cs) {p : Addr} (hp : b ≠ p.block) (v : Value) : Blk (w.setCell p v) b cs := by
  obtain ⟨t, h⟩ := h; exact ⟨t, by rw [Below.heap_setCell w p v b hp]; exact h⟩
theorem Blk.row {ds : List Value} (h : Blk w b cs) : Blk (w.setRow b ds.toArray) b ds := by
  obtain ⟨t, h⟩ := h
  refine ⟨t, ?_⟩
  simp [World.setRow, Array.getElem?_modify, h]
theorem heap_setRow (w : World) (g k : Nat) (cs : Array Value) (h : k ≠ g) : (w.setRow g cs).heap[k]? = w.heap[k]? := by
  have h' : ¬ g = k := fun e => h e.symm
  simp [World.setRow, Array.getElem?_modify, h']
theorem Blk.otherRow (h : Blk w b cs) {g : Nat} (hp : b ≠ g) (ds : Array Value) : Blk (w.setRow g ds) b cs := by
  obtain ⟨t, h⟩ := h; exact ⟨t, by rw [heap_setRow w g b ds hp]; exact h⟩
theorem below_setRow {a : World} (h : Below B a w) {g : Nat} (hg : B ≤ g) (ds : Array Value) : Below B a (w.setRow g ds) :=
  ⟨h.os, h.tape, h.output, by have := h.size; simpa [World.setRow] using this, fun k hk => by rw [heap_setRow w g k ds (by omega)]; exact h.block k hk⟩
theorem below_drewN {a : World} (h : Below B a w) (n : Nat) : Below B a (w.drewN n) := ⟨h.os, h.tape, h.output, h.size, h.block⟩
theorem Blk.set (h : Blk w b cs) (i : Nat) (v : Value) : Blk (w.setCell ⟨b, i, none⟩ v) b (cs.set i v) := by
  obtain ⟨t, h⟩ := h
  refine ⟨t, ?_⟩
  have hl := (Array.getElem?_eq_some_iff.1 h).1
  simp [World.setCell, Array.getElem?_modify, h]
end
end Go.Proofs.Ytlapnnkahijikaa
namespace Go.Proofs.Ytlapnnkahijikaa

/-- Word i of a block of bytes. -/
def wordAt (p : List (BitVec 8)) (i : Nat) : BitVec 32 :=
  word (p.getD (4 * i) 0) (p.getD (4 * i + 1) 0) (p.getD (4 * i + 2) 0) (p.getD (4 * i + 3) 0)
def wordsOf (p : List (BitVec 8)) : Nat → List (BitVec 32)
  | 0 => []
  | k + 1 => wordsOf p k ++ [wordAt p k]
/-- The schedule's first 16 + k words. -/
def sched (p : List (BitVec 8)) : Nat → List (BitVec 32)
  | 0 => wordsOf p 16
  | k + 1 => sched p k ++ [((s1 ((sched p k).getD (k + 14) 0) + (sched p k).getD (k + 9) 0) + s0 ((sched p k).getD (k + 1) 0)) + (sched p k).getD k 0]

theorem wordsOf_length (p : List (BitVec 8)) : ∀ k, (wordsOf p k).length = k
  | 0 => rfl
  | k + 1 => by simp [wordsOf, wordsOf_length p k]
theorem sched_length (p : List (BitVec 8)) : ∀ k, (sched p k).length = 16 + k
  | 0 => wordsOf_length p 16
  | k + 1 => by simp [sched, sched_length p k]; omega
theorem wordsOf_get (p : List (BitVec 8)) : ∀ k i, i < k → (wordsOf p k).getD i 0 = wordAt p i
  | k + 1, i, h => by
    by_cases hi : i < k
    · rw [wordsOf, List.getD_eq_getElem?_getD, List.getElem?_append_left (by rw [wordsOf_length]; exact hi), ← List.getD_eq_getElem?_getD]
      exact wordsOf_get p k i hi
    · obtain rfl : i = k := by omega
      rw [wordsOf, List.getD_eq_getElem?_getD, List.getElem?_append_right (by rw [wordsOf_length]; exact Nat.le_refl _), wordsOf_length]
      simp
theorem sched_step (p : List (BitVec 8)) (k i : Nat) (h : i < 16 + k) : (sched p (k + 1)).getD i 0 = (sched p k).getD i 0 := by
  rw [sched, List.getD_eq_getElem?_getD, List.getElem?_append_left (by rw [sched_length]; exact h), ← List.getD_eq_getElem?_getD]
theorem sched_stays (p : List (BitVec 8)) (k i : Nat) (h : i < 16 + k) : ∀ d, (sched p (k + d)).getD i 0 = (sched p k).getD i 0
  | 0 => rfl
  | d + 1 => by rw [← Nat.add_assoc, sched_step p (k + d) i (by omega)]; exact sched_stays p k i h d
/-- The schedule's word t. -/
def W (p : List (BitVec 8)) (t : Nat) : BitVec 32 := (sched p 48).getD t 0
theorem W_of (p : List (BitVec 8)) (k t : Nat) (hk : k ≤ 48) (h : t < 16 + k) : (sched p k).getD t 0 = W p t := by
  have := sched_stays p k t h (48 - k)
  rw [show k + (48 - k) = 48 by omega] at this
  exact this.symm
theorem W_first (p : List (BitVec 8)) (t : Nat) (h : t < 16) : W p t = wordAt p t := by
  rw [← W_of p 0 t (by omega) (by omega)]; exact wordsOf_get p 16 t h
theorem W_next (p : List (BitVec 8)) (k : Nat) (h : k < 48) : W p (k + 16) = ((s1 (W p (k + 14)) + W p (k + 9)) + s0 (W p (k + 1))) + W p k := by
  rw [← W_of p (k + 1) (k + 16) (by omega) (by omega), sched]
  rw [List.getD_eq_getElem?_getD, List.getElem?_append_right (by rw [sched_length]; omega), sched_length]
  rw [show k + 16 - (16 + k) = 0 by omega]
  rw [W_of p k (k + 14) (by omega) (by omega), W_of p k (k + 9) (by omega) (by omega), W_of p k (k + 1) (by omega) (by omega), W_of p k k (by omega) (by omega)]
  simp

/-- A state of eight words. -/
structure St where
  (a b c d e f g h : BitVec 32)
def St.list (s : St) : List (BitVec 32) := [s.a, s.b, s.c, s.d, s.e, s.f, s.g, s.h]
def t1 (s : St) (k w : BitVec 32) : BitVec 32 := (((s.h + S1 s.e) + Ch s.e s.f s.g) + k) + w
def step (s : St) (k w : BitVec 32) : St :=
  ⟨(t1 s k w + S0 s.a) + Maj s.a s.b s.c, s.a, s.b, s.c, s.d + t1 s k w, s.e, s.f, s.g⟩
def St.add (s t : St) : St := ⟨s.a + t.a, s.b + t.b, s.c + t.c, s.d + t.d, s.e + t.e, s.f + t.f, s.g + t.g, s.h + t.h⟩

/-- The round words (FIPS 180-4, 4.2.2). -/
def Ks : List (BitVec 32) := [
  0x428a2f98#32, 0x71374491#32, 0xb5c0fbcf#32, 0xe9b5dba5#32, 0x3956c25b#32, 0x59f111f1#32, 0x923f82a4#32, 0xab1c5ed5#32,
  0xd807aa98#32, 0x12835b01#32, 0x243185be#32, 0x550c7dc3#32, 0x72be5d74#32, 0x80deb1fe#32, 0x9bdc06a7#32, 0xc19bf174#32,
  0xe49b69c1#32, 0xefbe4786#32, 0x0fc19dc6#32, 0x240ca1cc#32, 0x2de92c6f#32, 0x4a7484aa#32, 0x5cb0a9dc#32, 0x76f988da#32,
  0x983e5152#32, 0xa831c66d#32, 0xb00327c8#32, 0xbf597fc7#32, 0xc6e00bf3#32, 0xd5a79147#32, 0x06ca6351#32, 0x14292967#32,
  0x27b70a85#32, 0x2e1b2138#32, 0x4d2c6dfc#32, 0x53380d13#32, 0x650a7354#32, 0x766a0abb#32, 0x81c2c92e#32, 0x92722c85#32,
  0xa2bfe8a1#32, 0xa81a664b#32, 0xc24b8b70#32, 0xc76c51a3#32, 0xd192e819#32, 0xd6990624#32, 0xf40e3585#32, 0x106aa070#32,
  0x19a4c116#32, 0x1e376c08#32, 0x2748774c#32, 0x34b0bcb5#32, 0x391c0cb3#32, 0x4ed8aa4a#32, 0x5b9cca4f#32, 0x682e6ff3#32,
  0x748f82ee#32, 0x78a5636f#32, 0x84c87814#32, 0x8cc70208#32, 0x90befffa#32, 0xa4506ceb#32, 0xbef9a3f7#32, 0xc67178f2#32]
theorem Ks_length : Ks.length = 64 := rfl

def steps (p : List (BitVec 8)) (s : St) : Nat → St
  | 0 => s
  | t + 1 => step (steps p s t) (Ks.getD t 0) (W p t)
/-- What 64 bytes make of a state. -/
def mix (s : St) (p : List (BitVec 8)) : St := s.add (steps p s 64)

/-- All whole blocks, one behind the other. -/
def mixAll (s : St) (l : List (BitVec 8)) : St :=
  if 64 ≤ l.length then mixAll (mix s (l.take 64)) (l.drop 64) else s
  termination_by l.length
  decreasing_by simp only [List.length_drop]; omega
theorem mixAll_short (s : St) (l : List (BitVec 8)) (h : l.length < 64) : mixAll s l = s := by
  rw [mixAll, if_neg (by omega)]
theorem mixAll_long (s : St) (l : List (BitVec 8)) (h : 64 ≤ l.length) : mixAll s l = mixAll (mix s (l.take 64)) (l.drop 64) := by
  rw [mixAll, if_pos h]
theorem mixAll_block (s : St) (l r : List (BitVec 8)) (h : l.length = 64) : mixAll s (l ++ r) = mixAll (mix s l) r := by
  have h1 : (l ++ r).take 64 = l := by rw [List.take_append_of_le_length (by omega), List.take_of_length_le (by omega)]
  have h2 : (l ++ r).drop 64 = r := by rw [List.drop_append_of_le_length (by omega), List.drop_of_length_le (by omega), List.nil_append]
  rw [mixAll_long s _ (by rw [List.length_append]; omega), h1, h2]

def start : St := ⟨0x6a09e667#32, 0xbb67ae85#32, 0x3c6ef372#32, 0xa54ff53a#32, 0x510e527f#32, 0x9b05688c#32, 0x1f83d9ab#32, 0x5be0cd19#32⟩
/-- The count of bits, in eight bytes. -/
def counted (n : Nat) : List (BitVec 8) := (List.range 8).map fun i => BitVec.ofNat 8 (8 * n / 2 ^ (8 * (7 - i)))
/-- How many noughts close n bytes. -/
def noughts (n : Nat) : Nat := (119 - n % 64) % 64
def closed (l : List (BitVec 8)) : List (BitVec 8) := l ++ [128#8] ++ List.replicate (noughts l.length) 0#8 ++ counted l.length
/-- A state's bytes. -/
def St.bytes (s : St) : List (BitVec 8) := (List.range 32).map fun i => ((s.list.getD (i / 4) 0) >>> (8 * (3 - i % 4))).setWidth 8
def sum (l : List (BitVec 8)) : List (BitVec 8) := (mixAll start (closed l)).bytes
theorem St.bytes_length (s : St) : s.bytes.length = 32 := by simp [St.bytes]
theorem sum_length (l : List (BitVec 8)) : (sum l).length = 32 := St.bytes_length _
end Go.Proofs.Ytlapnnkahijikaa
namespace Go.Proofs.Ytlapnnkahijikaa
open Go.ChangeShapes Go.WideShapes Go.ChangeAt Go.RowKit

def schedJ (p : List (BitVec 8)) (w : World) (N : Nat) (a : Act) (wr : World) : Prop :=
  ∃ (i : Nat), ∃ u : Nat → Value, a = ({ tmps := #[.agg (u8s p).toArray, .pointer (some ⟨N, 0, none⟩), .pointer (some ⟨N + 1, 0, none⟩), .pointer (some ⟨N + 2, 0, none⟩), u 4, .int .i64 (i : Int), u 6, u 7, u 8, u 9, u 10, u 11, u 12, u 13, u 14, u 15, u 16, u 17, u 18, u 19, u 20, u 21, u 22, u 23, u 24, u 25, u 26, u 27, u 28, u 29, u 30, u 31, u 32, u 33, u 34, u 35, u 36, u 37, u 38, u 39, u 40, u 41, u 42, u 43, u 44, u 45, u 46, u 47, u 48, u 49, u 50, u 51, u 52, u 53, u 54, u 55, u 56, u 57, u 58, u 59, u 60, u 61, u 62, u 63, u 64, u 65, u 66, u 67, u 68, u 69, u 70, u 71, u 72, u 73, u 74, u 75, u 76, u 77, u 78, u 79, u 80, u 81, u 82, u 83, u 84, u 85, u 86, u 87, u 88], defers := [] } : Act) ∧ 16 ≤ i ∧ i ≤ 64 ∧ Blk wr (N + 2) (u32s (sched p (i - 16) ++ List.replicate (64 - i) 0)) ∧ Blk wr (N + 1) (u32s (List.replicate 64 0)) ∧ Below N w wr
theorem schedJ_mk (p : List (BitVec 8)) (w : World) (N : Nat) {wr : World} (i : Nat) {u4 u6 u7 u8 u9 u10 u11 u12 u13 u14 u15 u16 u17 u18 u19 u20 u21 u22 u23 u24 u25 u26 u27 u28 u29 u30 u31 u32 u33 u34 u35 u36 u37 u38 u39 u40 u41 u42 u43 u44 u45 u46 u47 u48 u49 u50 u51 u52 u53 u54 u55 u56 u57 u58 u59 u60 u61 u62 u63 u64 u65 u66 u67 u68 u69 u70 u71 u72 u73 u74 u75 u76 u77 u78 u79 u80 u81 u82 u83 u84 u85 u86 u87 u88 : Value} (h : 16 ≤ i ∧ i ≤ 64 ∧ Blk wr (N + 2) (u32s (sched p (i - 16) ++ List.replicate (64 - i) 0)) ∧ Blk wr (N + 1) (u32s (List.replicate 64 0)) ∧ Below N w wr) : schedJ p w N ({ tmps := #[.agg (u8s p).toArray, .pointer (some ⟨N, 0, none⟩), .pointer (some ⟨N + 1, 0, none⟩), .pointer (some ⟨N + 2, 0, none⟩), u4, .int .i64 (i : Int), u6, u7, u8, u9, u10, u11, u12, u13, u14, u15, u16, u17, u18, u19, u20, u21, u22, u23, u24, u25, u26, u27, u28, u29, u30, u31, u32, u33, u34, u35, u36, u37, u38, u39, u40, u41, u42, u43, u44, u45, u46, u47, u48, u49, u50, u51, u52, u53, u54, u55, u56, u57, u58, u59, u60, u61, u62, u63, u64, u65, u66, u67, u68, u69, u70, u71, u72, u73, u74, u75, u76, u77, u78, u79, u80, u81, u82, u83, u84, u85, u86, u87, u88], defers := [] } : Act) wr :=
  ⟨i, fun n => (#[undef, undef, undef, undef, u4, undef, u6, u7, u8, u9, u10, u11, u12, u13, u14, u15, u16, u17, u18, u19, u20, u21, u22, u23, u24, u25, u26, u27, u28, u29, u30, u31, u32, u33, u34, u35, u36, u37, u38, u39, u40, u41, u42, u43, u44, u45, u46, u47, u48, u49, u50, u51, u52, u53, u54, u55, u56, u57, u58, u59, u60, u61, u62, u63, u64, u65, u66, u67, u68, u69, u70, u71, u72, u73, u74, u75, u76, u77, u78, u79, u80, u81, u82, u83, u84, u85, u86, u87, u88] : Array Value).getD n undef, rfl, h⟩

end Go.Proofs.Ytlapnnkahijikaa
namespace Go.Proofs.Ytlapnnkahijikaa
theorem U_add5 (a b c d e : BitVec 32) : (U a + U b + U c + U d + U e) % 4294967296 = U ((((a + b) + c) + d) + e) := by
  unfold U; simp only [BitVec.toNat_add]; omega
theorem U_add6 (a b c d e f : BitVec 32) : (U a + U b + U c + U d + U e + U f) % 4294967296 = U (((((a + b) + c) + d) + e) + f) := by
  unfold U; simp only [BitVec.toNat_add]; omega
end Go.Proofs.Ytlapnnkahijikaa
namespace Go.Proofs.Ytlapnnkahijikaa
open Go.ChangeShapes Go.WideShapes Go.ChangeAt Go.RowKit

def zeros8 : List (BitVec 32) := List.replicate 8 0
def mixJ (s : St) (p : List (BitVec 8)) (w : World) (N : Nat) (a : Act) (wr : World) : Prop :=
  ∃ (i M : Nat) (x0 x1 x2 x3 x4 x5 x6 x7 : BitVec 32), ∃ u : Nat → Value, a = ({ tmps := #[.agg (u32s s.list).toArray, .agg (u8s p).toArray, .pointer (some ⟨N, 0, none⟩), .pointer (some ⟨N + 1, 0, none⟩), .pointer (some ⟨N + 2, 0, none⟩), .pointer (some ⟨M, 0, none⟩), .int .u32 (U x0), .int .u32 (U x1), .int .u32 (U x2), .int .u32 (U x3), .int .u32 (U x4), .int .u32 (U x5), .int .u32 (U x6), .int .u32 (U x7), .int .i64 (i : Int), u 15, u 16, u 17, u 18, u 19, u 20, u 21, u 22, u 23, u 24, u 25, u 26, u 27, u 28, u 29, u 30, u 31, u 32, u 33, u 34, u 35, u 36, u 37, u 38, u 39, u 40, u 41, u 42, u 43, u 44, u 45, u 46, u 47, u 48, u 49, u 50, u 51, u 52, u 53, u 54, u 55, u 56, u 57, u 58, u 59, u 60, u 61, u 62, u 63, u 64, u 65, u 66, u 67, u 68, u 69, u 70, u 71, u 72, u 73, u 74, u 75, u 76, u 77, u 78, u 79, u 80, u 81, u 82, u 83, u 84, u 85, u 86, u 87, u 88, u 89, u 90, u 91, u 92, u 93, u 94, u 95, u 96, u 97, u 98, u 99, u 100, u 101, u 102, u 103, u 104, u 105, u 106, u 107, u 108, u 109, u 110, u 111, u 112, u 113, u 114, u 115, u 116, u 117, u 118, u 119, u 120, u 121, u 122, u 123, u 124, u 125, u 126, u 127, u 128, u 129, u 130, u 131, u 132, u 133, u 134, u 135, u 136], defers := [] } : Act) ∧ i ≤ 64 ∧ N + 2 < M ∧ Blk wr M (u32s (sched p 48)) ∧ Blk wr N (u32s s.list) ∧ Blk wr (N + 2) (u32s zeros8) ∧ Below N w wr ∧ Hid (St.mk x0 x1 x2 x3 x4 x5 x6 x7 = steps p s i)
theorem mixJ_mk (s : St) (p : List (BitVec 8)) (w : World) (N : Nat) {wr : World} (i M : Nat) (x0 x1 x2 x3 x4 x5 x6 x7 : BitVec 32) {u15 u16 u17 u18 u19 u20 u21 u22 u23 u24 u25 u26 u27 u28 u29 u30 u31 u32 u33 u34 u35 u36 u37 u38 u39 u40 u41 u42 u43 u44 u45 u46 u47 u48 u49 u50 u51 u52 u53 u54 u55 u56 u57 u58 u59 u60 u61 u62 u63 u64 u65 u66 u67 u68 u69 u70 u71 u72 u73 u74 u75 u76 u77 u78 u79 u80 u81 u82 u83 u84 u85 u86 u87 u88 u89 u90 u91 u92 u93 u94 u95 u96 u97 u98 u99 u100 u101 u102 u103 u104 u105 u106 u107 u108 u109 u110 u111 u112 u113 u114 u115 u116 u117 u118 u119 u120 u121 u122 u123 u124 u125 u126 u127 u128 u129 u130 u131 u132 u133 u134 u135 u136 : Value} (h : i ≤ 64 ∧ N + 2 < M ∧ Blk wr M (u32s (sched p 48)) ∧ Blk wr N (u32s s.list) ∧ Blk wr (N + 2) (u32s zeros8) ∧ Below N w wr ∧ Hid (St.mk x0 x1 x2 x3 x4 x5 x6 x7 = steps p s i)) : mixJ s p w N ({ tmps := #[.agg (u32s s.list).toArray, .agg (u8s p).toArray, .pointer (some ⟨N, 0, none⟩), .pointer (some ⟨N + 1, 0, none⟩), .pointer (some ⟨N + 2, 0, none⟩), .pointer (some ⟨M, 0, none⟩), .int .u32 (U x0), .int .u32 (U x1), .int .u32 (U x2), .int .u32 (U x3), .int .u32 (U x4), .int .u32 (U x5), .int .u32 (U x6), .int .u32 (U x7), .int .i64 (i : Int), u15, u16, u17, u18, u19, u20, u21, u22, u23, u24, u25, u26, u27, u28, u29, u30, u31, u32, u33, u34, u35, u36, u37, u38, u39, u40, u41, u42, u43, u44, u45, u46, u47, u48, u49, u50, u51, u52, u53, u54, u55, u56, u57, u58, u59, u60, u61, u62, u63, u64, u65, u66, u67, u68, u69, u70, u71, u72, u73, u74, u75, u76, u77, u78, u79, u80, u81, u82, u83, u84, u85, u86, u87, u88, u89, u90, u91, u92, u93, u94, u95, u96, u97, u98, u99, u100, u101, u102, u103, u104, u105, u106, u107, u108, u109, u110, u111, u112, u113, u114, u115, u116, u117, u118, u119, u120, u121, u122, u123, u124, u125, u126, u127, u128, u129, u130, u131, u132, u133, u134, u135, u136], defers := [] } : Act) wr :=
  ⟨i, M, x0, x1, x2, x3, x4, x5, x6, x7, fun n => (#[undef, undef, undef, undef, undef, undef, undef, undef, undef, undef, undef, undef, undef, undef, undef, u15, u16, u17, u18, u19, u20, u21, u22, u23, u24, u25, u26, u27, u28, u29, u30, u31, u32, u33, u34, u35, u36, u37, u38, u39, u40, u41, u42, u43, u44, u45, u46, u47, u48, u49, u50, u51, u52, u53, u54, u55, u56, u57, u58, u59, u60, u61, u62, u63, u64, u65, u66, u67, u68, u69, u70, u71, u72, u73, u74, u75, u76, u77, u78, u79, u80, u81, u82, u83, u84, u85, u86, u87, u88, u89, u90, u91, u92, u93, u94, u95, u96, u97, u98, u99, u100, u101, u102, u103, u104, u105, u106, u107, u108, u109, u110, u111, u112, u113, u114, u115, u116, u117, u118, u119, u120, u121, u122, u123, u124, u125, u126, u127, u128, u129, u130, u131, u132, u133, u134, u135, u136] : Array Value).getD n undef, rfl, h⟩

end Go.Proofs.Ytlapnnkahijikaa
