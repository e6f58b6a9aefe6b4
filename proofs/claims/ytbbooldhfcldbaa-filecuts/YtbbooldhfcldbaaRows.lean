/-
  No cell of these rows narrows 'for every input' (looked for: loops, veiled, ifaces, maps, wideKeys, modest, calm, conditions, laid).
  DERIVED. THE GIVEN ROWS OF THIS SEAT. 5 by the template 'for every input the law returns true; each argument reads behind the call as it read before'; 0 by the template 'total and deterministic' (their statements: YtbbooldhfcldbaaTotals.lean).
  GIVEN WITH THE SEED: the statements are not yours to turn. If you find one false, say at which input.
  Laid BY PROGRAM, IN A SANDBOX (cutbox-rows.mjs): the forced cells as the released guide's own fill.sh prints them over the translation 9ba0028c8e36a1da… (all of the seat's roots in one cut). By AI agents, Wed Nov 11 2026. No macro, syntax, notation, axiom, sorry.
-/
import Derived.Test.YtbbooldhfcldbaaChecked
import GoSem.Claim
import GoSem.ClaimJoined
import GoSem.ClaimMapViews
import Derived.JoinedTies
import Derived.KernelRfl
namespace Go.Proofs.Ytbbooldhfcldbaa
/- THE CELL 'sum', in the pinned program and in every row, IS THE sha256 OF THE DUMP (.gsa) THAT YtbbooldhfcldbaaProg.lean LOADS. Nothing in Lean hashes anything: it is a label: what it is worth is what the hold of that sum in a sandbox is worth. -/
noncomputable def Try.pinned : Pinned := { name := "ytbbooldhfcldbaa", sum := "9ba0028c8e36a1dafa22c17f589df85496992dec13618de22ca2357a9a810981", checked := Try.checked }
namespace Rows
def none {H : Type} : Left H := { results := [], args := [] }

/-- 'coraclelaw7.FileDeeds': WHATEVER THE INPUT: true; the input reads as it did. -/
def fileDeedsSpec : ChangeSpec := { name := "fileDeeds", fn := fun _ => fun
  | [d] => { results := [.lit (.bool true)], args := [d] }
  | _ => none }
def fileDeedsRow : OpenClaim := { program := "ytbbooldhfcldbaa", sum := "9ba0028c8e36a1dafa22c17f589df85496992dec13618de22ca2357a9a810981", func := "coracle/coraclelaw7.FileDeeds", spec := "fileDeeds", unfollowed := true, recurses := true, apart := false }
def FileDeedsSaid : Prop := fileDeedsRow.holds Try.pinned (OpenSpec.ofChange fileDeedsSpec)

/-- ITS FALSE NEIGHBOUR: 'it returns false'. Refute it at one input. -/
def fileDeedsWrong : ChangeSpec := { name := "fileDeeds", fn := fun _ => fun
  | [d] => { results := [.lit (.bool false)], args := [d] }
  | _ => none }
def FileDeedsWrongFalsely : Prop := fileDeedsRow.holds Try.pinned (OpenSpec.ofChange fileDeedsWrong)

/-- 'coraclelaw7.FileTorn': WHATEVER THE INPUT: true; the input reads as it did. -/
def fileTornSpec : ChangeSpec := { name := "fileTorn", fn := fun _ => fun
  | [d1, d2, d3, d4] => { results := [.lit (.bool true)], args := [d1, d2, d3, d4] }
  | _ => none }
def fileTornRow : OpenClaim := { program := "ytbbooldhfcldbaa", sum := "9ba0028c8e36a1dafa22c17f589df85496992dec13618de22ca2357a9a810981", func := "coracle/coraclelaw7.FileTorn", spec := "fileTorn", unfollowed := true, recurses := true, apart := false }
def FileTornSaid : Prop := fileTornRow.holds Try.pinned (OpenSpec.ofChange fileTornSpec)

/-- ITS FALSE NEIGHBOUR: 'it returns false'. Refute it at one input. -/
def fileTornWrong : ChangeSpec := { name := "fileTorn", fn := fun _ => fun
  | [d1, d2, d3, d4] => { results := [.lit (.bool false)], args := [d1, d2, d3, d4] }
  | _ => none }
def FileTornWrongFalsely : Prop := fileTornRow.holds Try.pinned (OpenSpec.ofChange fileTornWrong)

/-- 'coraclelaw7.FileSafe': WHATEVER THE INPUT: true; the input reads as it did. -/
def fileSafeSpec : ChangeSpec := { name := "fileSafe", fn := fun _ => fun
  | [d1, d2, d3] => { results := [.lit (.bool true)], args := [d1, d2, d3] }
  | _ => none }
def fileSafeRow : OpenClaim := { program := "ytbbooldhfcldbaa", sum := "9ba0028c8e36a1dafa22c17f589df85496992dec13618de22ca2357a9a810981", func := "coracle/coraclelaw7.FileSafe", spec := "fileSafe", unfollowed := true, recurses := true, apart := false }
def FileSafeSaid : Prop := fileSafeRow.holds Try.pinned (OpenSpec.ofChange fileSafeSpec)

/-- ITS FALSE NEIGHBOUR: 'it returns false'. Refute it at one input. -/
def fileSafeWrong : ChangeSpec := { name := "fileSafe", fn := fun _ => fun
  | [d1, d2, d3] => { results := [.lit (.bool false)], args := [d1, d2, d3] }
  | _ => none }
def FileSafeWrongFalsely : Prop := fileSafeRow.holds Try.pinned (OpenSpec.ofChange fileSafeWrong)

/-- 'coraclelaw7.FileCuts': WHATEVER THE INPUT: true; the input reads as it did. -/
def fileCutsSpec : ChangeSpec := { name := "fileCuts", fn := fun _ => fun
  | [d1, d2] => { results := [.lit (.bool true)], args := [d1, d2] }
  | _ => none }
def fileCutsRow : OpenClaim := { program := "ytbbooldhfcldbaa", sum := "9ba0028c8e36a1dafa22c17f589df85496992dec13618de22ca2357a9a810981", func := "coracle/coraclelaw7.FileCuts", spec := "fileCuts", unfollowed := true, recurses := true, apart := false }
def FileCutsSaid : Prop := fileCutsRow.holds Try.pinned (OpenSpec.ofChange fileCutsSpec)

/-- ITS FALSE NEIGHBOUR: 'it returns false'. Refute it at one input. -/
def fileCutsWrong : ChangeSpec := { name := "fileCuts", fn := fun _ => fun
  | [d1, d2] => { results := [.lit (.bool false)], args := [d1, d2] }
  | _ => none }
def FileCutsWrongFalsely : Prop := fileCutsRow.holds Try.pinned (OpenSpec.ofChange fileCutsWrong)

/-- 'coraclelaw7.FileNames': WHATEVER THE INPUT: true; the input reads as it did. -/
def fileNamesSpec : ChangeSpec := { name := "fileNames", fn := fun _ => fun
  | [d1, d2, d3] => { results := [.lit (.bool true)], args := [d1, d2, d3] }
  | _ => none }
def fileNamesRow : OpenClaim := { program := "ytbbooldhfcldbaa", sum := "9ba0028c8e36a1dafa22c17f589df85496992dec13618de22ca2357a9a810981", func := "coracle/coraclelaw7.FileNames", spec := "fileNames", unfollowed := true, recurses := true, apart := false }
def FileNamesSaid : Prop := fileNamesRow.holds Try.pinned (OpenSpec.ofChange fileNamesSpec)

/-- ITS FALSE NEIGHBOUR: 'it returns false'. Refute it at one input. -/
def fileNamesWrong : ChangeSpec := { name := "fileNames", fn := fun _ => fun
  | [d1, d2, d3] => { results := [.lit (.bool false)], args := [d1, d2, d3] }
  | _ => none }
def FileNamesWrongFalsely : Prop := fileNamesRow.holds Try.pinned (OpenSpec.ofChange fileNamesWrong)

/- THE SECOND FORM. 'bulk': how many values and letters a reading holds, each counted each time it is reached (what is shared counts as often as it is met; a slice's spare places count too). A statement '..UptoSaid' is the law's where the arguments, and the package variables that the reading takes, are together of bulk at most 1048576: NARROWER than '..Said'. Prove '..Said' where nothing that the law and all that it calls make is longer than what came in: it says more and counts as full. Else prove '..UptoSaid'. A law counts once. -/
mutual
def uptoBulk {H : Type} : DataW H → Nat
  | .lit (.string bytes) => bytes.length + 1
  | .lit _ => 1
  | .nil => 1
  | .ptr d => uptoBulk d + 1
  | .slice elems spare => uptoBulkAll elems + uptoBulkAll spare + 1
  | .agg parts => uptoBulkAll parts + 1
  | .iface _ d => uptoBulk d + 1
  | .map entries => uptoBulkEntries entries + 1
  | .held _ => 1
def uptoBulkAll {H : Type} : List (DataW H) → Nat
  | [] => 0
  | d :: r => uptoBulk d + uptoBulkAll r
def uptoBulkEntries {H : Type} : List (Lit × DataW H) → Nat
  | [] => 0
  | x :: r => uptoBulkEntry x + uptoBulkEntries r
def uptoBulkEntry {H : Type} : Lit × DataW H → Nat
  | (.string bytes, d) => bytes.length + uptoBulk d + 1
  | (_, d) => uptoBulk d + 1
 end
def uptoSmall : (H : Type) → List (DataW H) → Bool := fun _ ds => decide (uptoBulkAll ds ≤ 1048576)
def OpenSpec.upto (s : _root_.Go.ChangeSpec) : _root_.Go.OpenSpec := { _root_.Go.OpenSpec.ofChange s with cond := some uptoSmall }

/-- 'coraclelaw7.FileDeeds', WHERE WHAT IT READS IS OF BULK AT MOST 1048576: true; the input reads as it did. -/
def fileDeedsUptoRow : OpenClaim := { program := "ytbbooldhfcldbaa", sum := "9ba0028c8e36a1dafa22c17f589df85496992dec13618de22ca2357a9a810981", func := "coracle/coraclelaw7.FileDeeds", spec := "fileDeeds", unfollowed := true, recurses := true, apart := false, narrowed := true }
def FileDeedsUptoSaid : Prop := fileDeedsUptoRow.holds Try.pinned (OpenSpec.upto fileDeedsSpec)

/-- 'coraclelaw7.FileTorn', WHERE WHAT IT READS IS OF BULK AT MOST 1048576: true; the input reads as it did. -/
def fileTornUptoRow : OpenClaim := { program := "ytbbooldhfcldbaa", sum := "9ba0028c8e36a1dafa22c17f589df85496992dec13618de22ca2357a9a810981", func := "coracle/coraclelaw7.FileTorn", spec := "fileTorn", unfollowed := true, recurses := true, apart := false, narrowed := true }
def FileTornUptoSaid : Prop := fileTornUptoRow.holds Try.pinned (OpenSpec.upto fileTornSpec)

/-- 'coraclelaw7.FileSafe', WHERE WHAT IT READS IS OF BULK AT MOST 1048576: true; the input reads as it did. -/
def fileSafeUptoRow : OpenClaim := { program := "ytbbooldhfcldbaa", sum := "9ba0028c8e36a1dafa22c17f589df85496992dec13618de22ca2357a9a810981", func := "coracle/coraclelaw7.FileSafe", spec := "fileSafe", unfollowed := true, recurses := true, apart := false, narrowed := true }
def FileSafeUptoSaid : Prop := fileSafeUptoRow.holds Try.pinned (OpenSpec.upto fileSafeSpec)

/-- 'coraclelaw7.FileCuts', WHERE WHAT IT READS IS OF BULK AT MOST 1048576: true; the input reads as it did. -/
def fileCutsUptoRow : OpenClaim := { program := "ytbbooldhfcldbaa", sum := "9ba0028c8e36a1dafa22c17f589df85496992dec13618de22ca2357a9a810981", func := "coracle/coraclelaw7.FileCuts", spec := "fileCuts", unfollowed := true, recurses := true, apart := false, narrowed := true }
def FileCutsUptoSaid : Prop := fileCutsUptoRow.holds Try.pinned (OpenSpec.upto fileCutsSpec)

/-- 'coraclelaw7.FileNames', WHERE WHAT IT READS IS OF BULK AT MOST 1048576: true; the input reads as it did. -/
def fileNamesUptoRow : OpenClaim := { program := "ytbbooldhfcldbaa", sum := "9ba0028c8e36a1dafa22c17f589df85496992dec13618de22ca2357a9a810981", func := "coracle/coraclelaw7.FileNames", spec := "fileNames", unfollowed := true, recurses := true, apart := false, narrowed := true }
def FileNamesUptoSaid : Prop := fileNamesUptoRow.holds Try.pinned (OpenSpec.upto fileNamesSpec)

end Rows
end Go.Proofs.Ytbbooldhfcldbaa
