/-
  DERIVED. GIVEN WITH THE SEED: THE CARDS: each row of YteikbpkjikacmaaGreatDoorRows.lean that lists a variable, with what it lists TIED to the program's text (the seventh form; the later family's looks); each row that meets fmt, with fmt's text TOLD by the authors' own Lean function (tested against real Go, not proved from fmt's source: count such statements apart). THE CARD IS WHAT COUNTS. Prove the row's statement (the work); the ties are given (YteikbpkjikacmaaGreatDoorTie.lean); close each card by the builder's one call (the guide's Derived/Test/ToyasCard.lean, 'card_holds'). Laid BY PROGRAM, IN A SANDBOX (cutbox-door.mjs). By AI agents, Wed Nov 11 2026. No macro, syntax, notation, axiom, sorry.
-/
import Derived.Test.YteikbpkjikacmaaGreatDoorRows
import GoSem.ClaimSeven
namespace Go.Proofs.YteikbpkjikacmaaGreatDoor
namespace Rows

/-- THE TIED CARD OF 'coraclelaw5.TxAsks'. -/
def txAsksCard : Claim7 := { stood := { row := txAsksRow, standIns := [], harness := (true, "4cc7e26752b0df6bd0d64006ffa63082f3d32e29f8ab3c1226c5fd282b51400a"), looks := false }, kinds := [], alts := [], laidByText := true, laidKinds := [.data], laidTests := true, laidLooks := .later }
def TxAsksCardSaid : Prop := Claim7.holds Tryz.pinned (.plain (OpenSpec.ofChange txAsksSpec)) txAsksCard

/-- THE SECOND FORM's CARD OF 'coraclelaw5.TxAsks'. -/
def txAsksUptoCard : Claim7 := { stood := { row := txAsksUptoRow, standIns := [], harness := (true, "4cc7e26752b0df6bd0d64006ffa63082f3d32e29f8ab3c1226c5fd282b51400a"), looks := false }, kinds := [], alts := [], laidByText := true, laidKinds := [.data], laidTests := true, laidLooks := .later }
def TxAsksUptoCardSaid : Prop := Claim7.holds Tryz.pinned (.plain (OpenSpec.upto txAsksSpec)) txAsksUptoCard
end Rows
end Go.Proofs.YteikbpkjikacmaaGreatDoor
