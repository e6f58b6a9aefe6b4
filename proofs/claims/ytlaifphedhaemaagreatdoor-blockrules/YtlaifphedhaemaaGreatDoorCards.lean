/-
  DERIVED. GIVEN WITH THE SEED: THE CARDS: each row of YtlaifphedhaemaaGreatDoorRows.lean that lists a variable, with what it lists TIED to the program's text (the seventh form; the later family's looks); each row that meets fmt, with fmt's text TOLD by the authors' own Lean function (tested against real Go, not proved from fmt's source: count such statements apart). THE CARD IS WHAT COUNTS. Prove the row's statement (the work); the ties are given (YtlaifphedhaemaaGreatDoorTie.lean); close each card by the builder's one call (the guide's Derived/Test/ToyasCard.lean, 'card_holds'). Laid BY PROGRAM, IN A SANDBOX (cutbox-door.mjs). By AI agents, Wed Nov 11 2026. No macro, syntax, notation, axiom, sorry.
-/
import Derived.Test.YtlaifphedhaemaaGreatDoorRows
import GoSem.ClaimSeven
namespace Go.Proofs.YtlaifphedhaemaaGreatDoor
namespace Rows

/-- THE TIED CARD OF 'coraclelaw6.BlockAsks'. -/
def blockAsksCard : Claim7 := { stood := { row := blockAsksRow, standIns := [], harness := (true, "819bfef8894df81b5ab55618e9ff80d28ce95e0b5728345dc66a22000aeda0c6"), looks := false }, kinds := [], alts := [], laidByText := true, laidKinds := [.data], laidTests := true, laidLooks := .later }
def BlockAsksCardSaid : Prop := Claim7.holds Tryz.pinned (.plain (OpenSpec.ofChange blockAsksSpec)) blockAsksCard

/-- THE TIED CARD OF 'coraclelaw6.BlockBack'. -/
def blockBackCard : Claim7 := { stood := { row := blockBackRow, standIns := [], harness := (true, "819bfef8894df81b5ab55618e9ff80d28ce95e0b5728345dc66a22000aeda0c6"), looks := false }, kinds := [], alts := [], laidByText := true, laidKinds := [.data], laidTests := true, laidLooks := .later }
def BlockBackCardSaid : Prop := Claim7.holds Tryz.pinned (.plain (OpenSpec.ofChange blockBackSpec)) blockBackCard

/-- THE TIED CARD OF 'coraclelaw6.BlockRoots'. -/
def blockRootsCard : Claim7 := { stood := { row := blockRootsRow, standIns := [], harness := (true, "819bfef8894df81b5ab55618e9ff80d28ce95e0b5728345dc66a22000aeda0c6"), looks := false }, kinds := [], alts := [], laidByText := true, laidKinds := [.data], laidTests := true, laidLooks := .later }
def BlockRootsCardSaid : Prop := Claim7.holds Tryz.pinned (.plain (OpenSpec.ofChange blockRootsSpec)) blockRootsCard

/-- THE TIED CARD OF 'coraclelaw6.BlockRules'. -/
def blockRulesCard : Claim7 := { stood := { row := blockRulesRow, standIns := [], harness := (true, "819bfef8894df81b5ab55618e9ff80d28ce95e0b5728345dc66a22000aeda0c6"), looks := false }, kinds := [], alts := [], laidByText := true, laidKinds := [.data], laidTests := true, laidLooks := .later }
def BlockRulesCardSaid : Prop := Claim7.holds Tryz.pinned (.plain (OpenSpec.ofChange blockRulesSpec)) blockRulesCard

/-- THE SECOND FORM's CARD OF 'coraclelaw6.BlockAsks'. -/
def blockAsksUptoCard : Claim7 := { stood := { row := blockAsksUptoRow, standIns := [], harness := (true, "819bfef8894df81b5ab55618e9ff80d28ce95e0b5728345dc66a22000aeda0c6"), looks := false }, kinds := [], alts := [], laidByText := true, laidKinds := [.data], laidTests := true, laidLooks := .later }
def BlockAsksUptoCardSaid : Prop := Claim7.holds Tryz.pinned (.plain (OpenSpec.upto blockAsksSpec)) blockAsksUptoCard

/-- THE SECOND FORM's CARD OF 'coraclelaw6.BlockBack'. -/
def blockBackUptoCard : Claim7 := { stood := { row := blockBackUptoRow, standIns := [], harness := (true, "819bfef8894df81b5ab55618e9ff80d28ce95e0b5728345dc66a22000aeda0c6"), looks := false }, kinds := [], alts := [], laidByText := true, laidKinds := [.data], laidTests := true, laidLooks := .later }
def BlockBackUptoCardSaid : Prop := Claim7.holds Tryz.pinned (.plain (OpenSpec.upto blockBackSpec)) blockBackUptoCard

/-- THE SECOND FORM's CARD OF 'coraclelaw6.BlockRoots'. -/
def blockRootsUptoCard : Claim7 := { stood := { row := blockRootsUptoRow, standIns := [], harness := (true, "819bfef8894df81b5ab55618e9ff80d28ce95e0b5728345dc66a22000aeda0c6"), looks := false }, kinds := [], alts := [], laidByText := true, laidKinds := [.data], laidTests := true, laidLooks := .later }
def BlockRootsUptoCardSaid : Prop := Claim7.holds Tryz.pinned (.plain (OpenSpec.upto blockRootsSpec)) blockRootsUptoCard

/-- THE SECOND FORM's CARD OF 'coraclelaw6.BlockRules'. -/
def blockRulesUptoCard : Claim7 := { stood := { row := blockRulesUptoRow, standIns := [], harness := (true, "819bfef8894df81b5ab55618e9ff80d28ce95e0b5728345dc66a22000aeda0c6"), looks := false }, kinds := [], alts := [], laidByText := true, laidKinds := [.data], laidTests := true, laidLooks := .later }
def BlockRulesUptoCardSaid : Prop := Claim7.holds Tryz.pinned (.plain (OpenSpec.upto blockRulesSpec)) blockRulesUptoCard
end Rows
end Go.Proofs.YtlaifphedhaemaaGreatDoor
