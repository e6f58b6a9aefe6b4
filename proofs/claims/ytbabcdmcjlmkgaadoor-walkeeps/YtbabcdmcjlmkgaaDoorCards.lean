/-
  DERIVED. GIVEN WITH THE SEED: THE CARDS: each row of YtbabcdmcjlmkgaaDoorRows.lean that lists a variable, with what it lists TIED to the program's text (the seventh form; the later family's looks); each row that meets fmt, with fmt's text TOLD by the authors' own Lean function (tested against real Go, not proved from fmt's source: count such statements apart). THE CARD IS WHAT COUNTS. Prove the row's statement (the work); the ties are given (YtbabcdmcjlmkgaaDoorTie.lean); close each card by the builder's one call (the guide's Derived/Test/ToyasCard.lean, 'card_holds'). Laid BY PROGRAM, IN A SANDBOX (cutbox-door.mjs). By AI agents, Wed Nov 11 2026. No macro, syntax, notation, axiom, sorry.
-/
import Derived.Test.YtbabcdmcjlmkgaaDoorRows
import GoSem.ClaimSeven
namespace Go.Proofs.YtbabcdmcjlmkgaaDoor
namespace Rows

/-- THE TIED CARD OF 'coraclelaw8.WalTurns'. -/
def walTurnsCard : Claim7 := { stood := { row := walTurnsRow, standIns := [], harness := (true, "02238fb19e371699a92a5f10605e5d9b49794ba89df560fd2826efe9e45aaa18"), looks := false }, kinds := [], alts := [], laidByText := true, laidKinds := [.data], laidTests := true, laidLooks := .later }
def WalTurnsCardSaid : Prop := Claim7.holds Tryd.pinned (.plain (OpenSpec.ofChange walTurnsSpec)) walTurnsCard

/-- THE TIED CARD OF 'coraclelaw8.WalCrash'. -/
def walCrashCard : Claim7 := { stood := { row := walCrashRow, standIns := [], harness := (true, "02238fb19e371699a92a5f10605e5d9b49794ba89df560fd2826efe9e45aaa18"), looks := false }, kinds := [], alts := [], laidByText := true, laidKinds := [.data], laidTests := true, laidLooks := .later }
def WalCrashCardSaid : Prop := Claim7.holds Tryd.pinned (.plain (OpenSpec.ofChange walCrashSpec)) walCrashCard

/-- THE TIED CARD OF 'coraclelaw8.WalKeeps'. -/
def walKeepsCard : Claim7 := { stood := { row := walKeepsRow, standIns := [], harness := (true, "02238fb19e371699a92a5f10605e5d9b49794ba89df560fd2826efe9e45aaa18"), looks := false }, kinds := [], alts := [], laidByText := true, laidKinds := [.data], laidTests := true, laidLooks := .later }
def WalKeepsCardSaid : Prop := Claim7.holds Tryd.pinned (.plain (OpenSpec.ofChange walKeepsSpec)) walKeepsCard

/-- THE TIED CARD OF 'coraclelaw8.WalReset'. -/
def walResetCard : Claim7 := { stood := { row := walResetRow, standIns := [], harness := (true, "02238fb19e371699a92a5f10605e5d9b49794ba89df560fd2826efe9e45aaa18"), looks := false }, kinds := [], alts := [], laidByText := true, laidKinds := [.data], laidTests := true, laidLooks := .later }
def WalResetCardSaid : Prop := Claim7.holds Tryd.pinned (.plain (OpenSpec.ofChange walResetSpec)) walResetCard

/-- THE SECOND FORM's CARD OF 'coraclelaw8.WalTurns'. -/
def walTurnsUptoCard : Claim7 := { stood := { row := walTurnsUptoRow, standIns := [], harness := (true, "02238fb19e371699a92a5f10605e5d9b49794ba89df560fd2826efe9e45aaa18"), looks := false }, kinds := [], alts := [], laidByText := true, laidKinds := [.data], laidTests := true, laidLooks := .later }
def WalTurnsUptoCardSaid : Prop := Claim7.holds Tryd.pinned (.plain (OpenSpec.upto walTurnsSpec)) walTurnsUptoCard

/-- THE SECOND FORM's CARD OF 'coraclelaw8.WalCrash'. -/
def walCrashUptoCard : Claim7 := { stood := { row := walCrashUptoRow, standIns := [], harness := (true, "02238fb19e371699a92a5f10605e5d9b49794ba89df560fd2826efe9e45aaa18"), looks := false }, kinds := [], alts := [], laidByText := true, laidKinds := [.data], laidTests := true, laidLooks := .later }
def WalCrashUptoCardSaid : Prop := Claim7.holds Tryd.pinned (.plain (OpenSpec.upto walCrashSpec)) walCrashUptoCard

/-- THE SECOND FORM's CARD OF 'coraclelaw8.WalKeeps'. -/
def walKeepsUptoCard : Claim7 := { stood := { row := walKeepsUptoRow, standIns := [], harness := (true, "02238fb19e371699a92a5f10605e5d9b49794ba89df560fd2826efe9e45aaa18"), looks := false }, kinds := [], alts := [], laidByText := true, laidKinds := [.data], laidTests := true, laidLooks := .later }
def WalKeepsUptoCardSaid : Prop := Claim7.holds Tryd.pinned (.plain (OpenSpec.upto walKeepsSpec)) walKeepsUptoCard

/-- THE SECOND FORM's CARD OF 'coraclelaw8.WalReset'. -/
def walResetUptoCard : Claim7 := { stood := { row := walResetUptoRow, standIns := [], harness := (true, "02238fb19e371699a92a5f10605e5d9b49794ba89df560fd2826efe9e45aaa18"), looks := false }, kinds := [], alts := [], laidByText := true, laidKinds := [.data], laidTests := true, laidLooks := .later }
def WalResetUptoCardSaid : Prop := Claim7.holds Tryd.pinned (.plain (OpenSpec.upto walResetSpec)) walResetUptoCard
end Rows
end Go.Proofs.YtbabcdmcjlmkgaaDoor
