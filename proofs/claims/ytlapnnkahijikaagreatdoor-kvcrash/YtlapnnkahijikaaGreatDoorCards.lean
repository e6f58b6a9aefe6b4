/-
  DERIVED. GIVEN WITH THE SEED: THE CARDS: each row of YtlapnnkahijikaaGreatDoorRows.lean that lists a variable, with what it lists TIED to the program's text (the seventh form; the later family's looks); each row that meets fmt, with fmt's text TOLD by the authors' own Lean function (tested against real Go, not proved from fmt's source: count such statements apart). THE CARD IS WHAT COUNTS. Prove the row's statement (the work); the ties are given (YtlapnnkahijikaaGreatDoorTie.lean); close each card by the builder's one call (the guide's Derived/Test/ToyasCard.lean, 'card_holds'). Laid BY PROGRAM, IN A SANDBOX (cutbox-door.mjs). By AI agents, Wed Nov 11 2026. No macro, syntax, notation, axiom, sorry.
-/
import Derived.Test.YtlapnnkahijikaaGreatDoorRows
import GoSem.ClaimSeven
namespace Go.Proofs.YtlapnnkahijikaaGreatDoor
namespace Rows

/-- THE TIED CARD OF 'coraclelaw9.KvPlays'. -/
def kvPlaysCard : Claim7 := { stood := { row := kvPlaysRow, standIns := [], harness := (true, "06bc6f7ae0537ec891154056706a5bc421c75c4368cc0b7f5f22fd8e82935b15"), looks := false }, kinds := [], alts := [], laidByText := true, laidKinds := [.data], laidTests := true, laidLooks := .later }
def KvPlaysCardSaid : Prop := Claim7.holds Tryz.pinned (.plain (OpenSpec.ofChange kvPlaysSpec)) kvPlaysCard

/-- THE TIED CARD OF 'coraclelaw9.KvCrash'. -/
def kvCrashCard : Claim7 := { stood := { row := kvCrashRow, standIns := [], harness := (true, "06bc6f7ae0537ec891154056706a5bc421c75c4368cc0b7f5f22fd8e82935b15"), looks := false }, kinds := [], alts := [], laidByText := true, laidKinds := [.data], laidTests := true, laidLooks := .later }
def KvCrashCardSaid : Prop := Claim7.holds Tryz.pinned (.plain (OpenSpec.ofChange kvCrashSpec)) kvCrashCard

/-- THE TIED CARD OF 'coraclelaw9.KvShrinks'. -/
def kvShrinksCard : Claim7 := { stood := { row := kvShrinksRow, standIns := [], harness := (true, "06bc6f7ae0537ec891154056706a5bc421c75c4368cc0b7f5f22fd8e82935b15"), looks := false }, kinds := [], alts := [], laidByText := true, laidKinds := [.data], laidTests := true, laidLooks := .later }
def KvShrinksCardSaid : Prop := Claim7.holds Tryz.pinned (.plain (OpenSpec.ofChange kvShrinksSpec)) kvShrinksCard

/-- THE TIED CARD OF 'coraclelaw9.KvApart'. -/
def kvApartCard : Claim7 := { stood := { row := kvApartRow, standIns := [], harness := (true, "06bc6f7ae0537ec891154056706a5bc421c75c4368cc0b7f5f22fd8e82935b15"), looks := false }, kinds := [], alts := [], laidByText := true, laidKinds := [.data], laidTests := true, laidLooks := .later }
def KvApartCardSaid : Prop := Claim7.holds Tryz.pinned (.plain (OpenSpec.ofChange kvApartSpec)) kvApartCard

/-- THE SECOND FORM's CARD OF 'coraclelaw9.KvPlays'. -/
def kvPlaysUptoCard : Claim7 := { stood := { row := kvPlaysUptoRow, standIns := [], harness := (true, "06bc6f7ae0537ec891154056706a5bc421c75c4368cc0b7f5f22fd8e82935b15"), looks := false }, kinds := [], alts := [], laidByText := true, laidKinds := [.data], laidTests := true, laidLooks := .later }
def KvPlaysUptoCardSaid : Prop := Claim7.holds Tryz.pinned (.plain (OpenSpec.upto kvPlaysSpec)) kvPlaysUptoCard

/-- THE SECOND FORM's CARD OF 'coraclelaw9.KvCrash'. -/
def kvCrashUptoCard : Claim7 := { stood := { row := kvCrashUptoRow, standIns := [], harness := (true, "06bc6f7ae0537ec891154056706a5bc421c75c4368cc0b7f5f22fd8e82935b15"), looks := false }, kinds := [], alts := [], laidByText := true, laidKinds := [.data], laidTests := true, laidLooks := .later }
def KvCrashUptoCardSaid : Prop := Claim7.holds Tryz.pinned (.plain (OpenSpec.upto kvCrashSpec)) kvCrashUptoCard

/-- THE SECOND FORM's CARD OF 'coraclelaw9.KvShrinks'. -/
def kvShrinksUptoCard : Claim7 := { stood := { row := kvShrinksUptoRow, standIns := [], harness := (true, "06bc6f7ae0537ec891154056706a5bc421c75c4368cc0b7f5f22fd8e82935b15"), looks := false }, kinds := [], alts := [], laidByText := true, laidKinds := [.data], laidTests := true, laidLooks := .later }
def KvShrinksUptoCardSaid : Prop := Claim7.holds Tryz.pinned (.plain (OpenSpec.upto kvShrinksSpec)) kvShrinksUptoCard

/-- THE SECOND FORM's CARD OF 'coraclelaw9.KvApart'. -/
def kvApartUptoCard : Claim7 := { stood := { row := kvApartUptoRow, standIns := [], harness := (true, "06bc6f7ae0537ec891154056706a5bc421c75c4368cc0b7f5f22fd8e82935b15"), looks := false }, kinds := [], alts := [], laidByText := true, laidKinds := [.data], laidTests := true, laidLooks := .later }
def KvApartUptoCardSaid : Prop := Claim7.holds Tryz.pinned (.plain (OpenSpec.upto kvApartSpec)) kvApartUptoCard
end Rows
end Go.Proofs.YtlapnnkahijikaaGreatDoor
