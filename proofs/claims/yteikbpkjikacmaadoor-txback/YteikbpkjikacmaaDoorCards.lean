/-
  DERIVED. GIVEN WITH THE SEED: THE CARDS: each row of YteikbpkjikacmaaDoorRows.lean that lists a variable, with what it lists TIED to the program's text (the seventh form; the later family's looks); each row that meets fmt, with fmt's text TOLD by the authors' own Lean function (tested against real Go, not proved from fmt's source: count such statements apart). THE CARD IS WHAT COUNTS. Prove the row's statement (the work); the ties are given (YteikbpkjikacmaaDoorTie.lean); close each card by the builder's one call (the guide's Derived/Test/ToyasCard.lean, 'card_holds'). Laid BY PROGRAM, IN A SANDBOX (cutbox-door.mjs). By AI agents, Wed Nov 11 2026. No macro, syntax, notation, axiom, sorry.
-/
import Derived.Test.YteikbpkjikacmaaDoorRows
import GoSem.ClaimSeven
namespace Go.Proofs.YteikbpkjikacmaaDoor
namespace Rows

/-- THE TIED CARD OF 'coraclelaw5.TxBack'. -/
def txBackCard : Claim7 := { stood := { row := txBackRow, standIns := [], harness := (true, "68a56362c9455a6217ed5062e5427b8180af380f12521c1a1f8bb9140e0d6383"), looks := false }, kinds := [], alts := [], laidByText := true, laidKinds := [.data], laidTests := true, laidLooks := .later }
def TxBackCardSaid : Prop := Claim7.holds Tryd.pinned (.plain (OpenSpec.ofChange txBackSpec)) txBackCard

/-- THE TIED CARD OF 'coraclelaw5.TxNames'. -/
def txNamesCard : Claim7 := { stood := { row := txNamesRow, standIns := [], harness := (true, "68a56362c9455a6217ed5062e5427b8180af380f12521c1a1f8bb9140e0d6383"), looks := false }, kinds := [], alts := [], laidByText := true, laidKinds := [.data], laidTests := true, laidLooks := .later }
def TxNamesCardSaid : Prop := Claim7.holds Tryd.pinned (.plain (OpenSpec.ofChange txNamesSpec)) txNamesCard

/-- THE TIED CARD OF 'coraclelaw5.TxWeighs'. -/
def txWeighsCard : Claim7 := { stood := { row := txWeighsRow, standIns := [], harness := (true, "68a56362c9455a6217ed5062e5427b8180af380f12521c1a1f8bb9140e0d6383"), looks := false }, kinds := [], alts := [], laidByText := true, laidKinds := [.data], laidTests := true, laidLooks := .later }
def TxWeighsCardSaid : Prop := Claim7.holds Tryd.pinned (.plain (OpenSpec.ofChange txWeighsSpec)) txWeighsCard

/-- THE TIED CARD OF 'coraclelaw5.TxLimits'. -/
def txLimitsCard : Claim7 := { stood := { row := txLimitsRow, standIns := [], harness := (true, "68a56362c9455a6217ed5062e5427b8180af380f12521c1a1f8bb9140e0d6383"), looks := false }, kinds := [], alts := [], laidByText := true, laidKinds := [.data], laidTests := true, laidLooks := .later }
def TxLimitsCardSaid : Prop := Claim7.holds Tryd.pinned (.plain (OpenSpec.ofChange txLimitsSpec)) txLimitsCard

/-- THE TIED CARD OF 'coraclelaw5.TxApart'. -/
def txApartCard : Claim7 := { stood := { row := txApartRow, standIns := [], harness := (true, "68a56362c9455a6217ed5062e5427b8180af380f12521c1a1f8bb9140e0d6383"), looks := false }, kinds := [], alts := [], laidByText := true, laidKinds := [.data], laidTests := true, laidLooks := .later }
def TxApartCardSaid : Prop := Claim7.holds Tryd.pinned (.plain (OpenSpec.ofChange txApartSpec)) txApartCard

/-- THE SECOND FORM's CARD OF 'coraclelaw5.TxBack'. -/
def txBackUptoCard : Claim7 := { stood := { row := txBackUptoRow, standIns := [], harness := (true, "68a56362c9455a6217ed5062e5427b8180af380f12521c1a1f8bb9140e0d6383"), looks := false }, kinds := [], alts := [], laidByText := true, laidKinds := [.data], laidTests := true, laidLooks := .later }
def TxBackUptoCardSaid : Prop := Claim7.holds Tryd.pinned (.plain (OpenSpec.upto txBackSpec)) txBackUptoCard

/-- THE SECOND FORM's CARD OF 'coraclelaw5.TxNames'. -/
def txNamesUptoCard : Claim7 := { stood := { row := txNamesUptoRow, standIns := [], harness := (true, "68a56362c9455a6217ed5062e5427b8180af380f12521c1a1f8bb9140e0d6383"), looks := false }, kinds := [], alts := [], laidByText := true, laidKinds := [.data], laidTests := true, laidLooks := .later }
def TxNamesUptoCardSaid : Prop := Claim7.holds Tryd.pinned (.plain (OpenSpec.upto txNamesSpec)) txNamesUptoCard

/-- THE SECOND FORM's CARD OF 'coraclelaw5.TxWeighs'. -/
def txWeighsUptoCard : Claim7 := { stood := { row := txWeighsUptoRow, standIns := [], harness := (true, "68a56362c9455a6217ed5062e5427b8180af380f12521c1a1f8bb9140e0d6383"), looks := false }, kinds := [], alts := [], laidByText := true, laidKinds := [.data], laidTests := true, laidLooks := .later }
def TxWeighsUptoCardSaid : Prop := Claim7.holds Tryd.pinned (.plain (OpenSpec.upto txWeighsSpec)) txWeighsUptoCard

/-- THE SECOND FORM's CARD OF 'coraclelaw5.TxLimits'. -/
def txLimitsUptoCard : Claim7 := { stood := { row := txLimitsUptoRow, standIns := [], harness := (true, "68a56362c9455a6217ed5062e5427b8180af380f12521c1a1f8bb9140e0d6383"), looks := false }, kinds := [], alts := [], laidByText := true, laidKinds := [.data], laidTests := true, laidLooks := .later }
def TxLimitsUptoCardSaid : Prop := Claim7.holds Tryd.pinned (.plain (OpenSpec.upto txLimitsSpec)) txLimitsUptoCard

/-- THE SECOND FORM's CARD OF 'coraclelaw5.TxApart'. -/
def txApartUptoCard : Claim7 := { stood := { row := txApartUptoRow, standIns := [], harness := (true, "68a56362c9455a6217ed5062e5427b8180af380f12521c1a1f8bb9140e0d6383"), looks := false }, kinds := [], alts := [], laidByText := true, laidKinds := [.data], laidTests := true, laidLooks := .later }
def TxApartUptoCardSaid : Prop := Claim7.holds Tryd.pinned (.plain (OpenSpec.upto txApartSpec)) txApartUptoCard
end Rows
end Go.Proofs.YteikbpkjikacmaaDoor
