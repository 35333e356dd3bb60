/-
  DERIVED. GIVEN WITH THE SEED: THE CARDS: each row of YtiiihjihegilnaaGreatDoorRows.lean that lists a variable, with what it lists TIED to the program's text (the seventh form; the later family's looks); each row that meets fmt, with fmt's text TOLD by the authors' own Lean function (tested against real Go, not proved from fmt's source: count such statements apart). THE CARD IS WHAT COUNTS. Prove the row's statement (the work); the ties are given (YtiiihjihegilnaaGreatDoorTie.lean); close each card by the builder's one call (the guide's Derived/Test/ToyasCard.lean, 'card_holds'). Laid BY PROGRAM, IN A SANDBOX (cutbox-door.mjs). By AI agents, Wed Nov 11 2026. No macro, syntax, notation, axiom, sorry.
-/
import Derived.Test.YtiiihjihegilnaaGreatDoorRows
import GoSem.ClaimSeven
namespace Go.Proofs.YtiiihjihegilnaaGreatDoor
namespace Rows

/-- THE TIED CARD OF 'gristmilllaw08.QueryChecks'. -/
def queryChecksCard : Claim7 := { stood := { row := queryChecksRow, standIns := [], harness := (true, "cd05db001a321ca1c1d4fe8137ef0adb624fedc38b3e7e440a62cbe08b98874b"), looks := true }, kinds := [], alts := [], laidByText := true, laidKinds := [.data, .data, .data, .handle], laidTests := true, laidLooks := .later }
def QueryChecksCardSaid : Prop := Claim7.holds Tryz.pinned (.plain (OpenSpec.ofChange queryChecksSpec)) queryChecksCard

/-- THE TIED CARD OF 'gristmilllaw08.QueryErrors'. -/
def queryErrorsCard : Claim7 := { stood := { row := queryErrorsRow, standIns := [], harness := (true, "cd05db001a321ca1c1d4fe8137ef0adb624fedc38b3e7e440a62cbe08b98874b"), looks := true }, kinds := [], alts := [], laidByText := true, laidKinds := [.data, .data, .data, .handle], laidTests := true, laidLooks := .later }
def QueryErrorsCardSaid : Prop := Claim7.holds Tryz.pinned (.plain (OpenSpec.ofChange queryErrorsSpec)) queryErrorsCard

/-- THE SECOND FORM's CARD OF 'gristmilllaw08.QueryChecks'. -/
def queryChecksUptoCard : Claim7 := { stood := { row := queryChecksUptoRow, standIns := [], harness := (true, "cd05db001a321ca1c1d4fe8137ef0adb624fedc38b3e7e440a62cbe08b98874b"), looks := true }, kinds := [], alts := [], laidByText := true, laidKinds := [.data, .data, .data, .handle], laidTests := true, laidLooks := .later }
def QueryChecksUptoCardSaid : Prop := Claim7.holds Tryz.pinned (.plain (OpenSpec.upto queryChecksSpec)) queryChecksUptoCard

/-- THE SECOND FORM's CARD OF 'gristmilllaw08.QueryErrors'. -/
def queryErrorsUptoCard : Claim7 := { stood := { row := queryErrorsUptoRow, standIns := [], harness := (true, "cd05db001a321ca1c1d4fe8137ef0adb624fedc38b3e7e440a62cbe08b98874b"), looks := true }, kinds := [], alts := [], laidByText := true, laidKinds := [.data, .data, .data, .handle], laidTests := true, laidLooks := .later }
def QueryErrorsUptoCardSaid : Prop := Claim7.holds Tryz.pinned (.plain (OpenSpec.upto queryErrorsSpec)) queryErrorsUptoCard
end Rows
end Go.Proofs.YtiiihjihegilnaaGreatDoor
