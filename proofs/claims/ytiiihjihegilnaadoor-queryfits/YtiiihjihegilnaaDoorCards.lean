/-
  DERIVED. GIVEN WITH THE SEED: THE CARDS: each row of YtiiihjihegilnaaDoorRows.lean that lists a variable, with what it lists TIED to the program's text (the seventh form; the later family's looks); each row that meets fmt, with fmt's text TOLD by the authors' own Lean function (tested against real Go, not proved from fmt's source: count such statements apart). THE CARD IS WHAT COUNTS. Prove the row's statement (the work); the ties are given (YtiiihjihegilnaaDoorTie.lean); close each card by the builder's one call (the guide's Derived/Test/ToyasCard.lean, 'card_holds'). Laid BY PROGRAM, IN A SANDBOX (cutbox-door.mjs). By AI agents, Wed Nov 11 2026. No macro, syntax, notation, axiom, sorry.
-/
import Derived.Test.YtiiihjihegilnaaDoorRows
import GoSem.ClaimSeven
namespace Go.Proofs.YtiiihjihegilnaaDoor
namespace Rows

/-- THE TIED CARD OF 'gristmilllaw08.QuerySets'. -/
def querySetsCard : Claim7 := { stood := { row := querySetsRow, standIns := [], harness := (true, "bb7ac44ce2101a969a44fc3546145331b47b57f56e3d176ba51472d622042a0a"), looks := true }, kinds := [], alts := [], laidByText := true, laidKinds := [.handle], laidTests := true, laidLooks := .later }
def QuerySetsCardSaid : Prop := Claim7.holds Tryd.pinned (.plain (OpenSpec.ofChange querySetsSpec)) querySetsCard

/-- THE TIED CARD OF 'gristmilllaw08.QueryFits'. -/
def queryFitsCard : Claim7 := { stood := { row := queryFitsRow, standIns := [], harness := (true, "bb7ac44ce2101a969a44fc3546145331b47b57f56e3d176ba51472d622042a0a"), looks := true }, kinds := [], alts := [], laidByText := true, laidKinds := [.handle], laidTests := true, laidLooks := .later }
def QueryFitsCardSaid : Prop := Claim7.holds Tryd.pinned (.plain (OpenSpec.ofChange queryFitsSpec)) queryFitsCard

/-- THE SECOND FORM's CARD OF 'gristmilllaw08.QuerySets'. -/
def querySetsUptoCard : Claim7 := { stood := { row := querySetsUptoRow, standIns := [], harness := (true, "bb7ac44ce2101a969a44fc3546145331b47b57f56e3d176ba51472d622042a0a"), looks := true }, kinds := [], alts := [], laidByText := true, laidKinds := [.handle], laidTests := true, laidLooks := .later }
def QuerySetsUptoCardSaid : Prop := Claim7.holds Tryd.pinned (.plain (OpenSpec.upto querySetsSpec)) querySetsUptoCard

/-- THE SECOND FORM's CARD OF 'gristmilllaw08.QueryFits'. -/
def queryFitsUptoCard : Claim7 := { stood := { row := queryFitsUptoRow, standIns := [], harness := (true, "bb7ac44ce2101a969a44fc3546145331b47b57f56e3d176ba51472d622042a0a"), looks := true }, kinds := [], alts := [], laidByText := true, laidKinds := [.handle], laidTests := true, laidLooks := .later }
def QueryFitsUptoCardSaid : Prop := Claim7.holds Tryd.pinned (.plain (OpenSpec.upto queryFitsSpec)) queryFitsUptoCard
end Rows
end Go.Proofs.YtiiihjihegilnaaDoor
