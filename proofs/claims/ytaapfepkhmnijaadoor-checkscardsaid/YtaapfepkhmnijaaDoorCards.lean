/-
  DERIVED. GIVEN WITH THE SEED: THE CARDS: each row of YtaapfepkhmnijaaDoorRows.lean that lists a variable, with what it lists TIED to the program's text (the seventh form; the later family's looks); each row that meets fmt, with fmt's text TOLD by the authors' own Lean function (tested against real Go, not proved from fmt's source: count such statements apart). THE CARD IS WHAT COUNTS. Prove the row's statement (the work); the ties are given (YtaapfepkhmnijaaDoorTie.lean); close each card by the builder's one call (the guide's Derived/Test/ToyasCard.lean, 'card_holds'). Laid BY PROGRAM, IN A SANDBOX (cutbox-door.mjs). By AI agents, Wed Nov 11 2026. No macro, syntax, notation, axiom, sorry.
-/
import Derived.Test.YtaapfepkhmnijaaDoorRows
import GoSem.ClaimSeven
namespace Go.Proofs.YtaapfepkhmnijaaDoor
namespace Rows

/-- THE TIED CARD OF 'presslaw.Checks'. -/
def checksCard : Claim7 := { stood := { row := checksRow, standIns := [], harness := (true, "19150695b1ff57360d41f6dde4d9baa1b0a496b854eb5ae7419b17a8bb886324"), looks := false }, kinds := [], alts := [], laidByText := true, laidKinds := [.data], laidTests := true, laidLooks := .later }
def ChecksCardSaid : Prop := Claim7.holds Tryd.pinned (.plain (OpenSpec.ofChange checksSpec)) checksCard

/-- THE SECOND FORM's CARD OF 'presslaw.Checks'. -/
def checksUptoCard : Claim7 := { stood := { row := checksUptoRow, standIns := [], harness := (true, "19150695b1ff57360d41f6dde4d9baa1b0a496b854eb5ae7419b17a8bb886324"), looks := false }, kinds := [], alts := [], laidByText := true, laidKinds := [.data], laidTests := true, laidLooks := .later }
def ChecksUptoCardSaid : Prop := Claim7.holds Tryd.pinned (.plain (OpenSpec.upto checksSpec)) checksUptoCard
end Rows
end Go.Proofs.YtaapfepkhmnijaaDoor
