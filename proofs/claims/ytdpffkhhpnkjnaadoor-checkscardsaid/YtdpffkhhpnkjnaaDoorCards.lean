/-
  DERIVED. GIVEN WITH THE SEED: THE CARDS: each row of YtdpffkhhpnkjnaaDoorRows.lean that lists a variable, with what it lists TIED to the program's text (the seventh form; the later family's looks); each row that meets fmt, with fmt's text TOLD by the authors' own Lean function (tested against real Go, not proved from fmt's source: count such statements apart). THE CARD IS WHAT COUNTS. Prove the row's statement (the work); the ties are given (YtdpffkhhpnkjnaaDoorTie.lean); close each card by the builder's one call (the guide's Derived/Test/ToyasCard.lean, 'card_holds'). Laid BY PROGRAM, IN A SANDBOX (cutbox-door.mjs). By AI agents, Wed Nov 11 2026. No macro, syntax, notation, axiom, sorry.
-/
import Derived.Test.YtdpffkhhpnkjnaaDoorRows
import GoSem.ClaimSeven
namespace Go.Proofs.YtdpffkhhpnkjnaaDoor
namespace Rows

/-- THE TIED CARD OF 'presslaw.Checks'. -/
def checksCard : Claim7 := { stood := { row := checksRow, standIns := [], harness := (true, "e1b10042b371462102d5df104ca2abd3cd7b5b55bdf0154fee54934e3af07bec"), looks := true }, kinds := [], alts := [], laidByText := true, laidKinds := [.data], laidTests := true, laidLooks := .later }
def ChecksCardSaid : Prop := Claim7.holds Tryd.pinned (.plain (OpenSpec.ofChange checksSpec)) checksCard

/-- THE TIED CARD OF 'presskeep.Budgeted'. -/
def budgetedCard : Claim7 := { stood := { row := budgetedRow, standIns := [], harness := (true, "e1b10042b371462102d5df104ca2abd3cd7b5b55bdf0154fee54934e3af07bec"), looks := true }, kinds := [], alts := [], laidByText := true, laidKinds := [.data, .data, .data, .data], laidTests := true, laidLooks := .later }
def BudgetedCardSaid : Prop := Claim7.holds Tryd.pinned (.plain (OpenSpec.ofChange budgetedSpec)) budgetedCard

/-- THE SECOND FORM's CARD OF 'presslaw.Checks'. -/
def checksUptoCard : Claim7 := { stood := { row := checksUptoRow, standIns := [], harness := (true, "e1b10042b371462102d5df104ca2abd3cd7b5b55bdf0154fee54934e3af07bec"), looks := true }, kinds := [], alts := [], laidByText := true, laidKinds := [.data], laidTests := true, laidLooks := .later }
def ChecksUptoCardSaid : Prop := Claim7.holds Tryd.pinned (.plain (OpenSpec.upto checksSpec)) checksUptoCard

/-- THE SECOND FORM's CARD OF 'presskeep.Budgeted'. -/
def budgetedUptoCard : Claim7 := { stood := { row := budgetedUptoRow, standIns := [], harness := (true, "e1b10042b371462102d5df104ca2abd3cd7b5b55bdf0154fee54934e3af07bec"), looks := true }, kinds := [], alts := [], laidByText := true, laidKinds := [.data, .data, .data, .data], laidTests := true, laidLooks := .later }
def BudgetedUptoCardSaid : Prop := Claim7.holds Tryd.pinned (.plain (OpenSpec.upto budgetedSpec)) budgetedUptoCard
end Rows
end Go.Proofs.YtdpffkhhpnkjnaaDoor
