/-
  DERIVED. GIVEN WITH THE SEED: THE CARDS: each row of YtmlkhhhjdpbhfaaDoorRows.lean that lists a variable, with what it lists TIED to the program's text (the seventh form; the later family's looks); each row that meets fmt, with fmt's text TOLD by the authors' own Lean function (tested against real Go, not proved from fmt's source: count such statements apart). THE CARD IS WHAT COUNTS. Prove the row's statement (the work); the ties are given (YtmlkhhhjdpbhfaaDoorTie.lean); close each card by the builder's one call (the guide's Derived/Test/ToyasCard.lean, 'card_holds'). Laid BY PROGRAM, IN A SANDBOX (cutbox-door.mjs). By AI agents, Wed Nov 11 2026. No macro, syntax, notation, axiom, sorry.
-/
import Derived.Test.YtmlkhhhjdpbhfaaDoorRows
import GoSem.ClaimSeven
namespace Go.Proofs.YtmlkhhhjdpbhfaaDoor
namespace Rows

/-- THE TIED CARD OF 'presslaw.Checks'. -/
def checksCard : Claim7 := { stood := { row := checksRow, standIns := [], harness := (true, "392ec33597a1933f614d4cff5fd19693c3bc01fc3e1223f29e14dae28e5891de"), looks := false }, kinds := [], alts := [], laidByText := true, laidKinds := [.data], laidTests := true, laidLooks := .later }
def ChecksCardSaid : Prop := Claim7.holds Tryd.pinned (.plain (OpenSpec.ofChange checksSpec)) checksCard

/-- THE TIED CARD OF 'presslaw.Packs'. -/
def packsCard : Claim7 := { stood := { row := packsRow, standIns := [], harness := (true, "392ec33597a1933f614d4cff5fd19693c3bc01fc3e1223f29e14dae28e5891de"), looks := false }, kinds := [], alts := [], laidByText := true, laidKinds := [.data, .pinned], laidTests := true, laidLooks := .later }
def PacksCardSaid : Prop := Claim7.holds Tryd.pinned (.plain (OpenSpec.ofChange packsSpec)) packsCard

/-- THE TIED CARD OF 'presskeep.Named'. -/
def namedCard : Claim7 := { stood := { row := namedRow, standIns := [], harness := (true, "392ec33597a1933f614d4cff5fd19693c3bc01fc3e1223f29e14dae28e5891de"), looks := false }, kinds := [], alts := [], laidByText := true, laidKinds := [.data, .pinned], laidTests := true, laidLooks := .later }
def NamedCardSaid : Prop := Claim7.holds Tryd.pinned (.plain (OpenSpec.ofChange namedSpec)) namedCard

/-- THE TIED CARD OF 'presskeep.Cut'. -/
def cutCard : Claim7 := { stood := { row := cutRow, standIns := [], harness := (true, "392ec33597a1933f614d4cff5fd19693c3bc01fc3e1223f29e14dae28e5891de"), looks := false }, kinds := [], alts := [], laidByText := true, laidKinds := [.data, .pinned], laidTests := true, laidLooks := .later }
def CutCardSaid : Prop := Claim7.holds Tryd.pinned (.plain (OpenSpec.ofChange cutSpec)) cutCard

/-- THE SECOND FORM's CARD OF 'presslaw.Checks'. -/
def checksUptoCard : Claim7 := { stood := { row := checksUptoRow, standIns := [], harness := (true, "392ec33597a1933f614d4cff5fd19693c3bc01fc3e1223f29e14dae28e5891de"), looks := false }, kinds := [], alts := [], laidByText := true, laidKinds := [.data], laidTests := true, laidLooks := .later }
def ChecksUptoCardSaid : Prop := Claim7.holds Tryd.pinned (.plain (OpenSpec.upto checksSpec)) checksUptoCard

/-- THE SECOND FORM's CARD OF 'presslaw.Packs'. -/
def packsUptoCard : Claim7 := { stood := { row := packsUptoRow, standIns := [], harness := (true, "392ec33597a1933f614d4cff5fd19693c3bc01fc3e1223f29e14dae28e5891de"), looks := false }, kinds := [], alts := [], laidByText := true, laidKinds := [.data, .pinned], laidTests := true, laidLooks := .later }
def PacksUptoCardSaid : Prop := Claim7.holds Tryd.pinned (.plain (OpenSpec.upto packsSpec)) packsUptoCard

/-- THE SECOND FORM's CARD OF 'presskeep.Named'. -/
def namedUptoCard : Claim7 := { stood := { row := namedUptoRow, standIns := [], harness := (true, "392ec33597a1933f614d4cff5fd19693c3bc01fc3e1223f29e14dae28e5891de"), looks := false }, kinds := [], alts := [], laidByText := true, laidKinds := [.data, .pinned], laidTests := true, laidLooks := .later }
def NamedUptoCardSaid : Prop := Claim7.holds Tryd.pinned (.plain (OpenSpec.upto namedSpec)) namedUptoCard

/-- THE SECOND FORM's CARD OF 'presskeep.Cut'. -/
def cutUptoCard : Claim7 := { stood := { row := cutUptoRow, standIns := [], harness := (true, "392ec33597a1933f614d4cff5fd19693c3bc01fc3e1223f29e14dae28e5891de"), looks := false }, kinds := [], alts := [], laidByText := true, laidKinds := [.data, .pinned], laidTests := true, laidLooks := .later }
def CutUptoCardSaid : Prop := Claim7.holds Tryd.pinned (.plain (OpenSpec.upto cutSpec)) cutUptoCard
end Rows
end Go.Proofs.YtmlkhhhjdpbhfaaDoor
