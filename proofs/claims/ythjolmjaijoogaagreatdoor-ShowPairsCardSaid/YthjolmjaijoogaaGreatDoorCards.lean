/-
  DERIVED. GIVEN WITH THE SEED: THE CARDS: each row of YthjolmjaijoogaaGreatDoorRows.lean that lists a variable, with what it lists TIED to the program's text (the seventh form; the later family's looks); each row that meets fmt, with fmt's text TOLD by the authors' own Lean function (tested against real Go, not proved from fmt's source: count such statements apart). THE CARD IS WHAT COUNTS. Prove the row's statement (the work); the ties are given (YthjolmjaijoogaaGreatDoorTie.lean); close each card by the builder's one call (the guide's Derived/Test/ToyasCard.lean, 'card_holds'). Laid BY PROGRAM, IN A SANDBOX (cutbox-door.mjs). By AI agents, Wed Nov 11 2026. No macro, syntax, notation, axiom, sorry.
-/
import Derived.Test.YthjolmjaijoogaaGreatDoorRows
import GoSem.ClaimSeven
namespace Go.Proofs.YthjolmjaijoogaaGreatDoor
namespace Rows

/-- THE TIED CARD OF 'smithylaw7.ShowBack'. -/
def showBackCard : Claim7 := { stood := { row := showBackRow, standIns := [], harness := (true, "4e98d2f4f603c26e455ad84a109d330fad9f8e5bb5fe5e07d56bd3f8b1e9eca3"), looks := true }, kinds := [], alts := [], laidByText := true, laidKinds := [.sentinel, .sentinel, .sentinel, .sentinel, .sentinel, .sentinel, .sentinel, .sentinel, .sentinel, .sentinel, .sentinel, .sentinel, .sentinel, .sentinel, .sentinel, .sentinel, .sentinel, .data], laidTests := true, laidLooks := .later }
def ShowBackCardSaid : Prop := Claim7.holds Tryz.pinned (.plain (OpenSpec.ofChange showBackSpec)) showBackCard

/-- THE TIED CARD OF 'smithylaw7.ShowPairs'. -/
def showPairsCard : Claim7 := { stood := { row := showPairsRow, standIns := [], harness := (true, "4e98d2f4f603c26e455ad84a109d330fad9f8e5bb5fe5e07d56bd3f8b1e9eca3"), looks := true }, kinds := [], alts := [], laidByText := true, laidKinds := [.sentinel, .sentinel, .sentinel, .sentinel, .sentinel, .sentinel, .sentinel, .sentinel, .sentinel, .sentinel, .sentinel, .sentinel, .sentinel, .sentinel, .sentinel, .sentinel, .sentinel, .data], laidTests := true, laidLooks := .later }
def ShowPairsCardSaid : Prop := Claim7.holds Tryz.pinned (.plain (OpenSpec.ofChange showPairsSpec)) showPairsCard

/-- THE SECOND FORM's CARD OF 'smithylaw7.ShowBack'. -/
def showBackUptoCard : Claim7 := { stood := { row := showBackUptoRow, standIns := [], harness := (true, "4e98d2f4f603c26e455ad84a109d330fad9f8e5bb5fe5e07d56bd3f8b1e9eca3"), looks := true }, kinds := [], alts := [], laidByText := true, laidKinds := [.sentinel, .sentinel, .sentinel, .sentinel, .sentinel, .sentinel, .sentinel, .sentinel, .sentinel, .sentinel, .sentinel, .sentinel, .sentinel, .sentinel, .sentinel, .sentinel, .sentinel, .data], laidTests := true, laidLooks := .later }
def ShowBackUptoCardSaid : Prop := Claim7.holds Tryz.pinned (.plain (OpenSpec.upto showBackSpec)) showBackUptoCard

/-- THE SECOND FORM's CARD OF 'smithylaw7.ShowPairs'. -/
def showPairsUptoCard : Claim7 := { stood := { row := showPairsUptoRow, standIns := [], harness := (true, "4e98d2f4f603c26e455ad84a109d330fad9f8e5bb5fe5e07d56bd3f8b1e9eca3"), looks := true }, kinds := [], alts := [], laidByText := true, laidKinds := [.sentinel, .sentinel, .sentinel, .sentinel, .sentinel, .sentinel, .sentinel, .sentinel, .sentinel, .sentinel, .sentinel, .sentinel, .sentinel, .sentinel, .sentinel, .sentinel, .sentinel, .data], laidTests := true, laidLooks := .later }
def ShowPairsUptoCardSaid : Prop := Claim7.holds Tryz.pinned (.plain (OpenSpec.upto showPairsSpec)) showPairsUptoCard
end Rows
end Go.Proofs.YthjolmjaijoogaaGreatDoor
