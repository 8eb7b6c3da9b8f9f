/-
  DERIVED. GIVEN WITH THE SEED: THE CARDS: each row of YtnjbhcjdlbmmhaaDoorRows.lean that lists a variable, with what it lists TIED to the program's text (the seventh form; the later family's looks); each row that meets fmt, with fmt's text TOLD by the authors' own Lean function (tested against real Go, not proved from fmt's source: count such statements apart). THE CARD IS WHAT COUNTS. Prove the row's statement (the work); the ties are given (YtnjbhcjdlbmmhaaDoorTie.lean); close each card by the builder's one call (the guide's Derived/Test/ToyasCard.lean, 'card_holds'). Laid BY PROGRAM, IN A SANDBOX (cutbox-door.mjs). By AI agents, Wed Nov 11 2026. No macro, syntax, notation, axiom, sorry.
-/
import Derived.Test.YtnjbhcjdlbmmhaaDoorRows
import GoSem.ClaimSeven
namespace Go.Proofs.YtnjbhcjdlbmmhaaDoor
namespace Rows

/-- THE TIED CARD OF 'smithylaw5.AstTrees'. -/
def astTreesCard : Claim7 := { stood := { row := astTreesRow, standIns := [], harness := (true, "0feebb49138f0ec84083027e56ddbf9c317723ff2b75252504a0560d1e894472"), looks := true }, kinds := [], alts := [], laidByText := true, laidKinds := [.sentinel, .sentinel, .sentinel, .sentinel, .sentinel, .sentinel, .sentinel, .sentinel, .sentinel, .sentinel, .sentinel, .sentinel, .sentinel, .sentinel, .sentinel, .sentinel, .sentinel, .data], laidTests := true, laidLooks := .later }
def AstTreesCardSaid : Prop := Claim7.holds Tryd.pinned (.plain (OpenSpec.ofChange astTreesSpec)) astTreesCard

/-- THE TIED CARD OF 'smithylaw5.AstRows'. -/
def astRowsCard : Claim7 := { stood := { row := astRowsRow, standIns := [], harness := (true, "0feebb49138f0ec84083027e56ddbf9c317723ff2b75252504a0560d1e894472"), looks := true }, kinds := [], alts := [], laidByText := true, laidKinds := [.sentinel, .sentinel, .data], laidTests := true, laidLooks := .later }
def AstRowsCardSaid : Prop := Claim7.holds Tryd.pinned (.plain (OpenSpec.ofChange astRowsSpec)) astRowsCard

/-- THE SECOND FORM's CARD OF 'smithylaw5.AstTrees'. -/
def astTreesUptoCard : Claim7 := { stood := { row := astTreesUptoRow, standIns := [], harness := (true, "0feebb49138f0ec84083027e56ddbf9c317723ff2b75252504a0560d1e894472"), looks := true }, kinds := [], alts := [], laidByText := true, laidKinds := [.sentinel, .sentinel, .sentinel, .sentinel, .sentinel, .sentinel, .sentinel, .sentinel, .sentinel, .sentinel, .sentinel, .sentinel, .sentinel, .sentinel, .sentinel, .sentinel, .sentinel, .data], laidTests := true, laidLooks := .later }
def AstTreesUptoCardSaid : Prop := Claim7.holds Tryd.pinned (.plain (OpenSpec.upto astTreesSpec)) astTreesUptoCard

/-- THE SECOND FORM's CARD OF 'smithylaw5.AstRows'. -/
def astRowsUptoCard : Claim7 := { stood := { row := astRowsUptoRow, standIns := [], harness := (true, "0feebb49138f0ec84083027e56ddbf9c317723ff2b75252504a0560d1e894472"), looks := true }, kinds := [], alts := [], laidByText := true, laidKinds := [.sentinel, .sentinel, .data], laidTests := true, laidLooks := .later }
def AstRowsUptoCardSaid : Prop := Claim7.holds Tryd.pinned (.plain (OpenSpec.upto astRowsSpec)) astRowsUptoCard
end Rows
end Go.Proofs.YtnjbhcjdlbmmhaaDoor
