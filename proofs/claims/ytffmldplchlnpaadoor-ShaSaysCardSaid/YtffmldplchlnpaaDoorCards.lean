/-
  DERIVED. GIVEN WITH THE SEED: THE CARDS: each row of YtffmldplchlnpaaDoorRows.lean that lists a variable, with what it lists TIED to the program's text (the seventh form; the later family's looks); each row that meets fmt, with fmt's text TOLD by the authors' own Lean function (tested against real Go, not proved from fmt's source: count such statements apart). THE CARD IS WHAT COUNTS. Prove the row's statement (the work); the ties are given (YtffmldplchlnpaaDoorTie.lean); close each card by the builder's one call (the guide's Derived/Test/ToyasCard.lean, 'card_holds'). Laid BY PROGRAM, IN A SANDBOX (cutbox-door.mjs). By AI agents, Wed Nov 11 2026. No macro, syntax, notation, axiom, sorry.
-/
import Derived.Test.YtffmldplchlnpaaDoorRows
import GoSem.ClaimSeven
namespace Go.Proofs.YtffmldplchlnpaaDoor
namespace Rows

/-- THE TIED CARD OF 'smithylaw2.ShaSays'. -/
def shaSaysCard : Claim7 := { stood := { row := shaSaysRow, standIns := [], harness := (true, "7f24190c810d58c5ab3e6f353ffba03d2aa47f2b6185568418a60a1e6245ef92"), looks := true }, kinds := [], alts := [], laidByText := true, laidKinds := [.sentinel, .sentinel, .sentinel, .sentinel, .sentinel, .sentinel, .sentinel, .sentinel, .sentinel, .sentinel, .sentinel, .sentinel, .sentinel, .sentinel, .sentinel, .sentinel, .sentinel, .data, .data], laidTests := true, laidLooks := .later }
def ShaSaysCardSaid : Prop := Claim7.holds Tryd.pinned (.plain (OpenSpec.ofChange shaSaysSpec)) shaSaysCard

/-- THE TIED CARD OF 'smithylaw2.ShaPieces'. -/
def shaPiecesCard : Claim7 := { stood := { row := shaPiecesRow, standIns := [], harness := (true, "7f24190c810d58c5ab3e6f353ffba03d2aa47f2b6185568418a60a1e6245ef92"), looks := true }, kinds := [], alts := [], laidByText := true, laidKinds := [.sentinel, .data, .data], laidTests := true, laidLooks := .later }
def ShaPiecesCardSaid : Prop := Claim7.holds Tryd.pinned (.plain (OpenSpec.ofChange shaPiecesSpec)) shaPiecesCard

/-- THE TIED CARD OF 'smithylaw2.ShaManys'. -/
def shaManysCard : Claim7 := { stood := { row := shaManysRow, standIns := [], harness := (true, "7f24190c810d58c5ab3e6f353ffba03d2aa47f2b6185568418a60a1e6245ef92"), looks := true }, kinds := [], alts := [], laidByText := true, laidKinds := [.data, .data], laidTests := true, laidLooks := .later }
def ShaManysCardSaid : Prop := Claim7.holds Tryd.pinned (.plain (OpenSpec.ofChange shaManysSpec)) shaManysCard

/-- THE SECOND FORM's CARD OF 'smithylaw2.ShaSays'. -/
def shaSaysUptoCard : Claim7 := { stood := { row := shaSaysUptoRow, standIns := [], harness := (true, "7f24190c810d58c5ab3e6f353ffba03d2aa47f2b6185568418a60a1e6245ef92"), looks := true }, kinds := [], alts := [], laidByText := true, laidKinds := [.sentinel, .sentinel, .sentinel, .sentinel, .sentinel, .sentinel, .sentinel, .sentinel, .sentinel, .sentinel, .sentinel, .sentinel, .sentinel, .sentinel, .sentinel, .sentinel, .sentinel, .data, .data], laidTests := true, laidLooks := .later }
def ShaSaysUptoCardSaid : Prop := Claim7.holds Tryd.pinned (.plain (OpenSpec.upto shaSaysSpec)) shaSaysUptoCard

/-- THE SECOND FORM's CARD OF 'smithylaw2.ShaPieces'. -/
def shaPiecesUptoCard : Claim7 := { stood := { row := shaPiecesUptoRow, standIns := [], harness := (true, "7f24190c810d58c5ab3e6f353ffba03d2aa47f2b6185568418a60a1e6245ef92"), looks := true }, kinds := [], alts := [], laidByText := true, laidKinds := [.sentinel, .data, .data], laidTests := true, laidLooks := .later }
def ShaPiecesUptoCardSaid : Prop := Claim7.holds Tryd.pinned (.plain (OpenSpec.upto shaPiecesSpec)) shaPiecesUptoCard

/-- THE SECOND FORM's CARD OF 'smithylaw2.ShaManys'. -/
def shaManysUptoCard : Claim7 := { stood := { row := shaManysUptoRow, standIns := [], harness := (true, "7f24190c810d58c5ab3e6f353ffba03d2aa47f2b6185568418a60a1e6245ef92"), looks := true }, kinds := [], alts := [], laidByText := true, laidKinds := [.data, .data], laidTests := true, laidLooks := .later }
def ShaManysUptoCardSaid : Prop := Claim7.holds Tryd.pinned (.plain (OpenSpec.upto shaManysSpec)) shaManysUptoCard
end Rows
end Go.Proofs.YtffmldplchlnpaaDoor
