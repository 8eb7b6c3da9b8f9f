/-
  DERIVED. GIVEN WITH THE SEED: THE CARDS: each row of YtdiocmcfaneajaaGreatDoorRows.lean that lists a variable, with what it lists TIED to the program's text (the seventh form; the later family's looks); each row that meets fmt, with fmt's text TOLD by the authors' own Lean function (tested against real Go, not proved from fmt's source: count such statements apart). THE CARD IS WHAT COUNTS. Prove the row's statement (the work); the ties are given (YtdiocmcfaneajaaGreatDoorTie.lean); close each card by the builder's one call (the guide's Derived/Test/ToyasCard.lean, 'card_holds'). Laid BY PROGRAM, IN A SANDBOX (cutbox-door.mjs). By AI agents, Wed Nov 11 2026. No macro, syntax, notation, axiom, sorry.
-/
import Derived.Test.YtdiocmcfaneajaaGreatDoorRows
import GoSem.ClaimSeven
namespace Go.Proofs.YtdiocmcfaneajaaGreatDoor
namespace Rows

/-- THE TIED CARD OF 'smithylaw11.StrSays'. -/
def strSaysCard : Claim7 := { stood := { row := strSaysRow, standIns := [], harness := (true, "10ad1000090a36195f772f5eb82c3ff3831ebf70794c4f7eb405fc51476a53dd"), looks := true }, kinds := [], alts := [], laidByText := true, laidKinds := [.data, .data, .data, .sentinel, .sentinel, .sentinel, .sentinel, .sentinel, .sentinel, .sentinel, .sentinel, .sentinel, .sentinel, .sentinel, .sentinel, .sentinel, .sentinel, .sentinel, .sentinel, .sentinel, .sentinel, .sentinel, .data], laidTests := true, laidLooks := .later }
def StrSaysCardSaid : Prop := Claim7.holds Tryz.pinned (.plain (OpenSpec.ofChange strSaysSpec)) strSaysCard

/-- THE TIED CARD OF 'smithylaw11.StrRooms'. -/
def strRoomsCard : Claim7 := { stood := { row := strRoomsRow, standIns := [], harness := (true, "10ad1000090a36195f772f5eb82c3ff3831ebf70794c4f7eb405fc51476a53dd"), looks := true }, kinds := [], alts := [], laidByText := true, laidKinds := [.data, .data, .data, .sentinel, .sentinel, .sentinel, .sentinel, .sentinel, .sentinel, .sentinel, .sentinel, .sentinel, .sentinel, .sentinel, .sentinel, .sentinel, .sentinel, .sentinel, .sentinel, .sentinel, .sentinel, .sentinel, .data], laidTests := true, laidLooks := .later }
def StrRoomsCardSaid : Prop := Claim7.holds Tryz.pinned (.plain (OpenSpec.ofChange strRoomsSpec)) strRoomsCard

/-- THE SECOND FORM's CARD OF 'smithylaw11.StrSays'. -/
def strSaysUptoCard : Claim7 := { stood := { row := strSaysUptoRow, standIns := [], harness := (true, "10ad1000090a36195f772f5eb82c3ff3831ebf70794c4f7eb405fc51476a53dd"), looks := true }, kinds := [], alts := [], laidByText := true, laidKinds := [.data, .data, .data, .sentinel, .sentinel, .sentinel, .sentinel, .sentinel, .sentinel, .sentinel, .sentinel, .sentinel, .sentinel, .sentinel, .sentinel, .sentinel, .sentinel, .sentinel, .sentinel, .sentinel, .sentinel, .sentinel, .data], laidTests := true, laidLooks := .later }
def StrSaysUptoCardSaid : Prop := Claim7.holds Tryz.pinned (.plain (OpenSpec.upto strSaysSpec)) strSaysUptoCard

/-- THE SECOND FORM's CARD OF 'smithylaw11.StrRooms'. -/
def strRoomsUptoCard : Claim7 := { stood := { row := strRoomsUptoRow, standIns := [], harness := (true, "10ad1000090a36195f772f5eb82c3ff3831ebf70794c4f7eb405fc51476a53dd"), looks := true }, kinds := [], alts := [], laidByText := true, laidKinds := [.data, .data, .data, .sentinel, .sentinel, .sentinel, .sentinel, .sentinel, .sentinel, .sentinel, .sentinel, .sentinel, .sentinel, .sentinel, .sentinel, .sentinel, .sentinel, .sentinel, .sentinel, .sentinel, .sentinel, .sentinel, .data], laidTests := true, laidLooks := .later }
def StrRoomsUptoCardSaid : Prop := Claim7.holds Tryz.pinned (.plain (OpenSpec.upto strRoomsSpec)) strRoomsUptoCard
end Rows
end Go.Proofs.YtdiocmcfaneajaaGreatDoor
