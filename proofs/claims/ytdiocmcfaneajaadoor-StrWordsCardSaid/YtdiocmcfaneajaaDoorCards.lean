/-
  DERIVED. GIVEN WITH THE SEED: THE CARDS: each row of YtdiocmcfaneajaaDoorRows.lean that lists a variable, with what it lists TIED to the program's text (the seventh form; the later family's looks); each row that meets fmt, with fmt's text TOLD by the authors' own Lean function (tested against real Go, not proved from fmt's source: count such statements apart). THE CARD IS WHAT COUNTS. Prove the row's statement (the work); the ties are given (YtdiocmcfaneajaaDoorTie.lean); close each card by the builder's one call (the guide's Derived/Test/ToyasCard.lean, 'card_holds'). Laid BY PROGRAM, IN A SANDBOX (cutbox-door.mjs). By AI agents, Wed Nov 11 2026. No macro, syntax, notation, axiom, sorry.
-/
import Derived.Test.YtdiocmcfaneajaaDoorRows
import GoSem.ClaimSeven
namespace Go.Proofs.YtdiocmcfaneajaaDoor
namespace Rows

/-- THE TIED CARD OF 'smithylaw11.StrParts'. -/
def strPartsCard : Claim7 := { stood := { row := strPartsRow, standIns := [], harness := (true, "e5047eaabd4b9efca0f1f0c33af7b496908c749f69c6ec41f637f107fb590b35"), looks := true }, kinds := [], alts := [], laidByText := true, laidKinds := [.data, .data, .data, .sentinel, .sentinel, .sentinel, .sentinel, .data], laidTests := true, laidLooks := .later }
def StrPartsCardSaid : Prop := Claim7.holds Tryd.pinned (.plain (OpenSpec.ofChange strPartsSpec)) strPartsCard

/-- THE TIED CARD OF 'smithylaw11.StrCuts'. -/
def strCutsCard : Claim7 := { stood := { row := strCutsRow, standIns := [], harness := (true, "e5047eaabd4b9efca0f1f0c33af7b496908c749f69c6ec41f637f107fb590b35"), looks := true }, kinds := [], alts := [], laidByText := true, laidKinds := [.data, .data, .data, .sentinel, .sentinel, .sentinel, .sentinel, .data], laidTests := true, laidLooks := .later }
def StrCutsCardSaid : Prop := Claim7.holds Tryd.pinned (.plain (OpenSpec.ofChange strCutsSpec)) strCutsCard

/-- THE TIED CARD OF 'smithylaw11.StrWords'. -/
def strWordsCard : Claim7 := { stood := { row := strWordsRow, standIns := [], harness := (true, "e5047eaabd4b9efca0f1f0c33af7b496908c749f69c6ec41f637f107fb590b35"), looks := true }, kinds := [], alts := [], laidByText := true, laidKinds := [.data, .data, .data, .sentinel, .sentinel, .sentinel, .sentinel, .data], laidTests := true, laidLooks := .later }
def StrWordsCardSaid : Prop := Claim7.holds Tryd.pinned (.plain (OpenSpec.ofChange strWordsSpec)) strWordsCard

/-- THE SECOND FORM's CARD OF 'smithylaw11.StrParts'. -/
def strPartsUptoCard : Claim7 := { stood := { row := strPartsUptoRow, standIns := [], harness := (true, "e5047eaabd4b9efca0f1f0c33af7b496908c749f69c6ec41f637f107fb590b35"), looks := true }, kinds := [], alts := [], laidByText := true, laidKinds := [.data, .data, .data, .sentinel, .sentinel, .sentinel, .sentinel, .data], laidTests := true, laidLooks := .later }
def StrPartsUptoCardSaid : Prop := Claim7.holds Tryd.pinned (.plain (OpenSpec.upto strPartsSpec)) strPartsUptoCard

/-- THE SECOND FORM's CARD OF 'smithylaw11.StrCuts'. -/
def strCutsUptoCard : Claim7 := { stood := { row := strCutsUptoRow, standIns := [], harness := (true, "e5047eaabd4b9efca0f1f0c33af7b496908c749f69c6ec41f637f107fb590b35"), looks := true }, kinds := [], alts := [], laidByText := true, laidKinds := [.data, .data, .data, .sentinel, .sentinel, .sentinel, .sentinel, .data], laidTests := true, laidLooks := .later }
def StrCutsUptoCardSaid : Prop := Claim7.holds Tryd.pinned (.plain (OpenSpec.upto strCutsSpec)) strCutsUptoCard

/-- THE SECOND FORM's CARD OF 'smithylaw11.StrWords'. -/
def strWordsUptoCard : Claim7 := { stood := { row := strWordsUptoRow, standIns := [], harness := (true, "e5047eaabd4b9efca0f1f0c33af7b496908c749f69c6ec41f637f107fb590b35"), looks := true }, kinds := [], alts := [], laidByText := true, laidKinds := [.data, .data, .data, .sentinel, .sentinel, .sentinel, .sentinel, .data], laidTests := true, laidLooks := .later }
def StrWordsUptoCardSaid : Prop := Claim7.holds Tryd.pinned (.plain (OpenSpec.upto strWordsSpec)) strWordsUptoCard
end Rows
end Go.Proofs.YtdiocmcfaneajaaDoor
