/-
  DERIVED. GIVEN WITH THE SEED: THE CARDS: each row of YtononcokdlkjdaaDoorRows.lean that lists a variable, with what it lists TIED to the program's text (the seventh form; the later family's looks); each row that meets fmt, with fmt's text TOLD by the authors' own Lean function (tested against real Go, not proved from fmt's source: count such statements apart). THE CARD IS WHAT COUNTS. Prove the row's statement (the work); the ties are given (YtononcokdlkjdaaDoorTie.lean); close each card by the builder's one call (the guide's Derived/Test/ToyasCard.lean, 'card_holds'). Laid BY PROGRAM, IN A SANDBOX (cutbox-door.mjs). By AI agents, Wed Nov 11 2026. No macro, syntax, notation, axiom, sorry.
-/
import Derived.Test.YtononcokdlkjdaaDoorRows
import GoSem.ClaimSeven
namespace Go.Proofs.YtononcokdlkjdaaDoor
namespace Rows

/-- THE TIED CARD OF 'coatchecklaw12.OperTexts'. -/
def operTextsCard : Claim7 := { stood := { row := operTextsRow, standIns := [], harness := (true, "80042b0132fd8554ae4cc5aafcf681adf8b0742c49e815488ea97da36e9a7bad"), looks := true }, kinds := [], alts := [], laidByText := true, laidKinds := [.data, .data, .data, .sentinel, .sentinel], laidTests := true, laidLooks := .later }
def OperTextsCardSaid : Prop := Claim7.holds Tryd.pinned (.plain (OpenSpec.ofChange operTextsSpec)) operTextsCard

/-- THE TIED CARD OF 'coatchecklaw12.OperParses'. -/
def operParsesCard : Claim7 := { stood := { row := operParsesRow, standIns := [], harness := (true, "80042b0132fd8554ae4cc5aafcf681adf8b0742c49e815488ea97da36e9a7bad"), looks := true }, kinds := [], alts := [], laidByText := true, laidKinds := [.data, .data, .data, .sentinel, .sentinel], laidTests := true, laidLooks := .later }
def OperParsesCardSaid : Prop := Claim7.holds Tryd.pinned (.plain (OpenSpec.ofChange operParsesSpec)) operParsesCard

/-- THE TIED CARD OF 'coatchecklaw12.OperUnlike'. -/
def operUnlikeCard : Claim7 := { stood := { row := operUnlikeRow, standIns := [], harness := (true, "80042b0132fd8554ae4cc5aafcf681adf8b0742c49e815488ea97da36e9a7bad"), looks := true }, kinds := [], alts := [], laidByText := true, laidKinds := [.data, .data, .data, .sentinel, .sentinel], laidTests := true, laidLooks := .later }
def OperUnlikeCardSaid : Prop := Claim7.holds Tryd.pinned (.plain (OpenSpec.ofChange operUnlikeSpec)) operUnlikeCard

/-- THE SECOND FORM's CARD OF 'coatchecklaw12.OperTexts'. -/
def operTextsUptoCard : Claim7 := { stood := { row := operTextsUptoRow, standIns := [], harness := (true, "80042b0132fd8554ae4cc5aafcf681adf8b0742c49e815488ea97da36e9a7bad"), looks := true }, kinds := [], alts := [], laidByText := true, laidKinds := [.data, .data, .data, .sentinel, .sentinel], laidTests := true, laidLooks := .later }
def OperTextsUptoCardSaid : Prop := Claim7.holds Tryd.pinned (.plain (OpenSpec.upto operTextsSpec)) operTextsUptoCard

/-- THE SECOND FORM's CARD OF 'coatchecklaw12.OperParses'. -/
def operParsesUptoCard : Claim7 := { stood := { row := operParsesUptoRow, standIns := [], harness := (true, "80042b0132fd8554ae4cc5aafcf681adf8b0742c49e815488ea97da36e9a7bad"), looks := true }, kinds := [], alts := [], laidByText := true, laidKinds := [.data, .data, .data, .sentinel, .sentinel], laidTests := true, laidLooks := .later }
def OperParsesUptoCardSaid : Prop := Claim7.holds Tryd.pinned (.plain (OpenSpec.upto operParsesSpec)) operParsesUptoCard

/-- THE SECOND FORM's CARD OF 'coatchecklaw12.OperUnlike'. -/
def operUnlikeUptoCard : Claim7 := { stood := { row := operUnlikeUptoRow, standIns := [], harness := (true, "80042b0132fd8554ae4cc5aafcf681adf8b0742c49e815488ea97da36e9a7bad"), looks := true }, kinds := [], alts := [], laidByText := true, laidKinds := [.data, .data, .data, .sentinel, .sentinel], laidTests := true, laidLooks := .later }
def OperUnlikeUptoCardSaid : Prop := Claim7.holds Tryd.pinned (.plain (OpenSpec.upto operUnlikeSpec)) operUnlikeUptoCard
end Rows
end Go.Proofs.YtononcokdlkjdaaDoor
