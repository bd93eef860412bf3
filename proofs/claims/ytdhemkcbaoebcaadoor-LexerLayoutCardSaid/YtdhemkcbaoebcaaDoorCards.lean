/-
  DERIVED. GIVEN WITH THE SEED: THE CARDS: each row of YtdhemkcbaoebcaaDoorRows.lean that lists a variable, with what it lists TIED to the program's text (the seventh form; the later family's looks); each row that meets fmt, with fmt's text TOLD by the authors' own Lean function (tested against real Go, not proved from fmt's source: count such statements apart). THE CARD IS WHAT COUNTS. Prove the row's statement (the work); the ties are given (YtdhemkcbaoebcaaDoorTie.lean); close each card by the builder's one call (the guide's Derived/Test/ToyasCard.lean, 'card_holds'). Laid BY PROGRAM, IN A SANDBOX (cutbox-door.mjs). By AI agents, Wed Nov 11 2026. No macro, syntax, notation, axiom, sorry.
-/
import Derived.Test.YtdhemkcbaoebcaaDoorRows
import GoSem.ClaimSeven
namespace Go.Proofs.YtdhemkcbaoebcaaDoor
namespace Rows

/-- THE TIED CARD OF 'postilionlaw03.LexerMatchesReference'. -/
def lexerMatchesReferenceCard : Claim7 := { stood := { row := lexerMatchesReferenceRow, standIns := [], harness := (true, "ed22262112e5fb4880057affdadce34fe05047726dc06124cd90de270872c919"), looks := false }, kinds := [], alts := [], laidByText := true, laidKinds := [.data], laidTests := true, laidLooks := .later }
def LexerMatchesReferenceCardSaid : Prop := Claim7.holds Tryd.pinned (.plain (OpenSpec.ofChange lexerMatchesReferenceSpec)) lexerMatchesReferenceCard

/-- THE TIED CARD OF 'postilionlaw03.LexerCover'. -/
def lexerCoverCard : Claim7 := { stood := { row := lexerCoverRow, standIns := [], harness := (true, "ed22262112e5fb4880057affdadce34fe05047726dc06124cd90de270872c919"), looks := false }, kinds := [], alts := [], laidByText := true, laidKinds := [.data], laidTests := true, laidLooks := .later }
def LexerCoverCardSaid : Prop := Claim7.holds Tryd.pinned (.plain (OpenSpec.ofChange lexerCoverSpec)) lexerCoverCard

/-- THE TIED CARD OF 'postilionlaw03.LexerLayout'. -/
def lexerLayoutCard : Claim7 := { stood := { row := lexerLayoutRow, standIns := [], harness := (true, "ed22262112e5fb4880057affdadce34fe05047726dc06124cd90de270872c919"), looks := false }, kinds := [], alts := [], laidByText := true, laidKinds := [.data], laidTests := true, laidLooks := .later }
def LexerLayoutCardSaid : Prop := Claim7.holds Tryd.pinned (.plain (OpenSpec.ofChange lexerLayoutSpec)) lexerLayoutCard

/-- THE TIED CARD OF 'postilionlaw03.LexerRuns'. -/
def lexerRunsCard : Claim7 := { stood := { row := lexerRunsRow, standIns := [], harness := (true, "ed22262112e5fb4880057affdadce34fe05047726dc06124cd90de270872c919"), looks := false }, kinds := [], alts := [], laidByText := true, laidKinds := [.data], laidTests := true, laidLooks := .later }
def LexerRunsCardSaid : Prop := Claim7.holds Tryd.pinned (.plain (OpenSpec.ofChange lexerRunsSpec)) lexerRunsCard

/-- THE TIED CARD OF 'postilionlaw03.LexerConcat'. -/
def lexerConcatCard : Claim7 := { stood := { row := lexerConcatRow, standIns := [], harness := (true, "ed22262112e5fb4880057affdadce34fe05047726dc06124cd90de270872c919"), looks := false }, kinds := [], alts := [], laidByText := true, laidKinds := [.data], laidTests := true, laidLooks := .later }
def LexerConcatCardSaid : Prop := Claim7.holds Tryd.pinned (.plain (OpenSpec.ofChange lexerConcatSpec)) lexerConcatCard

/-- THE TIED CARD OF 'postilionlaw03.LexerFirstError'. -/
def lexerFirstErrorCard : Claim7 := { stood := { row := lexerFirstErrorRow, standIns := [], harness := (true, "ed22262112e5fb4880057affdadce34fe05047726dc06124cd90de270872c919"), looks := false }, kinds := [], alts := [], laidByText := true, laidKinds := [.data], laidTests := true, laidLooks := .later }
def LexerFirstErrorCardSaid : Prop := Claim7.holds Tryd.pinned (.plain (OpenSpec.ofChange lexerFirstErrorSpec)) lexerFirstErrorCard

/-- THE TIED CARD OF 'postilionlaw03.LexerPrefixes'. -/
def lexerPrefixesCard : Claim7 := { stood := { row := lexerPrefixesRow, standIns := [], harness := (true, "ed22262112e5fb4880057affdadce34fe05047726dc06124cd90de270872c919"), looks := false }, kinds := [], alts := [], laidByText := true, laidKinds := [.data], laidTests := true, laidLooks := .later }
def LexerPrefixesCardSaid : Prop := Claim7.holds Tryd.pinned (.plain (OpenSpec.ofChange lexerPrefixesSpec)) lexerPrefixesCard

/-- THE SECOND FORM's CARD OF 'postilionlaw03.LexerMatchesReference'. -/
def lexerMatchesReferenceUptoCard : Claim7 := { stood := { row := lexerMatchesReferenceUptoRow, standIns := [], harness := (true, "ed22262112e5fb4880057affdadce34fe05047726dc06124cd90de270872c919"), looks := false }, kinds := [], alts := [], laidByText := true, laidKinds := [.data], laidTests := true, laidLooks := .later }
def LexerMatchesReferenceUptoCardSaid : Prop := Claim7.holds Tryd.pinned (.plain (OpenSpec.upto lexerMatchesReferenceSpec)) lexerMatchesReferenceUptoCard

/-- THE SECOND FORM's CARD OF 'postilionlaw03.LexerCover'. -/
def lexerCoverUptoCard : Claim7 := { stood := { row := lexerCoverUptoRow, standIns := [], harness := (true, "ed22262112e5fb4880057affdadce34fe05047726dc06124cd90de270872c919"), looks := false }, kinds := [], alts := [], laidByText := true, laidKinds := [.data], laidTests := true, laidLooks := .later }
def LexerCoverUptoCardSaid : Prop := Claim7.holds Tryd.pinned (.plain (OpenSpec.upto lexerCoverSpec)) lexerCoverUptoCard

/-- THE SECOND FORM's CARD OF 'postilionlaw03.LexerLayout'. -/
def lexerLayoutUptoCard : Claim7 := { stood := { row := lexerLayoutUptoRow, standIns := [], harness := (true, "ed22262112e5fb4880057affdadce34fe05047726dc06124cd90de270872c919"), looks := false }, kinds := [], alts := [], laidByText := true, laidKinds := [.data], laidTests := true, laidLooks := .later }
def LexerLayoutUptoCardSaid : Prop := Claim7.holds Tryd.pinned (.plain (OpenSpec.upto lexerLayoutSpec)) lexerLayoutUptoCard

/-- THE SECOND FORM's CARD OF 'postilionlaw03.LexerRuns'. -/
def lexerRunsUptoCard : Claim7 := { stood := { row := lexerRunsUptoRow, standIns := [], harness := (true, "ed22262112e5fb4880057affdadce34fe05047726dc06124cd90de270872c919"), looks := false }, kinds := [], alts := [], laidByText := true, laidKinds := [.data], laidTests := true, laidLooks := .later }
def LexerRunsUptoCardSaid : Prop := Claim7.holds Tryd.pinned (.plain (OpenSpec.upto lexerRunsSpec)) lexerRunsUptoCard

/-- THE SECOND FORM's CARD OF 'postilionlaw03.LexerConcat'. -/
def lexerConcatUptoCard : Claim7 := { stood := { row := lexerConcatUptoRow, standIns := [], harness := (true, "ed22262112e5fb4880057affdadce34fe05047726dc06124cd90de270872c919"), looks := false }, kinds := [], alts := [], laidByText := true, laidKinds := [.data], laidTests := true, laidLooks := .later }
def LexerConcatUptoCardSaid : Prop := Claim7.holds Tryd.pinned (.plain (OpenSpec.upto lexerConcatSpec)) lexerConcatUptoCard

/-- THE SECOND FORM's CARD OF 'postilionlaw03.LexerFirstError'. -/
def lexerFirstErrorUptoCard : Claim7 := { stood := { row := lexerFirstErrorUptoRow, standIns := [], harness := (true, "ed22262112e5fb4880057affdadce34fe05047726dc06124cd90de270872c919"), looks := false }, kinds := [], alts := [], laidByText := true, laidKinds := [.data], laidTests := true, laidLooks := .later }
def LexerFirstErrorUptoCardSaid : Prop := Claim7.holds Tryd.pinned (.plain (OpenSpec.upto lexerFirstErrorSpec)) lexerFirstErrorUptoCard

/-- THE SECOND FORM's CARD OF 'postilionlaw03.LexerPrefixes'. -/
def lexerPrefixesUptoCard : Claim7 := { stood := { row := lexerPrefixesUptoRow, standIns := [], harness := (true, "ed22262112e5fb4880057affdadce34fe05047726dc06124cd90de270872c919"), looks := false }, kinds := [], alts := [], laidByText := true, laidKinds := [.data], laidTests := true, laidLooks := .later }
def LexerPrefixesUptoCardSaid : Prop := Claim7.holds Tryd.pinned (.plain (OpenSpec.upto lexerPrefixesSpec)) lexerPrefixesUptoCard
end Rows
end Go.Proofs.YtdhemkcbaoebcaaDoor
