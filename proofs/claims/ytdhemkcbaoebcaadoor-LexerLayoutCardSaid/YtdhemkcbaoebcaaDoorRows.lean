/-
  NARROWER THAN 'FOR EVERY INPUT', by the rows' own cells (each row's printed sentence says how): LexerMatchesReference: laid · LexerCover: laid · LexerLayout: laid · LexerRuns: laid · LexerConcat: laid · LexerFirstError: laid · LexerPrefixes: laid.
  DERIVED. THE GIVEN ROWS OF THIS SEAT. 7 by the template 'for every input the law returns true; each argument reads behind the call as it read before'; 0 by the template 'total and deterministic' (their statements: YtdhemkcbaoebcaaDoorTotals.lean).
  GIVEN WITH THE SEED: the statements are not yours to turn. If you find one false, say at which input.
  Laid BY PROGRAM, IN A SANDBOX (cutbox-rows.mjs): the forced cells as the released guide's own fill.sh prints them over the translation 923a27e3cac729b5… (all of the seat's roots in one cut). By AI agents, Wed Nov 11 2026. No macro, syntax, notation, axiom, sorry.
-/
import Derived.Test.YtdhemkcbaoebcaaDoorChecked
import GoSem.Claim
import GoSem.ClaimJoined
import GoSem.ClaimMapViews
import Derived.JoinedTies
import Derived.KernelRfl
namespace Go.Proofs.YtdhemkcbaoebcaaDoor
/- THE CELL 'sum', in the pinned program and in every row, IS THE sha256 OF THE DUMP (.gsa) THAT YtdhemkcbaoebcaaDoorProg.lean LOADS. Nothing in Lean hashes anything: it is a label: what it is worth is what the hold of that sum in a sandbox is worth. -/
noncomputable def Tryd.pinned : Pinned := { name := "ytdhemkcbaoebcaadoor", sum := "923a27e3cac729b50fa658154d3c3681f3b183561cb661a9f91bf580aa8cc95a", checked := Tryd.checked }
namespace Rows
def none {H : Type} : Left H := { results := [], args := [] }

/- WHAT THE LISTED PACKAGE-LEVEL VARIABLES READ AS WHEN THE CALL BEGINS. Each datum BY PROGRAM (the guide's laid-datum.mjs) off the statement by which the dump's own 'gosem.cut.vars' lays the variable. In a bare row this is a premise. The card (YtdhemkcbaoebcaaDoorCards.lean) ties it to the program's text. -/
def laid_postilion_lexer_symbols {H : Type} : DataW H := .agg [.lit (.string [45, 62]), .lit (.string [123]), .lit (.string [125]), .lit (.string [40]), .lit (.string [41]), .lit (.string [91]), .lit (.string [93]), .lit (.string [44]), .lit (.string [59]), .lit (.string [58]), .lit (.string [61]), .lit (.string [46]), .lit (.string [45])]

/-- 'postilionlaw03.LexerMatchesReference': WHATEVER THE INPUT: true; the input reads as it did. -/
def lexerMatchesReferenceSpec : ChangeSpec := { name := "lexerMatchesReference", fn := fun _ => fun
  | [d] => { results := [.lit (.bool true)], args := [d] }
  | _ => none }
def lexerMatchesReferenceRow : OpenClaim := { program := "ytdhemkcbaoebcaadoor", sum := "923a27e3cac729b50fa658154d3c3681f3b183561cb661a9f91bf580aa8cc95a", func := "postilion/postilionlaw03.LexerMatchesReference", spec := "lexerMatchesReference", unfollowed := true, recurses := true, named := ["postilion/lexer.symbols"], apart := false, laid := [("postilion/lexer.symbols", laid_postilion_lexer_symbols)] }
def LexerMatchesReferenceSaid : Prop := lexerMatchesReferenceRow.holds Tryd.pinned (OpenSpec.ofChange lexerMatchesReferenceSpec)

/-- ITS FALSE NEIGHBOUR: 'it returns false'. Refute it at one input. -/
def lexerMatchesReferenceWrong : ChangeSpec := { name := "lexerMatchesReference", fn := fun _ => fun
  | [d] => { results := [.lit (.bool false)], args := [d] }
  | _ => none }
def LexerMatchesReferenceWrongFalsely : Prop := lexerMatchesReferenceRow.holds Tryd.pinned (OpenSpec.ofChange lexerMatchesReferenceWrong)

/-- 'postilionlaw03.LexerCover': WHATEVER THE INPUT: true; the input reads as it did. -/
def lexerCoverSpec : ChangeSpec := { name := "lexerCover", fn := fun _ => fun
  | [d] => { results := [.lit (.bool true)], args := [d] }
  | _ => none }
def lexerCoverRow : OpenClaim := { program := "ytdhemkcbaoebcaadoor", sum := "923a27e3cac729b50fa658154d3c3681f3b183561cb661a9f91bf580aa8cc95a", func := "postilion/postilionlaw03.LexerCover", spec := "lexerCover", unfollowed := true, recurses := true, named := ["postilion/lexer.symbols"], apart := false, laid := [("postilion/lexer.symbols", laid_postilion_lexer_symbols)] }
def LexerCoverSaid : Prop := lexerCoverRow.holds Tryd.pinned (OpenSpec.ofChange lexerCoverSpec)

/-- ITS FALSE NEIGHBOUR: 'it returns false'. Refute it at one input. -/
def lexerCoverWrong : ChangeSpec := { name := "lexerCover", fn := fun _ => fun
  | [d] => { results := [.lit (.bool false)], args := [d] }
  | _ => none }
def LexerCoverWrongFalsely : Prop := lexerCoverRow.holds Tryd.pinned (OpenSpec.ofChange lexerCoverWrong)

/-- 'postilionlaw03.LexerLayout': WHATEVER THE INPUT: true; the input reads as it did. -/
def lexerLayoutSpec : ChangeSpec := { name := "lexerLayout", fn := fun _ => fun
  | [d1, d2] => { results := [.lit (.bool true)], args := [d1, d2] }
  | _ => none }
def lexerLayoutRow : OpenClaim := { program := "ytdhemkcbaoebcaadoor", sum := "923a27e3cac729b50fa658154d3c3681f3b183561cb661a9f91bf580aa8cc95a", func := "postilion/postilionlaw03.LexerLayout", spec := "lexerLayout", unfollowed := true, recurses := true, named := ["postilion/lexer.symbols"], apart := false, laid := [("postilion/lexer.symbols", laid_postilion_lexer_symbols)] }
def LexerLayoutSaid : Prop := lexerLayoutRow.holds Tryd.pinned (OpenSpec.ofChange lexerLayoutSpec)

/-- ITS FALSE NEIGHBOUR: 'it returns false'. Refute it at one input. -/
def lexerLayoutWrong : ChangeSpec := { name := "lexerLayout", fn := fun _ => fun
  | [d1, d2] => { results := [.lit (.bool false)], args := [d1, d2] }
  | _ => none }
def LexerLayoutWrongFalsely : Prop := lexerLayoutRow.holds Tryd.pinned (OpenSpec.ofChange lexerLayoutWrong)

/-- 'postilionlaw03.LexerRuns': WHATEVER THE INPUT: true; the input reads as it did. -/
def lexerRunsSpec : ChangeSpec := { name := "lexerRuns", fn := fun _ => fun
  | [d] => { results := [.lit (.bool true)], args := [d] }
  | _ => none }
def lexerRunsRow : OpenClaim := { program := "ytdhemkcbaoebcaadoor", sum := "923a27e3cac729b50fa658154d3c3681f3b183561cb661a9f91bf580aa8cc95a", func := "postilion/postilionlaw03.LexerRuns", spec := "lexerRuns", unfollowed := true, recurses := true, named := ["postilion/lexer.symbols"], apart := false, laid := [("postilion/lexer.symbols", laid_postilion_lexer_symbols)] }
def LexerRunsSaid : Prop := lexerRunsRow.holds Tryd.pinned (OpenSpec.ofChange lexerRunsSpec)

/-- ITS FALSE NEIGHBOUR: 'it returns false'. Refute it at one input. -/
def lexerRunsWrong : ChangeSpec := { name := "lexerRuns", fn := fun _ => fun
  | [d] => { results := [.lit (.bool false)], args := [d] }
  | _ => none }
def LexerRunsWrongFalsely : Prop := lexerRunsRow.holds Tryd.pinned (OpenSpec.ofChange lexerRunsWrong)

/-- 'postilionlaw03.LexerConcat': WHATEVER THE INPUT: true; the input reads as it did. -/
def lexerConcatSpec : ChangeSpec := { name := "lexerConcat", fn := fun _ => fun
  | [d1, d2] => { results := [.lit (.bool true)], args := [d1, d2] }
  | _ => none }
def lexerConcatRow : OpenClaim := { program := "ytdhemkcbaoebcaadoor", sum := "923a27e3cac729b50fa658154d3c3681f3b183561cb661a9f91bf580aa8cc95a", func := "postilion/postilionlaw03.LexerConcat", spec := "lexerConcat", unfollowed := true, recurses := true, named := ["postilion/lexer.symbols"], apart := false, laid := [("postilion/lexer.symbols", laid_postilion_lexer_symbols)] }
def LexerConcatSaid : Prop := lexerConcatRow.holds Tryd.pinned (OpenSpec.ofChange lexerConcatSpec)

/-- ITS FALSE NEIGHBOUR: 'it returns false'. Refute it at one input. -/
def lexerConcatWrong : ChangeSpec := { name := "lexerConcat", fn := fun _ => fun
  | [d1, d2] => { results := [.lit (.bool false)], args := [d1, d2] }
  | _ => none }
def LexerConcatWrongFalsely : Prop := lexerConcatRow.holds Tryd.pinned (OpenSpec.ofChange lexerConcatWrong)

/-- 'postilionlaw03.LexerFirstError': WHATEVER THE INPUT: true; the input reads as it did. -/
def lexerFirstErrorSpec : ChangeSpec := { name := "lexerFirstError", fn := fun _ => fun
  | [d1, d2] => { results := [.lit (.bool true)], args := [d1, d2] }
  | _ => none }
def lexerFirstErrorRow : OpenClaim := { program := "ytdhemkcbaoebcaadoor", sum := "923a27e3cac729b50fa658154d3c3681f3b183561cb661a9f91bf580aa8cc95a", func := "postilion/postilionlaw03.LexerFirstError", spec := "lexerFirstError", unfollowed := true, recurses := true, named := ["postilion/lexer.symbols"], apart := false, laid := [("postilion/lexer.symbols", laid_postilion_lexer_symbols)] }
def LexerFirstErrorSaid : Prop := lexerFirstErrorRow.holds Tryd.pinned (OpenSpec.ofChange lexerFirstErrorSpec)

/-- ITS FALSE NEIGHBOUR: 'it returns false'. Refute it at one input. -/
def lexerFirstErrorWrong : ChangeSpec := { name := "lexerFirstError", fn := fun _ => fun
  | [d1, d2] => { results := [.lit (.bool false)], args := [d1, d2] }
  | _ => none }
def LexerFirstErrorWrongFalsely : Prop := lexerFirstErrorRow.holds Tryd.pinned (OpenSpec.ofChange lexerFirstErrorWrong)

/-- 'postilionlaw03.LexerPrefixes': WHATEVER THE INPUT: true; the input reads as it did. -/
def lexerPrefixesSpec : ChangeSpec := { name := "lexerPrefixes", fn := fun _ => fun
  | [d1, d2] => { results := [.lit (.bool true)], args := [d1, d2] }
  | _ => none }
def lexerPrefixesRow : OpenClaim := { program := "ytdhemkcbaoebcaadoor", sum := "923a27e3cac729b50fa658154d3c3681f3b183561cb661a9f91bf580aa8cc95a", func := "postilion/postilionlaw03.LexerPrefixes", spec := "lexerPrefixes", unfollowed := true, recurses := true, named := ["postilion/lexer.symbols"], apart := false, laid := [("postilion/lexer.symbols", laid_postilion_lexer_symbols)] }
def LexerPrefixesSaid : Prop := lexerPrefixesRow.holds Tryd.pinned (OpenSpec.ofChange lexerPrefixesSpec)

/-- ITS FALSE NEIGHBOUR: 'it returns false'. Refute it at one input. -/
def lexerPrefixesWrong : ChangeSpec := { name := "lexerPrefixes", fn := fun _ => fun
  | [d1, d2] => { results := [.lit (.bool false)], args := [d1, d2] }
  | _ => none }
def LexerPrefixesWrongFalsely : Prop := lexerPrefixesRow.holds Tryd.pinned (OpenSpec.ofChange lexerPrefixesWrong)

/- THE SECOND FORM. 'bulk': how many values and letters a reading holds, each counted each time it is reached (what is shared counts as often as it is met; a slice's spare places count too). A statement '..UptoSaid' is the law's where the arguments, and the package variables that the reading takes, are together of bulk at most 1048576: NARROWER than '..Said'. Prove '..Said' where nothing that the law and all that it calls make is longer than what came in: it says more and counts as full. Else prove '..UptoSaid'. A law counts once. -/
mutual
def uptoBulk {H : Type} : DataW H → Nat
  | .lit (.string bytes) => bytes.length + 1
  | .lit _ => 1
  | .nil => 1
  | .ptr d => uptoBulk d + 1
  | .slice elems spare => uptoBulkAll elems + uptoBulkAll spare + 1
  | .agg parts => uptoBulkAll parts + 1
  | .iface _ d => uptoBulk d + 1
  | .map entries => uptoBulkEntries entries + 1
  | .held _ => 1
def uptoBulkAll {H : Type} : List (DataW H) → Nat
  | [] => 0
  | d :: r => uptoBulk d + uptoBulkAll r
def uptoBulkEntries {H : Type} : List (Lit × DataW H) → Nat
  | [] => 0
  | x :: r => uptoBulkEntry x + uptoBulkEntries r
def uptoBulkEntry {H : Type} : Lit × DataW H → Nat
  | (.string bytes, d) => bytes.length + uptoBulk d + 1
  | (_, d) => uptoBulk d + 1
 end
def uptoSmall : (H : Type) → List (DataW H) → Bool := fun _ ds => decide (uptoBulkAll ds ≤ 1048576)
def OpenSpec.upto (s : _root_.Go.ChangeSpec) : _root_.Go.OpenSpec := { _root_.Go.OpenSpec.ofChange s with cond := some uptoSmall }

/-- 'postilionlaw03.LexerMatchesReference', WHERE WHAT IT READS IS OF BULK AT MOST 1048576: true; the input reads as it did. -/
def lexerMatchesReferenceUptoRow : OpenClaim := { program := "ytdhemkcbaoebcaadoor", sum := "923a27e3cac729b50fa658154d3c3681f3b183561cb661a9f91bf580aa8cc95a", func := "postilion/postilionlaw03.LexerMatchesReference", spec := "lexerMatchesReference", unfollowed := true, recurses := true, named := ["postilion/lexer.symbols"], apart := false, laid := [("postilion/lexer.symbols", laid_postilion_lexer_symbols)], narrowed := true }
def LexerMatchesReferenceUptoSaid : Prop := lexerMatchesReferenceUptoRow.holds Tryd.pinned (OpenSpec.upto lexerMatchesReferenceSpec)

/-- 'postilionlaw03.LexerCover', WHERE WHAT IT READS IS OF BULK AT MOST 1048576: true; the input reads as it did. -/
def lexerCoverUptoRow : OpenClaim := { program := "ytdhemkcbaoebcaadoor", sum := "923a27e3cac729b50fa658154d3c3681f3b183561cb661a9f91bf580aa8cc95a", func := "postilion/postilionlaw03.LexerCover", spec := "lexerCover", unfollowed := true, recurses := true, named := ["postilion/lexer.symbols"], apart := false, laid := [("postilion/lexer.symbols", laid_postilion_lexer_symbols)], narrowed := true }
def LexerCoverUptoSaid : Prop := lexerCoverUptoRow.holds Tryd.pinned (OpenSpec.upto lexerCoverSpec)

/-- 'postilionlaw03.LexerLayout', WHERE WHAT IT READS IS OF BULK AT MOST 1048576: true; the input reads as it did. -/
def lexerLayoutUptoRow : OpenClaim := { program := "ytdhemkcbaoebcaadoor", sum := "923a27e3cac729b50fa658154d3c3681f3b183561cb661a9f91bf580aa8cc95a", func := "postilion/postilionlaw03.LexerLayout", spec := "lexerLayout", unfollowed := true, recurses := true, named := ["postilion/lexer.symbols"], apart := false, laid := [("postilion/lexer.symbols", laid_postilion_lexer_symbols)], narrowed := true }
def LexerLayoutUptoSaid : Prop := lexerLayoutUptoRow.holds Tryd.pinned (OpenSpec.upto lexerLayoutSpec)

/-- 'postilionlaw03.LexerRuns', WHERE WHAT IT READS IS OF BULK AT MOST 1048576: true; the input reads as it did. -/
def lexerRunsUptoRow : OpenClaim := { program := "ytdhemkcbaoebcaadoor", sum := "923a27e3cac729b50fa658154d3c3681f3b183561cb661a9f91bf580aa8cc95a", func := "postilion/postilionlaw03.LexerRuns", spec := "lexerRuns", unfollowed := true, recurses := true, named := ["postilion/lexer.symbols"], apart := false, laid := [("postilion/lexer.symbols", laid_postilion_lexer_symbols)], narrowed := true }
def LexerRunsUptoSaid : Prop := lexerRunsUptoRow.holds Tryd.pinned (OpenSpec.upto lexerRunsSpec)

/-- 'postilionlaw03.LexerConcat', WHERE WHAT IT READS IS OF BULK AT MOST 1048576: true; the input reads as it did. -/
def lexerConcatUptoRow : OpenClaim := { program := "ytdhemkcbaoebcaadoor", sum := "923a27e3cac729b50fa658154d3c3681f3b183561cb661a9f91bf580aa8cc95a", func := "postilion/postilionlaw03.LexerConcat", spec := "lexerConcat", unfollowed := true, recurses := true, named := ["postilion/lexer.symbols"], apart := false, laid := [("postilion/lexer.symbols", laid_postilion_lexer_symbols)], narrowed := true }
def LexerConcatUptoSaid : Prop := lexerConcatUptoRow.holds Tryd.pinned (OpenSpec.upto lexerConcatSpec)

/-- 'postilionlaw03.LexerFirstError', WHERE WHAT IT READS IS OF BULK AT MOST 1048576: true; the input reads as it did. -/
def lexerFirstErrorUptoRow : OpenClaim := { program := "ytdhemkcbaoebcaadoor", sum := "923a27e3cac729b50fa658154d3c3681f3b183561cb661a9f91bf580aa8cc95a", func := "postilion/postilionlaw03.LexerFirstError", spec := "lexerFirstError", unfollowed := true, recurses := true, named := ["postilion/lexer.symbols"], apart := false, laid := [("postilion/lexer.symbols", laid_postilion_lexer_symbols)], narrowed := true }
def LexerFirstErrorUptoSaid : Prop := lexerFirstErrorUptoRow.holds Tryd.pinned (OpenSpec.upto lexerFirstErrorSpec)

/-- 'postilionlaw03.LexerPrefixes', WHERE WHAT IT READS IS OF BULK AT MOST 1048576: true; the input reads as it did. -/
def lexerPrefixesUptoRow : OpenClaim := { program := "ytdhemkcbaoebcaadoor", sum := "923a27e3cac729b50fa658154d3c3681f3b183561cb661a9f91bf580aa8cc95a", func := "postilion/postilionlaw03.LexerPrefixes", spec := "lexerPrefixes", unfollowed := true, recurses := true, named := ["postilion/lexer.symbols"], apart := false, laid := [("postilion/lexer.symbols", laid_postilion_lexer_symbols)], narrowed := true }
def LexerPrefixesUptoSaid : Prop := lexerPrefixesUptoRow.holds Tryd.pinned (OpenSpec.upto lexerPrefixesSpec)

end Rows
end Go.Proofs.YtdhemkcbaoebcaaDoor
