/-
  NARROWER THAN 'FOR EVERY INPUT', by the rows' own cells (each row's printed sentence says how): ColumnWrites: laid · ColumnReads: laid · ColumnShared: laid · ColumnBack: laid · ColumnOne: laid · ColumnTwo: laid · ColumnSteps: laid · ColumnGreatest: laid.
  DERIVED. THE GIVEN ROWS OF THIS SEAT. 8 by the template 'for every input the law returns true; each argument reads behind the call as it read before'; 0 by the template 'total and deterministic' (their statements: YtccclfpngdjmjaaDoorTotals.lean).
  GIVEN WITH THE SEED: the statements are not yours to turn. If you find one false, say at which input.
  Laid BY PROGRAM, IN A SANDBOX (cutbox-rows.mjs): the forced cells as the released guide's own fill.sh prints them over the translation a0f2aa35b555218a… (all of the seat's roots in one cut). By AI agents, Wed Nov 11 2026. No macro, syntax, notation, axiom, sorry.
-/
import Derived.Test.YtccclfpngdjmjaaDoorChecked
import GoSem.PinnedTables
import GoSem.Claim
import GoSem.ClaimJoined
import GoSem.ClaimMapViews
import Derived.JoinedTies
import Derived.KernelRfl
namespace Go.Proofs.YtccclfpngdjmjaaDoor
/- THE CELL 'sum', in the pinned program and in every row, IS THE sha256 OF THE DUMP (.gsa) THAT YtccclfpngdjmjaaDoorProg.lean LOADS. Nothing in Lean hashes anything: it is a label: what it is worth is what the hold of that sum in a sandbox is worth. -/
noncomputable def Tryd.pinned : Pinned := { name := "ytccclfpngdjmjaadoor", sum := "a0f2aa35b555218a5a0a1999db90f6846bb0966ddb7f3af449cff867fc655966", checked := Tryd.checked }
namespace Rows
def none {H : Type} : Left H := { results := [], args := [] }

/- WHAT THE LISTED PACKAGE-LEVEL VARIABLES READ AS WHEN THE CALL BEGINS. Each datum BY PROGRAM (the guide's laid-datum.mjs) off the statement by which the dump's own 'gosem.cut.vars' lays the variable. In a bare row this is a premise. The card (YtccclfpngdjmjaaDoorCards.lean) ties it to the program's text. -/
def laid_unicode_utf8_acceptRanges {H : Type} : DataW H := .agg [.agg [.lit (.int .u8 128), .lit (.int .u8 191)], .agg [.lit (.int .u8 160), .lit (.int .u8 191)], .agg [.lit (.int .u8 128), .lit (.int .u8 159)], .agg [.lit (.int .u8 144), .lit (.int .u8 191)], .agg [.lit (.int .u8 128), .lit (.int .u8 143)], .agg [.lit (.int .u8 0), .lit (.int .u8 0)], .agg [.lit (.int .u8 0), .lit (.int .u8 0)], .agg [.lit (.int .u8 0), .lit (.int .u8 0)], .agg [.lit (.int .u8 0), .lit (.int .u8 0)], .agg [.lit (.int .u8 0), .lit (.int .u8 0)], .agg [.lit (.int .u8 0), .lit (.int .u8 0)], .agg [.lit (.int .u8 0), .lit (.int .u8 0)], .agg [.lit (.int .u8 0), .lit (.int .u8 0)], .agg [.lit (.int .u8 0), .lit (.int .u8 0)], .agg [.lit (.int .u8 0), .lit (.int .u8 0)], .agg [.lit (.int .u8 0), .lit (.int .u8 0)]]
/-- One of Go's own tables, pinned by name: the form's constant. -/
def laid_unicode_utf8_first : DataW Unit := Go.Pinned.utf8First

/-- 'decklelaw09.ColumnWrites': WHATEVER THE INPUT: true; the input reads as it did. -/
def columnWritesSpec : ChangeSpec := { name := "columnWrites", fn := fun _ => fun
  | [d1, d2] => { results := [.lit (.bool true)], args := [d1, d2] }
  | _ => none }
def columnWritesRow : OpenClaim := { program := "ytccclfpngdjmjaadoor", sum := "a0f2aa35b555218a5a0a1999db90f6846bb0966ddb7f3af449cff867fc655966", func := "deckle/decklelaw09.ColumnWrites", spec := "columnWrites", unfollowed := true, recurses := true, named := ["unicode/utf8.first", "unicode/utf8.acceptRanges"], apart := false, laid := [("unicode/utf8.acceptRanges", laid_unicode_utf8_acceptRanges), ("unicode/utf8.first", laid_unicode_utf8_first)] }
def ColumnWritesSaid : Prop := columnWritesRow.holds Tryd.pinned (OpenSpec.ofChange columnWritesSpec)

/-- ITS FALSE NEIGHBOUR: 'it returns false'. Refute it at one input. -/
def columnWritesWrong : ChangeSpec := { name := "columnWrites", fn := fun _ => fun
  | [d1, d2] => { results := [.lit (.bool false)], args := [d1, d2] }
  | _ => none }
def ColumnWritesWrongFalsely : Prop := columnWritesRow.holds Tryd.pinned (OpenSpec.ofChange columnWritesWrong)

/-- 'decklelaw09.ColumnReads': WHATEVER THE INPUT: true; the input reads as it did. -/
def columnReadsSpec : ChangeSpec := { name := "columnReads", fn := fun _ => fun
  | [d1, d2, d3] => { results := [.lit (.bool true)], args := [d1, d2, d3] }
  | _ => none }
def columnReadsRow : OpenClaim := { program := "ytccclfpngdjmjaadoor", sum := "a0f2aa35b555218a5a0a1999db90f6846bb0966ddb7f3af449cff867fc655966", func := "deckle/decklelaw09.ColumnReads", spec := "columnReads", unfollowed := true, recurses := true, named := ["unicode/utf8.first", "unicode/utf8.acceptRanges"], apart := false, laid := [("unicode/utf8.acceptRanges", laid_unicode_utf8_acceptRanges), ("unicode/utf8.first", laid_unicode_utf8_first)] }
def ColumnReadsSaid : Prop := columnReadsRow.holds Tryd.pinned (OpenSpec.ofChange columnReadsSpec)

/-- ITS FALSE NEIGHBOUR: 'it returns false'. Refute it at one input. -/
def columnReadsWrong : ChangeSpec := { name := "columnReads", fn := fun _ => fun
  | [d1, d2, d3] => { results := [.lit (.bool false)], args := [d1, d2, d3] }
  | _ => none }
def ColumnReadsWrongFalsely : Prop := columnReadsRow.holds Tryd.pinned (OpenSpec.ofChange columnReadsWrong)

/-- 'decklelaw09.ColumnShared': WHATEVER THE INPUT: true; the input reads as it did. -/
def columnSharedSpec : ChangeSpec := { name := "columnShared", fn := fun _ => fun
  | [d1, d2, d3] => { results := [.lit (.bool true)], args := [d1, d2, d3] }
  | _ => none }
def columnSharedRow : OpenClaim := { program := "ytccclfpngdjmjaadoor", sum := "a0f2aa35b555218a5a0a1999db90f6846bb0966ddb7f3af449cff867fc655966", func := "deckle/decklelaw09.ColumnShared", spec := "columnShared", unfollowed := true, recurses := true, named := ["unicode/utf8.first", "unicode/utf8.acceptRanges"], apart := false, laid := [("unicode/utf8.acceptRanges", laid_unicode_utf8_acceptRanges), ("unicode/utf8.first", laid_unicode_utf8_first)] }
def ColumnSharedSaid : Prop := columnSharedRow.holds Tryd.pinned (OpenSpec.ofChange columnSharedSpec)

/-- ITS FALSE NEIGHBOUR: 'it returns false'. Refute it at one input. -/
def columnSharedWrong : ChangeSpec := { name := "columnShared", fn := fun _ => fun
  | [d1, d2, d3] => { results := [.lit (.bool false)], args := [d1, d2, d3] }
  | _ => none }
def ColumnSharedWrongFalsely : Prop := columnSharedRow.holds Tryd.pinned (OpenSpec.ofChange columnSharedWrong)

/-- 'decklelaw09.ColumnBack': WHATEVER THE INPUT: true; the input reads as it did. -/
def columnBackSpec : ChangeSpec := { name := "columnBack", fn := fun _ => fun
  | [d1, d2] => { results := [.lit (.bool true)], args := [d1, d2] }
  | _ => none }
def columnBackRow : OpenClaim := { program := "ytccclfpngdjmjaadoor", sum := "a0f2aa35b555218a5a0a1999db90f6846bb0966ddb7f3af449cff867fc655966", func := "deckle/decklelaw09.ColumnBack", spec := "columnBack", unfollowed := true, recurses := true, named := ["unicode/utf8.first", "unicode/utf8.acceptRanges"], apart := false, laid := [("unicode/utf8.acceptRanges", laid_unicode_utf8_acceptRanges), ("unicode/utf8.first", laid_unicode_utf8_first)] }
def ColumnBackSaid : Prop := columnBackRow.holds Tryd.pinned (OpenSpec.ofChange columnBackSpec)

/-- ITS FALSE NEIGHBOUR: 'it returns false'. Refute it at one input. -/
def columnBackWrong : ChangeSpec := { name := "columnBack", fn := fun _ => fun
  | [d1, d2] => { results := [.lit (.bool false)], args := [d1, d2] }
  | _ => none }
def ColumnBackWrongFalsely : Prop := columnBackRow.holds Tryd.pinned (OpenSpec.ofChange columnBackWrong)

/-- 'decklelaw09.ColumnOne': WHATEVER THE INPUT: true; the input reads as it did. -/
def columnOneSpec : ChangeSpec := { name := "columnOne", fn := fun _ => fun
  | [d1, d2, d3] => { results := [.lit (.bool true)], args := [d1, d2, d3] }
  | _ => none }
def columnOneRow : OpenClaim := { program := "ytccclfpngdjmjaadoor", sum := "a0f2aa35b555218a5a0a1999db90f6846bb0966ddb7f3af449cff867fc655966", func := "deckle/decklelaw09.ColumnOne", spec := "columnOne", unfollowed := true, recurses := true, named := ["unicode/utf8.first", "unicode/utf8.acceptRanges"], apart := false, laid := [("unicode/utf8.acceptRanges", laid_unicode_utf8_acceptRanges), ("unicode/utf8.first", laid_unicode_utf8_first)] }
def ColumnOneSaid : Prop := columnOneRow.holds Tryd.pinned (OpenSpec.ofChange columnOneSpec)

/-- ITS FALSE NEIGHBOUR: 'it returns false'. Refute it at one input. -/
def columnOneWrong : ChangeSpec := { name := "columnOne", fn := fun _ => fun
  | [d1, d2, d3] => { results := [.lit (.bool false)], args := [d1, d2, d3] }
  | _ => none }
def ColumnOneWrongFalsely : Prop := columnOneRow.holds Tryd.pinned (OpenSpec.ofChange columnOneWrong)

/-- 'decklelaw09.ColumnTwo': WHATEVER THE INPUT: true; the input reads as it did. -/
def columnTwoSpec : ChangeSpec := { name := "columnTwo", fn := fun _ => fun
  | [d1, d2, d3] => { results := [.lit (.bool true)], args := [d1, d2, d3] }
  | _ => none }
def columnTwoRow : OpenClaim := { program := "ytccclfpngdjmjaadoor", sum := "a0f2aa35b555218a5a0a1999db90f6846bb0966ddb7f3af449cff867fc655966", func := "deckle/decklelaw09.ColumnTwo", spec := "columnTwo", unfollowed := true, recurses := true, named := ["unicode/utf8.first", "unicode/utf8.acceptRanges"], apart := false, laid := [("unicode/utf8.acceptRanges", laid_unicode_utf8_acceptRanges), ("unicode/utf8.first", laid_unicode_utf8_first)] }
def ColumnTwoSaid : Prop := columnTwoRow.holds Tryd.pinned (OpenSpec.ofChange columnTwoSpec)

/-- ITS FALSE NEIGHBOUR: 'it returns false'. Refute it at one input. -/
def columnTwoWrong : ChangeSpec := { name := "columnTwo", fn := fun _ => fun
  | [d1, d2, d3] => { results := [.lit (.bool false)], args := [d1, d2, d3] }
  | _ => none }
def ColumnTwoWrongFalsely : Prop := columnTwoRow.holds Tryd.pinned (OpenSpec.ofChange columnTwoWrong)

/-- 'decklelaw09.ColumnSteps': WHATEVER THE INPUT: true; the input reads as it did. -/
def columnStepsSpec : ChangeSpec := { name := "columnSteps", fn := fun _ => fun
  | [d1, d2, d3] => { results := [.lit (.bool true)], args := [d1, d2, d3] }
  | _ => none }
def columnStepsRow : OpenClaim := { program := "ytccclfpngdjmjaadoor", sum := "a0f2aa35b555218a5a0a1999db90f6846bb0966ddb7f3af449cff867fc655966", func := "deckle/decklelaw09.ColumnSteps", spec := "columnSteps", unfollowed := true, recurses := true, named := ["unicode/utf8.first", "unicode/utf8.acceptRanges"], apart := false, laid := [("unicode/utf8.acceptRanges", laid_unicode_utf8_acceptRanges), ("unicode/utf8.first", laid_unicode_utf8_first)] }
def ColumnStepsSaid : Prop := columnStepsRow.holds Tryd.pinned (OpenSpec.ofChange columnStepsSpec)

/-- ITS FALSE NEIGHBOUR: 'it returns false'. Refute it at one input. -/
def columnStepsWrong : ChangeSpec := { name := "columnSteps", fn := fun _ => fun
  | [d1, d2, d3] => { results := [.lit (.bool false)], args := [d1, d2, d3] }
  | _ => none }
def ColumnStepsWrongFalsely : Prop := columnStepsRow.holds Tryd.pinned (OpenSpec.ofChange columnStepsWrong)

/-- 'decklelaw09.ColumnGreatest': WHATEVER THE INPUT: true; the input reads as it did. -/
def columnGreatestSpec : ChangeSpec := { name := "columnGreatest", fn := fun _ => fun
  | [d1, d2] => { results := [.lit (.bool true)], args := [d1, d2] }
  | _ => none }
def columnGreatestRow : OpenClaim := { program := "ytccclfpngdjmjaadoor", sum := "a0f2aa35b555218a5a0a1999db90f6846bb0966ddb7f3af449cff867fc655966", func := "deckle/decklelaw09.ColumnGreatest", spec := "columnGreatest", unfollowed := true, recurses := true, named := ["unicode/utf8.first", "unicode/utf8.acceptRanges"], apart := false, laid := [("unicode/utf8.acceptRanges", laid_unicode_utf8_acceptRanges), ("unicode/utf8.first", laid_unicode_utf8_first)] }
def ColumnGreatestSaid : Prop := columnGreatestRow.holds Tryd.pinned (OpenSpec.ofChange columnGreatestSpec)

/-- ITS FALSE NEIGHBOUR: 'it returns false'. Refute it at one input. -/
def columnGreatestWrong : ChangeSpec := { name := "columnGreatest", fn := fun _ => fun
  | [d1, d2] => { results := [.lit (.bool false)], args := [d1, d2] }
  | _ => none }
def ColumnGreatestWrongFalsely : Prop := columnGreatestRow.holds Tryd.pinned (OpenSpec.ofChange columnGreatestWrong)

/- THE SECOND FORM. 'bulk': how many values and letters a reading holds, each counted each time it is reached (what is shared counts as often as it is met; a slice's spare places count too). A statement '..UptoSaid' is the law's where the arguments, and the package variables that the reading takes, are together of bulk at most 1048576: NARROWER than '..Said'. Prove '..Said' where nothing that the law and all that it calls make is longer than what came in: it says more and counts as full. Else prove '..UptoSaid'. A law counts once. -/
mutual
def uptoBulk {H : Type} : DataW H → Nat
  | .lit (.string bytes) => bytes.length + 1
  | .lit _ => 1
  | .nil => 1
  | .ptr d => uptoBulk d + 1
  | .slice elems spare => uptoBulkAll elems + uptoBulkAll spare + 1
  | .agg parts => uptoBulkAll parts + 1
  | .iface _ d => uptoBulk d + 1
  | .map entries => uptoBulkEntries entries + 1
  | .held _ => 1
def uptoBulkAll {H : Type} : List (DataW H) → Nat
  | [] => 0
  | d :: r => uptoBulk d + uptoBulkAll r
def uptoBulkEntries {H : Type} : List (Lit × DataW H) → Nat
  | [] => 0
  | x :: r => uptoBulkEntry x + uptoBulkEntries r
def uptoBulkEntry {H : Type} : Lit × DataW H → Nat
  | (.string bytes, d) => bytes.length + uptoBulk d + 1
  | (_, d) => uptoBulk d + 1
 end
def uptoSmall : (H : Type) → List (DataW H) → Bool := fun _ ds => decide (uptoBulkAll ds ≤ 1048576)
def OpenSpec.upto (s : _root_.Go.ChangeSpec) : _root_.Go.OpenSpec := { _root_.Go.OpenSpec.ofChange s with cond := some uptoSmall }

/-- 'decklelaw09.ColumnWrites', WHERE WHAT IT READS IS OF BULK AT MOST 1048576: true; the input reads as it did. -/
def columnWritesUptoRow : OpenClaim := { program := "ytccclfpngdjmjaadoor", sum := "a0f2aa35b555218a5a0a1999db90f6846bb0966ddb7f3af449cff867fc655966", func := "deckle/decklelaw09.ColumnWrites", spec := "columnWrites", unfollowed := true, recurses := true, named := ["unicode/utf8.first", "unicode/utf8.acceptRanges"], apart := false, laid := [("unicode/utf8.acceptRanges", laid_unicode_utf8_acceptRanges), ("unicode/utf8.first", laid_unicode_utf8_first)], narrowed := true }
def ColumnWritesUptoSaid : Prop := columnWritesUptoRow.holds Tryd.pinned (OpenSpec.upto columnWritesSpec)

/-- 'decklelaw09.ColumnReads', WHERE WHAT IT READS IS OF BULK AT MOST 1048576: true; the input reads as it did. -/
def columnReadsUptoRow : OpenClaim := { program := "ytccclfpngdjmjaadoor", sum := "a0f2aa35b555218a5a0a1999db90f6846bb0966ddb7f3af449cff867fc655966", func := "deckle/decklelaw09.ColumnReads", spec := "columnReads", unfollowed := true, recurses := true, named := ["unicode/utf8.first", "unicode/utf8.acceptRanges"], apart := false, laid := [("unicode/utf8.acceptRanges", laid_unicode_utf8_acceptRanges), ("unicode/utf8.first", laid_unicode_utf8_first)], narrowed := true }
def ColumnReadsUptoSaid : Prop := columnReadsUptoRow.holds Tryd.pinned (OpenSpec.upto columnReadsSpec)

/-- 'decklelaw09.ColumnShared', WHERE WHAT IT READS IS OF BULK AT MOST 1048576: true; the input reads as it did. -/
def columnSharedUptoRow : OpenClaim := { program := "ytccclfpngdjmjaadoor", sum := "a0f2aa35b555218a5a0a1999db90f6846bb0966ddb7f3af449cff867fc655966", func := "deckle/decklelaw09.ColumnShared", spec := "columnShared", unfollowed := true, recurses := true, named := ["unicode/utf8.first", "unicode/utf8.acceptRanges"], apart := false, laid := [("unicode/utf8.acceptRanges", laid_unicode_utf8_acceptRanges), ("unicode/utf8.first", laid_unicode_utf8_first)], narrowed := true }
def ColumnSharedUptoSaid : Prop := columnSharedUptoRow.holds Tryd.pinned (OpenSpec.upto columnSharedSpec)

/-- 'decklelaw09.ColumnBack', WHERE WHAT IT READS IS OF BULK AT MOST 1048576: true; the input reads as it did. -/
def columnBackUptoRow : OpenClaim := { program := "ytccclfpngdjmjaadoor", sum := "a0f2aa35b555218a5a0a1999db90f6846bb0966ddb7f3af449cff867fc655966", func := "deckle/decklelaw09.ColumnBack", spec := "columnBack", unfollowed := true, recurses := true, named := ["unicode/utf8.first", "unicode/utf8.acceptRanges"], apart := false, laid := [("unicode/utf8.acceptRanges", laid_unicode_utf8_acceptRanges), ("unicode/utf8.first", laid_unicode_utf8_first)], narrowed := true }
def ColumnBackUptoSaid : Prop := columnBackUptoRow.holds Tryd.pinned (OpenSpec.upto columnBackSpec)

/-- 'decklelaw09.ColumnOne', WHERE WHAT IT READS IS OF BULK AT MOST 1048576: true; the input reads as it did. -/
def columnOneUptoRow : OpenClaim := { program := "ytccclfpngdjmjaadoor", sum := "a0f2aa35b555218a5a0a1999db90f6846bb0966ddb7f3af449cff867fc655966", func := "deckle/decklelaw09.ColumnOne", spec := "columnOne", unfollowed := true, recurses := true, named := ["unicode/utf8.first", "unicode/utf8.acceptRanges"], apart := false, laid := [("unicode/utf8.acceptRanges", laid_unicode_utf8_acceptRanges), ("unicode/utf8.first", laid_unicode_utf8_first)], narrowed := true }
def ColumnOneUptoSaid : Prop := columnOneUptoRow.holds Tryd.pinned (OpenSpec.upto columnOneSpec)

/-- 'decklelaw09.ColumnTwo', WHERE WHAT IT READS IS OF BULK AT MOST 1048576: true; the input reads as it did. -/
def columnTwoUptoRow : OpenClaim := { program := "ytccclfpngdjmjaadoor", sum := "a0f2aa35b555218a5a0a1999db90f6846bb0966ddb7f3af449cff867fc655966", func := "deckle/decklelaw09.ColumnTwo", spec := "columnTwo", unfollowed := true, recurses := true, named := ["unicode/utf8.first", "unicode/utf8.acceptRanges"], apart := false, laid := [("unicode/utf8.acceptRanges", laid_unicode_utf8_acceptRanges), ("unicode/utf8.first", laid_unicode_utf8_first)], narrowed := true }
def ColumnTwoUptoSaid : Prop := columnTwoUptoRow.holds Tryd.pinned (OpenSpec.upto columnTwoSpec)

/-- 'decklelaw09.ColumnSteps', WHERE WHAT IT READS IS OF BULK AT MOST 1048576: true; the input reads as it did. -/
def columnStepsUptoRow : OpenClaim := { program := "ytccclfpngdjmjaadoor", sum := "a0f2aa35b555218a5a0a1999db90f6846bb0966ddb7f3af449cff867fc655966", func := "deckle/decklelaw09.ColumnSteps", spec := "columnSteps", unfollowed := true, recurses := true, named := ["unicode/utf8.first", "unicode/utf8.acceptRanges"], apart := false, laid := [("unicode/utf8.acceptRanges", laid_unicode_utf8_acceptRanges), ("unicode/utf8.first", laid_unicode_utf8_first)], narrowed := true }
def ColumnStepsUptoSaid : Prop := columnStepsUptoRow.holds Tryd.pinned (OpenSpec.upto columnStepsSpec)

/-- 'decklelaw09.ColumnGreatest', WHERE WHAT IT READS IS OF BULK AT MOST 1048576: true; the input reads as it did. -/
def columnGreatestUptoRow : OpenClaim := { program := "ytccclfpngdjmjaadoor", sum := "a0f2aa35b555218a5a0a1999db90f6846bb0966ddb7f3af449cff867fc655966", func := "deckle/decklelaw09.ColumnGreatest", spec := "columnGreatest", unfollowed := true, recurses := true, named := ["unicode/utf8.first", "unicode/utf8.acceptRanges"], apart := false, laid := [("unicode/utf8.acceptRanges", laid_unicode_utf8_acceptRanges), ("unicode/utf8.first", laid_unicode_utf8_first)], narrowed := true }
def ColumnGreatestUptoSaid : Prop := columnGreatestUptoRow.holds Tryd.pinned (OpenSpec.upto columnGreatestSpec)

end Rows
end Go.Proofs.YtccclfpngdjmjaaDoor
