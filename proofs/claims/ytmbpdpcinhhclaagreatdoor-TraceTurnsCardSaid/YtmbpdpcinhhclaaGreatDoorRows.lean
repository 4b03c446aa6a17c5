/-
  NARROWER THAN 'FOR EVERY INPUT', by the rows' own cells (each row's printed sentence says how): TraceEncodes: laid · TraceDecodes: laid · TraceBack: laid · TraceOne: laid · TraceMarks: laid · TraceTurns: laid · TraceViews: laid · TraceCuts: laid · TraceSwaps: laid.
  DERIVED. THE GIVEN ROWS OF THIS SEAT. 9 by the template 'for every input the law returns true; each argument reads behind the call as it read before'; 0 by the template 'total and deterministic' (their statements: YtmbpdpcinhhclaaGreatDoorTotals.lean).
  GIVEN WITH THE SEED: the statements are not yours to turn. If you find one false, say at which input.
  Laid BY PROGRAM, IN A SANDBOX (cutbox-rows.mjs): the forced cells as the released guide's own fill.sh prints them over the translation 67b4b8a288646782… (all of the seat's roots in one cut). By AI agents, Wed Nov 11 2026. No macro, syntax, notation, axiom, sorry.
-/
import Derived.Test.YtmbpdpcinhhclaaGreatDoorChecked
import GoSem.PinnedTables
import GoSem.Claim
import GoSem.ClaimJoined
import GoSem.ClaimMapViews
import Derived.JoinedTies
import Derived.KernelRfl
namespace Go.Proofs.YtmbpdpcinhhclaaGreatDoor
/- THE CELL 'sum', in the pinned program and in every row, IS THE sha256 OF THE DUMP (.gsa) THAT YtmbpdpcinhhclaaGreatDoorProg.lean LOADS. Nothing in Lean hashes anything: it is a label: what it is worth is what the hold of that sum in a sandbox is worth. -/
noncomputable def Tryz.pinned : Pinned := { name := "ytmbpdpcinhhclaagreatdoor", sum := "67b4b8a2886467826cd8b7ef5a08bc1aff66a1cf056df7e71a6e9dfe20946366", checked := Tryz.checked }
namespace Rows
def none {H : Type} : Left H := { results := [], args := [] }

/- WHAT THE LISTED PACKAGE-LEVEL VARIABLES READ AS WHEN THE CALL BEGINS. Each datum BY PROGRAM (the guide's laid-datum.mjs) off the statement by which the dump's own 'gosem.cut.vars' lays the variable. In a bare row this is a premise. The card (YtmbpdpcinhhclaaGreatDoorCards.lean) ties it to the program's text. -/
def laid_unicode_utf8_acceptRanges {H : Type} : DataW H := .agg [.agg [.lit (.int .u8 128), .lit (.int .u8 191)], .agg [.lit (.int .u8 160), .lit (.int .u8 191)], .agg [.lit (.int .u8 128), .lit (.int .u8 159)], .agg [.lit (.int .u8 144), .lit (.int .u8 191)], .agg [.lit (.int .u8 128), .lit (.int .u8 143)], .agg [.lit (.int .u8 0), .lit (.int .u8 0)], .agg [.lit (.int .u8 0), .lit (.int .u8 0)], .agg [.lit (.int .u8 0), .lit (.int .u8 0)], .agg [.lit (.int .u8 0), .lit (.int .u8 0)], .agg [.lit (.int .u8 0), .lit (.int .u8 0)], .agg [.lit (.int .u8 0), .lit (.int .u8 0)], .agg [.lit (.int .u8 0), .lit (.int .u8 0)], .agg [.lit (.int .u8 0), .lit (.int .u8 0)], .agg [.lit (.int .u8 0), .lit (.int .u8 0)], .agg [.lit (.int .u8 0), .lit (.int .u8 0)], .agg [.lit (.int .u8 0), .lit (.int .u8 0)]]
def laid_deckle_entry_frames {H : Type} : DataW H := .agg [.lit (.int .i64 2), .lit (.int .i64 1)]
/-- One of Go's own tables, pinned by name: the form's constant. -/
def laid_unicode_utf8_first : DataW Unit := Go.Pinned.utf8First

/-- 'decklelaw13.TraceEncodes': WHATEVER THE INPUT: true; the input reads as it did. -/
def traceEncodesSpec : ChangeSpec := { name := "traceEncodes", fn := fun _ => fun
  | [d] => { results := [.lit (.bool true)], args := [d] }
  | _ => none }
def traceEncodesRow : OpenClaim := { program := "ytmbpdpcinhhclaagreatdoor", sum := "67b4b8a2886467826cd8b7ef5a08bc1aff66a1cf056df7e71a6e9dfe20946366", func := "deckle/decklelaw13.TraceEncodes", spec := "traceEncodes", inPlace := ["internal/bytealg.IndexByteString", "internal/bytealg.IndexString", "internal/bytealg.abigen_runtime_cmpstring", "math/bits.Add64", "math.Float64frombits"], unfollowed := true, recurses := true, named := ["unicode/utf8.first", "unicode/utf8.acceptRanges", "deckle/entry.frames", "internal/bytealg.MaxLen"], apart := false, laid := [("unicode/utf8.acceptRanges", laid_unicode_utf8_acceptRanges), ("deckle/entry.frames", laid_deckle_entry_frames), ("unicode/utf8.first", laid_unicode_utf8_first)] }
def TraceEncodesSaid : Prop := traceEncodesRow.holds Tryz.pinned (OpenSpec.ofChange traceEncodesSpec)

/-- ITS FALSE NEIGHBOUR: 'it returns false'. Refute it at one input. -/
def traceEncodesWrong : ChangeSpec := { name := "traceEncodes", fn := fun _ => fun
  | [d] => { results := [.lit (.bool false)], args := [d] }
  | _ => none }
def TraceEncodesWrongFalsely : Prop := traceEncodesRow.holds Tryz.pinned (OpenSpec.ofChange traceEncodesWrong)

/-- 'decklelaw13.TraceDecodes': WHATEVER THE INPUT: true; the input reads as it did. -/
def traceDecodesSpec : ChangeSpec := { name := "traceDecodes", fn := fun _ => fun
  | [d] => { results := [.lit (.bool true)], args := [d] }
  | _ => none }
def traceDecodesRow : OpenClaim := { program := "ytmbpdpcinhhclaagreatdoor", sum := "67b4b8a2886467826cd8b7ef5a08bc1aff66a1cf056df7e71a6e9dfe20946366", func := "deckle/decklelaw13.TraceDecodes", spec := "traceDecodes", inPlace := ["internal/bytealg.IndexByteString", "internal/bytealg.IndexString", "internal/bytealg.abigen_runtime_cmpstring", "math/bits.Add64", "math.Float64frombits"], unfollowed := true, recurses := true, named := ["unicode/utf8.first", "unicode/utf8.acceptRanges", "deckle/entry.frames", "internal/bytealg.MaxLen"], apart := false, laid := [("unicode/utf8.acceptRanges", laid_unicode_utf8_acceptRanges), ("deckle/entry.frames", laid_deckle_entry_frames), ("unicode/utf8.first", laid_unicode_utf8_first)] }
def TraceDecodesSaid : Prop := traceDecodesRow.holds Tryz.pinned (OpenSpec.ofChange traceDecodesSpec)

/-- ITS FALSE NEIGHBOUR: 'it returns false'. Refute it at one input. -/
def traceDecodesWrong : ChangeSpec := { name := "traceDecodes", fn := fun _ => fun
  | [d] => { results := [.lit (.bool false)], args := [d] }
  | _ => none }
def TraceDecodesWrongFalsely : Prop := traceDecodesRow.holds Tryz.pinned (OpenSpec.ofChange traceDecodesWrong)

/-- 'decklelaw13.TraceBack': WHATEVER THE INPUT: true; the input reads as it did. -/
def traceBackSpec : ChangeSpec := { name := "traceBack", fn := fun _ => fun
  | [d1, d2] => { results := [.lit (.bool true)], args := [d1, d2] }
  | _ => none }
def traceBackRow : OpenClaim := { program := "ytmbpdpcinhhclaagreatdoor", sum := "67b4b8a2886467826cd8b7ef5a08bc1aff66a1cf056df7e71a6e9dfe20946366", func := "deckle/decklelaw13.TraceBack", spec := "traceBack", inPlace := ["internal/bytealg.IndexByteString", "internal/bytealg.IndexString", "internal/bytealg.abigen_runtime_cmpstring", "math/bits.Add64"], unfollowed := true, recurses := true, named := ["unicode/utf8.first", "unicode/utf8.acceptRanges", "deckle/entry.frames", "internal/bytealg.MaxLen"], apart := false, laid := [("unicode/utf8.acceptRanges", laid_unicode_utf8_acceptRanges), ("deckle/entry.frames", laid_deckle_entry_frames), ("unicode/utf8.first", laid_unicode_utf8_first)] }
def TraceBackSaid : Prop := traceBackRow.holds Tryz.pinned (OpenSpec.ofChange traceBackSpec)

/-- ITS FALSE NEIGHBOUR: 'it returns false'. Refute it at one input. -/
def traceBackWrong : ChangeSpec := { name := "traceBack", fn := fun _ => fun
  | [d1, d2] => { results := [.lit (.bool false)], args := [d1, d2] }
  | _ => none }
def TraceBackWrongFalsely : Prop := traceBackRow.holds Tryz.pinned (OpenSpec.ofChange traceBackWrong)

/-- 'decklelaw13.TraceOne': WHATEVER THE INPUT: true; the input reads as it did. -/
def traceOneSpec : ChangeSpec := { name := "traceOne", fn := fun _ => fun
  | [d] => { results := [.lit (.bool true)], args := [d] }
  | _ => none }
def traceOneRow : OpenClaim := { program := "ytmbpdpcinhhclaagreatdoor", sum := "67b4b8a2886467826cd8b7ef5a08bc1aff66a1cf056df7e71a6e9dfe20946366", func := "deckle/decklelaw13.TraceOne", spec := "traceOne", inPlace := ["internal/bytealg.IndexByteString", "internal/bytealg.IndexString", "internal/bytealg.abigen_runtime_cmpstring", "math/bits.Add64"], unfollowed := true, recurses := true, named := ["unicode/utf8.first", "unicode/utf8.acceptRanges", "deckle/entry.frames", "internal/bytealg.MaxLen"], apart := false, laid := [("unicode/utf8.acceptRanges", laid_unicode_utf8_acceptRanges), ("deckle/entry.frames", laid_deckle_entry_frames), ("unicode/utf8.first", laid_unicode_utf8_first)] }
def TraceOneSaid : Prop := traceOneRow.holds Tryz.pinned (OpenSpec.ofChange traceOneSpec)

/-- ITS FALSE NEIGHBOUR: 'it returns false'. Refute it at one input. -/
def traceOneWrong : ChangeSpec := { name := "traceOne", fn := fun _ => fun
  | [d] => { results := [.lit (.bool false)], args := [d] }
  | _ => none }
def TraceOneWrongFalsely : Prop := traceOneRow.holds Tryz.pinned (OpenSpec.ofChange traceOneWrong)

/-- 'decklelaw13.TraceMarks': WHATEVER THE INPUT: true; the input reads as it did. -/
def traceMarksSpec : ChangeSpec := { name := "traceMarks", fn := fun _ => fun
  | [d] => { results := [.lit (.bool true)], args := [d] }
  | _ => none }
def traceMarksRow : OpenClaim := { program := "ytmbpdpcinhhclaagreatdoor", sum := "67b4b8a2886467826cd8b7ef5a08bc1aff66a1cf056df7e71a6e9dfe20946366", func := "deckle/decklelaw13.TraceMarks", spec := "traceMarks", inPlace := ["internal/bytealg.IndexByteString", "internal/bytealg.IndexString", "internal/bytealg.abigen_runtime_cmpstring", "math/bits.Add64"], unfollowed := true, recurses := true, named := ["unicode/utf8.first", "unicode/utf8.acceptRanges", "deckle/entry.frames", "internal/bytealg.MaxLen"], apart := false, laid := [("unicode/utf8.acceptRanges", laid_unicode_utf8_acceptRanges), ("deckle/entry.frames", laid_deckle_entry_frames), ("unicode/utf8.first", laid_unicode_utf8_first)] }
def TraceMarksSaid : Prop := traceMarksRow.holds Tryz.pinned (OpenSpec.ofChange traceMarksSpec)

/-- ITS FALSE NEIGHBOUR: 'it returns false'. Refute it at one input. -/
def traceMarksWrong : ChangeSpec := { name := "traceMarks", fn := fun _ => fun
  | [d] => { results := [.lit (.bool false)], args := [d] }
  | _ => none }
def TraceMarksWrongFalsely : Prop := traceMarksRow.holds Tryz.pinned (OpenSpec.ofChange traceMarksWrong)

/-- 'decklelaw13.TraceTurns': WHATEVER THE INPUT: true; the input reads as it did. -/
def traceTurnsSpec : ChangeSpec := { name := "traceTurns", fn := fun _ => fun
  | [d1, d2, d3] => { results := [.lit (.bool true)], args := [d1, d2, d3] }
  | _ => none }
def traceTurnsRow : OpenClaim := { program := "ytmbpdpcinhhclaagreatdoor", sum := "67b4b8a2886467826cd8b7ef5a08bc1aff66a1cf056df7e71a6e9dfe20946366", func := "deckle/decklelaw13.TraceTurns", spec := "traceTurns", inPlace := ["internal/bytealg.IndexByteString", "internal/bytealg.IndexString", "internal/bytealg.abigen_runtime_cmpstring", "math/bits.Add64"], unfollowed := true, recurses := true, named := ["unicode/utf8.first", "unicode/utf8.acceptRanges", "deckle/entry.frames", "internal/bytealg.MaxLen"], apart := false, laid := [("unicode/utf8.acceptRanges", laid_unicode_utf8_acceptRanges), ("deckle/entry.frames", laid_deckle_entry_frames), ("unicode/utf8.first", laid_unicode_utf8_first)] }
def TraceTurnsSaid : Prop := traceTurnsRow.holds Tryz.pinned (OpenSpec.ofChange traceTurnsSpec)

/-- ITS FALSE NEIGHBOUR: 'it returns false'. Refute it at one input. -/
def traceTurnsWrong : ChangeSpec := { name := "traceTurns", fn := fun _ => fun
  | [d1, d2, d3] => { results := [.lit (.bool false)], args := [d1, d2, d3] }
  | _ => none }
def TraceTurnsWrongFalsely : Prop := traceTurnsRow.holds Tryz.pinned (OpenSpec.ofChange traceTurnsWrong)

/-- 'decklelaw13.TraceViews': WHATEVER THE INPUT: true; the input reads as it did. -/
def traceViewsSpec : ChangeSpec := { name := "traceViews", fn := fun _ => fun
  | [d] => { results := [.lit (.bool true)], args := [d] }
  | _ => none }
def traceViewsRow : OpenClaim := { program := "ytmbpdpcinhhclaagreatdoor", sum := "67b4b8a2886467826cd8b7ef5a08bc1aff66a1cf056df7e71a6e9dfe20946366", func := "deckle/decklelaw13.TraceViews", spec := "traceViews", inPlace := ["internal/bytealg.IndexByteString", "internal/bytealg.IndexString", "internal/bytealg.abigen_runtime_cmpstring", "math/bits.Add64"], unfollowed := true, recurses := true, named := ["unicode/utf8.first", "unicode/utf8.acceptRanges", "deckle/entry.frames", "internal/bytealg.MaxLen"], apart := false, laid := [("unicode/utf8.acceptRanges", laid_unicode_utf8_acceptRanges), ("deckle/entry.frames", laid_deckle_entry_frames), ("unicode/utf8.first", laid_unicode_utf8_first)] }
def TraceViewsSaid : Prop := traceViewsRow.holds Tryz.pinned (OpenSpec.ofChange traceViewsSpec)

/-- ITS FALSE NEIGHBOUR: 'it returns false'. Refute it at one input. -/
def traceViewsWrong : ChangeSpec := { name := "traceViews", fn := fun _ => fun
  | [d] => { results := [.lit (.bool false)], args := [d] }
  | _ => none }
def TraceViewsWrongFalsely : Prop := traceViewsRow.holds Tryz.pinned (OpenSpec.ofChange traceViewsWrong)

/-- 'decklelaw13.TraceCuts': WHATEVER THE INPUT: true; the input reads as it did. -/
def traceCutsSpec : ChangeSpec := { name := "traceCuts", fn := fun _ => fun
  | [d] => { results := [.lit (.bool true)], args := [d] }
  | _ => none }
def traceCutsRow : OpenClaim := { program := "ytmbpdpcinhhclaagreatdoor", sum := "67b4b8a2886467826cd8b7ef5a08bc1aff66a1cf056df7e71a6e9dfe20946366", func := "deckle/decklelaw13.TraceCuts", spec := "traceCuts", inPlace := ["internal/bytealg.IndexByteString", "internal/bytealg.IndexString", "internal/bytealg.abigen_runtime_cmpstring", "math/bits.Add64"], unfollowed := true, recurses := true, named := ["unicode/utf8.first", "unicode/utf8.acceptRanges", "deckle/entry.frames", "internal/bytealg.MaxLen"], apart := false, laid := [("unicode/utf8.acceptRanges", laid_unicode_utf8_acceptRanges), ("deckle/entry.frames", laid_deckle_entry_frames), ("unicode/utf8.first", laid_unicode_utf8_first)] }
def TraceCutsSaid : Prop := traceCutsRow.holds Tryz.pinned (OpenSpec.ofChange traceCutsSpec)

/-- ITS FALSE NEIGHBOUR: 'it returns false'. Refute it at one input. -/
def traceCutsWrong : ChangeSpec := { name := "traceCuts", fn := fun _ => fun
  | [d] => { results := [.lit (.bool false)], args := [d] }
  | _ => none }
def TraceCutsWrongFalsely : Prop := traceCutsRow.holds Tryz.pinned (OpenSpec.ofChange traceCutsWrong)

/-- 'decklelaw13.TraceSwaps': WHATEVER THE INPUT: true; the input reads as it did. -/
def traceSwapsSpec : ChangeSpec := { name := "traceSwaps", fn := fun _ => fun
  | [d1, d2] => { results := [.lit (.bool true)], args := [d1, d2] }
  | _ => none }
def traceSwapsRow : OpenClaim := { program := "ytmbpdpcinhhclaagreatdoor", sum := "67b4b8a2886467826cd8b7ef5a08bc1aff66a1cf056df7e71a6e9dfe20946366", func := "deckle/decklelaw13.TraceSwaps", spec := "traceSwaps", inPlace := ["internal/bytealg.IndexByteString", "internal/bytealg.IndexString", "internal/bytealg.abigen_runtime_cmpstring", "math/bits.Add64"], unfollowed := true, recurses := true, named := ["unicode/utf8.first", "unicode/utf8.acceptRanges", "deckle/entry.frames", "internal/bytealg.MaxLen"], apart := false, laid := [("unicode/utf8.acceptRanges", laid_unicode_utf8_acceptRanges), ("deckle/entry.frames", laid_deckle_entry_frames), ("unicode/utf8.first", laid_unicode_utf8_first)] }
def TraceSwapsSaid : Prop := traceSwapsRow.holds Tryz.pinned (OpenSpec.ofChange traceSwapsSpec)

/-- ITS FALSE NEIGHBOUR: 'it returns false'. Refute it at one input. -/
def traceSwapsWrong : ChangeSpec := { name := "traceSwaps", fn := fun _ => fun
  | [d1, d2] => { results := [.lit (.bool false)], args := [d1, d2] }
  | _ => none }
def TraceSwapsWrongFalsely : Prop := traceSwapsRow.holds Tryz.pinned (OpenSpec.ofChange traceSwapsWrong)

/- THE SECOND FORM. 'bulk': how many values and letters a reading holds, each counted each time it is reached (what is shared counts as often as it is met; a slice's spare places count too). A statement '..UptoSaid' is the law's where the arguments, and the package variables that the reading takes, are together of bulk at most 1048576: NARROWER than '..Said'. Prove '..Said' where nothing that the law and all that it calls make is longer than what came in: it says more and counts as full. Else prove '..UptoSaid'. A law counts once. -/
mutual
def uptoBulk {H : Type} : DataW H → Nat
  | .lit (.string bytes) => bytes.length + 1
  | .lit _ => 1
  | .nil => 1
  | .ptr d => uptoBulk d + 1
  | .slice elems spare => uptoBulkAll elems + uptoBulkAll spare + 1
  | .agg parts => uptoBulkAll parts + 1
  | .iface _ d => uptoBulk d + 1
  | .map entries => uptoBulkEntries entries + 1
  | .held _ => 1
def uptoBulkAll {H : Type} : List (DataW H) → Nat
  | [] => 0
  | d :: r => uptoBulk d + uptoBulkAll r
def uptoBulkEntries {H : Type} : List (Lit × DataW H) → Nat
  | [] => 0
  | x :: r => uptoBulkEntry x + uptoBulkEntries r
def uptoBulkEntry {H : Type} : Lit × DataW H → Nat
  | (.string bytes, d) => bytes.length + uptoBulk d + 1
  | (_, d) => uptoBulk d + 1
 end
def uptoSmall : (H : Type) → List (DataW H) → Bool := fun _ ds => decide (uptoBulkAll ds ≤ 1048576)
def OpenSpec.upto (s : _root_.Go.ChangeSpec) : _root_.Go.OpenSpec := { _root_.Go.OpenSpec.ofChange s with cond := some uptoSmall }

/-- 'decklelaw13.TraceEncodes', WHERE WHAT IT READS IS OF BULK AT MOST 1048576: true; the input reads as it did. -/
def traceEncodesUptoRow : OpenClaim := { program := "ytmbpdpcinhhclaagreatdoor", sum := "67b4b8a2886467826cd8b7ef5a08bc1aff66a1cf056df7e71a6e9dfe20946366", func := "deckle/decklelaw13.TraceEncodes", spec := "traceEncodes", inPlace := ["internal/bytealg.IndexByteString", "internal/bytealg.IndexString", "internal/bytealg.abigen_runtime_cmpstring", "math/bits.Add64", "math.Float64frombits"], unfollowed := true, recurses := true, named := ["unicode/utf8.first", "unicode/utf8.acceptRanges", "deckle/entry.frames", "internal/bytealg.MaxLen"], apart := false, laid := [("unicode/utf8.acceptRanges", laid_unicode_utf8_acceptRanges), ("deckle/entry.frames", laid_deckle_entry_frames), ("unicode/utf8.first", laid_unicode_utf8_first)], narrowed := true }
def TraceEncodesUptoSaid : Prop := traceEncodesUptoRow.holds Tryz.pinned (OpenSpec.upto traceEncodesSpec)

/-- 'decklelaw13.TraceDecodes', WHERE WHAT IT READS IS OF BULK AT MOST 1048576: true; the input reads as it did. -/
def traceDecodesUptoRow : OpenClaim := { program := "ytmbpdpcinhhclaagreatdoor", sum := "67b4b8a2886467826cd8b7ef5a08bc1aff66a1cf056df7e71a6e9dfe20946366", func := "deckle/decklelaw13.TraceDecodes", spec := "traceDecodes", inPlace := ["internal/bytealg.IndexByteString", "internal/bytealg.IndexString", "internal/bytealg.abigen_runtime_cmpstring", "math/bits.Add64", "math.Float64frombits"], unfollowed := true, recurses := true, named := ["unicode/utf8.first", "unicode/utf8.acceptRanges", "deckle/entry.frames", "internal/bytealg.MaxLen"], apart := false, laid := [("unicode/utf8.acceptRanges", laid_unicode_utf8_acceptRanges), ("deckle/entry.frames", laid_deckle_entry_frames), ("unicode/utf8.first", laid_unicode_utf8_first)], narrowed := true }
def TraceDecodesUptoSaid : Prop := traceDecodesUptoRow.holds Tryz.pinned (OpenSpec.upto traceDecodesSpec)

/-- 'decklelaw13.TraceBack', WHERE WHAT IT READS IS OF BULK AT MOST 1048576: true; the input reads as it did. -/
def traceBackUptoRow : OpenClaim := { program := "ytmbpdpcinhhclaagreatdoor", sum := "67b4b8a2886467826cd8b7ef5a08bc1aff66a1cf056df7e71a6e9dfe20946366", func := "deckle/decklelaw13.TraceBack", spec := "traceBack", inPlace := ["internal/bytealg.IndexByteString", "internal/bytealg.IndexString", "internal/bytealg.abigen_runtime_cmpstring", "math/bits.Add64"], unfollowed := true, recurses := true, named := ["unicode/utf8.first", "unicode/utf8.acceptRanges", "deckle/entry.frames", "internal/bytealg.MaxLen"], apart := false, laid := [("unicode/utf8.acceptRanges", laid_unicode_utf8_acceptRanges), ("deckle/entry.frames", laid_deckle_entry_frames), ("unicode/utf8.first", laid_unicode_utf8_first)], narrowed := true }
def TraceBackUptoSaid : Prop := traceBackUptoRow.holds Tryz.pinned (OpenSpec.upto traceBackSpec)

/-- 'decklelaw13.TraceOne', WHERE WHAT IT READS IS OF BULK AT MOST 1048576: true; the input reads as it did. -/
def traceOneUptoRow : OpenClaim := { program := "ytmbpdpcinhhclaagreatdoor", sum := "67b4b8a2886467826cd8b7ef5a08bc1aff66a1cf056df7e71a6e9dfe20946366", func := "deckle/decklelaw13.TraceOne", spec := "traceOne", inPlace := ["internal/bytealg.IndexByteString", "internal/bytealg.IndexString", "internal/bytealg.abigen_runtime_cmpstring", "math/bits.Add64"], unfollowed := true, recurses := true, named := ["unicode/utf8.first", "unicode/utf8.acceptRanges", "deckle/entry.frames", "internal/bytealg.MaxLen"], apart := false, laid := [("unicode/utf8.acceptRanges", laid_unicode_utf8_acceptRanges), ("deckle/entry.frames", laid_deckle_entry_frames), ("unicode/utf8.first", laid_unicode_utf8_first)], narrowed := true }
def TraceOneUptoSaid : Prop := traceOneUptoRow.holds Tryz.pinned (OpenSpec.upto traceOneSpec)

/-- 'decklelaw13.TraceMarks', WHERE WHAT IT READS IS OF BULK AT MOST 1048576: true; the input reads as it did. -/
def traceMarksUptoRow : OpenClaim := { program := "ytmbpdpcinhhclaagreatdoor", sum := "67b4b8a2886467826cd8b7ef5a08bc1aff66a1cf056df7e71a6e9dfe20946366", func := "deckle/decklelaw13.TraceMarks", spec := "traceMarks", inPlace := ["internal/bytealg.IndexByteString", "internal/bytealg.IndexString", "internal/bytealg.abigen_runtime_cmpstring", "math/bits.Add64"], unfollowed := true, recurses := true, named := ["unicode/utf8.first", "unicode/utf8.acceptRanges", "deckle/entry.frames", "internal/bytealg.MaxLen"], apart := false, laid := [("unicode/utf8.acceptRanges", laid_unicode_utf8_acceptRanges), ("deckle/entry.frames", laid_deckle_entry_frames), ("unicode/utf8.first", laid_unicode_utf8_first)], narrowed := true }
def TraceMarksUptoSaid : Prop := traceMarksUptoRow.holds Tryz.pinned (OpenSpec.upto traceMarksSpec)

/-- 'decklelaw13.TraceTurns', WHERE WHAT IT READS IS OF BULK AT MOST 1048576: true; the input reads as it did. -/
def traceTurnsUptoRow : OpenClaim := { program := "ytmbpdpcinhhclaagreatdoor", sum := "67b4b8a2886467826cd8b7ef5a08bc1aff66a1cf056df7e71a6e9dfe20946366", func := "deckle/decklelaw13.TraceTurns", spec := "traceTurns", inPlace := ["internal/bytealg.IndexByteString", "internal/bytealg.IndexString", "internal/bytealg.abigen_runtime_cmpstring", "math/bits.Add64"], unfollowed := true, recurses := true, named := ["unicode/utf8.first", "unicode/utf8.acceptRanges", "deckle/entry.frames", "internal/bytealg.MaxLen"], apart := false, laid := [("unicode/utf8.acceptRanges", laid_unicode_utf8_acceptRanges), ("deckle/entry.frames", laid_deckle_entry_frames), ("unicode/utf8.first", laid_unicode_utf8_first)], narrowed := true }
def TraceTurnsUptoSaid : Prop := traceTurnsUptoRow.holds Tryz.pinned (OpenSpec.upto traceTurnsSpec)

/-- 'decklelaw13.TraceViews', WHERE WHAT IT READS IS OF BULK AT MOST 1048576: true; the input reads as it did. -/
def traceViewsUptoRow : OpenClaim := { program := "ytmbpdpcinhhclaagreatdoor", sum := "67b4b8a2886467826cd8b7ef5a08bc1aff66a1cf056df7e71a6e9dfe20946366", func := "deckle/decklelaw13.TraceViews", spec := "traceViews", inPlace := ["internal/bytealg.IndexByteString", "internal/bytealg.IndexString", "internal/bytealg.abigen_runtime_cmpstring", "math/bits.Add64"], unfollowed := true, recurses := true, named := ["unicode/utf8.first", "unicode/utf8.acceptRanges", "deckle/entry.frames", "internal/bytealg.MaxLen"], apart := false, laid := [("unicode/utf8.acceptRanges", laid_unicode_utf8_acceptRanges), ("deckle/entry.frames", laid_deckle_entry_frames), ("unicode/utf8.first", laid_unicode_utf8_first)], narrowed := true }
def TraceViewsUptoSaid : Prop := traceViewsUptoRow.holds Tryz.pinned (OpenSpec.upto traceViewsSpec)

/-- 'decklelaw13.TraceCuts', WHERE WHAT IT READS IS OF BULK AT MOST 1048576: true; the input reads as it did. -/
def traceCutsUptoRow : OpenClaim := { program := "ytmbpdpcinhhclaagreatdoor", sum := "67b4b8a2886467826cd8b7ef5a08bc1aff66a1cf056df7e71a6e9dfe20946366", func := "deckle/decklelaw13.TraceCuts", spec := "traceCuts", inPlace := ["internal/bytealg.IndexByteString", "internal/bytealg.IndexString", "internal/bytealg.abigen_runtime_cmpstring", "math/bits.Add64"], unfollowed := true, recurses := true, named := ["unicode/utf8.first", "unicode/utf8.acceptRanges", "deckle/entry.frames", "internal/bytealg.MaxLen"], apart := false, laid := [("unicode/utf8.acceptRanges", laid_unicode_utf8_acceptRanges), ("deckle/entry.frames", laid_deckle_entry_frames), ("unicode/utf8.first", laid_unicode_utf8_first)], narrowed := true }
def TraceCutsUptoSaid : Prop := traceCutsUptoRow.holds Tryz.pinned (OpenSpec.upto traceCutsSpec)

/-- 'decklelaw13.TraceSwaps', WHERE WHAT IT READS IS OF BULK AT MOST 1048576: true; the input reads as it did. -/
def traceSwapsUptoRow : OpenClaim := { program := "ytmbpdpcinhhclaagreatdoor", sum := "67b4b8a2886467826cd8b7ef5a08bc1aff66a1cf056df7e71a6e9dfe20946366", func := "deckle/decklelaw13.TraceSwaps", spec := "traceSwaps", inPlace := ["internal/bytealg.IndexByteString", "internal/bytealg.IndexString", "internal/bytealg.abigen_runtime_cmpstring", "math/bits.Add64"], unfollowed := true, recurses := true, named := ["unicode/utf8.first", "unicode/utf8.acceptRanges", "deckle/entry.frames", "internal/bytealg.MaxLen"], apart := false, laid := [("unicode/utf8.acceptRanges", laid_unicode_utf8_acceptRanges), ("deckle/entry.frames", laid_deckle_entry_frames), ("unicode/utf8.first", laid_unicode_utf8_first)], narrowed := true }
def TraceSwapsUptoSaid : Prop := traceSwapsUptoRow.holds Tryz.pinned (OpenSpec.upto traceSwapsSpec)

end Rows
end Go.Proofs.YtmbpdpcinhhclaaGreatDoor
