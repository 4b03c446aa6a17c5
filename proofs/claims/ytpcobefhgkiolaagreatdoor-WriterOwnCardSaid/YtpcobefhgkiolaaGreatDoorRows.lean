/-
  NARROWER THAN 'FOR EVERY INPUT', by the rows' own cells (each row's printed sentence says how): WriterActs: laid · WriterOpens: laid · WriterAll: laid · WriterTraces: laid · WriterReopens: laid · WriterRefuses: laid · WriterOwn: laid.
  DERIVED. THE GIVEN ROWS OF THIS SEAT. 7 by the template 'for every input the law returns true; each argument reads behind the call as it read before'; 0 by the template 'total and deterministic' (their statements: YtpcobefhgkiolaaGreatDoorTotals.lean).
  GIVEN WITH THE SEED: the statements are not yours to turn. If you find one false, say at which input.
  Laid BY PROGRAM, IN A SANDBOX (cutbox-rows.mjs): the forced cells as the released guide's own fill.sh prints them over the translation 4b93aaa06218fbfc… (all of the seat's roots in one cut). By AI agents, Wed Nov 11 2026. No macro, syntax, notation, axiom, sorry.
-/
import Derived.Test.YtpcobefhgkiolaaGreatDoorChecked
import GoSem.PinnedTables
import GoSem.Claim
import GoSem.ClaimJoined
import GoSem.ClaimMapViews
import Derived.JoinedTies
import Derived.KernelRfl
namespace Go.Proofs.YtpcobefhgkiolaaGreatDoor
/- THE CELL 'sum', in the pinned program and in every row, IS THE sha256 OF THE DUMP (.gsa) THAT YtpcobefhgkiolaaGreatDoorProg.lean LOADS. Nothing in Lean hashes anything: it is a label: what it is worth is what the hold of that sum in a sandbox is worth. -/
noncomputable def Tryz.pinned : Pinned := { name := "ytpcobefhgkiolaagreatdoor", sum := "4b93aaa06218fbfcaa3ce9bc5a6251e1e1784296d0d1e1adc62a85686bd8bd13", checked := Tryz.checked }
namespace Rows
def none {H : Type} : Left H := { results := [], args := [] }

/- WHAT THE LISTED PACKAGE-LEVEL VARIABLES READ AS WHEN THE CALL BEGINS. Each datum BY PROGRAM (the guide's laid-datum.mjs) off the statement by which the dump's own 'gosem.cut.vars' lays the variable. In a bare row this is a premise. The card (YtpcobefhgkiolaaGreatDoorCards.lean) ties it to the program's text. -/
def laid_unicode_utf8_acceptRanges {H : Type} : DataW H := .agg [.agg [.lit (.int .u8 128), .lit (.int .u8 191)], .agg [.lit (.int .u8 160), .lit (.int .u8 191)], .agg [.lit (.int .u8 128), .lit (.int .u8 159)], .agg [.lit (.int .u8 144), .lit (.int .u8 191)], .agg [.lit (.int .u8 128), .lit (.int .u8 143)], .agg [.lit (.int .u8 0), .lit (.int .u8 0)], .agg [.lit (.int .u8 0), .lit (.int .u8 0)], .agg [.lit (.int .u8 0), .lit (.int .u8 0)], .agg [.lit (.int .u8 0), .lit (.int .u8 0)], .agg [.lit (.int .u8 0), .lit (.int .u8 0)], .agg [.lit (.int .u8 0), .lit (.int .u8 0)], .agg [.lit (.int .u8 0), .lit (.int .u8 0)], .agg [.lit (.int .u8 0), .lit (.int .u8 0)], .agg [.lit (.int .u8 0), .lit (.int .u8 0)], .agg [.lit (.int .u8 0), .lit (.int .u8 0)], .agg [.lit (.int .u8 0), .lit (.int .u8 0)]]
def laid_deckle_entry_frames {H : Type} : DataW H := .agg [.lit (.int .i64 2), .lit (.int .i64 1)]
/-- One of Go's own tables, pinned by name: the form's constant. -/
def laid_unicode_utf8_first : DataW Unit := Go.Pinned.utf8First

/-- 'decklelaw14.WriterActs': WHATEVER THE INPUT: true; the input reads as it did. -/
def writerActsSpec : ChangeSpec := { name := "writerActs", fn := fun _ => fun
  | [d1, d2] => { results := [.lit (.bool true)], args := [d1, d2] }
  | _ => none }
def writerActsRow : OpenClaim := { program := "ytpcobefhgkiolaagreatdoor", sum := "4b93aaa06218fbfcaa3ce9bc5a6251e1e1784296d0d1e1adc62a85686bd8bd13", func := "deckle/decklelaw14.WriterActs", spec := "writerActs", inPlace := ["internal/bytealg.IndexByteString", "internal/bytealg.IndexString", "internal/bytealg.abigen_runtime_cmpstring", "math/bits.Add64", "math.Float64frombits"], unfollowed := true, recurses := true, named := ["unicode/utf8.first", "unicode/utf8.acceptRanges", "deckle/entry.frames", "internal/bytealg.MaxLen"], apart := false, laid := [("unicode/utf8.acceptRanges", laid_unicode_utf8_acceptRanges), ("deckle/entry.frames", laid_deckle_entry_frames), ("unicode/utf8.first", laid_unicode_utf8_first)] }
def WriterActsSaid : Prop := writerActsRow.holds Tryz.pinned (OpenSpec.ofChange writerActsSpec)

/-- ITS FALSE NEIGHBOUR: 'it returns false'. Refute it at one input. -/
def writerActsWrong : ChangeSpec := { name := "writerActs", fn := fun _ => fun
  | [d1, d2] => { results := [.lit (.bool false)], args := [d1, d2] }
  | _ => none }
def WriterActsWrongFalsely : Prop := writerActsRow.holds Tryz.pinned (OpenSpec.ofChange writerActsWrong)

/-- 'decklelaw14.WriterOpens': WHATEVER THE INPUT: true; the input reads as it did. -/
def writerOpensSpec : ChangeSpec := { name := "writerOpens", fn := fun _ => fun
  | [d1, d2] => { results := [.lit (.bool true)], args := [d1, d2] }
  | _ => none }
def writerOpensRow : OpenClaim := { program := "ytpcobefhgkiolaagreatdoor", sum := "4b93aaa06218fbfcaa3ce9bc5a6251e1e1784296d0d1e1adc62a85686bd8bd13", func := "deckle/decklelaw14.WriterOpens", spec := "writerOpens", inPlace := ["internal/bytealg.IndexByteString", "internal/bytealg.IndexString", "internal/bytealg.abigen_runtime_cmpstring", "math/bits.Add64", "math.Float64frombits"], unfollowed := true, recurses := true, named := ["unicode/utf8.first", "unicode/utf8.acceptRanges", "deckle/entry.frames", "internal/bytealg.MaxLen"], apart := false, laid := [("unicode/utf8.acceptRanges", laid_unicode_utf8_acceptRanges), ("deckle/entry.frames", laid_deckle_entry_frames), ("unicode/utf8.first", laid_unicode_utf8_first)] }
def WriterOpensSaid : Prop := writerOpensRow.holds Tryz.pinned (OpenSpec.ofChange writerOpensSpec)

/-- ITS FALSE NEIGHBOUR: 'it returns false'. Refute it at one input. -/
def writerOpensWrong : ChangeSpec := { name := "writerOpens", fn := fun _ => fun
  | [d1, d2] => { results := [.lit (.bool false)], args := [d1, d2] }
  | _ => none }
def WriterOpensWrongFalsely : Prop := writerOpensRow.holds Tryz.pinned (OpenSpec.ofChange writerOpensWrong)

/-- 'decklelaw14.WriterAll': WHATEVER THE INPUT: true; the input reads as it did. -/
def writerAllSpec : ChangeSpec := { name := "writerAll", fn := fun _ => fun
  | [d1, d2] => { results := [.lit (.bool true)], args := [d1, d2] }
  | _ => none }
def writerAllRow : OpenClaim := { program := "ytpcobefhgkiolaagreatdoor", sum := "4b93aaa06218fbfcaa3ce9bc5a6251e1e1784296d0d1e1adc62a85686bd8bd13", func := "deckle/decklelaw14.WriterAll", spec := "writerAll", inPlace := ["internal/bytealg.IndexByteString", "internal/bytealg.IndexString", "internal/bytealg.abigen_runtime_cmpstring", "math/bits.Add64", "math.Float64frombits"], unfollowed := true, recurses := true, named := ["unicode/utf8.first", "unicode/utf8.acceptRanges", "deckle/entry.frames", "internal/bytealg.MaxLen"], apart := false, laid := [("unicode/utf8.acceptRanges", laid_unicode_utf8_acceptRanges), ("deckle/entry.frames", laid_deckle_entry_frames), ("unicode/utf8.first", laid_unicode_utf8_first)] }
def WriterAllSaid : Prop := writerAllRow.holds Tryz.pinned (OpenSpec.ofChange writerAllSpec)

/-- ITS FALSE NEIGHBOUR: 'it returns false'. Refute it at one input. -/
def writerAllWrong : ChangeSpec := { name := "writerAll", fn := fun _ => fun
  | [d1, d2] => { results := [.lit (.bool false)], args := [d1, d2] }
  | _ => none }
def WriterAllWrongFalsely : Prop := writerAllRow.holds Tryz.pinned (OpenSpec.ofChange writerAllWrong)

/-- 'decklelaw14.WriterTraces': WHATEVER THE INPUT: true; the input reads as it did. -/
def writerTracesSpec : ChangeSpec := { name := "writerTraces", fn := fun _ => fun
  | [d1, d2] => { results := [.lit (.bool true)], args := [d1, d2] }
  | _ => none }
def writerTracesRow : OpenClaim := { program := "ytpcobefhgkiolaagreatdoor", sum := "4b93aaa06218fbfcaa3ce9bc5a6251e1e1784296d0d1e1adc62a85686bd8bd13", func := "deckle/decklelaw14.WriterTraces", spec := "writerTraces", inPlace := ["internal/bytealg.IndexByteString", "internal/bytealg.IndexString", "internal/bytealg.abigen_runtime_cmpstring", "math/bits.Add64"], unfollowed := true, recurses := true, named := ["unicode/utf8.first", "unicode/utf8.acceptRanges", "deckle/entry.frames", "internal/bytealg.MaxLen"], apart := false, laid := [("unicode/utf8.acceptRanges", laid_unicode_utf8_acceptRanges), ("deckle/entry.frames", laid_deckle_entry_frames), ("unicode/utf8.first", laid_unicode_utf8_first)] }
def WriterTracesSaid : Prop := writerTracesRow.holds Tryz.pinned (OpenSpec.ofChange writerTracesSpec)

/-- ITS FALSE NEIGHBOUR: 'it returns false'. Refute it at one input. -/
def writerTracesWrong : ChangeSpec := { name := "writerTraces", fn := fun _ => fun
  | [d1, d2] => { results := [.lit (.bool false)], args := [d1, d2] }
  | _ => none }
def WriterTracesWrongFalsely : Prop := writerTracesRow.holds Tryz.pinned (OpenSpec.ofChange writerTracesWrong)

/-- 'decklelaw14.WriterReopens': WHATEVER THE INPUT: true; the input reads as it did. -/
def writerReopensSpec : ChangeSpec := { name := "writerReopens", fn := fun _ => fun
  | [d1, d2, d3] => { results := [.lit (.bool true)], args := [d1, d2, d3] }
  | _ => none }
def writerReopensRow : OpenClaim := { program := "ytpcobefhgkiolaagreatdoor", sum := "4b93aaa06218fbfcaa3ce9bc5a6251e1e1784296d0d1e1adc62a85686bd8bd13", func := "deckle/decklelaw14.WriterReopens", spec := "writerReopens", inPlace := ["internal/bytealg.IndexByteString", "internal/bytealg.IndexString", "internal/bytealg.abigen_runtime_cmpstring", "math/bits.Add64"], unfollowed := true, recurses := true, named := ["unicode/utf8.first", "unicode/utf8.acceptRanges", "deckle/entry.frames", "internal/bytealg.MaxLen"], apart := false, laid := [("unicode/utf8.acceptRanges", laid_unicode_utf8_acceptRanges), ("deckle/entry.frames", laid_deckle_entry_frames), ("unicode/utf8.first", laid_unicode_utf8_first)] }
def WriterReopensSaid : Prop := writerReopensRow.holds Tryz.pinned (OpenSpec.ofChange writerReopensSpec)

/-- ITS FALSE NEIGHBOUR: 'it returns false'. Refute it at one input. -/
def writerReopensWrong : ChangeSpec := { name := "writerReopens", fn := fun _ => fun
  | [d1, d2, d3] => { results := [.lit (.bool false)], args := [d1, d2, d3] }
  | _ => none }
def WriterReopensWrongFalsely : Prop := writerReopensRow.holds Tryz.pinned (OpenSpec.ofChange writerReopensWrong)

/-- 'decklelaw14.WriterRefuses': WHATEVER THE INPUT: true; the input reads as it did. -/
def writerRefusesSpec : ChangeSpec := { name := "writerRefuses", fn := fun _ => fun
  | [d1, d2] => { results := [.lit (.bool true)], args := [d1, d2] }
  | _ => none }
def writerRefusesRow : OpenClaim := { program := "ytpcobefhgkiolaagreatdoor", sum := "4b93aaa06218fbfcaa3ce9bc5a6251e1e1784296d0d1e1adc62a85686bd8bd13", func := "deckle/decklelaw14.WriterRefuses", spec := "writerRefuses", inPlace := ["internal/bytealg.IndexByteString", "internal/bytealg.IndexString", "internal/bytealg.abigen_runtime_cmpstring", "math/bits.Add64"], unfollowed := true, recurses := true, named := ["unicode/utf8.first", "unicode/utf8.acceptRanges", "deckle/entry.frames", "internal/bytealg.MaxLen"], apart := false, laid := [("unicode/utf8.acceptRanges", laid_unicode_utf8_acceptRanges), ("deckle/entry.frames", laid_deckle_entry_frames), ("unicode/utf8.first", laid_unicode_utf8_first)] }
def WriterRefusesSaid : Prop := writerRefusesRow.holds Tryz.pinned (OpenSpec.ofChange writerRefusesSpec)

/-- ITS FALSE NEIGHBOUR: 'it returns false'. Refute it at one input. -/
def writerRefusesWrong : ChangeSpec := { name := "writerRefuses", fn := fun _ => fun
  | [d1, d2] => { results := [.lit (.bool false)], args := [d1, d2] }
  | _ => none }
def WriterRefusesWrongFalsely : Prop := writerRefusesRow.holds Tryz.pinned (OpenSpec.ofChange writerRefusesWrong)

/-- 'decklelaw14.WriterOwn': WHATEVER THE INPUT: true; the input reads as it did. -/
def writerOwnSpec : ChangeSpec := { name := "writerOwn", fn := fun _ => fun
  | [d1, d2] => { results := [.lit (.bool true)], args := [d1, d2] }
  | _ => none }
def writerOwnRow : OpenClaim := { program := "ytpcobefhgkiolaagreatdoor", sum := "4b93aaa06218fbfcaa3ce9bc5a6251e1e1784296d0d1e1adc62a85686bd8bd13", func := "deckle/decklelaw14.WriterOwn", spec := "writerOwn", inPlace := ["internal/bytealg.IndexByteString", "internal/bytealg.IndexString", "internal/bytealg.abigen_runtime_cmpstring", "math/bits.Add64"], unfollowed := true, recurses := true, named := ["unicode/utf8.first", "unicode/utf8.acceptRanges", "deckle/entry.frames", "internal/bytealg.MaxLen"], apart := false, laid := [("unicode/utf8.acceptRanges", laid_unicode_utf8_acceptRanges), ("deckle/entry.frames", laid_deckle_entry_frames), ("unicode/utf8.first", laid_unicode_utf8_first)] }
def WriterOwnSaid : Prop := writerOwnRow.holds Tryz.pinned (OpenSpec.ofChange writerOwnSpec)

/-- ITS FALSE NEIGHBOUR: 'it returns false'. Refute it at one input. -/
def writerOwnWrong : ChangeSpec := { name := "writerOwn", fn := fun _ => fun
  | [d1, d2] => { results := [.lit (.bool false)], args := [d1, d2] }
  | _ => none }
def WriterOwnWrongFalsely : Prop := writerOwnRow.holds Tryz.pinned (OpenSpec.ofChange writerOwnWrong)

/- THE SECOND FORM. 'bulk': how many values and letters a reading holds, each counted each time it is reached (what is shared counts as often as it is met; a slice's spare places count too). A statement '..UptoSaid' is the law's where the arguments, and the package variables that the reading takes, are together of bulk at most 1048576: NARROWER than '..Said'. Prove '..Said' where nothing that the law and all that it calls make is longer than what came in: it says more and counts as full. Else prove '..UptoSaid'. A law counts once. -/
mutual
def uptoBulk {H : Type} : DataW H → Nat
  | .lit (.string bytes) => bytes.length + 1
  | .lit _ => 1
  | .nil => 1
  | .ptr d => uptoBulk d + 1
  | .slice elems spare => uptoBulkAll elems + uptoBulkAll spare + 1
  | .agg parts => uptoBulkAll parts + 1
  | .iface _ d => uptoBulk d + 1
  | .map entries => uptoBulkEntries entries + 1
  | .held _ => 1
def uptoBulkAll {H : Type} : List (DataW H) → Nat
  | [] => 0
  | d :: r => uptoBulk d + uptoBulkAll r
def uptoBulkEntries {H : Type} : List (Lit × DataW H) → Nat
  | [] => 0
  | x :: r => uptoBulkEntry x + uptoBulkEntries r
def uptoBulkEntry {H : Type} : Lit × DataW H → Nat
  | (.string bytes, d) => bytes.length + uptoBulk d + 1
  | (_, d) => uptoBulk d + 1
 end
def uptoSmall : (H : Type) → List (DataW H) → Bool := fun _ ds => decide (uptoBulkAll ds ≤ 1048576)
def OpenSpec.upto (s : _root_.Go.ChangeSpec) : _root_.Go.OpenSpec := { _root_.Go.OpenSpec.ofChange s with cond := some uptoSmall }

/-- 'decklelaw14.WriterActs', WHERE WHAT IT READS IS OF BULK AT MOST 1048576: true; the input reads as it did. -/
def writerActsUptoRow : OpenClaim := { program := "ytpcobefhgkiolaagreatdoor", sum := "4b93aaa06218fbfcaa3ce9bc5a6251e1e1784296d0d1e1adc62a85686bd8bd13", func := "deckle/decklelaw14.WriterActs", spec := "writerActs", inPlace := ["internal/bytealg.IndexByteString", "internal/bytealg.IndexString", "internal/bytealg.abigen_runtime_cmpstring", "math/bits.Add64", "math.Float64frombits"], unfollowed := true, recurses := true, named := ["unicode/utf8.first", "unicode/utf8.acceptRanges", "deckle/entry.frames", "internal/bytealg.MaxLen"], apart := false, laid := [("unicode/utf8.acceptRanges", laid_unicode_utf8_acceptRanges), ("deckle/entry.frames", laid_deckle_entry_frames), ("unicode/utf8.first", laid_unicode_utf8_first)], narrowed := true }
def WriterActsUptoSaid : Prop := writerActsUptoRow.holds Tryz.pinned (OpenSpec.upto writerActsSpec)

/-- 'decklelaw14.WriterOpens', WHERE WHAT IT READS IS OF BULK AT MOST 1048576: true; the input reads as it did. -/
def writerOpensUptoRow : OpenClaim := { program := "ytpcobefhgkiolaagreatdoor", sum := "4b93aaa06218fbfcaa3ce9bc5a6251e1e1784296d0d1e1adc62a85686bd8bd13", func := "deckle/decklelaw14.WriterOpens", spec := "writerOpens", inPlace := ["internal/bytealg.IndexByteString", "internal/bytealg.IndexString", "internal/bytealg.abigen_runtime_cmpstring", "math/bits.Add64", "math.Float64frombits"], unfollowed := true, recurses := true, named := ["unicode/utf8.first", "unicode/utf8.acceptRanges", "deckle/entry.frames", "internal/bytealg.MaxLen"], apart := false, laid := [("unicode/utf8.acceptRanges", laid_unicode_utf8_acceptRanges), ("deckle/entry.frames", laid_deckle_entry_frames), ("unicode/utf8.first", laid_unicode_utf8_first)], narrowed := true }
def WriterOpensUptoSaid : Prop := writerOpensUptoRow.holds Tryz.pinned (OpenSpec.upto writerOpensSpec)

/-- 'decklelaw14.WriterAll', WHERE WHAT IT READS IS OF BULK AT MOST 1048576: true; the input reads as it did. -/
def writerAllUptoRow : OpenClaim := { program := "ytpcobefhgkiolaagreatdoor", sum := "4b93aaa06218fbfcaa3ce9bc5a6251e1e1784296d0d1e1adc62a85686bd8bd13", func := "deckle/decklelaw14.WriterAll", spec := "writerAll", inPlace := ["internal/bytealg.IndexByteString", "internal/bytealg.IndexString", "internal/bytealg.abigen_runtime_cmpstring", "math/bits.Add64", "math.Float64frombits"], unfollowed := true, recurses := true, named := ["unicode/utf8.first", "unicode/utf8.acceptRanges", "deckle/entry.frames", "internal/bytealg.MaxLen"], apart := false, laid := [("unicode/utf8.acceptRanges", laid_unicode_utf8_acceptRanges), ("deckle/entry.frames", laid_deckle_entry_frames), ("unicode/utf8.first", laid_unicode_utf8_first)], narrowed := true }
def WriterAllUptoSaid : Prop := writerAllUptoRow.holds Tryz.pinned (OpenSpec.upto writerAllSpec)

/-- 'decklelaw14.WriterTraces', WHERE WHAT IT READS IS OF BULK AT MOST 1048576: true; the input reads as it did. -/
def writerTracesUptoRow : OpenClaim := { program := "ytpcobefhgkiolaagreatdoor", sum := "4b93aaa06218fbfcaa3ce9bc5a6251e1e1784296d0d1e1adc62a85686bd8bd13", func := "deckle/decklelaw14.WriterTraces", spec := "writerTraces", inPlace := ["internal/bytealg.IndexByteString", "internal/bytealg.IndexString", "internal/bytealg.abigen_runtime_cmpstring", "math/bits.Add64"], unfollowed := true, recurses := true, named := ["unicode/utf8.first", "unicode/utf8.acceptRanges", "deckle/entry.frames", "internal/bytealg.MaxLen"], apart := false, laid := [("unicode/utf8.acceptRanges", laid_unicode_utf8_acceptRanges), ("deckle/entry.frames", laid_deckle_entry_frames), ("unicode/utf8.first", laid_unicode_utf8_first)], narrowed := true }
def WriterTracesUptoSaid : Prop := writerTracesUptoRow.holds Tryz.pinned (OpenSpec.upto writerTracesSpec)

/-- 'decklelaw14.WriterReopens', WHERE WHAT IT READS IS OF BULK AT MOST 1048576: true; the input reads as it did. -/
def writerReopensUptoRow : OpenClaim := { program := "ytpcobefhgkiolaagreatdoor", sum := "4b93aaa06218fbfcaa3ce9bc5a6251e1e1784296d0d1e1adc62a85686bd8bd13", func := "deckle/decklelaw14.WriterReopens", spec := "writerReopens", inPlace := ["internal/bytealg.IndexByteString", "internal/bytealg.IndexString", "internal/bytealg.abigen_runtime_cmpstring", "math/bits.Add64"], unfollowed := true, recurses := true, named := ["unicode/utf8.first", "unicode/utf8.acceptRanges", "deckle/entry.frames", "internal/bytealg.MaxLen"], apart := false, laid := [("unicode/utf8.acceptRanges", laid_unicode_utf8_acceptRanges), ("deckle/entry.frames", laid_deckle_entry_frames), ("unicode/utf8.first", laid_unicode_utf8_first)], narrowed := true }
def WriterReopensUptoSaid : Prop := writerReopensUptoRow.holds Tryz.pinned (OpenSpec.upto writerReopensSpec)

/-- 'decklelaw14.WriterRefuses', WHERE WHAT IT READS IS OF BULK AT MOST 1048576: true; the input reads as it did. -/
def writerRefusesUptoRow : OpenClaim := { program := "ytpcobefhgkiolaagreatdoor", sum := "4b93aaa06218fbfcaa3ce9bc5a6251e1e1784296d0d1e1adc62a85686bd8bd13", func := "deckle/decklelaw14.WriterRefuses", spec := "writerRefuses", inPlace := ["internal/bytealg.IndexByteString", "internal/bytealg.IndexString", "internal/bytealg.abigen_runtime_cmpstring", "math/bits.Add64"], unfollowed := true, recurses := true, named := ["unicode/utf8.first", "unicode/utf8.acceptRanges", "deckle/entry.frames", "internal/bytealg.MaxLen"], apart := false, laid := [("unicode/utf8.acceptRanges", laid_unicode_utf8_acceptRanges), ("deckle/entry.frames", laid_deckle_entry_frames), ("unicode/utf8.first", laid_unicode_utf8_first)], narrowed := true }
def WriterRefusesUptoSaid : Prop := writerRefusesUptoRow.holds Tryz.pinned (OpenSpec.upto writerRefusesSpec)

/-- 'decklelaw14.WriterOwn', WHERE WHAT IT READS IS OF BULK AT MOST 1048576: true; the input reads as it did. -/
def writerOwnUptoRow : OpenClaim := { program := "ytpcobefhgkiolaagreatdoor", sum := "4b93aaa06218fbfcaa3ce9bc5a6251e1e1784296d0d1e1adc62a85686bd8bd13", func := "deckle/decklelaw14.WriterOwn", spec := "writerOwn", inPlace := ["internal/bytealg.IndexByteString", "internal/bytealg.IndexString", "internal/bytealg.abigen_runtime_cmpstring", "math/bits.Add64"], unfollowed := true, recurses := true, named := ["unicode/utf8.first", "unicode/utf8.acceptRanges", "deckle/entry.frames", "internal/bytealg.MaxLen"], apart := false, laid := [("unicode/utf8.acceptRanges", laid_unicode_utf8_acceptRanges), ("deckle/entry.frames", laid_deckle_entry_frames), ("unicode/utf8.first", laid_unicode_utf8_first)], narrowed := true }
def WriterOwnUptoSaid : Prop := writerOwnUptoRow.holds Tryz.pinned (OpenSpec.upto writerOwnSpec)

end Rows
end Go.Proofs.YtpcobefhgkiolaaGreatDoor
