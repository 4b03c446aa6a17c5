/-
  NARROWER THAN 'FOR EVERY INPUT', by the rows' own cells (each row's printed sentence says how): ReviveBytes: laid · ReviveActs: laid · ReviveNone: laid · ReviveTwice: laid · ReviveKeeps: laid · ReviveGoesOn: laid · ReviveJunk: laid · ReviveSync: laid.
  DERIVED. THE GIVEN ROWS OF THIS SEAT. 8 by the template 'for every input the law returns true; each argument reads behind the call as it read before'; 0 by the template 'total and deterministic' (their statements: YtlapgdocpndfiaaGreatDoorTotals.lean).
  GIVEN WITH THE SEED: the statements are not yours to turn. If you find one false, say at which input.
  Laid BY PROGRAM, IN A SANDBOX (cutbox-rows.mjs): the forced cells as the released guide's own fill.sh prints them over the translation 0f041d5906c1410a… (all of the seat's roots in one cut). By AI agents, Wed Nov 11 2026. No macro, syntax, notation, axiom, sorry.
-/
import Derived.Test.YtlapgdocpndfiaaGreatDoorChecked
import GoSem.PinnedTables
import GoSem.Claim
import GoSem.ClaimJoined
import GoSem.ClaimMapViews
import Derived.JoinedTies
import Derived.KernelRfl
namespace Go.Proofs.YtlapgdocpndfiaaGreatDoor
/- THE CELL 'sum', in the pinned program and in every row, IS THE sha256 OF THE DUMP (.gsa) THAT YtlapgdocpndfiaaGreatDoorProg.lean LOADS. Nothing in Lean hashes anything: it is a label: what it is worth is what the hold of that sum in a sandbox is worth. -/
noncomputable def Tryz.pinned : Pinned := { name := "ytlapgdocpndfiaagreatdoor", sum := "0f041d5906c1410a8dba68555044994e859b25b643ffec5b3484e18abcedd271", checked := Tryz.checked }
namespace Rows
def none {H : Type} : Left H := { results := [], args := [] }

/- WHAT THE LISTED PACKAGE-LEVEL VARIABLES READ AS WHEN THE CALL BEGINS. Each datum BY PROGRAM (the guide's laid-datum.mjs) off the statement by which the dump's own 'gosem.cut.vars' lays the variable. In a bare row this is a premise. The card (YtlapgdocpndfiaaGreatDoorCards.lean) ties it to the program's text. -/
def laid_unicode_utf8_acceptRanges {H : Type} : DataW H := .agg [.agg [.lit (.int .u8 128), .lit (.int .u8 191)], .agg [.lit (.int .u8 160), .lit (.int .u8 191)], .agg [.lit (.int .u8 128), .lit (.int .u8 159)], .agg [.lit (.int .u8 144), .lit (.int .u8 191)], .agg [.lit (.int .u8 128), .lit (.int .u8 143)], .agg [.lit (.int .u8 0), .lit (.int .u8 0)], .agg [.lit (.int .u8 0), .lit (.int .u8 0)], .agg [.lit (.int .u8 0), .lit (.int .u8 0)], .agg [.lit (.int .u8 0), .lit (.int .u8 0)], .agg [.lit (.int .u8 0), .lit (.int .u8 0)], .agg [.lit (.int .u8 0), .lit (.int .u8 0)], .agg [.lit (.int .u8 0), .lit (.int .u8 0)], .agg [.lit (.int .u8 0), .lit (.int .u8 0)], .agg [.lit (.int .u8 0), .lit (.int .u8 0)], .agg [.lit (.int .u8 0), .lit (.int .u8 0)], .agg [.lit (.int .u8 0), .lit (.int .u8 0)]]
def laid_deckle_entry_frames {H : Type} : DataW H := .agg [.lit (.int .i64 2), .lit (.int .i64 1)]
/-- One of Go's own tables, pinned by name: the form's constant. -/
def laid_unicode_utf8_first : DataW Unit := Go.Pinned.utf8First

/-- 'decklelaw16.ReviveBytes': WHATEVER THE INPUT: true; the input reads as it did. -/
def reviveBytesSpec : ChangeSpec := { name := "reviveBytes", fn := fun _ => fun
  | [d] => { results := [.lit (.bool true)], args := [d] }
  | _ => none }
def reviveBytesRow : OpenClaim := { program := "ytlapgdocpndfiaagreatdoor", sum := "0f041d5906c1410a8dba68555044994e859b25b643ffec5b3484e18abcedd271", func := "deckle/decklelaw16.ReviveBytes", spec := "reviveBytes", inPlace := ["internal/bytealg.IndexByteString", "internal/bytealg.IndexString", "internal/bytealg.abigen_runtime_cmpstring", "math/bits.Add64", "math.Float64frombits"], unfollowed := true, recurses := true, named := ["unicode/utf8.first", "unicode/utf8.acceptRanges", "deckle/entry.frames", "internal/bytealg.MaxLen"], apart := false, laid := [("unicode/utf8.acceptRanges", laid_unicode_utf8_acceptRanges), ("deckle/entry.frames", laid_deckle_entry_frames), ("unicode/utf8.first", laid_unicode_utf8_first)] }
def ReviveBytesSaid : Prop := reviveBytesRow.holds Tryz.pinned (OpenSpec.ofChange reviveBytesSpec)

/-- ITS FALSE NEIGHBOUR: 'it returns false'. Refute it at one input. -/
def reviveBytesWrong : ChangeSpec := { name := "reviveBytes", fn := fun _ => fun
  | [d] => { results := [.lit (.bool false)], args := [d] }
  | _ => none }
def ReviveBytesWrongFalsely : Prop := reviveBytesRow.holds Tryz.pinned (OpenSpec.ofChange reviveBytesWrong)

/-- 'decklelaw16.ReviveActs': WHATEVER THE INPUT: true; the input reads as it did. -/
def reviveActsSpec : ChangeSpec := { name := "reviveActs", fn := fun _ => fun
  | [d1, d2] => { results := [.lit (.bool true)], args := [d1, d2] }
  | _ => none }
def reviveActsRow : OpenClaim := { program := "ytlapgdocpndfiaagreatdoor", sum := "0f041d5906c1410a8dba68555044994e859b25b643ffec5b3484e18abcedd271", func := "deckle/decklelaw16.ReviveActs", spec := "reviveActs", inPlace := ["internal/bytealg.IndexByteString", "internal/bytealg.IndexString", "internal/bytealg.abigen_runtime_cmpstring", "math/bits.Add64", "math.Float64frombits"], unfollowed := true, recurses := true, named := ["unicode/utf8.first", "unicode/utf8.acceptRanges", "deckle/entry.frames", "internal/bytealg.MaxLen"], apart := false, laid := [("unicode/utf8.acceptRanges", laid_unicode_utf8_acceptRanges), ("deckle/entry.frames", laid_deckle_entry_frames), ("unicode/utf8.first", laid_unicode_utf8_first)] }
def ReviveActsSaid : Prop := reviveActsRow.holds Tryz.pinned (OpenSpec.ofChange reviveActsSpec)

/-- ITS FALSE NEIGHBOUR: 'it returns false'. Refute it at one input. -/
def reviveActsWrong : ChangeSpec := { name := "reviveActs", fn := fun _ => fun
  | [d1, d2] => { results := [.lit (.bool false)], args := [d1, d2] }
  | _ => none }
def ReviveActsWrongFalsely : Prop := reviveActsRow.holds Tryz.pinned (OpenSpec.ofChange reviveActsWrong)

/-- 'decklelaw16.ReviveNone': WHATEVER THE INPUT: true; the input reads as it did. -/
def reviveNoneSpec : ChangeSpec := { name := "reviveNone", fn := fun _ => fun
  | [d1, d2] => { results := [.lit (.bool true)], args := [d1, d2] }
  | _ => none }
def reviveNoneRow : OpenClaim := { program := "ytlapgdocpndfiaagreatdoor", sum := "0f041d5906c1410a8dba68555044994e859b25b643ffec5b3484e18abcedd271", func := "deckle/decklelaw16.ReviveNone", spec := "reviveNone", inPlace := ["internal/bytealg.IndexByteString", "internal/bytealg.IndexString", "internal/bytealg.abigen_runtime_cmpstring", "math/bits.Add64"], unfollowed := true, recurses := true, named := ["unicode/utf8.first", "unicode/utf8.acceptRanges", "deckle/entry.frames", "internal/bytealg.MaxLen"], apart := false, laid := [("unicode/utf8.acceptRanges", laid_unicode_utf8_acceptRanges), ("deckle/entry.frames", laid_deckle_entry_frames), ("unicode/utf8.first", laid_unicode_utf8_first)] }
def ReviveNoneSaid : Prop := reviveNoneRow.holds Tryz.pinned (OpenSpec.ofChange reviveNoneSpec)

/-- ITS FALSE NEIGHBOUR: 'it returns false'. Refute it at one input. -/
def reviveNoneWrong : ChangeSpec := { name := "reviveNone", fn := fun _ => fun
  | [d1, d2] => { results := [.lit (.bool false)], args := [d1, d2] }
  | _ => none }
def ReviveNoneWrongFalsely : Prop := reviveNoneRow.holds Tryz.pinned (OpenSpec.ofChange reviveNoneWrong)

/-- 'decklelaw16.ReviveTwice': WHATEVER THE INPUT: true; the input reads as it did. -/
def reviveTwiceSpec : ChangeSpec := { name := "reviveTwice", fn := fun _ => fun
  | [d] => { results := [.lit (.bool true)], args := [d] }
  | _ => none }
def reviveTwiceRow : OpenClaim := { program := "ytlapgdocpndfiaagreatdoor", sum := "0f041d5906c1410a8dba68555044994e859b25b643ffec5b3484e18abcedd271", func := "deckle/decklelaw16.ReviveTwice", spec := "reviveTwice", inPlace := ["internal/bytealg.IndexByteString", "internal/bytealg.IndexString", "internal/bytealg.abigen_runtime_cmpstring", "math/bits.Add64"], unfollowed := true, recurses := true, named := ["unicode/utf8.first", "unicode/utf8.acceptRanges", "deckle/entry.frames", "internal/bytealg.MaxLen"], apart := false, laid := [("unicode/utf8.acceptRanges", laid_unicode_utf8_acceptRanges), ("deckle/entry.frames", laid_deckle_entry_frames), ("unicode/utf8.first", laid_unicode_utf8_first)] }
def ReviveTwiceSaid : Prop := reviveTwiceRow.holds Tryz.pinned (OpenSpec.ofChange reviveTwiceSpec)

/-- ITS FALSE NEIGHBOUR: 'it returns false'. Refute it at one input. -/
def reviveTwiceWrong : ChangeSpec := { name := "reviveTwice", fn := fun _ => fun
  | [d] => { results := [.lit (.bool false)], args := [d] }
  | _ => none }
def ReviveTwiceWrongFalsely : Prop := reviveTwiceRow.holds Tryz.pinned (OpenSpec.ofChange reviveTwiceWrong)

/-- 'decklelaw16.ReviveKeeps': WHATEVER THE INPUT: true; the input reads as it did. -/
def reviveKeepsSpec : ChangeSpec := { name := "reviveKeeps", fn := fun _ => fun
  | [d1, d2] => { results := [.lit (.bool true)], args := [d1, d2] }
  | _ => none }
def reviveKeepsRow : OpenClaim := { program := "ytlapgdocpndfiaagreatdoor", sum := "0f041d5906c1410a8dba68555044994e859b25b643ffec5b3484e18abcedd271", func := "deckle/decklelaw16.ReviveKeeps", spec := "reviveKeeps", inPlace := ["internal/bytealg.IndexByteString", "internal/bytealg.IndexString", "internal/bytealg.abigen_runtime_cmpstring", "math/bits.Add64"], unfollowed := true, recurses := true, named := ["unicode/utf8.first", "unicode/utf8.acceptRanges", "deckle/entry.frames", "internal/bytealg.MaxLen"], apart := false, laid := [("unicode/utf8.acceptRanges", laid_unicode_utf8_acceptRanges), ("deckle/entry.frames", laid_deckle_entry_frames), ("unicode/utf8.first", laid_unicode_utf8_first)] }
def ReviveKeepsSaid : Prop := reviveKeepsRow.holds Tryz.pinned (OpenSpec.ofChange reviveKeepsSpec)

/-- ITS FALSE NEIGHBOUR: 'it returns false'. Refute it at one input. -/
def reviveKeepsWrong : ChangeSpec := { name := "reviveKeeps", fn := fun _ => fun
  | [d1, d2] => { results := [.lit (.bool false)], args := [d1, d2] }
  | _ => none }
def ReviveKeepsWrongFalsely : Prop := reviveKeepsRow.holds Tryz.pinned (OpenSpec.ofChange reviveKeepsWrong)

/-- 'decklelaw16.ReviveGoesOn': WHATEVER THE INPUT: true; the input reads as it did. -/
def reviveGoesOnSpec : ChangeSpec := { name := "reviveGoesOn", fn := fun _ => fun
  | [d1, d2, d3] => { results := [.lit (.bool true)], args := [d1, d2, d3] }
  | _ => none }
def reviveGoesOnRow : OpenClaim := { program := "ytlapgdocpndfiaagreatdoor", sum := "0f041d5906c1410a8dba68555044994e859b25b643ffec5b3484e18abcedd271", func := "deckle/decklelaw16.ReviveGoesOn", spec := "reviveGoesOn", inPlace := ["internal/bytealg.IndexByteString", "internal/bytealg.IndexString", "internal/bytealg.abigen_runtime_cmpstring", "math/bits.Add64"], unfollowed := true, recurses := true, named := ["unicode/utf8.first", "unicode/utf8.acceptRanges", "deckle/entry.frames", "internal/bytealg.MaxLen"], apart := false, laid := [("unicode/utf8.acceptRanges", laid_unicode_utf8_acceptRanges), ("deckle/entry.frames", laid_deckle_entry_frames), ("unicode/utf8.first", laid_unicode_utf8_first)] }
def ReviveGoesOnSaid : Prop := reviveGoesOnRow.holds Tryz.pinned (OpenSpec.ofChange reviveGoesOnSpec)

/-- ITS FALSE NEIGHBOUR: 'it returns false'. Refute it at one input. -/
def reviveGoesOnWrong : ChangeSpec := { name := "reviveGoesOn", fn := fun _ => fun
  | [d1, d2, d3] => { results := [.lit (.bool false)], args := [d1, d2, d3] }
  | _ => none }
def ReviveGoesOnWrongFalsely : Prop := reviveGoesOnRow.holds Tryz.pinned (OpenSpec.ofChange reviveGoesOnWrong)

/-- 'decklelaw16.ReviveJunk': WHATEVER THE INPUT: true; the input reads as it did. -/
def reviveJunkSpec : ChangeSpec := { name := "reviveJunk", fn := fun _ => fun
  | [d1, d2] => { results := [.lit (.bool true)], args := [d1, d2] }
  | _ => none }
def reviveJunkRow : OpenClaim := { program := "ytlapgdocpndfiaagreatdoor", sum := "0f041d5906c1410a8dba68555044994e859b25b643ffec5b3484e18abcedd271", func := "deckle/decklelaw16.ReviveJunk", spec := "reviveJunk", inPlace := ["internal/bytealg.IndexByteString", "internal/bytealg.IndexString", "internal/bytealg.abigen_runtime_cmpstring", "math/bits.Add64"], unfollowed := true, recurses := true, named := ["unicode/utf8.first", "unicode/utf8.acceptRanges", "deckle/entry.frames", "internal/bytealg.MaxLen"], apart := false, laid := [("unicode/utf8.acceptRanges", laid_unicode_utf8_acceptRanges), ("deckle/entry.frames", laid_deckle_entry_frames), ("unicode/utf8.first", laid_unicode_utf8_first)] }
def ReviveJunkSaid : Prop := reviveJunkRow.holds Tryz.pinned (OpenSpec.ofChange reviveJunkSpec)

/-- ITS FALSE NEIGHBOUR: 'it returns false'. Refute it at one input. -/
def reviveJunkWrong : ChangeSpec := { name := "reviveJunk", fn := fun _ => fun
  | [d1, d2] => { results := [.lit (.bool false)], args := [d1, d2] }
  | _ => none }
def ReviveJunkWrongFalsely : Prop := reviveJunkRow.holds Tryz.pinned (OpenSpec.ofChange reviveJunkWrong)

/-- 'decklelaw16.ReviveSync': WHATEVER THE INPUT: true; the input reads as it did. -/
def reviveSyncSpec : ChangeSpec := { name := "reviveSync", fn := fun _ => fun
  | [d1, d2] => { results := [.lit (.bool true)], args := [d1, d2] }
  | _ => none }
def reviveSyncRow : OpenClaim := { program := "ytlapgdocpndfiaagreatdoor", sum := "0f041d5906c1410a8dba68555044994e859b25b643ffec5b3484e18abcedd271", func := "deckle/decklelaw16.ReviveSync", spec := "reviveSync", inPlace := ["internal/bytealg.IndexByteString", "internal/bytealg.IndexString", "internal/bytealg.abigen_runtime_cmpstring", "math/bits.Add64"], unfollowed := true, recurses := true, named := ["unicode/utf8.first", "unicode/utf8.acceptRanges", "deckle/entry.frames", "internal/bytealg.MaxLen"], apart := false, laid := [("unicode/utf8.acceptRanges", laid_unicode_utf8_acceptRanges), ("deckle/entry.frames", laid_deckle_entry_frames), ("unicode/utf8.first", laid_unicode_utf8_first)] }
def ReviveSyncSaid : Prop := reviveSyncRow.holds Tryz.pinned (OpenSpec.ofChange reviveSyncSpec)

/-- ITS FALSE NEIGHBOUR: 'it returns false'. Refute it at one input. -/
def reviveSyncWrong : ChangeSpec := { name := "reviveSync", fn := fun _ => fun
  | [d1, d2] => { results := [.lit (.bool false)], args := [d1, d2] }
  | _ => none }
def ReviveSyncWrongFalsely : Prop := reviveSyncRow.holds Tryz.pinned (OpenSpec.ofChange reviveSyncWrong)

/- THE SECOND FORM. 'bulk': how many values and letters a reading holds, each counted each time it is reached (what is shared counts as often as it is met; a slice's spare places count too). A statement '..UptoSaid' is the law's where the arguments, and the package variables that the reading takes, are together of bulk at most 1048576: NARROWER than '..Said'. Prove '..Said' where nothing that the law and all that it calls make is longer than what came in: it says more and counts as full. Else prove '..UptoSaid'. A law counts once. -/
mutual
def uptoBulk {H : Type} : DataW H → Nat
  | .lit (.string bytes) => bytes.length + 1
  | .lit _ => 1
  | .nil => 1
  | .ptr d => uptoBulk d + 1
  | .slice elems spare => uptoBulkAll elems + uptoBulkAll spare + 1
  | .agg parts => uptoBulkAll parts + 1
  | .iface _ d => uptoBulk d + 1
  | .map entries => uptoBulkEntries entries + 1
  | .held _ => 1
def uptoBulkAll {H : Type} : List (DataW H) → Nat
  | [] => 0
  | d :: r => uptoBulk d + uptoBulkAll r
def uptoBulkEntries {H : Type} : List (Lit × DataW H) → Nat
  | [] => 0
  | x :: r => uptoBulkEntry x + uptoBulkEntries r
def uptoBulkEntry {H : Type} : Lit × DataW H → Nat
  | (.string bytes, d) => bytes.length + uptoBulk d + 1
  | (_, d) => uptoBulk d + 1
 end
def uptoSmall : (H : Type) → List (DataW H) → Bool := fun _ ds => decide (uptoBulkAll ds ≤ 1048576)
def OpenSpec.upto (s : _root_.Go.ChangeSpec) : _root_.Go.OpenSpec := { _root_.Go.OpenSpec.ofChange s with cond := some uptoSmall }

/-- 'decklelaw16.ReviveBytes', WHERE WHAT IT READS IS OF BULK AT MOST 1048576: true; the input reads as it did. -/
def reviveBytesUptoRow : OpenClaim := { program := "ytlapgdocpndfiaagreatdoor", sum := "0f041d5906c1410a8dba68555044994e859b25b643ffec5b3484e18abcedd271", func := "deckle/decklelaw16.ReviveBytes", spec := "reviveBytes", inPlace := ["internal/bytealg.IndexByteString", "internal/bytealg.IndexString", "internal/bytealg.abigen_runtime_cmpstring", "math/bits.Add64", "math.Float64frombits"], unfollowed := true, recurses := true, named := ["unicode/utf8.first", "unicode/utf8.acceptRanges", "deckle/entry.frames", "internal/bytealg.MaxLen"], apart := false, laid := [("unicode/utf8.acceptRanges", laid_unicode_utf8_acceptRanges), ("deckle/entry.frames", laid_deckle_entry_frames), ("unicode/utf8.first", laid_unicode_utf8_first)], narrowed := true }
def ReviveBytesUptoSaid : Prop := reviveBytesUptoRow.holds Tryz.pinned (OpenSpec.upto reviveBytesSpec)

/-- 'decklelaw16.ReviveActs', WHERE WHAT IT READS IS OF BULK AT MOST 1048576: true; the input reads as it did. -/
def reviveActsUptoRow : OpenClaim := { program := "ytlapgdocpndfiaagreatdoor", sum := "0f041d5906c1410a8dba68555044994e859b25b643ffec5b3484e18abcedd271", func := "deckle/decklelaw16.ReviveActs", spec := "reviveActs", inPlace := ["internal/bytealg.IndexByteString", "internal/bytealg.IndexString", "internal/bytealg.abigen_runtime_cmpstring", "math/bits.Add64", "math.Float64frombits"], unfollowed := true, recurses := true, named := ["unicode/utf8.first", "unicode/utf8.acceptRanges", "deckle/entry.frames", "internal/bytealg.MaxLen"], apart := false, laid := [("unicode/utf8.acceptRanges", laid_unicode_utf8_acceptRanges), ("deckle/entry.frames", laid_deckle_entry_frames), ("unicode/utf8.first", laid_unicode_utf8_first)], narrowed := true }
def ReviveActsUptoSaid : Prop := reviveActsUptoRow.holds Tryz.pinned (OpenSpec.upto reviveActsSpec)

/-- 'decklelaw16.ReviveNone', WHERE WHAT IT READS IS OF BULK AT MOST 1048576: true; the input reads as it did. -/
def reviveNoneUptoRow : OpenClaim := { program := "ytlapgdocpndfiaagreatdoor", sum := "0f041d5906c1410a8dba68555044994e859b25b643ffec5b3484e18abcedd271", func := "deckle/decklelaw16.ReviveNone", spec := "reviveNone", inPlace := ["internal/bytealg.IndexByteString", "internal/bytealg.IndexString", "internal/bytealg.abigen_runtime_cmpstring", "math/bits.Add64"], unfollowed := true, recurses := true, named := ["unicode/utf8.first", "unicode/utf8.acceptRanges", "deckle/entry.frames", "internal/bytealg.MaxLen"], apart := false, laid := [("unicode/utf8.acceptRanges", laid_unicode_utf8_acceptRanges), ("deckle/entry.frames", laid_deckle_entry_frames), ("unicode/utf8.first", laid_unicode_utf8_first)], narrowed := true }
def ReviveNoneUptoSaid : Prop := reviveNoneUptoRow.holds Tryz.pinned (OpenSpec.upto reviveNoneSpec)

/-- 'decklelaw16.ReviveTwice', WHERE WHAT IT READS IS OF BULK AT MOST 1048576: true; the input reads as it did. -/
def reviveTwiceUptoRow : OpenClaim := { program := "ytlapgdocpndfiaagreatdoor", sum := "0f041d5906c1410a8dba68555044994e859b25b643ffec5b3484e18abcedd271", func := "deckle/decklelaw16.ReviveTwice", spec := "reviveTwice", inPlace := ["internal/bytealg.IndexByteString", "internal/bytealg.IndexString", "internal/bytealg.abigen_runtime_cmpstring", "math/bits.Add64"], unfollowed := true, recurses := true, named := ["unicode/utf8.first", "unicode/utf8.acceptRanges", "deckle/entry.frames", "internal/bytealg.MaxLen"], apart := false, laid := [("unicode/utf8.acceptRanges", laid_unicode_utf8_acceptRanges), ("deckle/entry.frames", laid_deckle_entry_frames), ("unicode/utf8.first", laid_unicode_utf8_first)], narrowed := true }
def ReviveTwiceUptoSaid : Prop := reviveTwiceUptoRow.holds Tryz.pinned (OpenSpec.upto reviveTwiceSpec)

/-- 'decklelaw16.ReviveKeeps', WHERE WHAT IT READS IS OF BULK AT MOST 1048576: true; the input reads as it did. -/
def reviveKeepsUptoRow : OpenClaim := { program := "ytlapgdocpndfiaagreatdoor", sum := "0f041d5906c1410a8dba68555044994e859b25b643ffec5b3484e18abcedd271", func := "deckle/decklelaw16.ReviveKeeps", spec := "reviveKeeps", inPlace := ["internal/bytealg.IndexByteString", "internal/bytealg.IndexString", "internal/bytealg.abigen_runtime_cmpstring", "math/bits.Add64"], unfollowed := true, recurses := true, named := ["unicode/utf8.first", "unicode/utf8.acceptRanges", "deckle/entry.frames", "internal/bytealg.MaxLen"], apart := false, laid := [("unicode/utf8.acceptRanges", laid_unicode_utf8_acceptRanges), ("deckle/entry.frames", laid_deckle_entry_frames), ("unicode/utf8.first", laid_unicode_utf8_first)], narrowed := true }
def ReviveKeepsUptoSaid : Prop := reviveKeepsUptoRow.holds Tryz.pinned (OpenSpec.upto reviveKeepsSpec)

/-- 'decklelaw16.ReviveGoesOn', WHERE WHAT IT READS IS OF BULK AT MOST 1048576: true; the input reads as it did. -/
def reviveGoesOnUptoRow : OpenClaim := { program := "ytlapgdocpndfiaagreatdoor", sum := "0f041d5906c1410a8dba68555044994e859b25b643ffec5b3484e18abcedd271", func := "deckle/decklelaw16.ReviveGoesOn", spec := "reviveGoesOn", inPlace := ["internal/bytealg.IndexByteString", "internal/bytealg.IndexString", "internal/bytealg.abigen_runtime_cmpstring", "math/bits.Add64"], unfollowed := true, recurses := true, named := ["unicode/utf8.first", "unicode/utf8.acceptRanges", "deckle/entry.frames", "internal/bytealg.MaxLen"], apart := false, laid := [("unicode/utf8.acceptRanges", laid_unicode_utf8_acceptRanges), ("deckle/entry.frames", laid_deckle_entry_frames), ("unicode/utf8.first", laid_unicode_utf8_first)], narrowed := true }
def ReviveGoesOnUptoSaid : Prop := reviveGoesOnUptoRow.holds Tryz.pinned (OpenSpec.upto reviveGoesOnSpec)

/-- 'decklelaw16.ReviveJunk', WHERE WHAT IT READS IS OF BULK AT MOST 1048576: true; the input reads as it did. -/
def reviveJunkUptoRow : OpenClaim := { program := "ytlapgdocpndfiaagreatdoor", sum := "0f041d5906c1410a8dba68555044994e859b25b643ffec5b3484e18abcedd271", func := "deckle/decklelaw16.ReviveJunk", spec := "reviveJunk", inPlace := ["internal/bytealg.IndexByteString", "internal/bytealg.IndexString", "internal/bytealg.abigen_runtime_cmpstring", "math/bits.Add64"], unfollowed := true, recurses := true, named := ["unicode/utf8.first", "unicode/utf8.acceptRanges", "deckle/entry.frames", "internal/bytealg.MaxLen"], apart := false, laid := [("unicode/utf8.acceptRanges", laid_unicode_utf8_acceptRanges), ("deckle/entry.frames", laid_deckle_entry_frames), ("unicode/utf8.first", laid_unicode_utf8_first)], narrowed := true }
def ReviveJunkUptoSaid : Prop := reviveJunkUptoRow.holds Tryz.pinned (OpenSpec.upto reviveJunkSpec)

/-- 'decklelaw16.ReviveSync', WHERE WHAT IT READS IS OF BULK AT MOST 1048576: true; the input reads as it did. -/
def reviveSyncUptoRow : OpenClaim := { program := "ytlapgdocpndfiaagreatdoor", sum := "0f041d5906c1410a8dba68555044994e859b25b643ffec5b3484e18abcedd271", func := "deckle/decklelaw16.ReviveSync", spec := "reviveSync", inPlace := ["internal/bytealg.IndexByteString", "internal/bytealg.IndexString", "internal/bytealg.abigen_runtime_cmpstring", "math/bits.Add64"], unfollowed := true, recurses := true, named := ["unicode/utf8.first", "unicode/utf8.acceptRanges", "deckle/entry.frames", "internal/bytealg.MaxLen"], apart := false, laid := [("unicode/utf8.acceptRanges", laid_unicode_utf8_acceptRanges), ("deckle/entry.frames", laid_deckle_entry_frames), ("unicode/utf8.first", laid_unicode_utf8_first)], narrowed := true }
def ReviveSyncUptoSaid : Prop := reviveSyncUptoRow.holds Tryz.pinned (OpenSpec.upto reviveSyncSpec)

end Rows
end Go.Proofs.YtlapgdocpndfiaaGreatDoor
