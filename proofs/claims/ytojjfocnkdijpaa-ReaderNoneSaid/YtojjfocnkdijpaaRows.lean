/-
  No cell of these rows narrows 'for every input' (looked for: loops, veiled, ifaces, maps, wideKeys, modest, calm, conditions, laid).
  DERIVED. THE GIVEN ROWS OF THIS SEAT. 5 by the template 'for every input the law returns true; each argument reads behind the call as it read before'; 0 by the template 'total and deterministic' (their statements: YtojjfocnkdijpaaTotals.lean).
  GIVEN WITH THE SEED: the statements are not yours to turn. If you find one false, say at which input.
  Laid BY PROGRAM, IN A SANDBOX (cutbox-rows.mjs): the forced cells as the released guide's own fill.sh prints them over the translation c636fa900430735d… (all of the seat's roots in one cut). By AI agents, Wed Nov 11 2026. No macro, syntax, notation, axiom, sorry.
-/
import Derived.Test.YtojjfocnkdijpaaChecked
import GoSem.Claim
import GoSem.ClaimJoined
import GoSem.ClaimMapViews
import Derived.JoinedTies
import Derived.KernelRfl
namespace Go.Proofs.Ytojjfocnkdijpaa
/- THE CELL 'sum', in the pinned program and in every row, IS THE sha256 OF THE DUMP (.gsa) THAT YtojjfocnkdijpaaProg.lean LOADS. Nothing in Lean hashes anything: it is a label: what it is worth is what the hold of that sum in a sandbox is worth. -/
noncomputable def Try.pinned : Pinned := { name := "ytojjfocnkdijpaa", sum := "c636fa900430735d5e4c93006a990cf4161da7c4422939e334c369cab8f729f6", checked := Try.checked }
namespace Rows
def none {H : Type} : Left H := { results := [], args := [] }

/-- 'decklelaw03.ReaderActs': WHATEVER THE INPUT: true; the input reads as it did. -/
def readerActsSpec : ChangeSpec := { name := "readerActs", fn := fun _ => fun
  | [d1, d2] => { results := [.lit (.bool true)], args := [d1, d2] }
  | _ => none }
def readerActsRow : OpenClaim := { program := "ytojjfocnkdijpaa", sum := "c636fa900430735d5e4c93006a990cf4161da7c4422939e334c369cab8f729f6", func := "deckle/decklelaw03.ReaderActs", spec := "readerActs", unfollowed := true, recurses := true, apart := false }
def ReaderActsSaid : Prop := readerActsRow.holds Try.pinned (OpenSpec.ofChange readerActsSpec)

/-- ITS FALSE NEIGHBOUR: 'it returns false'. Refute it at one input. -/
def readerActsWrong : ChangeSpec := { name := "readerActs", fn := fun _ => fun
  | [d1, d2] => { results := [.lit (.bool false)], args := [d1, d2] }
  | _ => none }
def ReaderActsWrongFalsely : Prop := readerActsRow.holds Try.pinned (OpenSpec.ofChange readerActsWrong)

/-- 'decklelaw03.ReaderNone': WHATEVER THE INPUT: true; the input reads as it did. -/
def readerNoneSpec : ChangeSpec := { name := "readerNone", fn := fun _ => fun
  | [d1, d2] => { results := [.lit (.bool true)], args := [d1, d2] }
  | _ => none }
def readerNoneRow : OpenClaim := { program := "ytojjfocnkdijpaa", sum := "c636fa900430735d5e4c93006a990cf4161da7c4422939e334c369cab8f729f6", func := "deckle/decklelaw03.ReaderNone", spec := "readerNone", unfollowed := true, recurses := true, apart := false }
def ReaderNoneSaid : Prop := readerNoneRow.holds Try.pinned (OpenSpec.ofChange readerNoneSpec)

/-- ITS FALSE NEIGHBOUR: 'it returns false'. Refute it at one input. -/
def readerNoneWrong : ChangeSpec := { name := "readerNone", fn := fun _ => fun
  | [d1, d2] => { results := [.lit (.bool false)], args := [d1, d2] }
  | _ => none }
def ReaderNoneWrongFalsely : Prop := readerNoneRow.holds Try.pinned (OpenSpec.ofChange readerNoneWrong)

/-- 'decklelaw03.ReaderBack': WHATEVER THE INPUT: true; the input reads as it did. -/
def readerBackSpec : ChangeSpec := { name := "readerBack", fn := fun _ => fun
  | [d1, d2] => { results := [.lit (.bool true)], args := [d1, d2] }
  | _ => none }
def readerBackRow : OpenClaim := { program := "ytojjfocnkdijpaa", sum := "c636fa900430735d5e4c93006a990cf4161da7c4422939e334c369cab8f729f6", func := "deckle/decklelaw03.ReaderBack", spec := "readerBack", unfollowed := true, recurses := true, apart := false }
def ReaderBackSaid : Prop := readerBackRow.holds Try.pinned (OpenSpec.ofChange readerBackSpec)

/-- ITS FALSE NEIGHBOUR: 'it returns false'. Refute it at one input. -/
def readerBackWrong : ChangeSpec := { name := "readerBack", fn := fun _ => fun
  | [d1, d2] => { results := [.lit (.bool false)], args := [d1, d2] }
  | _ => none }
def ReaderBackWrongFalsely : Prop := readerBackRow.holds Try.pinned (OpenSpec.ofChange readerBackWrong)

/-- 'decklelaw03.ReaderInside': WHATEVER THE INPUT: true; the input reads as it did. -/
def readerInsideSpec : ChangeSpec := { name := "readerInside", fn := fun _ => fun
  | [d1, d2, d3] => { results := [.lit (.bool true)], args := [d1, d2, d3] }
  | _ => none }
def readerInsideRow : OpenClaim := { program := "ytojjfocnkdijpaa", sum := "c636fa900430735d5e4c93006a990cf4161da7c4422939e334c369cab8f729f6", func := "deckle/decklelaw03.ReaderInside", spec := "readerInside", unfollowed := true, recurses := true, apart := false }
def ReaderInsideSaid : Prop := readerInsideRow.holds Try.pinned (OpenSpec.ofChange readerInsideSpec)

/-- ITS FALSE NEIGHBOUR: 'it returns false'. Refute it at one input. -/
def readerInsideWrong : ChangeSpec := { name := "readerInside", fn := fun _ => fun
  | [d1, d2, d3] => { results := [.lit (.bool false)], args := [d1, d2, d3] }
  | _ => none }
def ReaderInsideWrongFalsely : Prop := readerInsideRow.holds Try.pinned (OpenSpec.ofChange readerInsideWrong)

/-- 'decklelaw03.ReaderMust': WHATEVER THE INPUT: true; the input reads as it did. -/
def readerMustSpec : ChangeSpec := { name := "readerMust", fn := fun _ => fun
  | [d1, d2, d3] => { results := [.lit (.bool true)], args := [d1, d2, d3] }
  | _ => none }
def readerMustRow : OpenClaim := { program := "ytojjfocnkdijpaa", sum := "c636fa900430735d5e4c93006a990cf4161da7c4422939e334c369cab8f729f6", func := "deckle/decklelaw03.ReaderMust", spec := "readerMust", unfollowed := true, recurses := true, apart := false }
def ReaderMustSaid : Prop := readerMustRow.holds Try.pinned (OpenSpec.ofChange readerMustSpec)

/-- ITS FALSE NEIGHBOUR: 'it returns false'. Refute it at one input. -/
def readerMustWrong : ChangeSpec := { name := "readerMust", fn := fun _ => fun
  | [d1, d2, d3] => { results := [.lit (.bool false)], args := [d1, d2, d3] }
  | _ => none }
def ReaderMustWrongFalsely : Prop := readerMustRow.holds Try.pinned (OpenSpec.ofChange readerMustWrong)

/- THE SECOND FORM. 'bulk': how many values and letters a reading holds, each counted each time it is reached (what is shared counts as often as it is met; a slice's spare places count too). A statement '..UptoSaid' is the law's where the arguments, and the package variables that the reading takes, are together of bulk at most 1048576: NARROWER than '..Said'. Prove '..Said' where nothing that the law and all that it calls make is longer than what came in: it says more and counts as full. Else prove '..UptoSaid'. A law counts once. -/
mutual
def uptoBulk {H : Type} : DataW H → Nat
  | .lit (.string bytes) => bytes.length + 1
  | .lit _ => 1
  | .nil => 1
  | .ptr d => uptoBulk d + 1
  | .slice elems spare => uptoBulkAll elems + uptoBulkAll spare + 1
  | .agg parts => uptoBulkAll parts + 1
  | .iface _ d => uptoBulk d + 1
  | .map entries => uptoBulkEntries entries + 1
  | .held _ => 1
def uptoBulkAll {H : Type} : List (DataW H) → Nat
  | [] => 0
  | d :: r => uptoBulk d + uptoBulkAll r
def uptoBulkEntries {H : Type} : List (Lit × DataW H) → Nat
  | [] => 0
  | x :: r => uptoBulkEntry x + uptoBulkEntries r
def uptoBulkEntry {H : Type} : Lit × DataW H → Nat
  | (.string bytes, d) => bytes.length + uptoBulk d + 1
  | (_, d) => uptoBulk d + 1
 end
def uptoSmall : (H : Type) → List (DataW H) → Bool := fun _ ds => decide (uptoBulkAll ds ≤ 1048576)
def OpenSpec.upto (s : _root_.Go.ChangeSpec) : _root_.Go.OpenSpec := { _root_.Go.OpenSpec.ofChange s with cond := some uptoSmall }

/-- 'decklelaw03.ReaderActs', WHERE WHAT IT READS IS OF BULK AT MOST 1048576: true; the input reads as it did. -/
def readerActsUptoRow : OpenClaim := { program := "ytojjfocnkdijpaa", sum := "c636fa900430735d5e4c93006a990cf4161da7c4422939e334c369cab8f729f6", func := "deckle/decklelaw03.ReaderActs", spec := "readerActs", unfollowed := true, recurses := true, apart := false, narrowed := true }
def ReaderActsUptoSaid : Prop := readerActsUptoRow.holds Try.pinned (OpenSpec.upto readerActsSpec)

/-- 'decklelaw03.ReaderNone', WHERE WHAT IT READS IS OF BULK AT MOST 1048576: true; the input reads as it did. -/
def readerNoneUptoRow : OpenClaim := { program := "ytojjfocnkdijpaa", sum := "c636fa900430735d5e4c93006a990cf4161da7c4422939e334c369cab8f729f6", func := "deckle/decklelaw03.ReaderNone", spec := "readerNone", unfollowed := true, recurses := true, apart := false, narrowed := true }
def ReaderNoneUptoSaid : Prop := readerNoneUptoRow.holds Try.pinned (OpenSpec.upto readerNoneSpec)

/-- 'decklelaw03.ReaderBack', WHERE WHAT IT READS IS OF BULK AT MOST 1048576: true; the input reads as it did. -/
def readerBackUptoRow : OpenClaim := { program := "ytojjfocnkdijpaa", sum := "c636fa900430735d5e4c93006a990cf4161da7c4422939e334c369cab8f729f6", func := "deckle/decklelaw03.ReaderBack", spec := "readerBack", unfollowed := true, recurses := true, apart := false, narrowed := true }
def ReaderBackUptoSaid : Prop := readerBackUptoRow.holds Try.pinned (OpenSpec.upto readerBackSpec)

/-- 'decklelaw03.ReaderInside', WHERE WHAT IT READS IS OF BULK AT MOST 1048576: true; the input reads as it did. -/
def readerInsideUptoRow : OpenClaim := { program := "ytojjfocnkdijpaa", sum := "c636fa900430735d5e4c93006a990cf4161da7c4422939e334c369cab8f729f6", func := "deckle/decklelaw03.ReaderInside", spec := "readerInside", unfollowed := true, recurses := true, apart := false, narrowed := true }
def ReaderInsideUptoSaid : Prop := readerInsideUptoRow.holds Try.pinned (OpenSpec.upto readerInsideSpec)

/-- 'decklelaw03.ReaderMust', WHERE WHAT IT READS IS OF BULK AT MOST 1048576: true; the input reads as it did. -/
def readerMustUptoRow : OpenClaim := { program := "ytojjfocnkdijpaa", sum := "c636fa900430735d5e4c93006a990cf4161da7c4422939e334c369cab8f729f6", func := "deckle/decklelaw03.ReaderMust", spec := "readerMust", unfollowed := true, recurses := true, apart := false, narrowed := true }
def ReaderMustUptoSaid : Prop := readerMustUptoRow.holds Try.pinned (OpenSpec.upto readerMustSpec)

end Rows
end Go.Proofs.Ytojjfocnkdijpaa
