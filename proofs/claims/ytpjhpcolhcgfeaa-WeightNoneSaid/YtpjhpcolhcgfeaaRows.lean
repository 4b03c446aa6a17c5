/-
  No cell of these rows narrows 'for every input' (looked for: loops, veiled, ifaces, maps, wideKeys, modest, calm, conditions, laid).
  DERIVED. THE GIVEN ROWS OF THIS SEAT. 5 by the template 'for every input the law returns true; each argument reads behind the call as it read before'; 0 by the template 'total and deterministic' (their statements: YtpjhpcolhcgfeaaTotals.lean).
  GIVEN WITH THE SEED: the statements are not yours to turn. If you find one false, say at which input.
  Laid BY PROGRAM, IN A SANDBOX (cutbox-rows.mjs): the forced cells as the released guide's own fill.sh prints them over the translation c264ca26a5968503… (all of the seat's roots in one cut). By AI agents, Wed Nov 11 2026. No macro, syntax, notation, axiom, sorry.
-/
import Derived.Test.YtpjhpcolhcgfeaaChecked
import GoSem.Claim
import GoSem.ClaimJoined
import GoSem.ClaimMapViews
import Derived.JoinedTies
import Derived.KernelRfl
namespace Go.Proofs.Ytpjhpcolhcgfeaa
/- THE CELL 'sum', in the pinned program and in every row, IS THE sha256 OF THE DUMP (.gsa) THAT YtpjhpcolhcgfeaaProg.lean LOADS. Nothing in Lean hashes anything: it is a label: what it is worth is what the hold of that sum in a sandbox is worth. -/
noncomputable def Try.pinned : Pinned := { name := "ytpjhpcolhcgfeaa", sum := "c264ca26a596850347ab273aca320012b315f9340025a0defbc13ee9ee7036c5", checked := Try.checked }
namespace Rows
def none {H : Type} : Left H := { results := [], args := [] }

/-- 'decklelaw07.WeightAdds': WHATEVER THE INPUT: true; the input reads as it did. -/
def weightAddsSpec : ChangeSpec := { name := "weightAdds", fn := fun _ => fun
  | [d1, d2] => { results := [.lit (.bool true)], args := [d1, d2] }
  | _ => none }
def weightAddsRow : OpenClaim := { program := "ytpjhpcolhcgfeaa", sum := "c264ca26a596850347ab273aca320012b315f9340025a0defbc13ee9ee7036c5", func := "deckle/decklelaw07.WeightAdds", spec := "weightAdds", inPlace := ["math/bits.Add64"], apart := false }
def WeightAddsSaid : Prop := weightAddsRow.holds Try.pinned (OpenSpec.ofChange weightAddsSpec)

/-- ITS FALSE NEIGHBOUR: 'it returns false'. Refute it at one input. -/
def weightAddsWrong : ChangeSpec := { name := "weightAdds", fn := fun _ => fun
  | [d1, d2] => { results := [.lit (.bool false)], args := [d1, d2] }
  | _ => none }
def WeightAddsWrongFalsely : Prop := weightAddsRow.holds Try.pinned (OpenSpec.ofChange weightAddsWrong)

/-- 'decklelaw07.WeightSums': WHATEVER THE INPUT: true; the input reads as it did. -/
def weightSumsSpec : ChangeSpec := { name := "weightSums", fn := fun _ => fun
  | [d] => { results := [.lit (.bool true)], args := [d] }
  | _ => none }
def weightSumsRow : OpenClaim := { program := "ytpjhpcolhcgfeaa", sum := "c264ca26a596850347ab273aca320012b315f9340025a0defbc13ee9ee7036c5", func := "deckle/decklelaw07.WeightSums", spec := "weightSums", inPlace := ["math/bits.Add64"], apart := false }
def WeightSumsSaid : Prop := weightSumsRow.holds Try.pinned (OpenSpec.ofChange weightSumsSpec)

/-- ITS FALSE NEIGHBOUR: 'it returns false'. Refute it at one input. -/
def weightSumsWrong : ChangeSpec := { name := "weightSums", fn := fun _ => fun
  | [d] => { results := [.lit (.bool false)], args := [d] }
  | _ => none }
def WeightSumsWrongFalsely : Prop := weightSumsRow.holds Try.pinned (OpenSpec.ofChange weightSumsWrong)

/-- 'decklelaw07.WeightNone': WHATEVER THE INPUT: true; the input reads as it did. -/
def weightNoneSpec : ChangeSpec := { name := "weightNone", fn := fun _ => fun
  | [d] => { results := [.lit (.bool true)], args := [d] }
  | _ => none }
def weightNoneRow : OpenClaim := { program := "ytpjhpcolhcgfeaa", sum := "c264ca26a596850347ab273aca320012b315f9340025a0defbc13ee9ee7036c5", func := "deckle/decklelaw07.WeightNone", spec := "weightNone", inPlace := ["math/bits.Add64"], apart := false }
def WeightNoneSaid : Prop := weightNoneRow.holds Try.pinned (OpenSpec.ofChange weightNoneSpec)

/-- ITS FALSE NEIGHBOUR: 'it returns false'. Refute it at one input. -/
def weightNoneWrong : ChangeSpec := { name := "weightNone", fn := fun _ => fun
  | [d] => { results := [.lit (.bool false)], args := [d] }
  | _ => none }
def WeightNoneWrongFalsely : Prop := weightNoneRow.holds Try.pinned (OpenSpec.ofChange weightNoneWrong)

/-- 'decklelaw07.WeightOrder': WHATEVER THE INPUT: true; the input reads as it did. -/
def weightOrderSpec : ChangeSpec := { name := "weightOrder", fn := fun _ => fun
  | [d1, d2, d3] => { results := [.lit (.bool true)], args := [d1, d2, d3] }
  | _ => none }
def weightOrderRow : OpenClaim := { program := "ytpjhpcolhcgfeaa", sum := "c264ca26a596850347ab273aca320012b315f9340025a0defbc13ee9ee7036c5", func := "deckle/decklelaw07.WeightOrder", spec := "weightOrder", inPlace := ["math/bits.Add64"], apart := false }
def WeightOrderSaid : Prop := weightOrderRow.holds Try.pinned (OpenSpec.ofChange weightOrderSpec)

/-- ITS FALSE NEIGHBOUR: 'it returns false'. Refute it at one input. -/
def weightOrderWrong : ChangeSpec := { name := "weightOrder", fn := fun _ => fun
  | [d1, d2, d3] => { results := [.lit (.bool false)], args := [d1, d2, d3] }
  | _ => none }
def WeightOrderWrongFalsely : Prop := weightOrderRow.holds Try.pinned (OpenSpec.ofChange weightOrderWrong)

/-- 'decklelaw07.WeightPieces': WHATEVER THE INPUT: true; the input reads as it did. -/
def weightPiecesSpec : ChangeSpec := { name := "weightPieces", fn := fun _ => fun
  | [d1, d2] => { results := [.lit (.bool true)], args := [d1, d2] }
  | _ => none }
def weightPiecesRow : OpenClaim := { program := "ytpjhpcolhcgfeaa", sum := "c264ca26a596850347ab273aca320012b315f9340025a0defbc13ee9ee7036c5", func := "deckle/decklelaw07.WeightPieces", spec := "weightPieces", inPlace := ["math/bits.Add64"], apart := false }
def WeightPiecesSaid : Prop := weightPiecesRow.holds Try.pinned (OpenSpec.ofChange weightPiecesSpec)

/-- ITS FALSE NEIGHBOUR: 'it returns false'. Refute it at one input. -/
def weightPiecesWrong : ChangeSpec := { name := "weightPieces", fn := fun _ => fun
  | [d1, d2] => { results := [.lit (.bool false)], args := [d1, d2] }
  | _ => none }
def WeightPiecesWrongFalsely : Prop := weightPiecesRow.holds Try.pinned (OpenSpec.ofChange weightPiecesWrong)

/- THE SECOND FORM. 'bulk': how many values and letters a reading holds, each counted each time it is reached (what is shared counts as often as it is met; a slice's spare places count too). A statement '..UptoSaid' is the law's where the arguments, and the package variables that the reading takes, are together of bulk at most 1048576: NARROWER than '..Said'. Prove '..Said' where nothing that the law and all that it calls make is longer than what came in: it says more and counts as full. Else prove '..UptoSaid'. A law counts once. -/
mutual
def uptoBulk {H : Type} : DataW H → Nat
  | .lit (.string bytes) => bytes.length + 1
  | .lit _ => 1
  | .nil => 1
  | .ptr d => uptoBulk d + 1
  | .slice elems spare => uptoBulkAll elems + uptoBulkAll spare + 1
  | .agg parts => uptoBulkAll parts + 1
  | .iface _ d => uptoBulk d + 1
  | .map entries => uptoBulkEntries entries + 1
  | .held _ => 1
def uptoBulkAll {H : Type} : List (DataW H) → Nat
  | [] => 0
  | d :: r => uptoBulk d + uptoBulkAll r
def uptoBulkEntries {H : Type} : List (Lit × DataW H) → Nat
  | [] => 0
  | x :: r => uptoBulkEntry x + uptoBulkEntries r
def uptoBulkEntry {H : Type} : Lit × DataW H → Nat
  | (.string bytes, d) => bytes.length + uptoBulk d + 1
  | (_, d) => uptoBulk d + 1
 end
def uptoSmall : (H : Type) → List (DataW H) → Bool := fun _ ds => decide (uptoBulkAll ds ≤ 1048576)
def OpenSpec.upto (s : _root_.Go.ChangeSpec) : _root_.Go.OpenSpec := { _root_.Go.OpenSpec.ofChange s with cond := some uptoSmall }

/-- 'decklelaw07.WeightAdds', WHERE WHAT IT READS IS OF BULK AT MOST 1048576: true; the input reads as it did. -/
def weightAddsUptoRow : OpenClaim := { program := "ytpjhpcolhcgfeaa", sum := "c264ca26a596850347ab273aca320012b315f9340025a0defbc13ee9ee7036c5", func := "deckle/decklelaw07.WeightAdds", spec := "weightAdds", inPlace := ["math/bits.Add64"], apart := false, narrowed := true }
def WeightAddsUptoSaid : Prop := weightAddsUptoRow.holds Try.pinned (OpenSpec.upto weightAddsSpec)

/-- 'decklelaw07.WeightSums', WHERE WHAT IT READS IS OF BULK AT MOST 1048576: true; the input reads as it did. -/
def weightSumsUptoRow : OpenClaim := { program := "ytpjhpcolhcgfeaa", sum := "c264ca26a596850347ab273aca320012b315f9340025a0defbc13ee9ee7036c5", func := "deckle/decklelaw07.WeightSums", spec := "weightSums", inPlace := ["math/bits.Add64"], apart := false, narrowed := true }
def WeightSumsUptoSaid : Prop := weightSumsUptoRow.holds Try.pinned (OpenSpec.upto weightSumsSpec)

/-- 'decklelaw07.WeightNone', WHERE WHAT IT READS IS OF BULK AT MOST 1048576: true; the input reads as it did. -/
def weightNoneUptoRow : OpenClaim := { program := "ytpjhpcolhcgfeaa", sum := "c264ca26a596850347ab273aca320012b315f9340025a0defbc13ee9ee7036c5", func := "deckle/decklelaw07.WeightNone", spec := "weightNone", inPlace := ["math/bits.Add64"], apart := false, narrowed := true }
def WeightNoneUptoSaid : Prop := weightNoneUptoRow.holds Try.pinned (OpenSpec.upto weightNoneSpec)

/-- 'decklelaw07.WeightOrder', WHERE WHAT IT READS IS OF BULK AT MOST 1048576: true; the input reads as it did. -/
def weightOrderUptoRow : OpenClaim := { program := "ytpjhpcolhcgfeaa", sum := "c264ca26a596850347ab273aca320012b315f9340025a0defbc13ee9ee7036c5", func := "deckle/decklelaw07.WeightOrder", spec := "weightOrder", inPlace := ["math/bits.Add64"], apart := false, narrowed := true }
def WeightOrderUptoSaid : Prop := weightOrderUptoRow.holds Try.pinned (OpenSpec.upto weightOrderSpec)

/-- 'decklelaw07.WeightPieces', WHERE WHAT IT READS IS OF BULK AT MOST 1048576: true; the input reads as it did. -/
def weightPiecesUptoRow : OpenClaim := { program := "ytpjhpcolhcgfeaa", sum := "c264ca26a596850347ab273aca320012b315f9340025a0defbc13ee9ee7036c5", func := "deckle/decklelaw07.WeightPieces", spec := "weightPieces", inPlace := ["math/bits.Add64"], apart := false, narrowed := true }
def WeightPiecesUptoSaid : Prop := weightPiecesUptoRow.holds Try.pinned (OpenSpec.upto weightPiecesSpec)

end Rows
end Go.Proofs.Ytpjhpcolhcgfeaa
