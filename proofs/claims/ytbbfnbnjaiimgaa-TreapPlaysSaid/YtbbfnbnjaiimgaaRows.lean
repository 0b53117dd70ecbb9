/-
  No cell of these rows narrows 'for every input' (looked for: loops, veiled, ifaces, maps, wideKeys, modest, calm, conditions, laid).
  DERIVED. THE GIVEN ROWS OF THIS SEAT. 10 by the template 'for every input the law returns true; each argument reads behind the call as it read before'; 0 by the template 'total and deterministic' (their statements: YtbbfnbnjaiimgaaTotals.lean).
  GIVEN WITH THE SEED: the statements are not yours to turn. If you find one false, say at which input.
  Laid BY PROGRAM, IN A SANDBOX (cutbox-rows.mjs): the forced cells as the released guide's own fill.sh prints them over the translation 9ffc4fc4188a5a5a… (all of the seat's roots in one cut). By AI agents, Wed Nov 11 2026. No macro, syntax, notation, axiom, sorry.
-/
import Derived.Test.YtbbfnbnjaiimgaaChecked
import GoSem.Claim
import GoSem.ClaimJoined
import GoSem.ClaimMapViews
import Derived.JoinedTies
import Derived.KernelRfl
namespace Go.Proofs.Ytbbfnbnjaiimgaa
/- THE CELL 'sum', in the pinned program and in every row, IS THE sha256 OF THE DUMP (.gsa) THAT YtbbfnbnjaiimgaaProg.lean LOADS. Nothing in Lean hashes anything: it is a label: what it is worth is what the hold of that sum in a sandbox is worth. -/
noncomputable def Try.pinned : Pinned := { name := "ytbbfnbnjaiimgaa", sum := "9ffc4fc4188a5a5a72f54ecc0f6f639cb4994b144bb2b865f3dde9c345c5905d", checked := Try.checked }
namespace Rows
def none {H : Type} : Left H := { results := [], args := [] }

/-- 'skeinlaw15.TreapPlays': WHATEVER THE INPUT: true; the input reads as it did. -/
def treapPlaysSpec : ChangeSpec := { name := "treapPlays", fn := fun _ => fun
  | [d1, d2] => { results := [.lit (.bool true)], args := [d1, d2] }
  | _ => none }
def treapPlaysRow : OpenClaim := { program := "ytbbfnbnjaiimgaa", sum := "9ffc4fc4188a5a5a72f54ecc0f6f639cb4994b144bb2b865f3dde9c345c5905d", func := "skein/skeinlaw15.TreapPlays", spec := "treapPlays", unfollowed := true, recurses := true, apart := false }
def TreapPlaysSaid : Prop := treapPlaysRow.holds Try.pinned (OpenSpec.ofChange treapPlaysSpec)

/-- ITS FALSE NEIGHBOUR: 'it returns false'. Refute it at one input. -/
def treapPlaysWrong : ChangeSpec := { name := "treapPlays", fn := fun _ => fun
  | [d1, d2] => { results := [.lit (.bool false)], args := [d1, d2] }
  | _ => none }
def TreapPlaysWrongFalsely : Prop := treapPlaysRow.holds Try.pinned (OpenSpec.ofChange treapPlaysWrong)

/-- 'skeinlaw15.TreapSeeds': WHATEVER THE INPUT: true; the input reads as it did. -/
def treapSeedsSpec : ChangeSpec := { name := "treapSeeds", fn := fun _ => fun
  | [d1, d2, d3] => { results := [.lit (.bool true)], args := [d1, d2, d3] }
  | _ => none }
def treapSeedsRow : OpenClaim := { program := "ytbbfnbnjaiimgaa", sum := "9ffc4fc4188a5a5a72f54ecc0f6f639cb4994b144bb2b865f3dde9c345c5905d", func := "skein/skeinlaw15.TreapSeeds", spec := "treapSeeds", unfollowed := true, recurses := true, apart := false }
def TreapSeedsSaid : Prop := treapSeedsRow.holds Try.pinned (OpenSpec.ofChange treapSeedsSpec)

/-- ITS FALSE NEIGHBOUR: 'it returns false'. Refute it at one input. -/
def treapSeedsWrong : ChangeSpec := { name := "treapSeeds", fn := fun _ => fun
  | [d1, d2, d3] => { results := [.lit (.bool false)], args := [d1, d2, d3] }
  | _ => none }
def TreapSeedsWrongFalsely : Prop := treapSeedsRow.holds Try.pinned (OpenSpec.ofChange treapSeedsWrong)

/-- 'skeinlaw15.TreapSeams': WHATEVER THE INPUT: true; the input reads as it did. -/
def treapSeamsSpec : ChangeSpec := { name := "treapSeams", fn := fun _ => fun
  | [d1, d2, d3, d4] => { results := [.lit (.bool true)], args := [d1, d2, d3, d4] }
  | _ => none }
def treapSeamsRow : OpenClaim := { program := "ytbbfnbnjaiimgaa", sum := "9ffc4fc4188a5a5a72f54ecc0f6f639cb4994b144bb2b865f3dde9c345c5905d", func := "skein/skeinlaw15.TreapSeams", spec := "treapSeams", unfollowed := true, recurses := true, apart := false }
def TreapSeamsSaid : Prop := treapSeamsRow.holds Try.pinned (OpenSpec.ofChange treapSeamsSpec)

/-- ITS FALSE NEIGHBOUR: 'it returns false'. Refute it at one input. -/
def treapSeamsWrong : ChangeSpec := { name := "treapSeams", fn := fun _ => fun
  | [d1, d2, d3, d4] => { results := [.lit (.bool false)], args := [d1, d2, d3, d4] }
  | _ => none }
def TreapSeamsWrongFalsely : Prop := treapSeamsRow.holds Try.pinned (OpenSpec.ofChange treapSeamsWrong)

/-- 'skeinlaw15.TreapSums': WHATEVER THE INPUT: true; the input reads as it did. -/
def treapSumsSpec : ChangeSpec := { name := "treapSums", fn := fun _ => fun
  | [d1, d2, d3, d4, d5] => { results := [.lit (.bool true)], args := [d1, d2, d3, d4, d5] }
  | _ => none }
def treapSumsRow : OpenClaim := { program := "ytbbfnbnjaiimgaa", sum := "9ffc4fc4188a5a5a72f54ecc0f6f639cb4994b144bb2b865f3dde9c345c5905d", func := "skein/skeinlaw15.TreapSums", spec := "treapSums", unfollowed := true, recurses := true, apart := false }
def TreapSumsSaid : Prop := treapSumsRow.holds Try.pinned (OpenSpec.ofChange treapSumsSpec)

/-- ITS FALSE NEIGHBOUR: 'it returns false'. Refute it at one input. -/
def treapSumsWrong : ChangeSpec := { name := "treapSums", fn := fun _ => fun
  | [d1, d2, d3, d4, d5] => { results := [.lit (.bool false)], args := [d1, d2, d3, d4, d5] }
  | _ => none }
def TreapSumsWrongFalsely : Prop := treapSumsRow.holds Try.pinned (OpenSpec.ofChange treapSumsWrong)

/-- 'skeinlaw15.TreapRows': WHATEVER THE INPUT: true; the input reads as it did. -/
def treapRowsSpec : ChangeSpec := { name := "treapRows", fn := fun _ => fun
  | [d1, d2, d3, d4, d5] => { results := [.lit (.bool true)], args := [d1, d2, d3, d4, d5] }
  | _ => none }
def treapRowsRow : OpenClaim := { program := "ytbbfnbnjaiimgaa", sum := "9ffc4fc4188a5a5a72f54ecc0f6f639cb4994b144bb2b865f3dde9c345c5905d", func := "skein/skeinlaw15.TreapRows", spec := "treapRows", unfollowed := true, recurses := true, apart := false }
def TreapRowsSaid : Prop := treapRowsRow.holds Try.pinned (OpenSpec.ofChange treapRowsSpec)

/-- ITS FALSE NEIGHBOUR: 'it returns false'. Refute it at one input. -/
def treapRowsWrong : ChangeSpec := { name := "treapRows", fn := fun _ => fun
  | [d1, d2, d3, d4, d5] => { results := [.lit (.bool false)], args := [d1, d2, d3, d4, d5] }
  | _ => none }
def TreapRowsWrongFalsely : Prop := treapRowsRow.holds Try.pinned (OpenSpec.ofChange treapRowsWrong)

/-- 'skeinlaw16.EulerPlays': WHATEVER THE INPUT: true; the input reads as it did. -/
def eulerPlaysSpec : ChangeSpec := { name := "eulerPlays", fn := fun _ => fun
  | [d1, d2] => { results := [.lit (.bool true)], args := [d1, d2] }
  | _ => none }
def eulerPlaysRow : OpenClaim := { program := "ytbbfnbnjaiimgaa", sum := "9ffc4fc4188a5a5a72f54ecc0f6f639cb4994b144bb2b865f3dde9c345c5905d", func := "skein/skeinlaw16.EulerPlays", spec := "eulerPlays", unfollowed := true, recurses := true, apart := false }
def EulerPlaysSaid : Prop := eulerPlaysRow.holds Try.pinned (OpenSpec.ofChange eulerPlaysSpec)

/-- ITS FALSE NEIGHBOUR: 'it returns false'. Refute it at one input. -/
def eulerPlaysWrong : ChangeSpec := { name := "eulerPlays", fn := fun _ => fun
  | [d1, d2] => { results := [.lit (.bool false)], args := [d1, d2] }
  | _ => none }
def EulerPlaysWrongFalsely : Prop := eulerPlaysRow.holds Try.pinned (OpenSpec.ofChange eulerPlaysWrong)

/-- 'skeinlaw16.EulerBack': WHATEVER THE INPUT: true; the input reads as it did. -/
def eulerBackSpec : ChangeSpec := { name := "eulerBack", fn := fun _ => fun
  | [d1, d2, d3, d4, d5, d6] => { results := [.lit (.bool true)], args := [d1, d2, d3, d4, d5, d6] }
  | _ => none }
def eulerBackRow : OpenClaim := { program := "ytbbfnbnjaiimgaa", sum := "9ffc4fc4188a5a5a72f54ecc0f6f639cb4994b144bb2b865f3dde9c345c5905d", func := "skein/skeinlaw16.EulerBack", spec := "eulerBack", unfollowed := true, recurses := true, apart := false }
def EulerBackSaid : Prop := eulerBackRow.holds Try.pinned (OpenSpec.ofChange eulerBackSpec)

/-- ITS FALSE NEIGHBOUR: 'it returns false'. Refute it at one input. -/
def eulerBackWrong : ChangeSpec := { name := "eulerBack", fn := fun _ => fun
  | [d1, d2, d3, d4, d5, d6] => { results := [.lit (.bool false)], args := [d1, d2, d3, d4, d5, d6] }
  | _ => none }
def EulerBackWrongFalsely : Prop := eulerBackRow.holds Try.pinned (OpenSpec.ofChange eulerBackWrong)

/-- 'skeinlaw16.EulerTrees': WHATEVER THE INPUT: true; the input reads as it did. -/
def eulerTreesSpec : ChangeSpec := { name := "eulerTrees", fn := fun _ => fun
  | [d1, d2, d3] => { results := [.lit (.bool true)], args := [d1, d2, d3] }
  | _ => none }
def eulerTreesRow : OpenClaim := { program := "ytbbfnbnjaiimgaa", sum := "9ffc4fc4188a5a5a72f54ecc0f6f639cb4994b144bb2b865f3dde9c345c5905d", func := "skein/skeinlaw16.EulerTrees", spec := "eulerTrees", unfollowed := true, recurses := true, apart := false }
def EulerTreesSaid : Prop := eulerTreesRow.holds Try.pinned (OpenSpec.ofChange eulerTreesSpec)

/-- ITS FALSE NEIGHBOUR: 'it returns false'. Refute it at one input. -/
def eulerTreesWrong : ChangeSpec := { name := "eulerTrees", fn := fun _ => fun
  | [d1, d2, d3] => { results := [.lit (.bool false)], args := [d1, d2, d3] }
  | _ => none }
def EulerTreesWrongFalsely : Prop := eulerTreesRow.holds Try.pinned (OpenSpec.ofChange eulerTreesWrong)

/-- 'skeinlaw16.EulerOrder': WHATEVER THE INPUT: true; the input reads as it did. -/
def eulerOrderSpec : ChangeSpec := { name := "eulerOrder", fn := fun _ => fun
  | [d1, d2, d3] => { results := [.lit (.bool true)], args := [d1, d2, d3] }
  | _ => none }
def eulerOrderRow : OpenClaim := { program := "ytbbfnbnjaiimgaa", sum := "9ffc4fc4188a5a5a72f54ecc0f6f639cb4994b144bb2b865f3dde9c345c5905d", func := "skein/skeinlaw16.EulerOrder", spec := "eulerOrder", unfollowed := true, recurses := true, apart := false }
def EulerOrderSaid : Prop := eulerOrderRow.holds Try.pinned (OpenSpec.ofChange eulerOrderSpec)

/-- ITS FALSE NEIGHBOUR: 'it returns false'. Refute it at one input. -/
def eulerOrderWrong : ChangeSpec := { name := "eulerOrder", fn := fun _ => fun
  | [d1, d2, d3] => { results := [.lit (.bool false)], args := [d1, d2, d3] }
  | _ => none }
def EulerOrderWrongFalsely : Prop := eulerOrderRow.holds Try.pinned (OpenSpec.ofChange eulerOrderWrong)

/-- 'skeinlaw16.EulerMarks': WHATEVER THE INPUT: true; the input reads as it did. -/
def eulerMarksSpec : ChangeSpec := { name := "eulerMarks", fn := fun _ => fun
  | [d1, d2, d3] => { results := [.lit (.bool true)], args := [d1, d2, d3] }
  | _ => none }
def eulerMarksRow : OpenClaim := { program := "ytbbfnbnjaiimgaa", sum := "9ffc4fc4188a5a5a72f54ecc0f6f639cb4994b144bb2b865f3dde9c345c5905d", func := "skein/skeinlaw16.EulerMarks", spec := "eulerMarks", unfollowed := true, recurses := true, apart := false }
def EulerMarksSaid : Prop := eulerMarksRow.holds Try.pinned (OpenSpec.ofChange eulerMarksSpec)

/-- ITS FALSE NEIGHBOUR: 'it returns false'. Refute it at one input. -/
def eulerMarksWrong : ChangeSpec := { name := "eulerMarks", fn := fun _ => fun
  | [d1, d2, d3] => { results := [.lit (.bool false)], args := [d1, d2, d3] }
  | _ => none }
def EulerMarksWrongFalsely : Prop := eulerMarksRow.holds Try.pinned (OpenSpec.ofChange eulerMarksWrong)

/- THE SECOND FORM. 'bulk': how many values and letters a reading holds, each counted each time it is reached (what is shared counts as often as it is met; a slice's spare places count too). A statement '..UptoSaid' is the law's where the arguments, and the package variables that the reading takes, are together of bulk at most 1048576: NARROWER than '..Said'. Prove '..Said' where nothing that the law and all that it calls make is longer than what came in: it says more and counts as full. Else prove '..UptoSaid'. A law counts once. -/
mutual
def uptoBulk {H : Type} : DataW H → Nat
  | .lit (.string bytes) => bytes.length + 1
  | .lit _ => 1
  | .nil => 1
  | .ptr d => uptoBulk d + 1
  | .slice elems spare => uptoBulkAll elems + uptoBulkAll spare + 1
  | .agg parts => uptoBulkAll parts + 1
  | .iface _ d => uptoBulk d + 1
  | .map entries => uptoBulkEntries entries + 1
  | .held _ => 1
def uptoBulkAll {H : Type} : List (DataW H) → Nat
  | [] => 0
  | d :: r => uptoBulk d + uptoBulkAll r
def uptoBulkEntries {H : Type} : List (Lit × DataW H) → Nat
  | [] => 0
  | x :: r => uptoBulkEntry x + uptoBulkEntries r
def uptoBulkEntry {H : Type} : Lit × DataW H → Nat
  | (.string bytes, d) => bytes.length + uptoBulk d + 1
  | (_, d) => uptoBulk d + 1
 end
def uptoSmall : (H : Type) → List (DataW H) → Bool := fun _ ds => decide (uptoBulkAll ds ≤ 1048576)
def OpenSpec.upto (s : _root_.Go.ChangeSpec) : _root_.Go.OpenSpec := { _root_.Go.OpenSpec.ofChange s with cond := some uptoSmall }

/-- 'skeinlaw15.TreapPlays', WHERE WHAT IT READS IS OF BULK AT MOST 1048576: true; the input reads as it did. -/
def treapPlaysUptoRow : OpenClaim := { program := "ytbbfnbnjaiimgaa", sum := "9ffc4fc4188a5a5a72f54ecc0f6f639cb4994b144bb2b865f3dde9c345c5905d", func := "skein/skeinlaw15.TreapPlays", spec := "treapPlays", unfollowed := true, recurses := true, apart := false, narrowed := true }
def TreapPlaysUptoSaid : Prop := treapPlaysUptoRow.holds Try.pinned (OpenSpec.upto treapPlaysSpec)

/-- 'skeinlaw15.TreapSeeds', WHERE WHAT IT READS IS OF BULK AT MOST 1048576: true; the input reads as it did. -/
def treapSeedsUptoRow : OpenClaim := { program := "ytbbfnbnjaiimgaa", sum := "9ffc4fc4188a5a5a72f54ecc0f6f639cb4994b144bb2b865f3dde9c345c5905d", func := "skein/skeinlaw15.TreapSeeds", spec := "treapSeeds", unfollowed := true, recurses := true, apart := false, narrowed := true }
def TreapSeedsUptoSaid : Prop := treapSeedsUptoRow.holds Try.pinned (OpenSpec.upto treapSeedsSpec)

/-- 'skeinlaw15.TreapSeams', WHERE WHAT IT READS IS OF BULK AT MOST 1048576: true; the input reads as it did. -/
def treapSeamsUptoRow : OpenClaim := { program := "ytbbfnbnjaiimgaa", sum := "9ffc4fc4188a5a5a72f54ecc0f6f639cb4994b144bb2b865f3dde9c345c5905d", func := "skein/skeinlaw15.TreapSeams", spec := "treapSeams", unfollowed := true, recurses := true, apart := false, narrowed := true }
def TreapSeamsUptoSaid : Prop := treapSeamsUptoRow.holds Try.pinned (OpenSpec.upto treapSeamsSpec)

/-- 'skeinlaw15.TreapSums', WHERE WHAT IT READS IS OF BULK AT MOST 1048576: true; the input reads as it did. -/
def treapSumsUptoRow : OpenClaim := { program := "ytbbfnbnjaiimgaa", sum := "9ffc4fc4188a5a5a72f54ecc0f6f639cb4994b144bb2b865f3dde9c345c5905d", func := "skein/skeinlaw15.TreapSums", spec := "treapSums", unfollowed := true, recurses := true, apart := false, narrowed := true }
def TreapSumsUptoSaid : Prop := treapSumsUptoRow.holds Try.pinned (OpenSpec.upto treapSumsSpec)

/-- 'skeinlaw15.TreapRows', WHERE WHAT IT READS IS OF BULK AT MOST 1048576: true; the input reads as it did. -/
def treapRowsUptoRow : OpenClaim := { program := "ytbbfnbnjaiimgaa", sum := "9ffc4fc4188a5a5a72f54ecc0f6f639cb4994b144bb2b865f3dde9c345c5905d", func := "skein/skeinlaw15.TreapRows", spec := "treapRows", unfollowed := true, recurses := true, apart := false, narrowed := true }
def TreapRowsUptoSaid : Prop := treapRowsUptoRow.holds Try.pinned (OpenSpec.upto treapRowsSpec)

/-- 'skeinlaw16.EulerPlays', WHERE WHAT IT READS IS OF BULK AT MOST 1048576: true; the input reads as it did. -/
def eulerPlaysUptoRow : OpenClaim := { program := "ytbbfnbnjaiimgaa", sum := "9ffc4fc4188a5a5a72f54ecc0f6f639cb4994b144bb2b865f3dde9c345c5905d", func := "skein/skeinlaw16.EulerPlays", spec := "eulerPlays", unfollowed := true, recurses := true, apart := false, narrowed := true }
def EulerPlaysUptoSaid : Prop := eulerPlaysUptoRow.holds Try.pinned (OpenSpec.upto eulerPlaysSpec)

/-- 'skeinlaw16.EulerBack', WHERE WHAT IT READS IS OF BULK AT MOST 1048576: true; the input reads as it did. -/
def eulerBackUptoRow : OpenClaim := { program := "ytbbfnbnjaiimgaa", sum := "9ffc4fc4188a5a5a72f54ecc0f6f639cb4994b144bb2b865f3dde9c345c5905d", func := "skein/skeinlaw16.EulerBack", spec := "eulerBack", unfollowed := true, recurses := true, apart := false, narrowed := true }
def EulerBackUptoSaid : Prop := eulerBackUptoRow.holds Try.pinned (OpenSpec.upto eulerBackSpec)

/-- 'skeinlaw16.EulerTrees', WHERE WHAT IT READS IS OF BULK AT MOST 1048576: true; the input reads as it did. -/
def eulerTreesUptoRow : OpenClaim := { program := "ytbbfnbnjaiimgaa", sum := "9ffc4fc4188a5a5a72f54ecc0f6f639cb4994b144bb2b865f3dde9c345c5905d", func := "skein/skeinlaw16.EulerTrees", spec := "eulerTrees", unfollowed := true, recurses := true, apart := false, narrowed := true }
def EulerTreesUptoSaid : Prop := eulerTreesUptoRow.holds Try.pinned (OpenSpec.upto eulerTreesSpec)

/-- 'skeinlaw16.EulerOrder', WHERE WHAT IT READS IS OF BULK AT MOST 1048576: true; the input reads as it did. -/
def eulerOrderUptoRow : OpenClaim := { program := "ytbbfnbnjaiimgaa", sum := "9ffc4fc4188a5a5a72f54ecc0f6f639cb4994b144bb2b865f3dde9c345c5905d", func := "skein/skeinlaw16.EulerOrder", spec := "eulerOrder", unfollowed := true, recurses := true, apart := false, narrowed := true }
def EulerOrderUptoSaid : Prop := eulerOrderUptoRow.holds Try.pinned (OpenSpec.upto eulerOrderSpec)

/-- 'skeinlaw16.EulerMarks', WHERE WHAT IT READS IS OF BULK AT MOST 1048576: true; the input reads as it did. -/
def eulerMarksUptoRow : OpenClaim := { program := "ytbbfnbnjaiimgaa", sum := "9ffc4fc4188a5a5a72f54ecc0f6f639cb4994b144bb2b865f3dde9c345c5905d", func := "skein/skeinlaw16.EulerMarks", spec := "eulerMarks", unfollowed := true, recurses := true, apart := false, narrowed := true }
def EulerMarksUptoSaid : Prop := eulerMarksUptoRow.holds Try.pinned (OpenSpec.upto eulerMarksSpec)

end Rows
end Go.Proofs.Ytbbfnbnjaiimgaa
