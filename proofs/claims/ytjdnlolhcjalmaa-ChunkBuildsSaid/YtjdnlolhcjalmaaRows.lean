/-
  No cell of these rows narrows 'for every input' (looked for: loops, veiled, ifaces, maps, wideKeys, modest, calm, conditions, laid).
  DERIVED. THE GIVEN ROWS OF THIS SEAT. 5 by the template 'for every input the law returns true; each argument reads behind the call as it read before'; 0 by the template 'total and deterministic' (their statements: YtjdnlolhcjalmaaTotals.lean).
  GIVEN WITH THE SEED: the statements are not yours to turn. If you find one false, say at which input.
  Laid BY PROGRAM, IN A SANDBOX (cutbox-rows.mjs): the forced cells as the released guide's own fill.sh prints them over the translation 35cb7b5831146390… (all of the seat's roots in one cut). By AI agents, Wed Nov 11 2026. No macro, syntax, notation, axiom, sorry.
-/
import Derived.Test.YtjdnlolhcjalmaaChecked
import GoSem.Claim
import GoSem.ClaimJoined
import GoSem.ClaimMapViews
import Derived.JoinedTies
import Derived.KernelRfl
namespace Go.Proofs.Ytjdnlolhcjalmaa
/- THE CELL 'sum', in the pinned program and in every row, IS THE sha256 OF THE DUMP (.gsa) THAT YtjdnlolhcjalmaaProg.lean LOADS. Nothing in Lean hashes anything: it is a label: what it is worth is what the hold of that sum in a sandbox is worth. -/
noncomputable def Try.pinned : Pinned := { name := "ytjdnlolhcjalmaa", sum := "35cb7b58311463908115a31db728cae69233d8b20ca0e1ce699aac8bbe1e23be", checked := Try.checked }
namespace Rows
def none {H : Type} : Left H := { results := [], args := [] }

/-- 'towlinelaw7.ChunkBuilds': WHATEVER THE INPUT: true; the input reads as it did. -/
def chunkBuildsSpec : ChangeSpec := { name := "chunkBuilds", fn := fun _ => fun
  | [d] => { results := [.lit (.bool true)], args := [d] }
  | _ => none }
def chunkBuildsRow : OpenClaim := { program := "ytjdnlolhcjalmaa", sum := "35cb7b58311463908115a31db728cae69233d8b20ca0e1ce699aac8bbe1e23be", func := "towline/towlinelaw7.ChunkBuilds", spec := "chunkBuilds", inPlace := ["internal/abi.NoEscape"], unfollowed := true, recurses := true, apart := false }
def ChunkBuildsSaid : Prop := chunkBuildsRow.holds Try.pinned (OpenSpec.ofChange chunkBuildsSpec)

/-- ITS FALSE NEIGHBOUR: 'it returns false'. Refute it at one input. -/
def chunkBuildsWrong : ChangeSpec := { name := "chunkBuilds", fn := fun _ => fun
  | [d] => { results := [.lit (.bool false)], args := [d] }
  | _ => none }
def ChunkBuildsWrongFalsely : Prop := chunkBuildsRow.holds Try.pinned (OpenSpec.ofChange chunkBuildsWrong)

/-- 'towlinelaw7.ChunkBack': WHATEVER THE INPUT: true; the input reads as it did. -/
def chunkBackSpec : ChangeSpec := { name := "chunkBack", fn := fun _ => fun
  | [d1, d2] => { results := [.lit (.bool true)], args := [d1, d2] }
  | _ => none }
def chunkBackRow : OpenClaim := { program := "ytjdnlolhcjalmaa", sum := "35cb7b58311463908115a31db728cae69233d8b20ca0e1ce699aac8bbe1e23be", func := "towline/towlinelaw7.ChunkBack", spec := "chunkBack", inPlace := ["internal/abi.NoEscape"], unfollowed := true, recurses := true, apart := false }
def ChunkBackSaid : Prop := chunkBackRow.holds Try.pinned (OpenSpec.ofChange chunkBackSpec)

/-- ITS FALSE NEIGHBOUR: 'it returns false'. Refute it at one input. -/
def chunkBackWrong : ChangeSpec := { name := "chunkBack", fn := fun _ => fun
  | [d1, d2] => { results := [.lit (.bool false)], args := [d1, d2] }
  | _ => none }
def ChunkBackWrongFalsely : Prop := chunkBackRow.holds Try.pinned (OpenSpec.ofChange chunkBackWrong)

/-- 'towlinelaw7.ChunkAgain': WHATEVER THE INPUT: true; the input reads as it did. -/
def chunkAgainSpec : ChangeSpec := { name := "chunkAgain", fn := fun _ => fun
  | [d] => { results := [.lit (.bool true)], args := [d] }
  | _ => none }
def chunkAgainRow : OpenClaim := { program := "ytjdnlolhcjalmaa", sum := "35cb7b58311463908115a31db728cae69233d8b20ca0e1ce699aac8bbe1e23be", func := "towline/towlinelaw7.ChunkAgain", spec := "chunkAgain", inPlace := ["internal/abi.NoEscape"], unfollowed := true, recurses := true, apart := false }
def ChunkAgainSaid : Prop := chunkAgainRow.holds Try.pinned (OpenSpec.ofChange chunkAgainSpec)

/-- ITS FALSE NEIGHBOUR: 'it returns false'. Refute it at one input. -/
def chunkAgainWrong : ChangeSpec := { name := "chunkAgain", fn := fun _ => fun
  | [d] => { results := [.lit (.bool false)], args := [d] }
  | _ => none }
def ChunkAgainWrongFalsely : Prop := chunkAgainRow.holds Try.pinned (OpenSpec.ofChange chunkAgainWrong)

/-- 'towlinelaw7.ChunkRows': WHATEVER THE INPUT: true; the input reads as it did. -/
def chunkRowsSpec : ChangeSpec := { name := "chunkRows", fn := fun _ => fun
  | [d] => { results := [.lit (.bool true)], args := [d] }
  | _ => none }
def chunkRowsRow : OpenClaim := { program := "ytjdnlolhcjalmaa", sum := "35cb7b58311463908115a31db728cae69233d8b20ca0e1ce699aac8bbe1e23be", func := "towline/towlinelaw7.ChunkRows", spec := "chunkRows", inPlace := ["internal/abi.NoEscape"], unfollowed := true, recurses := true, apart := false }
def ChunkRowsSaid : Prop := chunkRowsRow.holds Try.pinned (OpenSpec.ofChange chunkRowsSpec)

/-- ITS FALSE NEIGHBOUR: 'it returns false'. Refute it at one input. -/
def chunkRowsWrong : ChangeSpec := { name := "chunkRows", fn := fun _ => fun
  | [d] => { results := [.lit (.bool false)], args := [d] }
  | _ => none }
def ChunkRowsWrongFalsely : Prop := chunkRowsRow.holds Try.pinned (OpenSpec.ofChange chunkRowsWrong)

/-- 'towlinelaw7.ChunkHeads': WHATEVER THE INPUT: true; the input reads as it did. -/
def chunkHeadsSpec : ChangeSpec := { name := "chunkHeads", fn := fun _ => fun
  | [d] => { results := [.lit (.bool true)], args := [d] }
  | _ => none }
def chunkHeadsRow : OpenClaim := { program := "ytjdnlolhcjalmaa", sum := "35cb7b58311463908115a31db728cae69233d8b20ca0e1ce699aac8bbe1e23be", func := "towline/towlinelaw7.ChunkHeads", spec := "chunkHeads", inPlace := ["internal/abi.NoEscape"], unfollowed := true, recurses := true, apart := false }
def ChunkHeadsSaid : Prop := chunkHeadsRow.holds Try.pinned (OpenSpec.ofChange chunkHeadsSpec)

/-- ITS FALSE NEIGHBOUR: 'it returns false'. Refute it at one input. -/
def chunkHeadsWrong : ChangeSpec := { name := "chunkHeads", fn := fun _ => fun
  | [d] => { results := [.lit (.bool false)], args := [d] }
  | _ => none }
def ChunkHeadsWrongFalsely : Prop := chunkHeadsRow.holds Try.pinned (OpenSpec.ofChange chunkHeadsWrong)

/- THE SECOND FORM. 'bulk': how many values and letters a reading holds, each counted each time it is reached (what is shared counts as often as it is met; a slice's spare places count too). A statement '..UptoSaid' is the law's where the arguments, and the package variables that the reading takes, are together of bulk at most 1048576: NARROWER than '..Said'. Prove '..Said' where nothing that the law and all that it calls make is longer than what came in: it says more and counts as full. Else prove '..UptoSaid'. A law counts once. -/
mutual
def uptoBulk {H : Type} : DataW H → Nat
  | .lit (.string bytes) => bytes.length + 1
  | .lit _ => 1
  | .nil => 1
  | .ptr d => uptoBulk d + 1
  | .slice elems spare => uptoBulkAll elems + uptoBulkAll spare + 1
  | .agg parts => uptoBulkAll parts + 1
  | .iface _ d => uptoBulk d + 1
  | .map entries => uptoBulkEntries entries + 1
  | .held _ => 1
def uptoBulkAll {H : Type} : List (DataW H) → Nat
  | [] => 0
  | d :: r => uptoBulk d + uptoBulkAll r
def uptoBulkEntries {H : Type} : List (Lit × DataW H) → Nat
  | [] => 0
  | x :: r => uptoBulkEntry x + uptoBulkEntries r
def uptoBulkEntry {H : Type} : Lit × DataW H → Nat
  | (.string bytes, d) => bytes.length + uptoBulk d + 1
  | (_, d) => uptoBulk d + 1
 end
def uptoSmall : (H : Type) → List (DataW H) → Bool := fun _ ds => decide (uptoBulkAll ds ≤ 1048576)
def OpenSpec.upto (s : _root_.Go.ChangeSpec) : _root_.Go.OpenSpec := { _root_.Go.OpenSpec.ofChange s with cond := some uptoSmall }

/-- 'towlinelaw7.ChunkBuilds', WHERE WHAT IT READS IS OF BULK AT MOST 1048576: true; the input reads as it did. -/
def chunkBuildsUptoRow : OpenClaim := { program := "ytjdnlolhcjalmaa", sum := "35cb7b58311463908115a31db728cae69233d8b20ca0e1ce699aac8bbe1e23be", func := "towline/towlinelaw7.ChunkBuilds", spec := "chunkBuilds", inPlace := ["internal/abi.NoEscape"], unfollowed := true, recurses := true, apart := false, narrowed := true }
def ChunkBuildsUptoSaid : Prop := chunkBuildsUptoRow.holds Try.pinned (OpenSpec.upto chunkBuildsSpec)

/-- 'towlinelaw7.ChunkBack', WHERE WHAT IT READS IS OF BULK AT MOST 1048576: true; the input reads as it did. -/
def chunkBackUptoRow : OpenClaim := { program := "ytjdnlolhcjalmaa", sum := "35cb7b58311463908115a31db728cae69233d8b20ca0e1ce699aac8bbe1e23be", func := "towline/towlinelaw7.ChunkBack", spec := "chunkBack", inPlace := ["internal/abi.NoEscape"], unfollowed := true, recurses := true, apart := false, narrowed := true }
def ChunkBackUptoSaid : Prop := chunkBackUptoRow.holds Try.pinned (OpenSpec.upto chunkBackSpec)

/-- 'towlinelaw7.ChunkAgain', WHERE WHAT IT READS IS OF BULK AT MOST 1048576: true; the input reads as it did. -/
def chunkAgainUptoRow : OpenClaim := { program := "ytjdnlolhcjalmaa", sum := "35cb7b58311463908115a31db728cae69233d8b20ca0e1ce699aac8bbe1e23be", func := "towline/towlinelaw7.ChunkAgain", spec := "chunkAgain", inPlace := ["internal/abi.NoEscape"], unfollowed := true, recurses := true, apart := false, narrowed := true }
def ChunkAgainUptoSaid : Prop := chunkAgainUptoRow.holds Try.pinned (OpenSpec.upto chunkAgainSpec)

/-- 'towlinelaw7.ChunkRows', WHERE WHAT IT READS IS OF BULK AT MOST 1048576: true; the input reads as it did. -/
def chunkRowsUptoRow : OpenClaim := { program := "ytjdnlolhcjalmaa", sum := "35cb7b58311463908115a31db728cae69233d8b20ca0e1ce699aac8bbe1e23be", func := "towline/towlinelaw7.ChunkRows", spec := "chunkRows", inPlace := ["internal/abi.NoEscape"], unfollowed := true, recurses := true, apart := false, narrowed := true }
def ChunkRowsUptoSaid : Prop := chunkRowsUptoRow.holds Try.pinned (OpenSpec.upto chunkRowsSpec)

/-- 'towlinelaw7.ChunkHeads', WHERE WHAT IT READS IS OF BULK AT MOST 1048576: true; the input reads as it did. -/
def chunkHeadsUptoRow : OpenClaim := { program := "ytjdnlolhcjalmaa", sum := "35cb7b58311463908115a31db728cae69233d8b20ca0e1ce699aac8bbe1e23be", func := "towline/towlinelaw7.ChunkHeads", spec := "chunkHeads", inPlace := ["internal/abi.NoEscape"], unfollowed := true, recurses := true, apart := false, narrowed := true }
def ChunkHeadsUptoSaid : Prop := chunkHeadsUptoRow.holds Try.pinned (OpenSpec.upto chunkHeadsSpec)

end Rows
end Go.Proofs.Ytjdnlolhcjalmaa
