/-
  No cell of these rows narrows 'for every input' (looked for: loops, veiled, ifaces, maps, wideKeys, modest, calm, conditions, laid).
  DERIVED. THE GIVEN ROWS OF THIS SEAT. 5 by the template 'for every input the law returns true; each argument reads behind the call as it read before'; 0 by the template 'total and deterministic' (their statements: YtondgdacjbfihaaTotals.lean).
  GIVEN WITH THE SEED: the statements are not yours to turn. If you find one false, say at which input.
  Laid BY PROGRAM, IN A SANDBOX (cutbox-rows.mjs): the forced cells as the released guide's own fill.sh prints them over the translation 33b5f0b1a9af0222… (all of the seat's roots in one cut). By AI agents, Wed Nov 11 2026. No macro, syntax, notation, axiom, sorry.
-/
import Derived.Test.YtondgdacjbfihaaChecked
import GoSem.Claim
import GoSem.ClaimJoined
import GoSem.ClaimMapViews
import Derived.JoinedTies
import Derived.KernelRfl
namespace Go.Proofs.Ytondgdacjbfihaa
/- THE CELL 'sum', in the pinned program and in every row, IS THE sha256 OF THE DUMP (.gsa) THAT YtondgdacjbfihaaProg.lean LOADS. Nothing in Lean hashes anything: it is a label: what it is worth is what the hold of that sum in a sandbox is worth. -/
noncomputable def Try.pinned : Pinned := { name := "ytondgdacjbfihaa", sum := "33b5f0b1a9af0222283c9fe0f2eb147d0fbb5ed517c0798e8bf5190a79126962", checked := Try.checked }
namespace Rows
def none {H : Type} : Left H := { results := [], args := [] }

/-- 'towlinelaw16.OrderPlays': WHATEVER THE INPUT: true; the input reads as it did. -/
def orderPlaysSpec : ChangeSpec := { name := "orderPlays", fn := fun _ => fun
  | [d1, d2] => { results := [.lit (.bool true)], args := [d1, d2] }
  | _ => none }
def orderPlaysRow : OpenClaim := { program := "ytondgdacjbfihaa", sum := "33b5f0b1a9af0222283c9fe0f2eb147d0fbb5ed517c0798e8bf5190a79126962", func := "towline/towlinelaw16.OrderPlays", spec := "orderPlays", unfollowed := true, recurses := true, apart := false }
def OrderPlaysSaid : Prop := orderPlaysRow.holds Try.pinned (OpenSpec.ofChange orderPlaysSpec)

/-- ITS FALSE NEIGHBOUR: 'it returns false'. Refute it at one input. -/
def orderPlaysWrong : ChangeSpec := { name := "orderPlays", fn := fun _ => fun
  | [d1, d2] => { results := [.lit (.bool false)], args := [d1, d2] }
  | _ => none }
def OrderPlaysWrongFalsely : Prop := orderPlaysRow.holds Try.pinned (OpenSpec.ofChange orderPlaysWrong)

/-- 'towlinelaw16.OrderStreams': WHATEVER THE INPUT: true; the input reads as it did. -/
def orderStreamsSpec : ChangeSpec := { name := "orderStreams", fn := fun _ => fun
  | [d1, d2] => { results := [.lit (.bool true)], args := [d1, d2] }
  | _ => none }
def orderStreamsRow : OpenClaim := { program := "ytondgdacjbfihaa", sum := "33b5f0b1a9af0222283c9fe0f2eb147d0fbb5ed517c0798e8bf5190a79126962", func := "towline/towlinelaw16.OrderStreams", spec := "orderStreams", unfollowed := true, recurses := true, apart := false }
def OrderStreamsSaid : Prop := orderStreamsRow.holds Try.pinned (OpenSpec.ofChange orderStreamsSpec)

/-- ITS FALSE NEIGHBOUR: 'it returns false'. Refute it at one input. -/
def orderStreamsWrong : ChangeSpec := { name := "orderStreams", fn := fun _ => fun
  | [d1, d2] => { results := [.lit (.bool false)], args := [d1, d2] }
  | _ => none }
def OrderStreamsWrongFalsely : Prop := orderStreamsRow.holds Try.pinned (OpenSpec.ofChange orderStreamsWrong)

/-- 'towlinelaw16.OrderFree': WHATEVER THE INPUT: true; the input reads as it did. -/
def orderFreeSpec : ChangeSpec := { name := "orderFree", fn := fun _ => fun
  | [d1, d2, d3] => { results := [.lit (.bool true)], args := [d1, d2, d3] }
  | _ => none }
def orderFreeRow : OpenClaim := { program := "ytondgdacjbfihaa", sum := "33b5f0b1a9af0222283c9fe0f2eb147d0fbb5ed517c0798e8bf5190a79126962", func := "towline/towlinelaw16.OrderFree", spec := "orderFree", unfollowed := true, recurses := true, apart := false }
def OrderFreeSaid : Prop := orderFreeRow.holds Try.pinned (OpenSpec.ofChange orderFreeSpec)

/-- ITS FALSE NEIGHBOUR: 'it returns false'. Refute it at one input. -/
def orderFreeWrong : ChangeSpec := { name := "orderFree", fn := fun _ => fun
  | [d1, d2, d3] => { results := [.lit (.bool false)], args := [d1, d2, d3] }
  | _ => none }
def OrderFreeWrongFalsely : Prop := orderFreeRow.holds Try.pinned (OpenSpec.ofChange orderFreeWrong)

/-- 'towlinelaw16.OrderSkips': WHATEVER THE INPUT: true; the input reads as it did. -/
def orderSkipsSpec : ChangeSpec := { name := "orderSkips", fn := fun _ => fun
  | [d1, d2] => { results := [.lit (.bool true)], args := [d1, d2] }
  | _ => none }
def orderSkipsRow : OpenClaim := { program := "ytondgdacjbfihaa", sum := "33b5f0b1a9af0222283c9fe0f2eb147d0fbb5ed517c0798e8bf5190a79126962", func := "towline/towlinelaw16.OrderSkips", spec := "orderSkips", unfollowed := true, recurses := true, apart := false }
def OrderSkipsSaid : Prop := orderSkipsRow.holds Try.pinned (OpenSpec.ofChange orderSkipsSpec)

/-- ITS FALSE NEIGHBOUR: 'it returns false'. Refute it at one input. -/
def orderSkipsWrong : ChangeSpec := { name := "orderSkips", fn := fun _ => fun
  | [d1, d2] => { results := [.lit (.bool false)], args := [d1, d2] }
  | _ => none }
def OrderSkipsWrongFalsely : Prop := orderSkipsRow.holds Try.pinned (OpenSpec.ofChange orderSkipsWrong)

/-- 'towlinelaw16.OrderBytes': WHATEVER THE INPUT: true; the input reads as it did. -/
def orderBytesSpec : ChangeSpec := { name := "orderBytes", fn := fun _ => fun
  | [d] => { results := [.lit (.bool true)], args := [d] }
  | _ => none }
def orderBytesRow : OpenClaim := { program := "ytondgdacjbfihaa", sum := "33b5f0b1a9af0222283c9fe0f2eb147d0fbb5ed517c0798e8bf5190a79126962", func := "towline/towlinelaw16.OrderBytes", spec := "orderBytes", unfollowed := true, recurses := true, apart := false }
def OrderBytesSaid : Prop := orderBytesRow.holds Try.pinned (OpenSpec.ofChange orderBytesSpec)

/-- ITS FALSE NEIGHBOUR: 'it returns false'. Refute it at one input. -/
def orderBytesWrong : ChangeSpec := { name := "orderBytes", fn := fun _ => fun
  | [d] => { results := [.lit (.bool false)], args := [d] }
  | _ => none }
def OrderBytesWrongFalsely : Prop := orderBytesRow.holds Try.pinned (OpenSpec.ofChange orderBytesWrong)

/- THE SECOND FORM. 'bulk': how many values and letters a reading holds, each counted each time it is reached (what is shared counts as often as it is met; a slice's spare places count too). A statement '..UptoSaid' is the law's where the arguments, and the package variables that the reading takes, are together of bulk at most 1048576: NARROWER than '..Said'. Prove '..Said' where nothing that the law and all that it calls make is longer than what came in: it says more and counts as full. Else prove '..UptoSaid'. A law counts once. -/
mutual
def uptoBulk {H : Type} : DataW H → Nat
  | .lit (.string bytes) => bytes.length + 1
  | .lit _ => 1
  | .nil => 1
  | .ptr d => uptoBulk d + 1
  | .slice elems spare => uptoBulkAll elems + uptoBulkAll spare + 1
  | .agg parts => uptoBulkAll parts + 1
  | .iface _ d => uptoBulk d + 1
  | .map entries => uptoBulkEntries entries + 1
  | .held _ => 1
def uptoBulkAll {H : Type} : List (DataW H) → Nat
  | [] => 0
  | d :: r => uptoBulk d + uptoBulkAll r
def uptoBulkEntries {H : Type} : List (Lit × DataW H) → Nat
  | [] => 0
  | x :: r => uptoBulkEntry x + uptoBulkEntries r
def uptoBulkEntry {H : Type} : Lit × DataW H → Nat
  | (.string bytes, d) => bytes.length + uptoBulk d + 1
  | (_, d) => uptoBulk d + 1
 end
def uptoSmall : (H : Type) → List (DataW H) → Bool := fun _ ds => decide (uptoBulkAll ds ≤ 1048576)
def OpenSpec.upto (s : _root_.Go.ChangeSpec) : _root_.Go.OpenSpec := { _root_.Go.OpenSpec.ofChange s with cond := some uptoSmall }

/-- 'towlinelaw16.OrderPlays', WHERE WHAT IT READS IS OF BULK AT MOST 1048576: true; the input reads as it did. -/
def orderPlaysUptoRow : OpenClaim := { program := "ytondgdacjbfihaa", sum := "33b5f0b1a9af0222283c9fe0f2eb147d0fbb5ed517c0798e8bf5190a79126962", func := "towline/towlinelaw16.OrderPlays", spec := "orderPlays", unfollowed := true, recurses := true, apart := false, narrowed := true }
def OrderPlaysUptoSaid : Prop := orderPlaysUptoRow.holds Try.pinned (OpenSpec.upto orderPlaysSpec)

/-- 'towlinelaw16.OrderStreams', WHERE WHAT IT READS IS OF BULK AT MOST 1048576: true; the input reads as it did. -/
def orderStreamsUptoRow : OpenClaim := { program := "ytondgdacjbfihaa", sum := "33b5f0b1a9af0222283c9fe0f2eb147d0fbb5ed517c0798e8bf5190a79126962", func := "towline/towlinelaw16.OrderStreams", spec := "orderStreams", unfollowed := true, recurses := true, apart := false, narrowed := true }
def OrderStreamsUptoSaid : Prop := orderStreamsUptoRow.holds Try.pinned (OpenSpec.upto orderStreamsSpec)

/-- 'towlinelaw16.OrderFree', WHERE WHAT IT READS IS OF BULK AT MOST 1048576: true; the input reads as it did. -/
def orderFreeUptoRow : OpenClaim := { program := "ytondgdacjbfihaa", sum := "33b5f0b1a9af0222283c9fe0f2eb147d0fbb5ed517c0798e8bf5190a79126962", func := "towline/towlinelaw16.OrderFree", spec := "orderFree", unfollowed := true, recurses := true, apart := false, narrowed := true }
def OrderFreeUptoSaid : Prop := orderFreeUptoRow.holds Try.pinned (OpenSpec.upto orderFreeSpec)

/-- 'towlinelaw16.OrderSkips', WHERE WHAT IT READS IS OF BULK AT MOST 1048576: true; the input reads as it did. -/
def orderSkipsUptoRow : OpenClaim := { program := "ytondgdacjbfihaa", sum := "33b5f0b1a9af0222283c9fe0f2eb147d0fbb5ed517c0798e8bf5190a79126962", func := "towline/towlinelaw16.OrderSkips", spec := "orderSkips", unfollowed := true, recurses := true, apart := false, narrowed := true }
def OrderSkipsUptoSaid : Prop := orderSkipsUptoRow.holds Try.pinned (OpenSpec.upto orderSkipsSpec)

/-- 'towlinelaw16.OrderBytes', WHERE WHAT IT READS IS OF BULK AT MOST 1048576: true; the input reads as it did. -/
def orderBytesUptoRow : OpenClaim := { program := "ytondgdacjbfihaa", sum := "33b5f0b1a9af0222283c9fe0f2eb147d0fbb5ed517c0798e8bf5190a79126962", func := "towline/towlinelaw16.OrderBytes", spec := "orderBytes", unfollowed := true, recurses := true, apart := false, narrowed := true }
def OrderBytesUptoSaid : Prop := orderBytesUptoRow.holds Try.pinned (OpenSpec.upto orderBytesSpec)

end Rows
end Go.Proofs.Ytondgdacjbfihaa
