/-
  No cell of these rows narrows 'for every input' (looked for: loops, veiled, ifaces, maps, wideKeys, modest, calm, conditions, laid).
  DERIVED. THE GIVEN ROWS OF THIS SEAT. 4 by the template 'for every input the law returns true; each argument reads behind the call as it read before'; 0 by the template 'total and deterministic' (their statements: YtdklldennckniaaTotals.lean).
  GIVEN WITH THE SEED: the statements are not yours to turn. If you find one false, say at which input.
  Laid BY PROGRAM, IN A SANDBOX (cutbox-rows.mjs): the forced cells as the released guide's own fill.sh prints them over the translation 152bfe5f3a9da0a9… (all of the seat's roots in one cut). By AI agents, Wed Nov 11 2026. No macro, syntax, notation, axiom, sorry.
-/
import Derived.Test.YtdklldennckniaaChecked
import GoSem.Claim
import GoSem.ClaimJoined
import GoSem.ClaimMapViews
import Derived.JoinedTies
import Derived.KernelRfl
namespace Go.Proofs.Ytdklldennckniaa
/- THE CELL 'sum', in the pinned program and in every row, IS THE sha256 OF THE DUMP (.gsa) THAT YtdklldennckniaaProg.lean LOADS. Nothing in Lean hashes anything: it is a label: what it is worth is what the hold of that sum in a sandbox is worth. -/
noncomputable def Try.pinned : Pinned := { name := "ytdklldennckniaa", sum := "152bfe5f3a9da0a9750eeee161749b8d19f210e5694ea0691cb526058c92710e", checked := Try.checked }
namespace Rows
def none {H : Type} : Left H := { results := [], args := [] }

/-- 'towlinelaw10.RtoHolds': WHATEVER THE INPUT: true; the input reads as it did. -/
def rtoHoldsSpec : ChangeSpec := { name := "rtoHolds", fn := fun _ => fun
  | [d] => { results := [.lit (.bool true)], args := [d] }
  | _ => none }
def rtoHoldsRow : OpenClaim := { program := "ytdklldennckniaa", sum := "152bfe5f3a9da0a9750eeee161749b8d19f210e5694ea0691cb526058c92710e", func := "towline/towlinelaw10.RtoHolds", spec := "rtoHolds", apart := false }
def RtoHoldsSaid : Prop := rtoHoldsRow.holds Try.pinned (OpenSpec.ofChange rtoHoldsSpec)

/-- ITS FALSE NEIGHBOUR: 'it returns false'. Refute it at one input. -/
def rtoHoldsWrong : ChangeSpec := { name := "rtoHolds", fn := fun _ => fun
  | [d] => { results := [.lit (.bool false)], args := [d] }
  | _ => none }
def RtoHoldsWrongFalsely : Prop := rtoHoldsRow.holds Try.pinned (OpenSpec.ofChange rtoHoldsWrong)

/-- 'towlinelaw10.RtoNears': WHATEVER THE INPUT: true; the input reads as it did. -/
def rtoNearsSpec : ChangeSpec := { name := "rtoNears", fn := fun _ => fun
  | [d1, d2, d3] => { results := [.lit (.bool true)], args := [d1, d2, d3] }
  | _ => none }
def rtoNearsRow : OpenClaim := { program := "ytdklldennckniaa", sum := "152bfe5f3a9da0a9750eeee161749b8d19f210e5694ea0691cb526058c92710e", func := "towline/towlinelaw10.RtoNears", spec := "rtoNears", apart := false }
def RtoNearsSaid : Prop := rtoNearsRow.holds Try.pinned (OpenSpec.ofChange rtoNearsSpec)

/-- ITS FALSE NEIGHBOUR: 'it returns false'. Refute it at one input. -/
def rtoNearsWrong : ChangeSpec := { name := "rtoNears", fn := fun _ => fun
  | [d1, d2, d3] => { results := [.lit (.bool false)], args := [d1, d2, d3] }
  | _ => none }
def RtoNearsWrongFalsely : Prop := rtoNearsRow.holds Try.pinned (OpenSpec.ofChange rtoNearsWrong)

/-- 'towlinelaw10.RtoBacks': WHATEVER THE INPUT: true; the input reads as it did. -/
def rtoBacksSpec : ChangeSpec := { name := "rtoBacks", fn := fun _ => fun
  | [d1, d2] => { results := [.lit (.bool true)], args := [d1, d2] }
  | _ => none }
def rtoBacksRow : OpenClaim := { program := "ytdklldennckniaa", sum := "152bfe5f3a9da0a9750eeee161749b8d19f210e5694ea0691cb526058c92710e", func := "towline/towlinelaw10.RtoBacks", spec := "rtoBacks", apart := false }
def RtoBacksSaid : Prop := rtoBacksRow.holds Try.pinned (OpenSpec.ofChange rtoBacksSpec)

/-- ITS FALSE NEIGHBOUR: 'it returns false'. Refute it at one input. -/
def rtoBacksWrong : ChangeSpec := { name := "rtoBacks", fn := fun _ => fun
  | [d1, d2] => { results := [.lit (.bool false)], args := [d1, d2] }
  | _ => none }
def RtoBacksWrongFalsely : Prop := rtoBacksRow.holds Try.pinned (OpenSpec.ofChange rtoBacksWrong)

/-- 'towlinelaw10.RtoMore': WHATEVER THE INPUT: true; the input reads as it did. -/
def rtoMoreSpec : ChangeSpec := { name := "rtoMore", fn := fun _ => fun
  | [d1, d2, d3] => { results := [.lit (.bool true)], args := [d1, d2, d3] }
  | _ => none }
def rtoMoreRow : OpenClaim := { program := "ytdklldennckniaa", sum := "152bfe5f3a9da0a9750eeee161749b8d19f210e5694ea0691cb526058c92710e", func := "towline/towlinelaw10.RtoMore", spec := "rtoMore", apart := false }
def RtoMoreSaid : Prop := rtoMoreRow.holds Try.pinned (OpenSpec.ofChange rtoMoreSpec)

/-- ITS FALSE NEIGHBOUR: 'it returns false'. Refute it at one input. -/
def rtoMoreWrong : ChangeSpec := { name := "rtoMore", fn := fun _ => fun
  | [d1, d2, d3] => { results := [.lit (.bool false)], args := [d1, d2, d3] }
  | _ => none }
def RtoMoreWrongFalsely : Prop := rtoMoreRow.holds Try.pinned (OpenSpec.ofChange rtoMoreWrong)

/- THE SECOND FORM. 'bulk': how many values and letters a reading holds, each counted each time it is reached (what is shared counts as often as it is met; a slice's spare places count too). A statement '..UptoSaid' is the law's where the arguments, and the package variables that the reading takes, are together of bulk at most 1048576: NARROWER than '..Said'. Prove '..Said' where nothing that the law and all that it calls make is longer than what came in: it says more and counts as full. Else prove '..UptoSaid'. A law counts once. -/
mutual
def uptoBulk {H : Type} : DataW H → Nat
  | .lit (.string bytes) => bytes.length + 1
  | .lit _ => 1
  | .nil => 1
  | .ptr d => uptoBulk d + 1
  | .slice elems spare => uptoBulkAll elems + uptoBulkAll spare + 1
  | .agg parts => uptoBulkAll parts + 1
  | .iface _ d => uptoBulk d + 1
  | .map entries => uptoBulkEntries entries + 1
  | .held _ => 1
def uptoBulkAll {H : Type} : List (DataW H) → Nat
  | [] => 0
  | d :: r => uptoBulk d + uptoBulkAll r
def uptoBulkEntries {H : Type} : List (Lit × DataW H) → Nat
  | [] => 0
  | x :: r => uptoBulkEntry x + uptoBulkEntries r
def uptoBulkEntry {H : Type} : Lit × DataW H → Nat
  | (.string bytes, d) => bytes.length + uptoBulk d + 1
  | (_, d) => uptoBulk d + 1
 end
def uptoSmall : (H : Type) → List (DataW H) → Bool := fun _ ds => decide (uptoBulkAll ds ≤ 1048576)
def OpenSpec.upto (s : _root_.Go.ChangeSpec) : _root_.Go.OpenSpec := { _root_.Go.OpenSpec.ofChange s with cond := some uptoSmall }

/-- 'towlinelaw10.RtoHolds', WHERE WHAT IT READS IS OF BULK AT MOST 1048576: true; the input reads as it did. -/
def rtoHoldsUptoRow : OpenClaim := { program := "ytdklldennckniaa", sum := "152bfe5f3a9da0a9750eeee161749b8d19f210e5694ea0691cb526058c92710e", func := "towline/towlinelaw10.RtoHolds", spec := "rtoHolds", apart := false, narrowed := true }
def RtoHoldsUptoSaid : Prop := rtoHoldsUptoRow.holds Try.pinned (OpenSpec.upto rtoHoldsSpec)

/-- 'towlinelaw10.RtoNears', WHERE WHAT IT READS IS OF BULK AT MOST 1048576: true; the input reads as it did. -/
def rtoNearsUptoRow : OpenClaim := { program := "ytdklldennckniaa", sum := "152bfe5f3a9da0a9750eeee161749b8d19f210e5694ea0691cb526058c92710e", func := "towline/towlinelaw10.RtoNears", spec := "rtoNears", apart := false, narrowed := true }
def RtoNearsUptoSaid : Prop := rtoNearsUptoRow.holds Try.pinned (OpenSpec.upto rtoNearsSpec)

/-- 'towlinelaw10.RtoBacks', WHERE WHAT IT READS IS OF BULK AT MOST 1048576: true; the input reads as it did. -/
def rtoBacksUptoRow : OpenClaim := { program := "ytdklldennckniaa", sum := "152bfe5f3a9da0a9750eeee161749b8d19f210e5694ea0691cb526058c92710e", func := "towline/towlinelaw10.RtoBacks", spec := "rtoBacks", apart := false, narrowed := true }
def RtoBacksUptoSaid : Prop := rtoBacksUptoRow.holds Try.pinned (OpenSpec.upto rtoBacksSpec)

/-- 'towlinelaw10.RtoMore', WHERE WHAT IT READS IS OF BULK AT MOST 1048576: true; the input reads as it did. -/
def rtoMoreUptoRow : OpenClaim := { program := "ytdklldennckniaa", sum := "152bfe5f3a9da0a9750eeee161749b8d19f210e5694ea0691cb526058c92710e", func := "towline/towlinelaw10.RtoMore", spec := "rtoMore", apart := false, narrowed := true }
def RtoMoreUptoSaid : Prop := rtoMoreUptoRow.holds Try.pinned (OpenSpec.upto rtoMoreSpec)

end Rows
end Go.Proofs.Ytdklldennckniaa
