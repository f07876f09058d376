/-
  No cell of these rows narrows 'for every input' (looked for: loops, veiled, ifaces, maps, wideKeys, modest, calm, conditions, laid).
  DERIVED. THE GIVEN ROWS OF THIS SEAT. 6 by the template 'for every input the law returns true; each argument reads behind the call as it read before'; 0 by the template 'total and deterministic' (their statements: YtkganhpfagnmjaaTotals.lean).
  GIVEN WITH THE SEED: the statements are not yours to turn. If you find one false, say at which input.
  Laid BY PROGRAM, IN A SANDBOX (cutbox-rows.mjs): the forced cells as the released guide's own fill.sh prints them over the translation 3039ad026d9988d2… (all of the seat's roots in one cut). By AI agents, Wed Nov 11 2026. No macro, syntax, notation, axiom, sorry.
-/
import Derived.Test.YtkganhpfagnmjaaChecked
import GoSem.Claim
import GoSem.ClaimJoined
import GoSem.ClaimMapViews
import Derived.JoinedTies
import Derived.KernelRfl
namespace Go.Proofs.Ytkganhpfagnmjaa
/- THE CELL 'sum', in the pinned program and in every row, IS THE sha256 OF THE DUMP (.gsa) THAT YtkganhpfagnmjaaProg.lean LOADS. Nothing in Lean hashes anything: it is a label: what it is worth is what the hold of that sum in a sandbox is worth. -/
noncomputable def Try.pinned : Pinned := { name := "ytkganhpfagnmjaa", sum := "3039ad026d9988d28aefc1d6d56380228c116fc9ea54c0198f1d6cc8395c65b5", checked := Try.checked }
namespace Rows
def none {H : Type} : Left H := { results := [], args := [] }

/-- 'towlinelaw6.TlvBuilds': WHATEVER THE INPUT: true; the input reads as it did. -/
def tlvBuildsSpec : ChangeSpec := { name := "tlvBuilds", fn := fun _ => fun
  | [d1, d2] => { results := [.lit (.bool true)], args := [d1, d2] }
  | _ => none }
def tlvBuildsRow : OpenClaim := { program := "ytkganhpfagnmjaa", sum := "3039ad026d9988d28aefc1d6d56380228c116fc9ea54c0198f1d6cc8395c65b5", func := "towline/towlinelaw6.TlvBuilds", spec := "tlvBuilds", inPlace := ["internal/abi.NoEscape"], unfollowed := true, recurses := true, apart := false }
def TlvBuildsSaid : Prop := tlvBuildsRow.holds Try.pinned (OpenSpec.ofChange tlvBuildsSpec)

/-- ITS FALSE NEIGHBOUR: 'it returns false'. Refute it at one input. -/
def tlvBuildsWrong : ChangeSpec := { name := "tlvBuilds", fn := fun _ => fun
  | [d1, d2] => { results := [.lit (.bool false)], args := [d1, d2] }
  | _ => none }
def TlvBuildsWrongFalsely : Prop := tlvBuildsRow.holds Try.pinned (OpenSpec.ofChange tlvBuildsWrong)

/-- 'towlinelaw6.TlvParses': WHATEVER THE INPUT: true; the input reads as it did. -/
def tlvParsesSpec : ChangeSpec := { name := "tlvParses", fn := fun _ => fun
  | [d] => { results := [.lit (.bool true)], args := [d] }
  | _ => none }
def tlvParsesRow : OpenClaim := { program := "ytkganhpfagnmjaa", sum := "3039ad026d9988d28aefc1d6d56380228c116fc9ea54c0198f1d6cc8395c65b5", func := "towline/towlinelaw6.TlvParses", spec := "tlvParses", inPlace := ["internal/abi.NoEscape"], unfollowed := true, recurses := true, apart := false }
def TlvParsesSaid : Prop := tlvParsesRow.holds Try.pinned (OpenSpec.ofChange tlvParsesSpec)

/-- ITS FALSE NEIGHBOUR: 'it returns false'. Refute it at one input. -/
def tlvParsesWrong : ChangeSpec := { name := "tlvParses", fn := fun _ => fun
  | [d] => { results := [.lit (.bool false)], args := [d] }
  | _ => none }
def TlvParsesWrongFalsely : Prop := tlvParsesRow.holds Try.pinned (OpenSpec.ofChange tlvParsesWrong)

/-- 'towlinelaw6.TlvBack': WHATEVER THE INPUT: true; the input reads as it did. -/
def tlvBackSpec : ChangeSpec := { name := "tlvBack", fn := fun _ => fun
  | [d1, d2] => { results := [.lit (.bool true)], args := [d1, d2] }
  | _ => none }
def tlvBackRow : OpenClaim := { program := "ytkganhpfagnmjaa", sum := "3039ad026d9988d28aefc1d6d56380228c116fc9ea54c0198f1d6cc8395c65b5", func := "towline/towlinelaw6.TlvBack", spec := "tlvBack", inPlace := ["internal/abi.NoEscape"], unfollowed := true, recurses := true, apart := false }
def TlvBackSaid : Prop := tlvBackRow.holds Try.pinned (OpenSpec.ofChange tlvBackSpec)

/-- ITS FALSE NEIGHBOUR: 'it returns false'. Refute it at one input. -/
def tlvBackWrong : ChangeSpec := { name := "tlvBack", fn := fun _ => fun
  | [d1, d2] => { results := [.lit (.bool false)], args := [d1, d2] }
  | _ => none }
def TlvBackWrongFalsely : Prop := tlvBackRow.holds Try.pinned (OpenSpec.ofChange tlvBackWrong)

/-- 'towlinelaw6.TlvJoins': WHATEVER THE INPUT: true; the input reads as it did. -/
def tlvJoinsSpec : ChangeSpec := { name := "tlvJoins", fn := fun _ => fun
  | [d1, d2] => { results := [.lit (.bool true)], args := [d1, d2] }
  | _ => none }
def tlvJoinsRow : OpenClaim := { program := "ytkganhpfagnmjaa", sum := "3039ad026d9988d28aefc1d6d56380228c116fc9ea54c0198f1d6cc8395c65b5", func := "towline/towlinelaw6.TlvJoins", spec := "tlvJoins", inPlace := ["internal/abi.NoEscape"], unfollowed := true, recurses := true, apart := false }
def TlvJoinsSaid : Prop := tlvJoinsRow.holds Try.pinned (OpenSpec.ofChange tlvJoinsSpec)

/-- ITS FALSE NEIGHBOUR: 'it returns false'. Refute it at one input. -/
def tlvJoinsWrong : ChangeSpec := { name := "tlvJoins", fn := fun _ => fun
  | [d1, d2] => { results := [.lit (.bool false)], args := [d1, d2] }
  | _ => none }
def TlvJoinsWrongFalsely : Prop := tlvJoinsRow.holds Try.pinned (OpenSpec.ofChange tlvJoinsWrong)

/-- 'towlinelaw6.TlvSizes': WHATEVER THE INPUT: true; the input reads as it did. -/
def tlvSizesSpec : ChangeSpec := { name := "tlvSizes", fn := fun _ => fun
  | [d1, d2] => { results := [.lit (.bool true)], args := [d1, d2] }
  | _ => none }
def tlvSizesRow : OpenClaim := { program := "ytkganhpfagnmjaa", sum := "3039ad026d9988d28aefc1d6d56380228c116fc9ea54c0198f1d6cc8395c65b5", func := "towline/towlinelaw6.TlvSizes", spec := "tlvSizes", inPlace := ["internal/abi.NoEscape"], unfollowed := true, recurses := true, apart := false }
def TlvSizesSaid : Prop := tlvSizesRow.holds Try.pinned (OpenSpec.ofChange tlvSizesSpec)

/-- ITS FALSE NEIGHBOUR: 'it returns false'. Refute it at one input. -/
def tlvSizesWrong : ChangeSpec := { name := "tlvSizes", fn := fun _ => fun
  | [d1, d2] => { results := [.lit (.bool false)], args := [d1, d2] }
  | _ => none }
def TlvSizesWrongFalsely : Prop := tlvSizesRow.holds Try.pinned (OpenSpec.ofChange tlvSizesWrong)

/-- 'towlinelaw6.TlvActs': WHATEVER THE INPUT: true; the input reads as it did. -/
def tlvActsSpec : ChangeSpec := { name := "tlvActs", fn := fun _ => fun
  | [d] => { results := [.lit (.bool true)], args := [d] }
  | _ => none }
def tlvActsRow : OpenClaim := { program := "ytkganhpfagnmjaa", sum := "3039ad026d9988d28aefc1d6d56380228c116fc9ea54c0198f1d6cc8395c65b5", func := "towline/towlinelaw6.TlvActs", spec := "tlvActs", inPlace := ["internal/abi.NoEscape"], unfollowed := true, recurses := true, apart := false }
def TlvActsSaid : Prop := tlvActsRow.holds Try.pinned (OpenSpec.ofChange tlvActsSpec)

/-- ITS FALSE NEIGHBOUR: 'it returns false'. Refute it at one input. -/
def tlvActsWrong : ChangeSpec := { name := "tlvActs", fn := fun _ => fun
  | [d] => { results := [.lit (.bool false)], args := [d] }
  | _ => none }
def TlvActsWrongFalsely : Prop := tlvActsRow.holds Try.pinned (OpenSpec.ofChange tlvActsWrong)

/- THE SECOND FORM. 'bulk': how many values and letters a reading holds, each counted each time it is reached (what is shared counts as often as it is met; a slice's spare places count too). A statement '..UptoSaid' is the law's where the arguments, and the package variables that the reading takes, are together of bulk at most 1048576: NARROWER than '..Said'. Prove '..Said' where nothing that the law and all that it calls make is longer than what came in: it says more and counts as full. Else prove '..UptoSaid'. A law counts once. -/
mutual
def uptoBulk {H : Type} : DataW H → Nat
  | .lit (.string bytes) => bytes.length + 1
  | .lit _ => 1
  | .nil => 1
  | .ptr d => uptoBulk d + 1
  | .slice elems spare => uptoBulkAll elems + uptoBulkAll spare + 1
  | .agg parts => uptoBulkAll parts + 1
  | .iface _ d => uptoBulk d + 1
  | .map entries => uptoBulkEntries entries + 1
  | .held _ => 1
def uptoBulkAll {H : Type} : List (DataW H) → Nat
  | [] => 0
  | d :: r => uptoBulk d + uptoBulkAll r
def uptoBulkEntries {H : Type} : List (Lit × DataW H) → Nat
  | [] => 0
  | x :: r => uptoBulkEntry x + uptoBulkEntries r
def uptoBulkEntry {H : Type} : Lit × DataW H → Nat
  | (.string bytes, d) => bytes.length + uptoBulk d + 1
  | (_, d) => uptoBulk d + 1
 end
def uptoSmall : (H : Type) → List (DataW H) → Bool := fun _ ds => decide (uptoBulkAll ds ≤ 1048576)
def OpenSpec.upto (s : _root_.Go.ChangeSpec) : _root_.Go.OpenSpec := { _root_.Go.OpenSpec.ofChange s with cond := some uptoSmall }

/-- 'towlinelaw6.TlvBuilds', WHERE WHAT IT READS IS OF BULK AT MOST 1048576: true; the input reads as it did. -/
def tlvBuildsUptoRow : OpenClaim := { program := "ytkganhpfagnmjaa", sum := "3039ad026d9988d28aefc1d6d56380228c116fc9ea54c0198f1d6cc8395c65b5", func := "towline/towlinelaw6.TlvBuilds", spec := "tlvBuilds", inPlace := ["internal/abi.NoEscape"], unfollowed := true, recurses := true, apart := false, narrowed := true }
def TlvBuildsUptoSaid : Prop := tlvBuildsUptoRow.holds Try.pinned (OpenSpec.upto tlvBuildsSpec)

/-- 'towlinelaw6.TlvParses', WHERE WHAT IT READS IS OF BULK AT MOST 1048576: true; the input reads as it did. -/
def tlvParsesUptoRow : OpenClaim := { program := "ytkganhpfagnmjaa", sum := "3039ad026d9988d28aefc1d6d56380228c116fc9ea54c0198f1d6cc8395c65b5", func := "towline/towlinelaw6.TlvParses", spec := "tlvParses", inPlace := ["internal/abi.NoEscape"], unfollowed := true, recurses := true, apart := false, narrowed := true }
def TlvParsesUptoSaid : Prop := tlvParsesUptoRow.holds Try.pinned (OpenSpec.upto tlvParsesSpec)

/-- 'towlinelaw6.TlvBack', WHERE WHAT IT READS IS OF BULK AT MOST 1048576: true; the input reads as it did. -/
def tlvBackUptoRow : OpenClaim := { program := "ytkganhpfagnmjaa", sum := "3039ad026d9988d28aefc1d6d56380228c116fc9ea54c0198f1d6cc8395c65b5", func := "towline/towlinelaw6.TlvBack", spec := "tlvBack", inPlace := ["internal/abi.NoEscape"], unfollowed := true, recurses := true, apart := false, narrowed := true }
def TlvBackUptoSaid : Prop := tlvBackUptoRow.holds Try.pinned (OpenSpec.upto tlvBackSpec)

/-- 'towlinelaw6.TlvJoins', WHERE WHAT IT READS IS OF BULK AT MOST 1048576: true; the input reads as it did. -/
def tlvJoinsUptoRow : OpenClaim := { program := "ytkganhpfagnmjaa", sum := "3039ad026d9988d28aefc1d6d56380228c116fc9ea54c0198f1d6cc8395c65b5", func := "towline/towlinelaw6.TlvJoins", spec := "tlvJoins", inPlace := ["internal/abi.NoEscape"], unfollowed := true, recurses := true, apart := false, narrowed := true }
def TlvJoinsUptoSaid : Prop := tlvJoinsUptoRow.holds Try.pinned (OpenSpec.upto tlvJoinsSpec)

/-- 'towlinelaw6.TlvSizes', WHERE WHAT IT READS IS OF BULK AT MOST 1048576: true; the input reads as it did. -/
def tlvSizesUptoRow : OpenClaim := { program := "ytkganhpfagnmjaa", sum := "3039ad026d9988d28aefc1d6d56380228c116fc9ea54c0198f1d6cc8395c65b5", func := "towline/towlinelaw6.TlvSizes", spec := "tlvSizes", inPlace := ["internal/abi.NoEscape"], unfollowed := true, recurses := true, apart := false, narrowed := true }
def TlvSizesUptoSaid : Prop := tlvSizesUptoRow.holds Try.pinned (OpenSpec.upto tlvSizesSpec)

/-- 'towlinelaw6.TlvActs', WHERE WHAT IT READS IS OF BULK AT MOST 1048576: true; the input reads as it did. -/
def tlvActsUptoRow : OpenClaim := { program := "ytkganhpfagnmjaa", sum := "3039ad026d9988d28aefc1d6d56380228c116fc9ea54c0198f1d6cc8395c65b5", func := "towline/towlinelaw6.TlvActs", spec := "tlvActs", inPlace := ["internal/abi.NoEscape"], unfollowed := true, recurses := true, apart := false, narrowed := true }
def TlvActsUptoSaid : Prop := tlvActsUptoRow.holds Try.pinned (OpenSpec.upto tlvActsSpec)

end Rows
end Go.Proofs.Ytkganhpfagnmjaa
