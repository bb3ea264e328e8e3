/-
  No cell of these rows narrows 'for every input' (looked for: loops, veiled, ifaces, maps, wideKeys, modest, calm, conditions, laid).
  DERIVED. THE GIVEN ROWS OF THIS SEAT. 4 by the template 'for every input the law returns true; each argument reads behind the call as it read before'; 0 by the template 'total and deterministic' (their statements: YtlifkfemdknndaaTotals.lean).
  GIVEN WITH THE SEED: the statements are not yours to turn. If you find one false, say at which input.
  Laid BY PROGRAM, IN A SANDBOX (cutbox-rows.mjs): the forced cells as the released guide's own fill.sh prints them over the translation a910e928c7bbec68… (all of the seat's roots in one cut). By AI agents, Wed Nov 11 2026. No macro, syntax, notation, axiom, sorry.
-/
import Derived.Test.YtlifkfemdknndaaChecked
import GoSem.Claim
import GoSem.ClaimJoined
import GoSem.ClaimMapViews
import Derived.JoinedTies
import Derived.KernelRfl
namespace Go.Proofs.Ytlifkfemdknndaa
/- THE CELL 'sum', in the pinned program and in every row, IS THE sha256 OF THE DUMP (.gsa) THAT YtlifkfemdknndaaProg.lean LOADS. Nothing in Lean hashes anything: it is a label: what it is worth is what the hold of that sum in a sandbox is worth. -/
noncomputable def Try.pinned : Pinned := { name := "ytlifkfemdknndaa", sum := "a910e928c7bbec68b31fc2ba63f454aef7498c97c930fe8396fbcc528f0cde0d", checked := Try.checked }
namespace Rows
def none {H : Type} : Left H := { results := [], args := [] }

/-- 'laws.FnBusOk': WHATEVER THE INPUT: true; the input reads as it did. -/
def fnBusOkSpec : ChangeSpec := { name := "fnBusOk", fn := fun _ => fun
  | [d] => { results := [.lit (.bool true)], args := [d] }
  | _ => none }
def fnBusOkRow : OpenClaim := { program := "ytlifkfemdknndaa", sum := "a910e928c7bbec68b31fc2ba63f454aef7498c97c930fe8396fbcc528f0cde0d", func := "loop.example/crossyard/laws.FnBusOk", spec := "fnBusOk", unfollowed := true, recurses := true, plainKeys := false, apart := false }
def FnBusOkSaid : Prop := fnBusOkRow.holds Try.pinned (OpenSpec.ofChange fnBusOkSpec)

/-- ITS FALSE NEIGHBOUR: 'it returns false'. Refute it at one input. -/
def fnBusOkWrong : ChangeSpec := { name := "fnBusOk", fn := fun _ => fun
  | [d] => { results := [.lit (.bool false)], args := [d] }
  | _ => none }
def FnBusOkWrongFalsely : Prop := fnBusOkRow.holds Try.pinned (OpenSpec.ofChange fnBusOkWrong)

/-- 'laws.FnBusAlone': WHATEVER THE INPUT: true; the input reads as it did. -/
def fnBusAloneSpec : ChangeSpec := { name := "fnBusAlone", fn := fun _ => fun
  | [d] => { results := [.lit (.bool true)], args := [d] }
  | _ => none }
def fnBusAloneRow : OpenClaim := { program := "ytlifkfemdknndaa", sum := "a910e928c7bbec68b31fc2ba63f454aef7498c97c930fe8396fbcc528f0cde0d", func := "loop.example/crossyard/laws.FnBusAlone", spec := "fnBusAlone", unfollowed := true, recurses := true, plainKeys := false, apart := false }
def FnBusAloneSaid : Prop := fnBusAloneRow.holds Try.pinned (OpenSpec.ofChange fnBusAloneSpec)

/-- ITS FALSE NEIGHBOUR: 'it returns false'. Refute it at one input. -/
def fnBusAloneWrong : ChangeSpec := { name := "fnBusAlone", fn := fun _ => fun
  | [d] => { results := [.lit (.bool false)], args := [d] }
  | _ => none }
def FnBusAloneWrongFalsely : Prop := fnBusAloneRow.holds Try.pinned (OpenSpec.ofChange fnBusAloneWrong)

/-- 'laws.FnBusApart': WHATEVER THE INPUT: true; the input reads as it did. -/
def fnBusApartSpec : ChangeSpec := { name := "fnBusApart", fn := fun _ => fun
  | [d] => { results := [.lit (.bool true)], args := [d] }
  | _ => none }
def fnBusApartRow : OpenClaim := { program := "ytlifkfemdknndaa", sum := "a910e928c7bbec68b31fc2ba63f454aef7498c97c930fe8396fbcc528f0cde0d", func := "loop.example/crossyard/laws.FnBusApart", spec := "fnBusApart", unfollowed := true, recurses := true, plainKeys := false, apart := false }
def FnBusApartSaid : Prop := fnBusApartRow.holds Try.pinned (OpenSpec.ofChange fnBusApartSpec)

/-- ITS FALSE NEIGHBOUR: 'it returns false'. Refute it at one input. -/
def fnBusApartWrong : ChangeSpec := { name := "fnBusApart", fn := fun _ => fun
  | [d] => { results := [.lit (.bool false)], args := [d] }
  | _ => none }
def FnBusApartWrongFalsely : Prop := fnBusApartRow.holds Try.pinned (OpenSpec.ofChange fnBusApartWrong)

/-- 'laws.FnAtmRead': WHATEVER THE INPUT: true; the input reads as it did. -/
def fnAtmReadSpec : ChangeSpec := { name := "fnAtmRead", fn := fun _ => fun
  | [d] => { results := [.lit (.bool true)], args := [d] }
  | _ => none }
def fnAtmReadRow : OpenClaim := { program := "ytlifkfemdknndaa", sum := "a910e928c7bbec68b31fc2ba63f454aef7498c97c930fe8396fbcc528f0cde0d", func := "loop.example/crossyard/laws.FnAtmRead", spec := "fnAtmRead", unfollowed := true, recurses := true, plainKeys := false, apart := false }
def FnAtmReadSaid : Prop := fnAtmReadRow.holds Try.pinned (OpenSpec.ofChange fnAtmReadSpec)

/-- ITS FALSE NEIGHBOUR: 'it returns false'. Refute it at one input. -/
def fnAtmReadWrong : ChangeSpec := { name := "fnAtmRead", fn := fun _ => fun
  | [d] => { results := [.lit (.bool false)], args := [d] }
  | _ => none }
def FnAtmReadWrongFalsely : Prop := fnAtmReadRow.holds Try.pinned (OpenSpec.ofChange fnAtmReadWrong)

/- THE SECOND FORM. 'bulk': how many values and letters a reading holds, each counted each time it is reached (what is shared counts as often as it is met; a slice's spare places count too). A statement '..UptoSaid' is the law's where the arguments, and the package variables that the reading takes, are together of bulk at most 1048576: NARROWER than '..Said'. Prove '..Said' where nothing that the law and all that it calls make is longer than what came in: it says more and counts as full. Else prove '..UptoSaid'. A law counts once. -/
mutual
def uptoBulk {H : Type} : DataW H → Nat
  | .lit (.string bytes) => bytes.length + 1
  | .lit _ => 1
  | .nil => 1
  | .ptr d => uptoBulk d + 1
  | .slice elems spare => uptoBulkAll elems + uptoBulkAll spare + 1
  | .agg parts => uptoBulkAll parts + 1
  | .iface _ d => uptoBulk d + 1
  | .map entries => uptoBulkEntries entries + 1
  | .held _ => 1
def uptoBulkAll {H : Type} : List (DataW H) → Nat
  | [] => 0
  | d :: r => uptoBulk d + uptoBulkAll r
def uptoBulkEntries {H : Type} : List (Lit × DataW H) → Nat
  | [] => 0
  | x :: r => uptoBulkEntry x + uptoBulkEntries r
def uptoBulkEntry {H : Type} : Lit × DataW H → Nat
  | (.string bytes, d) => bytes.length + uptoBulk d + 1
  | (_, d) => uptoBulk d + 1
 end
def uptoSmall : (H : Type) → List (DataW H) → Bool := fun _ ds => decide (uptoBulkAll ds ≤ 1048576)
def OpenSpec.upto (s : _root_.Go.ChangeSpec) : _root_.Go.OpenSpec := { _root_.Go.OpenSpec.ofChange s with cond := some uptoSmall }

/-- 'laws.FnBusOk', WHERE WHAT IT READS IS OF BULK AT MOST 1048576: true; the input reads as it did. -/
def fnBusOkUptoRow : OpenClaim := { program := "ytlifkfemdknndaa", sum := "a910e928c7bbec68b31fc2ba63f454aef7498c97c930fe8396fbcc528f0cde0d", func := "loop.example/crossyard/laws.FnBusOk", spec := "fnBusOk", unfollowed := true, recurses := true, plainKeys := false, apart := false, narrowed := true }
def FnBusOkUptoSaid : Prop := fnBusOkUptoRow.holds Try.pinned (OpenSpec.upto fnBusOkSpec)

/-- 'laws.FnBusAlone', WHERE WHAT IT READS IS OF BULK AT MOST 1048576: true; the input reads as it did. -/
def fnBusAloneUptoRow : OpenClaim := { program := "ytlifkfemdknndaa", sum := "a910e928c7bbec68b31fc2ba63f454aef7498c97c930fe8396fbcc528f0cde0d", func := "loop.example/crossyard/laws.FnBusAlone", spec := "fnBusAlone", unfollowed := true, recurses := true, plainKeys := false, apart := false, narrowed := true }
def FnBusAloneUptoSaid : Prop := fnBusAloneUptoRow.holds Try.pinned (OpenSpec.upto fnBusAloneSpec)

/-- 'laws.FnBusApart', WHERE WHAT IT READS IS OF BULK AT MOST 1048576: true; the input reads as it did. -/
def fnBusApartUptoRow : OpenClaim := { program := "ytlifkfemdknndaa", sum := "a910e928c7bbec68b31fc2ba63f454aef7498c97c930fe8396fbcc528f0cde0d", func := "loop.example/crossyard/laws.FnBusApart", spec := "fnBusApart", unfollowed := true, recurses := true, plainKeys := false, apart := false, narrowed := true }
def FnBusApartUptoSaid : Prop := fnBusApartUptoRow.holds Try.pinned (OpenSpec.upto fnBusApartSpec)

/-- 'laws.FnAtmRead', WHERE WHAT IT READS IS OF BULK AT MOST 1048576: true; the input reads as it did. -/
def fnAtmReadUptoRow : OpenClaim := { program := "ytlifkfemdknndaa", sum := "a910e928c7bbec68b31fc2ba63f454aef7498c97c930fe8396fbcc528f0cde0d", func := "loop.example/crossyard/laws.FnAtmRead", spec := "fnAtmRead", unfollowed := true, recurses := true, plainKeys := false, apart := false, narrowed := true }
def FnAtmReadUptoSaid : Prop := fnAtmReadUptoRow.holds Try.pinned (OpenSpec.upto fnAtmReadSpec)

end Rows
end Go.Proofs.Ytlifkfemdknndaa
