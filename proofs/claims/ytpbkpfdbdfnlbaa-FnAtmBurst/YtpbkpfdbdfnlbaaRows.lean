/-
  No cell of these rows narrows 'for every input' (looked for: loops, veiled, ifaces, maps, wideKeys, modest, calm, conditions, laid).
  DERIVED. THE GIVEN ROWS OF THIS SEAT. 3 by the template 'for every input the law returns true; each argument reads behind the call as it read before'; 0 by the template 'total and deterministic' (their statements: YtpbkpfdbdfnlbaaTotals.lean).
  GIVEN WITH THE SEED: the statements are not yours to turn. If you find one false, say at which input.
  Laid BY PROGRAM, IN A SANDBOX (cutbox-rows.mjs): the forced cells as the released guide's own fill.sh prints them over the translation 16530128766d9b62… (all of the seat's roots in one cut). By AI agents, Wed Nov 11 2026. No macro, syntax, notation, axiom, sorry.
-/
import Derived.Test.YtpbkpfdbdfnlbaaChecked
import GoSem.Claim
import GoSem.ClaimJoined
import GoSem.ClaimMapViews
import Derived.JoinedTies
import Derived.KernelRfl
namespace Go.Proofs.Ytpbkpfdbdfnlbaa
/- THE CELL 'sum', in the pinned program and in every row, IS THE sha256 OF THE DUMP (.gsa) THAT YtpbkpfdbdfnlbaaProg.lean LOADS. Nothing in Lean hashes anything: it is a label: what it is worth is what the hold of that sum in a sandbox is worth. -/
noncomputable def Try.pinned : Pinned := { name := "ytpbkpfdbdfnlbaa", sum := "16530128766d9b62f5b5c384e90c216a0ee2ebd847ec0c5ffaa3d51315ec94ec", checked := Try.checked }
namespace Rows
def none {H : Type} : Left H := { results := [], args := [] }

/-- 'laws.FnAtmRun': WHATEVER THE INPUT: true; the input reads as it did. -/
def fnAtmRunSpec : ChangeSpec := { name := "fnAtmRun", fn := fun _ => fun
  | [d] => { results := [.lit (.bool true)], args := [d] }
  | _ => none }
def fnAtmRunRow : OpenClaim := { program := "ytpbkpfdbdfnlbaa", sum := "16530128766d9b62f5b5c384e90c216a0ee2ebd847ec0c5ffaa3d51315ec94ec", func := "loop.example/crossyard/laws.FnAtmRun", spec := "fnAtmRun", unfollowed := true, recurses := true, plainKeys := false, apart := false }
def FnAtmRunSaid : Prop := fnAtmRunRow.holds Try.pinned (OpenSpec.ofChange fnAtmRunSpec)

/-- ITS FALSE NEIGHBOUR: 'it returns false'. Refute it at one input. -/
def fnAtmRunWrong : ChangeSpec := { name := "fnAtmRun", fn := fun _ => fun
  | [d] => { results := [.lit (.bool false)], args := [d] }
  | _ => none }
def FnAtmRunWrongFalsely : Prop := fnAtmRunRow.holds Try.pinned (OpenSpec.ofChange fnAtmRunWrong)

/-- 'laws.FnAtmBurst': WHATEVER THE INPUT: true; the input reads as it did. -/
def fnAtmBurstSpec : ChangeSpec := { name := "fnAtmBurst", fn := fun _ => fun
  | [d] => { results := [.lit (.bool true)], args := [d] }
  | _ => none }
def fnAtmBurstRow : OpenClaim := { program := "ytpbkpfdbdfnlbaa", sum := "16530128766d9b62f5b5c384e90c216a0ee2ebd847ec0c5ffaa3d51315ec94ec", func := "loop.example/crossyard/laws.FnAtmBurst", spec := "fnAtmBurst", unfollowed := true, recurses := true, plainKeys := false, apart := false }
def FnAtmBurstSaid : Prop := fnAtmBurstRow.holds Try.pinned (OpenSpec.ofChange fnAtmBurstSpec)

/-- ITS FALSE NEIGHBOUR: 'it returns false'. Refute it at one input. -/
def fnAtmBurstWrong : ChangeSpec := { name := "fnAtmBurst", fn := fun _ => fun
  | [d] => { results := [.lit (.bool false)], args := [d] }
  | _ => none }
def FnAtmBurstWrongFalsely : Prop := fnAtmBurstRow.holds Try.pinned (OpenSpec.ofChange fnAtmBurstWrong)

/-- 'laws.FnAtmOther': WHATEVER THE INPUT: true; the input reads as it did. -/
def fnAtmOtherSpec : ChangeSpec := { name := "fnAtmOther", fn := fun _ => fun
  | [d] => { results := [.lit (.bool true)], args := [d] }
  | _ => none }
def fnAtmOtherRow : OpenClaim := { program := "ytpbkpfdbdfnlbaa", sum := "16530128766d9b62f5b5c384e90c216a0ee2ebd847ec0c5ffaa3d51315ec94ec", func := "loop.example/crossyard/laws.FnAtmOther", spec := "fnAtmOther", unfollowed := true, recurses := true, plainKeys := false, apart := false }
def FnAtmOtherSaid : Prop := fnAtmOtherRow.holds Try.pinned (OpenSpec.ofChange fnAtmOtherSpec)

/-- ITS FALSE NEIGHBOUR: 'it returns false'. Refute it at one input. -/
def fnAtmOtherWrong : ChangeSpec := { name := "fnAtmOther", fn := fun _ => fun
  | [d] => { results := [.lit (.bool false)], args := [d] }
  | _ => none }
def FnAtmOtherWrongFalsely : Prop := fnAtmOtherRow.holds Try.pinned (OpenSpec.ofChange fnAtmOtherWrong)

/- THE SECOND FORM. 'bulk': how many values and letters a reading holds, each counted each time it is reached (what is shared counts as often as it is met; a slice's spare places count too). A statement '..UptoSaid' is the law's where the arguments, and the package variables that the reading takes, are together of bulk at most 1048576: NARROWER than '..Said'. Prove '..Said' where nothing that the law and all that it calls make is longer than what came in: it says more and counts as full. Else prove '..UptoSaid'. A law counts once. -/
mutual
def uptoBulk {H : Type} : DataW H → Nat
  | .lit (.string bytes) => bytes.length + 1
  | .lit _ => 1
  | .nil => 1
  | .ptr d => uptoBulk d + 1
  | .slice elems spare => uptoBulkAll elems + uptoBulkAll spare + 1
  | .agg parts => uptoBulkAll parts + 1
  | .iface _ d => uptoBulk d + 1
  | .map entries => uptoBulkEntries entries + 1
  | .held _ => 1
def uptoBulkAll {H : Type} : List (DataW H) → Nat
  | [] => 0
  | d :: r => uptoBulk d + uptoBulkAll r
def uptoBulkEntries {H : Type} : List (Lit × DataW H) → Nat
  | [] => 0
  | x :: r => uptoBulkEntry x + uptoBulkEntries r
def uptoBulkEntry {H : Type} : Lit × DataW H → Nat
  | (.string bytes, d) => bytes.length + uptoBulk d + 1
  | (_, d) => uptoBulk d + 1
 end
def uptoSmall : (H : Type) → List (DataW H) → Bool := fun _ ds => decide (uptoBulkAll ds ≤ 1048576)
def OpenSpec.upto (s : _root_.Go.ChangeSpec) : _root_.Go.OpenSpec := { _root_.Go.OpenSpec.ofChange s with cond := some uptoSmall }

/-- 'laws.FnAtmRun', WHERE WHAT IT READS IS OF BULK AT MOST 1048576: true; the input reads as it did. -/
def fnAtmRunUptoRow : OpenClaim := { program := "ytpbkpfdbdfnlbaa", sum := "16530128766d9b62f5b5c384e90c216a0ee2ebd847ec0c5ffaa3d51315ec94ec", func := "loop.example/crossyard/laws.FnAtmRun", spec := "fnAtmRun", unfollowed := true, recurses := true, plainKeys := false, apart := false, narrowed := true }
def FnAtmRunUptoSaid : Prop := fnAtmRunUptoRow.holds Try.pinned (OpenSpec.upto fnAtmRunSpec)

/-- 'laws.FnAtmBurst', WHERE WHAT IT READS IS OF BULK AT MOST 1048576: true; the input reads as it did. -/
def fnAtmBurstUptoRow : OpenClaim := { program := "ytpbkpfdbdfnlbaa", sum := "16530128766d9b62f5b5c384e90c216a0ee2ebd847ec0c5ffaa3d51315ec94ec", func := "loop.example/crossyard/laws.FnAtmBurst", spec := "fnAtmBurst", unfollowed := true, recurses := true, plainKeys := false, apart := false, narrowed := true }
def FnAtmBurstUptoSaid : Prop := fnAtmBurstUptoRow.holds Try.pinned (OpenSpec.upto fnAtmBurstSpec)

/-- 'laws.FnAtmOther', WHERE WHAT IT READS IS OF BULK AT MOST 1048576: true; the input reads as it did. -/
def fnAtmOtherUptoRow : OpenClaim := { program := "ytpbkpfdbdfnlbaa", sum := "16530128766d9b62f5b5c384e90c216a0ee2ebd847ec0c5ffaa3d51315ec94ec", func := "loop.example/crossyard/laws.FnAtmOther", spec := "fnAtmOther", unfollowed := true, recurses := true, plainKeys := false, apart := false, narrowed := true }
def FnAtmOtherUptoSaid : Prop := fnAtmOtherUptoRow.holds Try.pinned (OpenSpec.upto fnAtmOtherSpec)

end Rows
end Go.Proofs.Ytpbkpfdbdfnlbaa
