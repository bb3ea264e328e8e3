/-
  No cell of these rows narrows 'for every input' (looked for: loops, veiled, ifaces, maps, wideKeys, modest, calm, conditions, laid).
  DERIVED. THE GIVEN ROWS OF THIS SEAT. 5 by the template 'for every input the law returns true; each argument reads behind the call as it read before'; 0 by the template 'total and deterministic' (their statements: YtglaaglojplhiaaTotals.lean).
  GIVEN WITH THE SEED: the statements are not yours to turn. If you find one false, say at which input.
  Laid BY PROGRAM, IN A SANDBOX (cutbox-rows.mjs): the forced cells as the released guide's own fill.sh prints them over the translation 5cbc567183d5d51b… (all of the seat's roots in one cut). By AI agents, Wed Nov 11 2026. No macro, syntax, notation, axiom, sorry.
-/
import Derived.Test.YtglaaglojplhiaaChecked
import GoSem.Claim
import GoSem.ClaimJoined
import GoSem.ClaimMapViews
import Derived.JoinedTies
import Derived.KernelRfl
namespace Go.Proofs.Ytglaaglojplhiaa
/- THE CELL 'sum', in the pinned program and in every row, IS THE sha256 OF THE DUMP (.gsa) THAT YtglaaglojplhiaaProg.lean LOADS. Nothing in Lean hashes anything: it is a label: what it is worth is what the hold of that sum in a sandbox is worth. -/
noncomputable def Try.pinned : Pinned := { name := "ytglaaglojplhiaa", sum := "5cbc567183d5d51befb36927d46eebf72d5bd4bf3f2f657bcb2859f5b8000be4", checked := Try.checked }
namespace Rows
def none {H : Type} : Left H := { results := [], args := [] }

/-- 'laws.FnWrdPut': WHATEVER THE INPUT: true; the input reads as it did. -/
def fnWrdPutSpec : ChangeSpec := { name := "fnWrdPut", fn := fun _ => fun
  | [d] => { results := [.lit (.bool true)], args := [d] }
  | _ => none }
def fnWrdPutRow : OpenClaim := { program := "ytglaaglojplhiaa", sum := "5cbc567183d5d51befb36927d46eebf72d5bd4bf3f2f657bcb2859f5b8000be4", func := "loop.example/crossyard/laws.FnWrdPut", spec := "fnWrdPut", apart := false }
def FnWrdPutSaid : Prop := fnWrdPutRow.holds Try.pinned (OpenSpec.ofChange fnWrdPutSpec)

/-- ITS FALSE NEIGHBOUR: 'it returns false'. Refute it at one input. -/
def fnWrdPutWrong : ChangeSpec := { name := "fnWrdPut", fn := fun _ => fun
  | [d] => { results := [.lit (.bool false)], args := [d] }
  | _ => none }
def FnWrdPutWrongFalsely : Prop := fnWrdPutRow.holds Try.pinned (OpenSpec.ofChange fnWrdPutWrong)

/-- 'laws.FnMemOk': WHATEVER THE INPUT: true; the input reads as it did. -/
def fnMemOkSpec : ChangeSpec := { name := "fnMemOk", fn := fun _ => fun
  | [d] => { results := [.lit (.bool true)], args := [d] }
  | _ => none }
def fnMemOkRow : OpenClaim := { program := "ytglaaglojplhiaa", sum := "5cbc567183d5d51befb36927d46eebf72d5bd4bf3f2f657bcb2859f5b8000be4", func := "loop.example/crossyard/laws.FnMemOk", spec := "fnMemOk", apart := false }
def FnMemOkSaid : Prop := fnMemOkRow.holds Try.pinned (OpenSpec.ofChange fnMemOkSpec)

/-- ITS FALSE NEIGHBOUR: 'it returns false'. Refute it at one input. -/
def fnMemOkWrong : ChangeSpec := { name := "fnMemOk", fn := fun _ => fun
  | [d] => { results := [.lit (.bool false)], args := [d] }
  | _ => none }
def FnMemOkWrongFalsely : Prop := fnMemOkRow.holds Try.pinned (OpenSpec.ofChange fnMemOkWrong)

/-- 'laws.FnExactWrdPut': WHATEVER THE INPUT: true; the input reads as it did. -/
def fnExactWrdPutSpec : ChangeSpec := { name := "fnExactWrdPut", fn := fun _ => fun
  | [d1, d2, d3] => { results := [.lit (.bool true)], args := [d1, d2, d3] }
  | _ => none }
def fnExactWrdPutRow : OpenClaim := { program := "ytglaaglojplhiaa", sum := "5cbc567183d5d51befb36927d46eebf72d5bd4bf3f2f657bcb2859f5b8000be4", func := "loop.example/crossyard/laws.FnExactWrdPut", spec := "fnExactWrdPut", apart := false }
def FnExactWrdPutSaid : Prop := fnExactWrdPutRow.holds Try.pinned (OpenSpec.ofChange fnExactWrdPutSpec)

/-- ITS FALSE NEIGHBOUR: 'it returns false'. Refute it at one input. -/
def fnExactWrdPutWrong : ChangeSpec := { name := "fnExactWrdPut", fn := fun _ => fun
  | [d1, d2, d3] => { results := [.lit (.bool false)], args := [d1, d2, d3] }
  | _ => none }
def FnExactWrdPutWrongFalsely : Prop := fnExactWrdPutRow.holds Try.pinned (OpenSpec.ofChange fnExactWrdPutWrong)

/-- 'laws.FnExactMemNew': WHATEVER THE INPUT: true; the input reads as it did. -/
def fnExactMemNewSpec : ChangeSpec := { name := "fnExactMemNew", fn := fun _ => fun
  | [] => { results := [.lit (.bool true)], args := [] }
  | _ => none }
def fnExactMemNewRow : OpenClaim := { program := "ytglaaglojplhiaa", sum := "5cbc567183d5d51befb36927d46eebf72d5bd4bf3f2f657bcb2859f5b8000be4", func := "loop.example/crossyard/laws.FnExactMemNew", spec := "fnExactMemNew", apart := false }
def FnExactMemNewSaid : Prop := fnExactMemNewRow.holds Try.pinned (OpenSpec.ofChange fnExactMemNewSpec)

/-- ITS FALSE NEIGHBOUR: 'it returns false'. Refute it at one input. -/
def fnExactMemNewWrong : ChangeSpec := { name := "fnExactMemNew", fn := fun _ => fun
  | [] => { results := [.lit (.bool false)], args := [] }
  | _ => none }
def FnExactMemNewWrongFalsely : Prop := fnExactMemNewRow.holds Try.pinned (OpenSpec.ofChange fnExactMemNewWrong)

/-- 'laws.FnExactMemOk': WHATEVER THE INPUT: true; the input reads as it did. -/
def fnExactMemOkSpec : ChangeSpec := { name := "fnExactMemOk", fn := fun _ => fun
  | [d] => { results := [.lit (.bool true)], args := [d] }
  | _ => none }
def fnExactMemOkRow : OpenClaim := { program := "ytglaaglojplhiaa", sum := "5cbc567183d5d51befb36927d46eebf72d5bd4bf3f2f657bcb2859f5b8000be4", func := "loop.example/crossyard/laws.FnExactMemOk", spec := "fnExactMemOk", apart := false }
def FnExactMemOkSaid : Prop := fnExactMemOkRow.holds Try.pinned (OpenSpec.ofChange fnExactMemOkSpec)

/-- ITS FALSE NEIGHBOUR: 'it returns false'. Refute it at one input. -/
def fnExactMemOkWrong : ChangeSpec := { name := "fnExactMemOk", fn := fun _ => fun
  | [d] => { results := [.lit (.bool false)], args := [d] }
  | _ => none }
def FnExactMemOkWrongFalsely : Prop := fnExactMemOkRow.holds Try.pinned (OpenSpec.ofChange fnExactMemOkWrong)

/- THE SECOND FORM. 'bulk': how many values and letters a reading holds, each counted each time it is reached (what is shared counts as often as it is met; a slice's spare places count too). A statement '..UptoSaid' is the law's where the arguments, and the package variables that the reading takes, are together of bulk at most 1048576: NARROWER than '..Said'. Prove '..Said' where nothing that the law and all that it calls make is longer than what came in: it says more and counts as full. Else prove '..UptoSaid'. A law counts once. -/
mutual
def uptoBulk {H : Type} : DataW H → Nat
  | .lit (.string bytes) => bytes.length + 1
  | .lit _ => 1
  | .nil => 1
  | .ptr d => uptoBulk d + 1
  | .slice elems spare => uptoBulkAll elems + uptoBulkAll spare + 1
  | .agg parts => uptoBulkAll parts + 1
  | .iface _ d => uptoBulk d + 1
  | .map entries => uptoBulkEntries entries + 1
  | .held _ => 1
def uptoBulkAll {H : Type} : List (DataW H) → Nat
  | [] => 0
  | d :: r => uptoBulk d + uptoBulkAll r
def uptoBulkEntries {H : Type} : List (Lit × DataW H) → Nat
  | [] => 0
  | x :: r => uptoBulkEntry x + uptoBulkEntries r
def uptoBulkEntry {H : Type} : Lit × DataW H → Nat
  | (.string bytes, d) => bytes.length + uptoBulk d + 1
  | (_, d) => uptoBulk d + 1
 end
def uptoSmall : (H : Type) → List (DataW H) → Bool := fun _ ds => decide (uptoBulkAll ds ≤ 1048576)
def OpenSpec.upto (s : _root_.Go.ChangeSpec) : _root_.Go.OpenSpec := { _root_.Go.OpenSpec.ofChange s with cond := some uptoSmall }

/-- 'laws.FnWrdPut', WHERE WHAT IT READS IS OF BULK AT MOST 1048576: true; the input reads as it did. -/
def fnWrdPutUptoRow : OpenClaim := { program := "ytglaaglojplhiaa", sum := "5cbc567183d5d51befb36927d46eebf72d5bd4bf3f2f657bcb2859f5b8000be4", func := "loop.example/crossyard/laws.FnWrdPut", spec := "fnWrdPut", apart := false, narrowed := true }
def FnWrdPutUptoSaid : Prop := fnWrdPutUptoRow.holds Try.pinned (OpenSpec.upto fnWrdPutSpec)

/-- 'laws.FnMemOk', WHERE WHAT IT READS IS OF BULK AT MOST 1048576: true; the input reads as it did. -/
def fnMemOkUptoRow : OpenClaim := { program := "ytglaaglojplhiaa", sum := "5cbc567183d5d51befb36927d46eebf72d5bd4bf3f2f657bcb2859f5b8000be4", func := "loop.example/crossyard/laws.FnMemOk", spec := "fnMemOk", apart := false, narrowed := true }
def FnMemOkUptoSaid : Prop := fnMemOkUptoRow.holds Try.pinned (OpenSpec.upto fnMemOkSpec)

/-- 'laws.FnExactWrdPut', WHERE WHAT IT READS IS OF BULK AT MOST 1048576: true; the input reads as it did. -/
def fnExactWrdPutUptoRow : OpenClaim := { program := "ytglaaglojplhiaa", sum := "5cbc567183d5d51befb36927d46eebf72d5bd4bf3f2f657bcb2859f5b8000be4", func := "loop.example/crossyard/laws.FnExactWrdPut", spec := "fnExactWrdPut", apart := false, narrowed := true }
def FnExactWrdPutUptoSaid : Prop := fnExactWrdPutUptoRow.holds Try.pinned (OpenSpec.upto fnExactWrdPutSpec)

/-- 'laws.FnExactMemNew', WHERE WHAT IT READS IS OF BULK AT MOST 1048576: true; the input reads as it did. -/
def fnExactMemNewUptoRow : OpenClaim := { program := "ytglaaglojplhiaa", sum := "5cbc567183d5d51befb36927d46eebf72d5bd4bf3f2f657bcb2859f5b8000be4", func := "loop.example/crossyard/laws.FnExactMemNew", spec := "fnExactMemNew", apart := false, narrowed := true }
def FnExactMemNewUptoSaid : Prop := fnExactMemNewUptoRow.holds Try.pinned (OpenSpec.upto fnExactMemNewSpec)

/-- 'laws.FnExactMemOk', WHERE WHAT IT READS IS OF BULK AT MOST 1048576: true; the input reads as it did. -/
def fnExactMemOkUptoRow : OpenClaim := { program := "ytglaaglojplhiaa", sum := "5cbc567183d5d51befb36927d46eebf72d5bd4bf3f2f657bcb2859f5b8000be4", func := "loop.example/crossyard/laws.FnExactMemOk", spec := "fnExactMemOk", apart := false, narrowed := true }
def FnExactMemOkUptoSaid : Prop := fnExactMemOkUptoRow.holds Try.pinned (OpenSpec.upto fnExactMemOkSpec)

end Rows
end Go.Proofs.Ytglaaglojplhiaa
