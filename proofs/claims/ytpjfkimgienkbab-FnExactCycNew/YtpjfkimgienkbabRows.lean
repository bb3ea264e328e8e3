/-
  No cell of these rows narrows 'for every input' (looked for: loops, veiled, ifaces, maps, wideKeys, modest, calm, conditions, laid).
  DERIVED. THE GIVEN ROWS OF THIS SEAT. 2 by the template 'for every input the law returns true; each argument reads behind the call as it read before'; 0 by the template 'total and deterministic' (their statements: YtpjfkimgienkbabTotals.lean).
  GIVEN WITH THE SEED: the statements are not yours to turn. If you find one false, say at which input.
  Laid BY PROGRAM, IN A SANDBOX (cutbox-rows.mjs): the forced cells as the released guide's own fill.sh prints them over the translation 8e079aa177024545… (all of the seat's roots in one cut). By AI agents, Wed Nov 11 2026. No macro, syntax, notation, axiom, sorry.
-/
import Derived.Test.YtpjfkimgienkbabChecked
import GoSem.Claim
import GoSem.ClaimJoined
import GoSem.ClaimMapViews
import Derived.JoinedTies
import Derived.KernelRfl
namespace Go.Proofs.Ytpjfkimgienkbab
/- THE CELL 'sum', in the pinned program and in every row, IS THE sha256 OF THE DUMP (.gsa) THAT YtpjfkimgienkbabProg.lean LOADS. Nothing in Lean hashes anything: it is a label: what it is worth is what the hold of that sum in a sandbox is worth. -/
noncomputable def Try.pinned : Pinned := { name := "ytpjfkimgienkbab", sum := "8e079aa17702454564c0f3747c96aa33eb0a15312e8aac7c071605950d92195b", checked := Try.checked }
namespace Rows
def none {H : Type} : Left H := { results := [], args := [] }

/-- 'laws.FnExactCycNew': WHATEVER THE INPUT: true; the input reads as it did. -/
def fnExactCycNewSpec : ChangeSpec := { name := "fnExactCycNew", fn := fun _ => fun
  | [] => { results := [.lit (.bool true)], args := [] }
  | _ => none }
def fnExactCycNewRow : OpenClaim := { program := "ytpjfkimgienkbab", sum := "8e079aa17702454564c0f3747c96aa33eb0a15312e8aac7c071605950d92195b", func := "loop.example/crossyard/laws.FnExactCycNew", spec := "fnExactCycNew", apart := false }
def FnExactCycNewSaid : Prop := fnExactCycNewRow.holds Try.pinned (OpenSpec.ofChange fnExactCycNewSpec)

/-- ITS FALSE NEIGHBOUR: 'it returns false'. Refute it at one input. -/
def fnExactCycNewWrong : ChangeSpec := { name := "fnExactCycNew", fn := fun _ => fun
  | [] => { results := [.lit (.bool false)], args := [] }
  | _ => none }
def FnExactCycNewWrongFalsely : Prop := fnExactCycNewRow.holds Try.pinned (OpenSpec.ofChange fnExactCycNewWrong)

/-- 'laws.FnExactToldOf': WHATEVER THE INPUT: true; the input reads as it did. -/
def fnExactToldOfSpec : ChangeSpec := { name := "fnExactToldOf", fn := fun _ => fun
  | [d1, d2] => { results := [.lit (.bool true)], args := [d1, d2] }
  | _ => none }
def fnExactToldOfRow : OpenClaim := { program := "ytpjfkimgienkbab", sum := "8e079aa17702454564c0f3747c96aa33eb0a15312e8aac7c071605950d92195b", func := "loop.example/crossyard/laws.FnExactToldOf", spec := "fnExactToldOf", apart := false }
def FnExactToldOfSaid : Prop := fnExactToldOfRow.holds Try.pinned (OpenSpec.ofChange fnExactToldOfSpec)

/-- ITS FALSE NEIGHBOUR: 'it returns false'. Refute it at one input. -/
def fnExactToldOfWrong : ChangeSpec := { name := "fnExactToldOf", fn := fun _ => fun
  | [d1, d2] => { results := [.lit (.bool false)], args := [d1, d2] }
  | _ => none }
def FnExactToldOfWrongFalsely : Prop := fnExactToldOfRow.holds Try.pinned (OpenSpec.ofChange fnExactToldOfWrong)

/- THE SECOND FORM. 'bulk': how many values and letters a reading holds, each counted each time it is reached (what is shared counts as often as it is met; a slice's spare places count too). A statement '..UptoSaid' is the law's where the arguments, and the package variables that the reading takes, are together of bulk at most 1048576: NARROWER than '..Said'. Prove '..Said' where nothing that the law and all that it calls make is longer than what came in: it says more and counts as full. Else prove '..UptoSaid'. A law counts once. -/
mutual
def uptoBulk {H : Type} : DataW H → Nat
  | .lit (.string bytes) => bytes.length + 1
  | .lit _ => 1
  | .nil => 1
  | .ptr d => uptoBulk d + 1
  | .slice elems spare => uptoBulkAll elems + uptoBulkAll spare + 1
  | .agg parts => uptoBulkAll parts + 1
  | .iface _ d => uptoBulk d + 1
  | .map entries => uptoBulkEntries entries + 1
  | .held _ => 1
def uptoBulkAll {H : Type} : List (DataW H) → Nat
  | [] => 0
  | d :: r => uptoBulk d + uptoBulkAll r
def uptoBulkEntries {H : Type} : List (Lit × DataW H) → Nat
  | [] => 0
  | x :: r => uptoBulkEntry x + uptoBulkEntries r
def uptoBulkEntry {H : Type} : Lit × DataW H → Nat
  | (.string bytes, d) => bytes.length + uptoBulk d + 1
  | (_, d) => uptoBulk d + 1
 end
def uptoSmall : (H : Type) → List (DataW H) → Bool := fun _ ds => decide (uptoBulkAll ds ≤ 1048576)
def OpenSpec.upto (s : _root_.Go.ChangeSpec) : _root_.Go.OpenSpec := { _root_.Go.OpenSpec.ofChange s with cond := some uptoSmall }

/-- 'laws.FnExactCycNew', WHERE WHAT IT READS IS OF BULK AT MOST 1048576: true; the input reads as it did. -/
def fnExactCycNewUptoRow : OpenClaim := { program := "ytpjfkimgienkbab", sum := "8e079aa17702454564c0f3747c96aa33eb0a15312e8aac7c071605950d92195b", func := "loop.example/crossyard/laws.FnExactCycNew", spec := "fnExactCycNew", apart := false, narrowed := true }
def FnExactCycNewUptoSaid : Prop := fnExactCycNewUptoRow.holds Try.pinned (OpenSpec.upto fnExactCycNewSpec)

/-- 'laws.FnExactToldOf', WHERE WHAT IT READS IS OF BULK AT MOST 1048576: true; the input reads as it did. -/
def fnExactToldOfUptoRow : OpenClaim := { program := "ytpjfkimgienkbab", sum := "8e079aa17702454564c0f3747c96aa33eb0a15312e8aac7c071605950d92195b", func := "loop.example/crossyard/laws.FnExactToldOf", spec := "fnExactToldOf", apart := false, narrowed := true }
def FnExactToldOfUptoSaid : Prop := fnExactToldOfUptoRow.holds Try.pinned (OpenSpec.upto fnExactToldOfSpec)

end Rows
end Go.Proofs.Ytpjfkimgienkbab
