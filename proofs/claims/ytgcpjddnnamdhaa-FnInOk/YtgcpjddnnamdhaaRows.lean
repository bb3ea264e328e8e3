/-
  No cell of these rows narrows 'for every input' (looked for: loops, veiled, ifaces, maps, wideKeys, modest, calm, conditions, laid).
  DERIVED. THE GIVEN ROWS OF THIS SEAT. 6 by the template 'for every input the law returns true; each argument reads behind the call as it read before'; 0 by the template 'total and deterministic' (their statements: YtgcpjddnnamdhaaTotals.lean).
  GIVEN WITH THE SEED: the statements are not yours to turn. If you find one false, say at which input.
  Laid BY PROGRAM, IN A SANDBOX (cutbox-rows.mjs): the forced cells as the released guide's own fill.sh prints them over the translation a487ccab0ec73040… (all of the seat's roots in one cut). By AI agents, Wed Nov 11 2026. No macro, syntax, notation, axiom, sorry.
-/
import Derived.Test.YtgcpjddnnamdhaaChecked
import GoSem.Claim
import GoSem.ClaimJoined
import GoSem.ClaimMapViews
import Derived.JoinedTies
import Derived.KernelRfl
namespace Go.Proofs.Ytgcpjddnnamdhaa
/- THE CELL 'sum', in the pinned program and in every row, IS THE sha256 OF THE DUMP (.gsa) THAT YtgcpjddnnamdhaaProg.lean LOADS. Nothing in Lean hashes anything: it is a label: what it is worth is what the hold of that sum in a sandbox is worth. -/
noncomputable def Try.pinned : Pinned := { name := "ytgcpjddnnamdhaa", sum := "a487ccab0ec7304038af3d7037a3615511cd833af0d2abe88848c0d9b5fb17b6", checked := Try.checked }
namespace Rows
def none {H : Type} : Left H := { results := [], args := [] }

/-- 'laws.FnBusOk': WHATEVER THE INPUT: true; the input reads as it did. -/
def fnBusOkSpec : ChangeSpec := { name := "fnBusOk", fn := fun _ => fun
  | [d] => { results := [.lit (.bool true)], args := [d] }
  | _ => none }
def fnBusOkRow : OpenClaim := { program := "ytgcpjddnnamdhaa", sum := "a487ccab0ec7304038af3d7037a3615511cd833af0d2abe88848c0d9b5fb17b6", func := "loop.example/crossyard/laws.FnBusOk", spec := "fnBusOk", unfollowed := true, recurses := true, apart := false }
def FnBusOkSaid : Prop := fnBusOkRow.holds Try.pinned (OpenSpec.ofChange fnBusOkSpec)

/-- ITS FALSE NEIGHBOUR: 'it returns false'. Refute it at one input. -/
def fnBusOkWrong : ChangeSpec := { name := "fnBusOk", fn := fun _ => fun
  | [d] => { results := [.lit (.bool false)], args := [d] }
  | _ => none }
def FnBusOkWrongFalsely : Prop := fnBusOkRow.holds Try.pinned (OpenSpec.ofChange fnBusOkWrong)

/-- 'laws.FnInOk': WHATEVER THE INPUT: true; the input reads as it did. -/
def fnInOkSpec : ChangeSpec := { name := "fnInOk", fn := fun _ => fun
  | [d] => { results := [.lit (.bool true)], args := [d] }
  | _ => none }
def fnInOkRow : OpenClaim := { program := "ytgcpjddnnamdhaa", sum := "a487ccab0ec7304038af3d7037a3615511cd833af0d2abe88848c0d9b5fb17b6", func := "loop.example/crossyard/laws.FnInOk", spec := "fnInOk", apart := false }
def FnInOkSaid : Prop := fnInOkRow.holds Try.pinned (OpenSpec.ofChange fnInOkSpec)

/-- ITS FALSE NEIGHBOUR: 'it returns false'. Refute it at one input. -/
def fnInOkWrong : ChangeSpec := { name := "fnInOk", fn := fun _ => fun
  | [d] => { results := [.lit (.bool false)], args := [d] }
  | _ => none }
def FnInOkWrongFalsely : Prop := fnInOkRow.holds Try.pinned (OpenSpec.ofChange fnInOkWrong)

/-- 'laws.FnExactBusOk': WHATEVER THE INPUT: true; the input reads as it did. -/
def fnExactBusOkSpec : ChangeSpec := { name := "fnExactBusOk", fn := fun _ => fun
  | [d] => { results := [.lit (.bool true)], args := [d] }
  | _ => none }
def fnExactBusOkRow : OpenClaim := { program := "ytgcpjddnnamdhaa", sum := "a487ccab0ec7304038af3d7037a3615511cd833af0d2abe88848c0d9b5fb17b6", func := "loop.example/crossyard/laws.FnExactBusOk", spec := "fnExactBusOk", unfollowed := true, recurses := true, apart := false }
def FnExactBusOkSaid : Prop := fnExactBusOkRow.holds Try.pinned (OpenSpec.ofChange fnExactBusOkSpec)

/-- ITS FALSE NEIGHBOUR: 'it returns false'. Refute it at one input. -/
def fnExactBusOkWrong : ChangeSpec := { name := "fnExactBusOk", fn := fun _ => fun
  | [d] => { results := [.lit (.bool false)], args := [d] }
  | _ => none }
def FnExactBusOkWrongFalsely : Prop := fnExactBusOkRow.holds Try.pinned (OpenSpec.ofChange fnExactBusOkWrong)

/-- 'laws.FnExactTlmNew': WHATEVER THE INPUT: true; the input reads as it did. -/
def fnExactTlmNewSpec : ChangeSpec := { name := "fnExactTlmNew", fn := fun _ => fun
  | [] => { results := [.lit (.bool true)], args := [] }
  | _ => none }
def fnExactTlmNewRow : OpenClaim := { program := "ytgcpjddnnamdhaa", sum := "a487ccab0ec7304038af3d7037a3615511cd833af0d2abe88848c0d9b5fb17b6", func := "loop.example/crossyard/laws.FnExactTlmNew", spec := "fnExactTlmNew", apart := false }
def FnExactTlmNewSaid : Prop := fnExactTlmNewRow.holds Try.pinned (OpenSpec.ofChange fnExactTlmNewSpec)

/-- ITS FALSE NEIGHBOUR: 'it returns false'. Refute it at one input. -/
def fnExactTlmNewWrong : ChangeSpec := { name := "fnExactTlmNew", fn := fun _ => fun
  | [] => { results := [.lit (.bool false)], args := [] }
  | _ => none }
def FnExactTlmNewWrongFalsely : Prop := fnExactTlmNewRow.holds Try.pinned (OpenSpec.ofChange fnExactTlmNewWrong)

/-- 'laws.FnExactCycNew': WHATEVER THE INPUT: true; the input reads as it did. -/
def fnExactCycNewSpec : ChangeSpec := { name := "fnExactCycNew", fn := fun _ => fun
  | [] => { results := [.lit (.bool true)], args := [] }
  | _ => none }
def fnExactCycNewRow : OpenClaim := { program := "ytgcpjddnnamdhaa", sum := "a487ccab0ec7304038af3d7037a3615511cd833af0d2abe88848c0d9b5fb17b6", func := "loop.example/crossyard/laws.FnExactCycNew", spec := "fnExactCycNew", apart := false }
def FnExactCycNewSaid : Prop := fnExactCycNewRow.holds Try.pinned (OpenSpec.ofChange fnExactCycNewSpec)

/-- ITS FALSE NEIGHBOUR: 'it returns false'. Refute it at one input. -/
def fnExactCycNewWrong : ChangeSpec := { name := "fnExactCycNew", fn := fun _ => fun
  | [] => { results := [.lit (.bool false)], args := [] }
  | _ => none }
def FnExactCycNewWrongFalsely : Prop := fnExactCycNewRow.holds Try.pinned (OpenSpec.ofChange fnExactCycNewWrong)

/-- 'laws.FnExactInOk': WHATEVER THE INPUT: true; the input reads as it did. -/
def fnExactInOkSpec : ChangeSpec := { name := "fnExactInOk", fn := fun _ => fun
  | [d] => { results := [.lit (.bool true)], args := [d] }
  | _ => none }
def fnExactInOkRow : OpenClaim := { program := "ytgcpjddnnamdhaa", sum := "a487ccab0ec7304038af3d7037a3615511cd833af0d2abe88848c0d9b5fb17b6", func := "loop.example/crossyard/laws.FnExactInOk", spec := "fnExactInOk", apart := false }
def FnExactInOkSaid : Prop := fnExactInOkRow.holds Try.pinned (OpenSpec.ofChange fnExactInOkSpec)

/-- ITS FALSE NEIGHBOUR: 'it returns false'. Refute it at one input. -/
def fnExactInOkWrong : ChangeSpec := { name := "fnExactInOk", fn := fun _ => fun
  | [d] => { results := [.lit (.bool false)], args := [d] }
  | _ => none }
def FnExactInOkWrongFalsely : Prop := fnExactInOkRow.holds Try.pinned (OpenSpec.ofChange fnExactInOkWrong)

/- THE SECOND FORM. 'bulk': how many values and letters a reading holds, each counted each time it is reached (what is shared counts as often as it is met; a slice's spare places count too). A statement '..UptoSaid' is the law's where the arguments, and the package variables that the reading takes, are together of bulk at most 1048576: NARROWER than '..Said'. Prove '..Said' where nothing that the law and all that it calls make is longer than what came in: it says more and counts as full. Else prove '..UptoSaid'. A law counts once. -/
mutual
def uptoBulk {H : Type} : DataW H → Nat
  | .lit (.string bytes) => bytes.length + 1
  | .lit _ => 1
  | .nil => 1
  | .ptr d => uptoBulk d + 1
  | .slice elems spare => uptoBulkAll elems + uptoBulkAll spare + 1
  | .agg parts => uptoBulkAll parts + 1
  | .iface _ d => uptoBulk d + 1
  | .map entries => uptoBulkEntries entries + 1
  | .held _ => 1
def uptoBulkAll {H : Type} : List (DataW H) → Nat
  | [] => 0
  | d :: r => uptoBulk d + uptoBulkAll r
def uptoBulkEntries {H : Type} : List (Lit × DataW H) → Nat
  | [] => 0
  | x :: r => uptoBulkEntry x + uptoBulkEntries r
def uptoBulkEntry {H : Type} : Lit × DataW H → Nat
  | (.string bytes, d) => bytes.length + uptoBulk d + 1
  | (_, d) => uptoBulk d + 1
 end
def uptoSmall : (H : Type) → List (DataW H) → Bool := fun _ ds => decide (uptoBulkAll ds ≤ 1048576)
def OpenSpec.upto (s : _root_.Go.ChangeSpec) : _root_.Go.OpenSpec := { _root_.Go.OpenSpec.ofChange s with cond := some uptoSmall }

/-- 'laws.FnBusOk', WHERE WHAT IT READS IS OF BULK AT MOST 1048576: true; the input reads as it did. -/
def fnBusOkUptoRow : OpenClaim := { program := "ytgcpjddnnamdhaa", sum := "a487ccab0ec7304038af3d7037a3615511cd833af0d2abe88848c0d9b5fb17b6", func := "loop.example/crossyard/laws.FnBusOk", spec := "fnBusOk", unfollowed := true, recurses := true, apart := false, narrowed := true }
def FnBusOkUptoSaid : Prop := fnBusOkUptoRow.holds Try.pinned (OpenSpec.upto fnBusOkSpec)

/-- 'laws.FnInOk', WHERE WHAT IT READS IS OF BULK AT MOST 1048576: true; the input reads as it did. -/
def fnInOkUptoRow : OpenClaim := { program := "ytgcpjddnnamdhaa", sum := "a487ccab0ec7304038af3d7037a3615511cd833af0d2abe88848c0d9b5fb17b6", func := "loop.example/crossyard/laws.FnInOk", spec := "fnInOk", apart := false, narrowed := true }
def FnInOkUptoSaid : Prop := fnInOkUptoRow.holds Try.pinned (OpenSpec.upto fnInOkSpec)

/-- 'laws.FnExactBusOk', WHERE WHAT IT READS IS OF BULK AT MOST 1048576: true; the input reads as it did. -/
def fnExactBusOkUptoRow : OpenClaim := { program := "ytgcpjddnnamdhaa", sum := "a487ccab0ec7304038af3d7037a3615511cd833af0d2abe88848c0d9b5fb17b6", func := "loop.example/crossyard/laws.FnExactBusOk", spec := "fnExactBusOk", unfollowed := true, recurses := true, apart := false, narrowed := true }
def FnExactBusOkUptoSaid : Prop := fnExactBusOkUptoRow.holds Try.pinned (OpenSpec.upto fnExactBusOkSpec)

/-- 'laws.FnExactTlmNew', WHERE WHAT IT READS IS OF BULK AT MOST 1048576: true; the input reads as it did. -/
def fnExactTlmNewUptoRow : OpenClaim := { program := "ytgcpjddnnamdhaa", sum := "a487ccab0ec7304038af3d7037a3615511cd833af0d2abe88848c0d9b5fb17b6", func := "loop.example/crossyard/laws.FnExactTlmNew", spec := "fnExactTlmNew", apart := false, narrowed := true }
def FnExactTlmNewUptoSaid : Prop := fnExactTlmNewUptoRow.holds Try.pinned (OpenSpec.upto fnExactTlmNewSpec)

/-- 'laws.FnExactCycNew', WHERE WHAT IT READS IS OF BULK AT MOST 1048576: true; the input reads as it did. -/
def fnExactCycNewUptoRow : OpenClaim := { program := "ytgcpjddnnamdhaa", sum := "a487ccab0ec7304038af3d7037a3615511cd833af0d2abe88848c0d9b5fb17b6", func := "loop.example/crossyard/laws.FnExactCycNew", spec := "fnExactCycNew", apart := false, narrowed := true }
def FnExactCycNewUptoSaid : Prop := fnExactCycNewUptoRow.holds Try.pinned (OpenSpec.upto fnExactCycNewSpec)

/-- 'laws.FnExactInOk', WHERE WHAT IT READS IS OF BULK AT MOST 1048576: true; the input reads as it did. -/
def fnExactInOkUptoRow : OpenClaim := { program := "ytgcpjddnnamdhaa", sum := "a487ccab0ec7304038af3d7037a3615511cd833af0d2abe88848c0d9b5fb17b6", func := "loop.example/crossyard/laws.FnExactInOk", spec := "fnExactInOk", apart := false, narrowed := true }
def FnExactInOkUptoSaid : Prop := fnExactInOkUptoRow.holds Try.pinned (OpenSpec.upto fnExactInOkSpec)

end Rows
end Go.Proofs.Ytgcpjddnnamdhaa
