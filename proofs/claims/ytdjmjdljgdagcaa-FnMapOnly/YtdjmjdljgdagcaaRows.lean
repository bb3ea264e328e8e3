/-
  No cell of these rows narrows 'for every input' (looked for: loops, veiled, ifaces, maps, wideKeys, modest, calm, conditions, laid).
  DERIVED. THE GIVEN ROWS OF THIS SEAT. 10 by the template 'for every input the law returns true; each argument reads behind the call as it read before'; 0 by the template 'total and deterministic' (their statements: YtdjmjdljgdagcaaTotals.lean).
  GIVEN WITH THE SEED: the statements are not yours to turn. If you find one false, say at which input.
  Laid BY PROGRAM, IN A SANDBOX (cutbox-rows.mjs): the forced cells as the released guide's own fill.sh prints them over the translation 538a21f48e346963… (all of the seat's roots in one cut). By AI agents, Wed Nov 11 2026. No macro, syntax, notation, axiom, sorry.
-/
import Derived.Test.YtdjmjdljgdagcaaChecked
import GoSem.Claim
import GoSem.ClaimJoined
import GoSem.ClaimMapViews
import Derived.JoinedTies
import Derived.KernelRfl
namespace Go.Proofs.Ytdjmjdljgdagcaa
/- THE CELL 'sum', in the pinned program and in every row, IS THE sha256 OF THE DUMP (.gsa) THAT YtdjmjdljgdagcaaProg.lean LOADS. Nothing in Lean hashes anything: it is a label: what it is worth is what the hold of that sum in a sandbox is worth. -/
noncomputable def Try.pinned : Pinned := { name := "ytdjmjdljgdagcaa", sum := "538a21f48e346963a6b89e631d7ea6e1a9ca52faf9ec05769abef15e2687cb74", checked := Try.checked }
namespace Rows
def none {H : Type} : Left H := { results := [], args := [] }

/-- 'laws.FnMemOk': WHATEVER THE INPUT: true; the input reads as it did. -/
def fnMemOkSpec : ChangeSpec := { name := "fnMemOk", fn := fun _ => fun
  | [d] => { results := [.lit (.bool true)], args := [d] }
  | _ => none }
def fnMemOkRow : OpenClaim := { program := "ytdjmjdljgdagcaa", sum := "538a21f48e346963a6b89e631d7ea6e1a9ca52faf9ec05769abef15e2687cb74", func := "loop.example/crossyard/laws.FnMemOk", spec := "fnMemOk", unfollowed := true, recurses := true, apart := false }
def FnMemOkSaid : Prop := fnMemOkRow.holds Try.pinned (OpenSpec.ofChange fnMemOkSpec)

/-- ITS FALSE NEIGHBOUR: 'it returns false'. Refute it at one input. -/
def fnMemOkWrong : ChangeSpec := { name := "fnMemOk", fn := fun _ => fun
  | [d] => { results := [.lit (.bool false)], args := [d] }
  | _ => none }
def FnMemOkWrongFalsely : Prop := fnMemOkRow.holds Try.pinned (OpenSpec.ofChange fnMemOkWrong)

/-- 'laws.FnReqOk': WHATEVER THE INPUT: true; the input reads as it did. -/
def fnReqOkSpec : ChangeSpec := { name := "fnReqOk", fn := fun _ => fun
  | [d] => { results := [.lit (.bool true)], args := [d] }
  | _ => none }
def fnReqOkRow : OpenClaim := { program := "ytdjmjdljgdagcaa", sum := "538a21f48e346963a6b89e631d7ea6e1a9ca52faf9ec05769abef15e2687cb74", func := "loop.example/crossyard/laws.FnReqOk", spec := "fnReqOk", unfollowed := true, recurses := true, apart := false }
def FnReqOkSaid : Prop := fnReqOkRow.holds Try.pinned (OpenSpec.ofChange fnReqOkSpec)

/-- ITS FALSE NEIGHBOUR: 'it returns false'. Refute it at one input. -/
def fnReqOkWrong : ChangeSpec := { name := "fnReqOk", fn := fun _ => fun
  | [d] => { results := [.lit (.bool false)], args := [d] }
  | _ => none }
def FnReqOkWrongFalsely : Prop := fnReqOkRow.holds Try.pinned (OpenSpec.ofChange fnReqOkWrong)

/-- 'laws.FnReqSlave': WHATEVER THE INPUT: true; the input reads as it did. -/
def fnReqSlaveSpec : ChangeSpec := { name := "fnReqSlave", fn := fun _ => fun
  | [d] => { results := [.lit (.bool true)], args := [d] }
  | _ => none }
def fnReqSlaveRow : OpenClaim := { program := "ytdjmjdljgdagcaa", sum := "538a21f48e346963a6b89e631d7ea6e1a9ca52faf9ec05769abef15e2687cb74", func := "loop.example/crossyard/laws.FnReqSlave", spec := "fnReqSlave", unfollowed := true, recurses := true, apart := false }
def FnReqSlaveSaid : Prop := fnReqSlaveRow.holds Try.pinned (OpenSpec.ofChange fnReqSlaveSpec)

/-- ITS FALSE NEIGHBOUR: 'it returns false'. Refute it at one input. -/
def fnReqSlaveWrong : ChangeSpec := { name := "fnReqSlave", fn := fun _ => fun
  | [d] => { results := [.lit (.bool false)], args := [d] }
  | _ => none }
def FnReqSlaveWrongFalsely : Prop := fnReqSlaveRow.holds Try.pinned (OpenSpec.ofChange fnReqSlaveWrong)

/-- 'laws.FnRspOk': WHATEVER THE INPUT: true; the input reads as it did. -/
def fnRspOkSpec : ChangeSpec := { name := "fnRspOk", fn := fun _ => fun
  | [d] => { results := [.lit (.bool true)], args := [d] }
  | _ => none }
def fnRspOkRow : OpenClaim := { program := "ytdjmjdljgdagcaa", sum := "538a21f48e346963a6b89e631d7ea6e1a9ca52faf9ec05769abef15e2687cb74", func := "loop.example/crossyard/laws.FnRspOk", spec := "fnRspOk", unfollowed := true, recurses := true, apart := false }
def FnRspOkSaid : Prop := fnRspOkRow.holds Try.pinned (OpenSpec.ofChange fnRspOkSpec)

/-- ITS FALSE NEIGHBOUR: 'it returns false'. Refute it at one input. -/
def fnRspOkWrong : ChangeSpec := { name := "fnRspOk", fn := fun _ => fun
  | [d] => { results := [.lit (.bool false)], args := [d] }
  | _ => none }
def FnRspOkWrongFalsely : Prop := fnRspOkRow.holds Try.pinned (OpenSpec.ofChange fnRspOkWrong)

/-- 'laws.FnMapOnly': WHATEVER THE INPUT: true; the input reads as it did. -/
def fnMapOnlySpec : ChangeSpec := { name := "fnMapOnly", fn := fun _ => fun
  | [d] => { results := [.lit (.bool true)], args := [d] }
  | _ => none }
def fnMapOnlyRow : OpenClaim := { program := "ytdjmjdljgdagcaa", sum := "538a21f48e346963a6b89e631d7ea6e1a9ca52faf9ec05769abef15e2687cb74", func := "loop.example/crossyard/laws.FnMapOnly", spec := "fnMapOnly", unfollowed := true, recurses := true, apart := false }
def FnMapOnlySaid : Prop := fnMapOnlyRow.holds Try.pinned (OpenSpec.ofChange fnMapOnlySpec)

/-- ITS FALSE NEIGHBOUR: 'it returns false'. Refute it at one input. -/
def fnMapOnlyWrong : ChangeSpec := { name := "fnMapOnly", fn := fun _ => fun
  | [d] => { results := [.lit (.bool false)], args := [d] }
  | _ => none }
def FnMapOnlyWrongFalsely : Prop := fnMapOnlyRow.holds Try.pinned (OpenSpec.ofChange fnMapOnlyWrong)

/-- 'laws.FnReqSame': WHATEVER THE INPUT: true; the input reads as it did. -/
def fnReqSameSpec : ChangeSpec := { name := "fnReqSame", fn := fun _ => fun
  | [d] => { results := [.lit (.bool true)], args := [d] }
  | _ => none }
def fnReqSameRow : OpenClaim := { program := "ytdjmjdljgdagcaa", sum := "538a21f48e346963a6b89e631d7ea6e1a9ca52faf9ec05769abef15e2687cb74", func := "loop.example/crossyard/laws.FnReqSame", spec := "fnReqSame", unfollowed := true, recurses := true, apart := false }
def FnReqSameSaid : Prop := fnReqSameRow.holds Try.pinned (OpenSpec.ofChange fnReqSameSpec)

/-- ITS FALSE NEIGHBOUR: 'it returns false'. Refute it at one input. -/
def fnReqSameWrong : ChangeSpec := { name := "fnReqSame", fn := fun _ => fun
  | [d] => { results := [.lit (.bool false)], args := [d] }
  | _ => none }
def FnReqSameWrongFalsely : Prop := fnReqSameRow.holds Try.pinned (OpenSpec.ofChange fnReqSameWrong)

/-- 'laws.FnExactMemOk': WHATEVER THE INPUT: true; the input reads as it did. -/
def fnExactMemOkSpec : ChangeSpec := { name := "fnExactMemOk", fn := fun _ => fun
  | [d] => { results := [.lit (.bool true)], args := [d] }
  | _ => none }
def fnExactMemOkRow : OpenClaim := { program := "ytdjmjdljgdagcaa", sum := "538a21f48e346963a6b89e631d7ea6e1a9ca52faf9ec05769abef15e2687cb74", func := "loop.example/crossyard/laws.FnExactMemOk", spec := "fnExactMemOk", unfollowed := true, recurses := true, apart := false }
def FnExactMemOkSaid : Prop := fnExactMemOkRow.holds Try.pinned (OpenSpec.ofChange fnExactMemOkSpec)

/-- ITS FALSE NEIGHBOUR: 'it returns false'. Refute it at one input. -/
def fnExactMemOkWrong : ChangeSpec := { name := "fnExactMemOk", fn := fun _ => fun
  | [d] => { results := [.lit (.bool false)], args := [d] }
  | _ => none }
def FnExactMemOkWrongFalsely : Prop := fnExactMemOkRow.holds Try.pinned (OpenSpec.ofChange fnExactMemOkWrong)

/-- 'laws.FnExactReqOk': WHATEVER THE INPUT: true; the input reads as it did. -/
def fnExactReqOkSpec : ChangeSpec := { name := "fnExactReqOk", fn := fun _ => fun
  | [d] => { results := [.lit (.bool true)], args := [d] }
  | _ => none }
def fnExactReqOkRow : OpenClaim := { program := "ytdjmjdljgdagcaa", sum := "538a21f48e346963a6b89e631d7ea6e1a9ca52faf9ec05769abef15e2687cb74", func := "loop.example/crossyard/laws.FnExactReqOk", spec := "fnExactReqOk", unfollowed := true, recurses := true, apart := false }
def FnExactReqOkSaid : Prop := fnExactReqOkRow.holds Try.pinned (OpenSpec.ofChange fnExactReqOkSpec)

/-- ITS FALSE NEIGHBOUR: 'it returns false'. Refute it at one input. -/
def fnExactReqOkWrong : ChangeSpec := { name := "fnExactReqOk", fn := fun _ => fun
  | [d] => { results := [.lit (.bool false)], args := [d] }
  | _ => none }
def FnExactReqOkWrongFalsely : Prop := fnExactReqOkRow.holds Try.pinned (OpenSpec.ofChange fnExactReqOkWrong)

/-- 'laws.FnExactReqSlave': WHATEVER THE INPUT: true; the input reads as it did. -/
def fnExactReqSlaveSpec : ChangeSpec := { name := "fnExactReqSlave", fn := fun _ => fun
  | [d1, d2] => { results := [.lit (.bool true)], args := [d1, d2] }
  | _ => none }
def fnExactReqSlaveRow : OpenClaim := { program := "ytdjmjdljgdagcaa", sum := "538a21f48e346963a6b89e631d7ea6e1a9ca52faf9ec05769abef15e2687cb74", func := "loop.example/crossyard/laws.FnExactReqSlave", spec := "fnExactReqSlave", unfollowed := true, recurses := true, apart := false }
def FnExactReqSlaveSaid : Prop := fnExactReqSlaveRow.holds Try.pinned (OpenSpec.ofChange fnExactReqSlaveSpec)

/-- ITS FALSE NEIGHBOUR: 'it returns false'. Refute it at one input. -/
def fnExactReqSlaveWrong : ChangeSpec := { name := "fnExactReqSlave", fn := fun _ => fun
  | [d1, d2] => { results := [.lit (.bool false)], args := [d1, d2] }
  | _ => none }
def FnExactReqSlaveWrongFalsely : Prop := fnExactReqSlaveRow.holds Try.pinned (OpenSpec.ofChange fnExactReqSlaveWrong)

/-- 'laws.FnExactRspOk': WHATEVER THE INPUT: true; the input reads as it did. -/
def fnExactRspOkSpec : ChangeSpec := { name := "fnExactRspOk", fn := fun _ => fun
  | [d] => { results := [.lit (.bool true)], args := [d] }
  | _ => none }
def fnExactRspOkRow : OpenClaim := { program := "ytdjmjdljgdagcaa", sum := "538a21f48e346963a6b89e631d7ea6e1a9ca52faf9ec05769abef15e2687cb74", func := "loop.example/crossyard/laws.FnExactRspOk", spec := "fnExactRspOk", unfollowed := true, recurses := true, apart := false }
def FnExactRspOkSaid : Prop := fnExactRspOkRow.holds Try.pinned (OpenSpec.ofChange fnExactRspOkSpec)

/-- ITS FALSE NEIGHBOUR: 'it returns false'. Refute it at one input. -/
def fnExactRspOkWrong : ChangeSpec := { name := "fnExactRspOk", fn := fun _ => fun
  | [d] => { results := [.lit (.bool false)], args := [d] }
  | _ => none }
def FnExactRspOkWrongFalsely : Prop := fnExactRspOkRow.holds Try.pinned (OpenSpec.ofChange fnExactRspOkWrong)

/- THE SECOND FORM. 'bulk': how many values and letters a reading holds, each counted each time it is reached (what is shared counts as often as it is met; a slice's spare places count too). A statement '..UptoSaid' is the law's where the arguments, and the package variables that the reading takes, are together of bulk at most 1048576: NARROWER than '..Said'. Prove '..Said' where nothing that the law and all that it calls make is longer than what came in: it says more and counts as full. Else prove '..UptoSaid'. A law counts once. -/
mutual
def uptoBulk {H : Type} : DataW H → Nat
  | .lit (.string bytes) => bytes.length + 1
  | .lit _ => 1
  | .nil => 1
  | .ptr d => uptoBulk d + 1
  | .slice elems spare => uptoBulkAll elems + uptoBulkAll spare + 1
  | .agg parts => uptoBulkAll parts + 1
  | .iface _ d => uptoBulk d + 1
  | .map entries => uptoBulkEntries entries + 1
  | .held _ => 1
def uptoBulkAll {H : Type} : List (DataW H) → Nat
  | [] => 0
  | d :: r => uptoBulk d + uptoBulkAll r
def uptoBulkEntries {H : Type} : List (Lit × DataW H) → Nat
  | [] => 0
  | x :: r => uptoBulkEntry x + uptoBulkEntries r
def uptoBulkEntry {H : Type} : Lit × DataW H → Nat
  | (.string bytes, d) => bytes.length + uptoBulk d + 1
  | (_, d) => uptoBulk d + 1
 end
def uptoSmall : (H : Type) → List (DataW H) → Bool := fun _ ds => decide (uptoBulkAll ds ≤ 1048576)
def OpenSpec.upto (s : _root_.Go.ChangeSpec) : _root_.Go.OpenSpec := { _root_.Go.OpenSpec.ofChange s with cond := some uptoSmall }

/-- 'laws.FnMemOk', WHERE WHAT IT READS IS OF BULK AT MOST 1048576: true; the input reads as it did. -/
def fnMemOkUptoRow : OpenClaim := { program := "ytdjmjdljgdagcaa", sum := "538a21f48e346963a6b89e631d7ea6e1a9ca52faf9ec05769abef15e2687cb74", func := "loop.example/crossyard/laws.FnMemOk", spec := "fnMemOk", unfollowed := true, recurses := true, apart := false, narrowed := true }
def FnMemOkUptoSaid : Prop := fnMemOkUptoRow.holds Try.pinned (OpenSpec.upto fnMemOkSpec)

/-- 'laws.FnReqOk', WHERE WHAT IT READS IS OF BULK AT MOST 1048576: true; the input reads as it did. -/
def fnReqOkUptoRow : OpenClaim := { program := "ytdjmjdljgdagcaa", sum := "538a21f48e346963a6b89e631d7ea6e1a9ca52faf9ec05769abef15e2687cb74", func := "loop.example/crossyard/laws.FnReqOk", spec := "fnReqOk", unfollowed := true, recurses := true, apart := false, narrowed := true }
def FnReqOkUptoSaid : Prop := fnReqOkUptoRow.holds Try.pinned (OpenSpec.upto fnReqOkSpec)

/-- 'laws.FnReqSlave', WHERE WHAT IT READS IS OF BULK AT MOST 1048576: true; the input reads as it did. -/
def fnReqSlaveUptoRow : OpenClaim := { program := "ytdjmjdljgdagcaa", sum := "538a21f48e346963a6b89e631d7ea6e1a9ca52faf9ec05769abef15e2687cb74", func := "loop.example/crossyard/laws.FnReqSlave", spec := "fnReqSlave", unfollowed := true, recurses := true, apart := false, narrowed := true }
def FnReqSlaveUptoSaid : Prop := fnReqSlaveUptoRow.holds Try.pinned (OpenSpec.upto fnReqSlaveSpec)

/-- 'laws.FnRspOk', WHERE WHAT IT READS IS OF BULK AT MOST 1048576: true; the input reads as it did. -/
def fnRspOkUptoRow : OpenClaim := { program := "ytdjmjdljgdagcaa", sum := "538a21f48e346963a6b89e631d7ea6e1a9ca52faf9ec05769abef15e2687cb74", func := "loop.example/crossyard/laws.FnRspOk", spec := "fnRspOk", unfollowed := true, recurses := true, apart := false, narrowed := true }
def FnRspOkUptoSaid : Prop := fnRspOkUptoRow.holds Try.pinned (OpenSpec.upto fnRspOkSpec)

/-- 'laws.FnMapOnly', WHERE WHAT IT READS IS OF BULK AT MOST 1048576: true; the input reads as it did. -/
def fnMapOnlyUptoRow : OpenClaim := { program := "ytdjmjdljgdagcaa", sum := "538a21f48e346963a6b89e631d7ea6e1a9ca52faf9ec05769abef15e2687cb74", func := "loop.example/crossyard/laws.FnMapOnly", spec := "fnMapOnly", unfollowed := true, recurses := true, apart := false, narrowed := true }
def FnMapOnlyUptoSaid : Prop := fnMapOnlyUptoRow.holds Try.pinned (OpenSpec.upto fnMapOnlySpec)

/-- 'laws.FnReqSame', WHERE WHAT IT READS IS OF BULK AT MOST 1048576: true; the input reads as it did. -/
def fnReqSameUptoRow : OpenClaim := { program := "ytdjmjdljgdagcaa", sum := "538a21f48e346963a6b89e631d7ea6e1a9ca52faf9ec05769abef15e2687cb74", func := "loop.example/crossyard/laws.FnReqSame", spec := "fnReqSame", unfollowed := true, recurses := true, apart := false, narrowed := true }
def FnReqSameUptoSaid : Prop := fnReqSameUptoRow.holds Try.pinned (OpenSpec.upto fnReqSameSpec)

/-- 'laws.FnExactMemOk', WHERE WHAT IT READS IS OF BULK AT MOST 1048576: true; the input reads as it did. -/
def fnExactMemOkUptoRow : OpenClaim := { program := "ytdjmjdljgdagcaa", sum := "538a21f48e346963a6b89e631d7ea6e1a9ca52faf9ec05769abef15e2687cb74", func := "loop.example/crossyard/laws.FnExactMemOk", spec := "fnExactMemOk", unfollowed := true, recurses := true, apart := false, narrowed := true }
def FnExactMemOkUptoSaid : Prop := fnExactMemOkUptoRow.holds Try.pinned (OpenSpec.upto fnExactMemOkSpec)

/-- 'laws.FnExactReqOk', WHERE WHAT IT READS IS OF BULK AT MOST 1048576: true; the input reads as it did. -/
def fnExactReqOkUptoRow : OpenClaim := { program := "ytdjmjdljgdagcaa", sum := "538a21f48e346963a6b89e631d7ea6e1a9ca52faf9ec05769abef15e2687cb74", func := "loop.example/crossyard/laws.FnExactReqOk", spec := "fnExactReqOk", unfollowed := true, recurses := true, apart := false, narrowed := true }
def FnExactReqOkUptoSaid : Prop := fnExactReqOkUptoRow.holds Try.pinned (OpenSpec.upto fnExactReqOkSpec)

/-- 'laws.FnExactReqSlave', WHERE WHAT IT READS IS OF BULK AT MOST 1048576: true; the input reads as it did. -/
def fnExactReqSlaveUptoRow : OpenClaim := { program := "ytdjmjdljgdagcaa", sum := "538a21f48e346963a6b89e631d7ea6e1a9ca52faf9ec05769abef15e2687cb74", func := "loop.example/crossyard/laws.FnExactReqSlave", spec := "fnExactReqSlave", unfollowed := true, recurses := true, apart := false, narrowed := true }
def FnExactReqSlaveUptoSaid : Prop := fnExactReqSlaveUptoRow.holds Try.pinned (OpenSpec.upto fnExactReqSlaveSpec)

/-- 'laws.FnExactRspOk', WHERE WHAT IT READS IS OF BULK AT MOST 1048576: true; the input reads as it did. -/
def fnExactRspOkUptoRow : OpenClaim := { program := "ytdjmjdljgdagcaa", sum := "538a21f48e346963a6b89e631d7ea6e1a9ca52faf9ec05769abef15e2687cb74", func := "loop.example/crossyard/laws.FnExactRspOk", spec := "fnExactRspOk", unfollowed := true, recurses := true, apart := false, narrowed := true }
def FnExactRspOkUptoSaid : Prop := fnExactRspOkUptoRow.holds Try.pinned (OpenSpec.upto fnExactRspOkSpec)

end Rows
end Go.Proofs.Ytdjmjdljgdagcaa
