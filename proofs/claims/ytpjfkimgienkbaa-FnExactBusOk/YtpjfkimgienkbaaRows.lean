/-
  No cell of these rows narrows 'for every input' (looked for: loops, veiled, ifaces, maps, wideKeys, modest, calm, conditions, laid).
  DERIVED. THE GIVEN ROWS OF THIS SEAT. 3 by the template 'for every input the law returns true; each argument reads behind the call as it read before'; 0 by the template 'total and deterministic' (their statements: YtpjfkimgienkbaaTotals.lean).
  GIVEN WITH THE SEED: the statements are not yours to turn. If you find one false, say at which input.
  Laid BY PROGRAM, IN A SANDBOX (cutbox-rows.mjs): the forced cells as the released guide's own fill.sh prints them over the translation 71767e7b640e4eda… (all of the seat's roots in one cut). By AI agents, Wed Nov 11 2026. No macro, syntax, notation, axiom, sorry.
-/
import Derived.Test.YtpjfkimgienkbaaChecked
import GoSem.Claim
import GoSem.ClaimJoined
import GoSem.ClaimMapViews
import Derived.JoinedTies
import Derived.KernelRfl
namespace Go.Proofs.Ytpjfkimgienkbaa
/- THE CELL 'sum', in the pinned program and in every row, IS THE sha256 OF THE DUMP (.gsa) THAT YtpjfkimgienkbaaProg.lean LOADS. Nothing in Lean hashes anything: it is a label: what it is worth is what the hold of that sum in a sandbox is worth. -/
noncomputable def Try.pinned : Pinned := { name := "ytpjfkimgienkbaa", sum := "71767e7b640e4edacffc271291690798aa4fb5c5fe615f13ec25f2c735d09b28", checked := Try.checked }
namespace Rows
def none {H : Type} : Left H := { results := [], args := [] }

/-- 'laws.FnBusOk': WHATEVER THE INPUT: true; the input reads as it did. -/
def fnBusOkSpec : ChangeSpec := { name := "fnBusOk", fn := fun _ => fun
  | [d] => { results := [.lit (.bool true)], args := [d] }
  | _ => none }
def fnBusOkRow : OpenClaim := { program := "ytpjfkimgienkbaa", sum := "71767e7b640e4edacffc271291690798aa4fb5c5fe615f13ec25f2c735d09b28", func := "loop.example/crossyard/laws.FnBusOk", spec := "fnBusOk", unfollowed := true, recurses := true, apart := false }
def FnBusOkSaid : Prop := fnBusOkRow.holds Try.pinned (OpenSpec.ofChange fnBusOkSpec)

/-- ITS FALSE NEIGHBOUR: 'it returns false'. Refute it at one input. -/
def fnBusOkWrong : ChangeSpec := { name := "fnBusOk", fn := fun _ => fun
  | [d] => { results := [.lit (.bool false)], args := [d] }
  | _ => none }
def FnBusOkWrongFalsely : Prop := fnBusOkRow.holds Try.pinned (OpenSpec.ofChange fnBusOkWrong)

/-- 'laws.FnToldOf': WHATEVER THE INPUT: true; the input reads as it did. -/
def fnToldOfSpec : ChangeSpec := { name := "fnToldOf", fn := fun _ => fun
  | [d] => { results := [.lit (.bool true)], args := [d] }
  | _ => none }
def fnToldOfRow : OpenClaim := { program := "ytpjfkimgienkbaa", sum := "71767e7b640e4edacffc271291690798aa4fb5c5fe615f13ec25f2c735d09b28", func := "loop.example/crossyard/laws.FnToldOf", spec := "fnToldOf", apart := false }
def FnToldOfSaid : Prop := fnToldOfRow.holds Try.pinned (OpenSpec.ofChange fnToldOfSpec)

/-- ITS FALSE NEIGHBOUR: 'it returns false'. Refute it at one input. -/
def fnToldOfWrong : ChangeSpec := { name := "fnToldOf", fn := fun _ => fun
  | [d] => { results := [.lit (.bool false)], args := [d] }
  | _ => none }
def FnToldOfWrongFalsely : Prop := fnToldOfRow.holds Try.pinned (OpenSpec.ofChange fnToldOfWrong)

/-- 'laws.FnExactBusOk': WHATEVER THE INPUT: true; the input reads as it did. -/
def fnExactBusOkSpec : ChangeSpec := { name := "fnExactBusOk", fn := fun _ => fun
  | [d] => { results := [.lit (.bool true)], args := [d] }
  | _ => none }
def fnExactBusOkRow : OpenClaim := { program := "ytpjfkimgienkbaa", sum := "71767e7b640e4edacffc271291690798aa4fb5c5fe615f13ec25f2c735d09b28", func := "loop.example/crossyard/laws.FnExactBusOk", spec := "fnExactBusOk", unfollowed := true, recurses := true, apart := false }
def FnExactBusOkSaid : Prop := fnExactBusOkRow.holds Try.pinned (OpenSpec.ofChange fnExactBusOkSpec)

/-- ITS FALSE NEIGHBOUR: 'it returns false'. Refute it at one input. -/
def fnExactBusOkWrong : ChangeSpec := { name := "fnExactBusOk", fn := fun _ => fun
  | [d] => { results := [.lit (.bool false)], args := [d] }
  | _ => none }
def FnExactBusOkWrongFalsely : Prop := fnExactBusOkRow.holds Try.pinned (OpenSpec.ofChange fnExactBusOkWrong)

/- THE SECOND FORM. 'bulk': how many values and letters a reading holds, each counted each time it is reached (what is shared counts as often as it is met; a slice's spare places count too). A statement '..UptoSaid' is the law's where the arguments, and the package variables that the reading takes, are together of bulk at most 1048576: NARROWER than '..Said'. Prove '..Said' where nothing that the law and all that it calls make is longer than what came in: it says more and counts as full. Else prove '..UptoSaid'. A law counts once. -/
mutual
def uptoBulk {H : Type} : DataW H → Nat
  | .lit (.string bytes) => bytes.length + 1
  | .lit _ => 1
  | .nil => 1
  | .ptr d => uptoBulk d + 1
  | .slice elems spare => uptoBulkAll elems + uptoBulkAll spare + 1
  | .agg parts => uptoBulkAll parts + 1
  | .iface _ d => uptoBulk d + 1
  | .map entries => uptoBulkEntries entries + 1
  | .held _ => 1
def uptoBulkAll {H : Type} : List (DataW H) → Nat
  | [] => 0
  | d :: r => uptoBulk d + uptoBulkAll r
def uptoBulkEntries {H : Type} : List (Lit × DataW H) → Nat
  | [] => 0
  | x :: r => uptoBulkEntry x + uptoBulkEntries r
def uptoBulkEntry {H : Type} : Lit × DataW H → Nat
  | (.string bytes, d) => bytes.length + uptoBulk d + 1
  | (_, d) => uptoBulk d + 1
 end
def uptoSmall : (H : Type) → List (DataW H) → Bool := fun _ ds => decide (uptoBulkAll ds ≤ 1048576)
def OpenSpec.upto (s : _root_.Go.ChangeSpec) : _root_.Go.OpenSpec := { _root_.Go.OpenSpec.ofChange s with cond := some uptoSmall }

/-- 'laws.FnBusOk', WHERE WHAT IT READS IS OF BULK AT MOST 1048576: true; the input reads as it did. -/
def fnBusOkUptoRow : OpenClaim := { program := "ytpjfkimgienkbaa", sum := "71767e7b640e4edacffc271291690798aa4fb5c5fe615f13ec25f2c735d09b28", func := "loop.example/crossyard/laws.FnBusOk", spec := "fnBusOk", unfollowed := true, recurses := true, apart := false, narrowed := true }
def FnBusOkUptoSaid : Prop := fnBusOkUptoRow.holds Try.pinned (OpenSpec.upto fnBusOkSpec)

/-- 'laws.FnToldOf', WHERE WHAT IT READS IS OF BULK AT MOST 1048576: true; the input reads as it did. -/
def fnToldOfUptoRow : OpenClaim := { program := "ytpjfkimgienkbaa", sum := "71767e7b640e4edacffc271291690798aa4fb5c5fe615f13ec25f2c735d09b28", func := "loop.example/crossyard/laws.FnToldOf", spec := "fnToldOf", apart := false, narrowed := true }
def FnToldOfUptoSaid : Prop := fnToldOfUptoRow.holds Try.pinned (OpenSpec.upto fnToldOfSpec)

/-- 'laws.FnExactBusOk', WHERE WHAT IT READS IS OF BULK AT MOST 1048576: true; the input reads as it did. -/
def fnExactBusOkUptoRow : OpenClaim := { program := "ytpjfkimgienkbaa", sum := "71767e7b640e4edacffc271291690798aa4fb5c5fe615f13ec25f2c735d09b28", func := "loop.example/crossyard/laws.FnExactBusOk", spec := "fnExactBusOk", unfollowed := true, recurses := true, apart := false, narrowed := true }
def FnExactBusOkUptoSaid : Prop := fnExactBusOkUptoRow.holds Try.pinned (OpenSpec.upto fnExactBusOkSpec)

end Rows
end Go.Proofs.Ytpjfkimgienkbaa
