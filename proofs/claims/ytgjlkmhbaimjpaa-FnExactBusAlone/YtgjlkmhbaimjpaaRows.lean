/-
  No cell of these rows narrows 'for every input' (looked for: loops, veiled, ifaces, maps, wideKeys, modest, calm, conditions, laid).
  DERIVED. THE GIVEN ROWS OF THIS SEAT. 6 by the template 'for every input the law returns true; each argument reads behind the call as it read before'; 0 by the template 'total and deterministic' (their statements: YtgjlkmhbaimjpaaTotals.lean).
  GIVEN WITH THE SEED: the statements are not yours to turn. If you find one false, say at which input.
  Laid BY PROGRAM, IN A SANDBOX (cutbox-rows.mjs): the forced cells as the released guide's own fill.sh prints them over the translation 5faa05b0c113ca60… (all of the seat's roots in one cut). By AI agents, Wed Nov 11 2026. No macro, syntax, notation, axiom, sorry.
-/
import Derived.Test.YtgjlkmhbaimjpaaChecked
import GoSem.Claim
import GoSem.ClaimJoined
import GoSem.ClaimMapViews
import Derived.JoinedTies
import Derived.KernelRfl
namespace Go.Proofs.Ytgjlkmhbaimjpaa
/- THE CELL 'sum', in the pinned program and in every row, IS THE sha256 OF THE DUMP (.gsa) THAT YtgjlkmhbaimjpaaProg.lean LOADS. Nothing in Lean hashes anything: it is a label: what it is worth is what the hold of that sum in a sandbox is worth. -/
noncomputable def Try.pinned : Pinned := { name := "ytgjlkmhbaimjpaa", sum := "5faa05b0c113ca6002c3294035dd2a9f4fea54013c888e866c2f9be2b7601edf", checked := Try.checked }
namespace Rows
def none {H : Type} : Left H := { results := [], args := [] }

/-- 'laws.FnExactBusOk': WHATEVER THE INPUT: true; the input reads as it did. -/
def fnExactBusOkSpec : ChangeSpec := { name := "fnExactBusOk", fn := fun _ => fun
  | [d] => { results := [.lit (.bool true)], args := [d] }
  | _ => none }
def fnExactBusOkRow : OpenClaim := { program := "ytgjlkmhbaimjpaa", sum := "5faa05b0c113ca6002c3294035dd2a9f4fea54013c888e866c2f9be2b7601edf", func := "loop.example/crossyard/laws.FnExactBusOk", spec := "fnExactBusOk", unfollowed := true, recurses := true, apart := false }
def FnExactBusOkSaid : Prop := fnExactBusOkRow.holds Try.pinned (OpenSpec.ofChange fnExactBusOkSpec)

/-- ITS FALSE NEIGHBOUR: 'it returns false'. Refute it at one input. -/
def fnExactBusOkWrong : ChangeSpec := { name := "fnExactBusOk", fn := fun _ => fun
  | [d] => { results := [.lit (.bool false)], args := [d] }
  | _ => none }
def FnExactBusOkWrongFalsely : Prop := fnExactBusOkRow.holds Try.pinned (OpenSpec.ofChange fnExactBusOkWrong)

/-- 'laws.FnExactTlmOk': WHATEVER THE INPUT: true; the input reads as it did. -/
def fnExactTlmOkSpec : ChangeSpec := { name := "fnExactTlmOk", fn := fun _ => fun
  | [d1, d2] => { results := [.lit (.bool true)], args := [d1, d2] }
  | _ => none }
def fnExactTlmOkRow : OpenClaim := { program := "ytgjlkmhbaimjpaa", sum := "5faa05b0c113ca6002c3294035dd2a9f4fea54013c888e866c2f9be2b7601edf", func := "loop.example/crossyard/laws.FnExactTlmOk", spec := "fnExactTlmOk", unfollowed := true, recurses := true, apart := false }
def FnExactTlmOkSaid : Prop := fnExactTlmOkRow.holds Try.pinned (OpenSpec.ofChange fnExactTlmOkSpec)

/-- ITS FALSE NEIGHBOUR: 'it returns false'. Refute it at one input. -/
def fnExactTlmOkWrong : ChangeSpec := { name := "fnExactTlmOk", fn := fun _ => fun
  | [d1, d2] => { results := [.lit (.bool false)], args := [d1, d2] }
  | _ => none }
def FnExactTlmOkWrongFalsely : Prop := fnExactTlmOkRow.holds Try.pinned (OpenSpec.ofChange fnExactTlmOkWrong)

/-- 'laws.FnExactBusAlone': WHATEVER THE INPUT: true; the input reads as it did. -/
def fnExactBusAloneSpec : ChangeSpec := { name := "fnExactBusAlone", fn := fun _ => fun
  | [d1, d2] => { results := [.lit (.bool true)], args := [d1, d2] }
  | _ => none }
def fnExactBusAloneRow : OpenClaim := { program := "ytgjlkmhbaimjpaa", sum := "5faa05b0c113ca6002c3294035dd2a9f4fea54013c888e866c2f9be2b7601edf", func := "loop.example/crossyard/laws.FnExactBusAlone", spec := "fnExactBusAlone", unfollowed := true, recurses := true, apart := false }
def FnExactBusAloneSaid : Prop := fnExactBusAloneRow.holds Try.pinned (OpenSpec.ofChange fnExactBusAloneSpec)

/-- ITS FALSE NEIGHBOUR: 'it returns false'. Refute it at one input. -/
def fnExactBusAloneWrong : ChangeSpec := { name := "fnExactBusAlone", fn := fun _ => fun
  | [d1, d2] => { results := [.lit (.bool false)], args := [d1, d2] }
  | _ => none }
def FnExactBusAloneWrongFalsely : Prop := fnExactBusAloneRow.holds Try.pinned (OpenSpec.ofChange fnExactBusAloneWrong)

/-- 'laws.FnExactBusApart': WHATEVER THE INPUT: true; the input reads as it did. -/
def fnExactBusApartSpec : ChangeSpec := { name := "fnExactBusApart", fn := fun _ => fun
  | [d1, d2] => { results := [.lit (.bool true)], args := [d1, d2] }
  | _ => none }
def fnExactBusApartRow : OpenClaim := { program := "ytgjlkmhbaimjpaa", sum := "5faa05b0c113ca6002c3294035dd2a9f4fea54013c888e866c2f9be2b7601edf", func := "loop.example/crossyard/laws.FnExactBusApart", spec := "fnExactBusApart", unfollowed := true, recurses := true, apart := false }
def FnExactBusApartSaid : Prop := fnExactBusApartRow.holds Try.pinned (OpenSpec.ofChange fnExactBusApartSpec)

/-- ITS FALSE NEIGHBOUR: 'it returns false'. Refute it at one input. -/
def fnExactBusApartWrong : ChangeSpec := { name := "fnExactBusApart", fn := fun _ => fun
  | [d1, d2] => { results := [.lit (.bool false)], args := [d1, d2] }
  | _ => none }
def FnExactBusApartWrongFalsely : Prop := fnExactBusApartRow.holds Try.pinned (OpenSpec.ofChange fnExactBusApartWrong)

/-- 'laws.FnExactTrcApart': WHATEVER THE INPUT: true; the input reads as it did. -/
def fnExactTrcApartSpec : ChangeSpec := { name := "fnExactTrcApart", fn := fun _ => fun
  | [d1, d2, d3] => { results := [.lit (.bool true)], args := [d1, d2, d3] }
  | _ => none }
def fnExactTrcApartRow : OpenClaim := { program := "ytgjlkmhbaimjpaa", sum := "5faa05b0c113ca6002c3294035dd2a9f4fea54013c888e866c2f9be2b7601edf", func := "loop.example/crossyard/laws.FnExactTrcApart", spec := "fnExactTrcApart", unfollowed := true, recurses := true, apart := false }
def FnExactTrcApartSaid : Prop := fnExactTrcApartRow.holds Try.pinned (OpenSpec.ofChange fnExactTrcApartSpec)

/-- ITS FALSE NEIGHBOUR: 'it returns false'. Refute it at one input. -/
def fnExactTrcApartWrong : ChangeSpec := { name := "fnExactTrcApart", fn := fun _ => fun
  | [d1, d2, d3] => { results := [.lit (.bool false)], args := [d1, d2, d3] }
  | _ => none }
def FnExactTrcApartWrongFalsely : Prop := fnExactTrcApartRow.holds Try.pinned (OpenSpec.ofChange fnExactTrcApartWrong)

/-- 'laws.FnExactTrcOf': WHATEVER THE INPUT: true; the input reads as it did. -/
def fnExactTrcOfSpec : ChangeSpec := { name := "fnExactTrcOf", fn := fun _ => fun
  | [d1, d2] => { results := [.lit (.bool true)], args := [d1, d2] }
  | _ => none }
def fnExactTrcOfRow : OpenClaim := { program := "ytgjlkmhbaimjpaa", sum := "5faa05b0c113ca6002c3294035dd2a9f4fea54013c888e866c2f9be2b7601edf", func := "loop.example/crossyard/laws.FnExactTrcOf", spec := "fnExactTrcOf", apart := false }
def FnExactTrcOfSaid : Prop := fnExactTrcOfRow.holds Try.pinned (OpenSpec.ofChange fnExactTrcOfSpec)

/-- ITS FALSE NEIGHBOUR: 'it returns false'. Refute it at one input. -/
def fnExactTrcOfWrong : ChangeSpec := { name := "fnExactTrcOf", fn := fun _ => fun
  | [d1, d2] => { results := [.lit (.bool false)], args := [d1, d2] }
  | _ => none }
def FnExactTrcOfWrongFalsely : Prop := fnExactTrcOfRow.holds Try.pinned (OpenSpec.ofChange fnExactTrcOfWrong)

/- THE SECOND FORM. 'bulk': how many values and letters a reading holds, each counted each time it is reached (what is shared counts as often as it is met; a slice's spare places count too). A statement '..UptoSaid' is the law's where the arguments, and the package variables that the reading takes, are together of bulk at most 1048576: NARROWER than '..Said'. Prove '..Said' where nothing that the law and all that it calls make is longer than what came in: it says more and counts as full. Else prove '..UptoSaid'. A law counts once. -/
mutual
def uptoBulk {H : Type} : DataW H → Nat
  | .lit (.string bytes) => bytes.length + 1
  | .lit _ => 1
  | .nil => 1
  | .ptr d => uptoBulk d + 1
  | .slice elems spare => uptoBulkAll elems + uptoBulkAll spare + 1
  | .agg parts => uptoBulkAll parts + 1
  | .iface _ d => uptoBulk d + 1
  | .map entries => uptoBulkEntries entries + 1
  | .held _ => 1
def uptoBulkAll {H : Type} : List (DataW H) → Nat
  | [] => 0
  | d :: r => uptoBulk d + uptoBulkAll r
def uptoBulkEntries {H : Type} : List (Lit × DataW H) → Nat
  | [] => 0
  | x :: r => uptoBulkEntry x + uptoBulkEntries r
def uptoBulkEntry {H : Type} : Lit × DataW H → Nat
  | (.string bytes, d) => bytes.length + uptoBulk d + 1
  | (_, d) => uptoBulk d + 1
 end
def uptoSmall : (H : Type) → List (DataW H) → Bool := fun _ ds => decide (uptoBulkAll ds ≤ 1048576)
def OpenSpec.upto (s : _root_.Go.ChangeSpec) : _root_.Go.OpenSpec := { _root_.Go.OpenSpec.ofChange s with cond := some uptoSmall }

/-- 'laws.FnExactBusOk', WHERE WHAT IT READS IS OF BULK AT MOST 1048576: true; the input reads as it did. -/
def fnExactBusOkUptoRow : OpenClaim := { program := "ytgjlkmhbaimjpaa", sum := "5faa05b0c113ca6002c3294035dd2a9f4fea54013c888e866c2f9be2b7601edf", func := "loop.example/crossyard/laws.FnExactBusOk", spec := "fnExactBusOk", unfollowed := true, recurses := true, apart := false, narrowed := true }
def FnExactBusOkUptoSaid : Prop := fnExactBusOkUptoRow.holds Try.pinned (OpenSpec.upto fnExactBusOkSpec)

/-- 'laws.FnExactTlmOk', WHERE WHAT IT READS IS OF BULK AT MOST 1048576: true; the input reads as it did. -/
def fnExactTlmOkUptoRow : OpenClaim := { program := "ytgjlkmhbaimjpaa", sum := "5faa05b0c113ca6002c3294035dd2a9f4fea54013c888e866c2f9be2b7601edf", func := "loop.example/crossyard/laws.FnExactTlmOk", spec := "fnExactTlmOk", unfollowed := true, recurses := true, apart := false, narrowed := true }
def FnExactTlmOkUptoSaid : Prop := fnExactTlmOkUptoRow.holds Try.pinned (OpenSpec.upto fnExactTlmOkSpec)

/-- 'laws.FnExactBusAlone', WHERE WHAT IT READS IS OF BULK AT MOST 1048576: true; the input reads as it did. -/
def fnExactBusAloneUptoRow : OpenClaim := { program := "ytgjlkmhbaimjpaa", sum := "5faa05b0c113ca6002c3294035dd2a9f4fea54013c888e866c2f9be2b7601edf", func := "loop.example/crossyard/laws.FnExactBusAlone", spec := "fnExactBusAlone", unfollowed := true, recurses := true, apart := false, narrowed := true }
def FnExactBusAloneUptoSaid : Prop := fnExactBusAloneUptoRow.holds Try.pinned (OpenSpec.upto fnExactBusAloneSpec)

/-- 'laws.FnExactBusApart', WHERE WHAT IT READS IS OF BULK AT MOST 1048576: true; the input reads as it did. -/
def fnExactBusApartUptoRow : OpenClaim := { program := "ytgjlkmhbaimjpaa", sum := "5faa05b0c113ca6002c3294035dd2a9f4fea54013c888e866c2f9be2b7601edf", func := "loop.example/crossyard/laws.FnExactBusApart", spec := "fnExactBusApart", unfollowed := true, recurses := true, apart := false, narrowed := true }
def FnExactBusApartUptoSaid : Prop := fnExactBusApartUptoRow.holds Try.pinned (OpenSpec.upto fnExactBusApartSpec)

/-- 'laws.FnExactTrcApart', WHERE WHAT IT READS IS OF BULK AT MOST 1048576: true; the input reads as it did. -/
def fnExactTrcApartUptoRow : OpenClaim := { program := "ytgjlkmhbaimjpaa", sum := "5faa05b0c113ca6002c3294035dd2a9f4fea54013c888e866c2f9be2b7601edf", func := "loop.example/crossyard/laws.FnExactTrcApart", spec := "fnExactTrcApart", unfollowed := true, recurses := true, apart := false, narrowed := true }
def FnExactTrcApartUptoSaid : Prop := fnExactTrcApartUptoRow.holds Try.pinned (OpenSpec.upto fnExactTrcApartSpec)

/-- 'laws.FnExactTrcOf', WHERE WHAT IT READS IS OF BULK AT MOST 1048576: true; the input reads as it did. -/
def fnExactTrcOfUptoRow : OpenClaim := { program := "ytgjlkmhbaimjpaa", sum := "5faa05b0c113ca6002c3294035dd2a9f4fea54013c888e866c2f9be2b7601edf", func := "loop.example/crossyard/laws.FnExactTrcOf", spec := "fnExactTrcOf", apart := false, narrowed := true }
def FnExactTrcOfUptoSaid : Prop := fnExactTrcOfUptoRow.holds Try.pinned (OpenSpec.upto fnExactTrcOfSpec)

end Rows
end Go.Proofs.Ytgjlkmhbaimjpaa
