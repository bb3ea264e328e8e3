/-
  No cell of these rows narrows 'for every input' (looked for: loops, veiled, ifaces, maps, wideKeys, modest, calm, conditions, laid).
  DERIVED. THE GIVEN ROWS OF THIS SEAT. 10 by the template 'for every input the law returns true; each argument reads behind the call as it read before'; 0 by the template 'total and deterministic' (their statements: YtgfcidpkepnphaaTotals.lean).
  GIVEN WITH THE SEED: the statements are not yours to turn. If you find one false, say at which input.
  Laid BY PROGRAM, IN A SANDBOX (cutbox-rows.mjs): the forced cells as the released guide's own fill.sh prints them over the translation b11d201d1c774528… (all of the seat's roots in one cut). By AI agents, Wed Nov 11 2026. No macro, syntax, notation, axiom, sorry.
-/
import Derived.Test.YtgfcidpkepnphaaChecked
import GoSem.Claim
import GoSem.ClaimJoined
import GoSem.ClaimMapViews
import Derived.JoinedTies
import Derived.KernelRfl
namespace Go.Proofs.Ytgfcidpkepnphaa
/- THE CELL 'sum', in the pinned program and in every row, IS THE sha256 OF THE DUMP (.gsa) THAT YtgfcidpkepnphaaProg.lean LOADS. Nothing in Lean hashes anything: it is a label: what it is worth is what the hold of that sum in a sandbox is worth. -/
noncomputable def Try.pinned : Pinned := { name := "ytgfcidpkepnphaa", sum := "b11d201d1c774528fe517a9dc1ff1ab80f830ccf69127f2a6573d6fb0312e1a5", checked := Try.checked }
namespace Rows
def none {H : Type} : Left H := { results := [], args := [] }

/-- 'laws.FnMapOk': WHATEVER THE INPUT: true; the input reads as it did. -/
def fnMapOkSpec : ChangeSpec := { name := "fnMapOk", fn := fun _ => fun
  | [d] => { results := [.lit (.bool true)], args := [d] }
  | _ => none }
def fnMapOkRow : OpenClaim := { program := "ytgfcidpkepnphaa", sum := "b11d201d1c774528fe517a9dc1ff1ab80f830ccf69127f2a6573d6fb0312e1a5", func := "loop.example/crossyard/laws.FnMapOk", spec := "fnMapOk", apart := false }
def FnMapOkSaid : Prop := fnMapOkRow.holds Try.pinned (OpenSpec.ofChange fnMapOkSpec)

/-- ITS FALSE NEIGHBOUR: 'it returns false'. Refute it at one input. -/
def fnMapOkWrong : ChangeSpec := { name := "fnMapOk", fn := fun _ => fun
  | [d] => { results := [.lit (.bool false)], args := [d] }
  | _ => none }
def FnMapOkWrongFalsely : Prop := fnMapOkRow.holds Try.pinned (OpenSpec.ofChange fnMapOkWrong)

/-- 'laws.FnMapFind': WHATEVER THE INPUT: true; the input reads as it did. -/
def fnMapFindSpec : ChangeSpec := { name := "fnMapFind", fn := fun _ => fun
  | [d] => { results := [.lit (.bool true)], args := [d] }
  | _ => none }
def fnMapFindRow : OpenClaim := { program := "ytgfcidpkepnphaa", sum := "b11d201d1c774528fe517a9dc1ff1ab80f830ccf69127f2a6573d6fb0312e1a5", func := "loop.example/crossyard/laws.FnMapFind", spec := "fnMapFind", apart := false }
def FnMapFindSaid : Prop := fnMapFindRow.holds Try.pinned (OpenSpec.ofChange fnMapFindSpec)

/-- ITS FALSE NEIGHBOUR: 'it returns false'. Refute it at one input. -/
def fnMapFindWrong : ChangeSpec := { name := "fnMapFind", fn := fun _ => fun
  | [d] => { results := [.lit (.bool false)], args := [d] }
  | _ => none }
def FnMapFindWrongFalsely : Prop := fnMapFindRow.holds Try.pinned (OpenSpec.ofChange fnMapFindWrong)

/-- 'laws.FnAdrBurst': WHATEVER THE INPUT: true; the input reads as it did. -/
def fnAdrBurstSpec : ChangeSpec := { name := "fnAdrBurst", fn := fun _ => fun
  | [d] => { results := [.lit (.bool true)], args := [d] }
  | _ => none }
def fnAdrBurstRow : OpenClaim := { program := "ytgfcidpkepnphaa", sum := "b11d201d1c774528fe517a9dc1ff1ab80f830ccf69127f2a6573d6fb0312e1a5", func := "loop.example/crossyard/laws.FnAdrBurst", spec := "fnAdrBurst", unfollowed := true, recurses := true, apart := false }
def FnAdrBurstSaid : Prop := fnAdrBurstRow.holds Try.pinned (OpenSpec.ofChange fnAdrBurstSpec)

/-- ITS FALSE NEIGHBOUR: 'it returns false'. Refute it at one input. -/
def fnAdrBurstWrong : ChangeSpec := { name := "fnAdrBurst", fn := fun _ => fun
  | [d] => { results := [.lit (.bool false)], args := [d] }
  | _ => none }
def FnAdrBurstWrongFalsely : Prop := fnAdrBurstRow.holds Try.pinned (OpenSpec.ofChange fnAdrBurstWrong)

/-- 'laws.FnAdrOk': WHATEVER THE INPUT: true; the input reads as it did. -/
def fnAdrOkSpec : ChangeSpec := { name := "fnAdrOk", fn := fun _ => fun
  | [d] => { results := [.lit (.bool true)], args := [d] }
  | _ => none }
def fnAdrOkRow : OpenClaim := { program := "ytgfcidpkepnphaa", sum := "b11d201d1c774528fe517a9dc1ff1ab80f830ccf69127f2a6573d6fb0312e1a5", func := "loop.example/crossyard/laws.FnAdrOk", spec := "fnAdrOk", unfollowed := true, recurses := true, apart := false }
def FnAdrOkSaid : Prop := fnAdrOkRow.holds Try.pinned (OpenSpec.ofChange fnAdrOkSpec)

/-- ITS FALSE NEIGHBOUR: 'it returns false'. Refute it at one input. -/
def fnAdrOkWrong : ChangeSpec := { name := "fnAdrOk", fn := fun _ => fun
  | [d] => { results := [.lit (.bool false)], args := [d] }
  | _ => none }
def FnAdrOkWrongFalsely : Prop := fnAdrOkRow.holds Try.pinned (OpenSpec.ofChange fnAdrOkWrong)

/-- 'laws.FnMapLess': WHATEVER THE INPUT: true; the input reads as it did. -/
def fnMapLessSpec : ChangeSpec := { name := "fnMapLess", fn := fun _ => fun
  | [d] => { results := [.lit (.bool true)], args := [d] }
  | _ => none }
def fnMapLessRow : OpenClaim := { program := "ytgfcidpkepnphaa", sum := "b11d201d1c774528fe517a9dc1ff1ab80f830ccf69127f2a6573d6fb0312e1a5", func := "loop.example/crossyard/laws.FnMapLess", spec := "fnMapLess", apart := false }
def FnMapLessSaid : Prop := fnMapLessRow.holds Try.pinned (OpenSpec.ofChange fnMapLessSpec)

/-- ITS FALSE NEIGHBOUR: 'it returns false'. Refute it at one input. -/
def fnMapLessWrong : ChangeSpec := { name := "fnMapLess", fn := fun _ => fun
  | [d] => { results := [.lit (.bool false)], args := [d] }
  | _ => none }
def FnMapLessWrongFalsely : Prop := fnMapLessRow.holds Try.pinned (OpenSpec.ofChange fnMapLessWrong)

/-- 'laws.FnAdrWrap': WHATEVER THE INPUT: true; the input reads as it did. -/
def fnAdrWrapSpec : ChangeSpec := { name := "fnAdrWrap", fn := fun _ => fun
  | [d] => { results := [.lit (.bool true)], args := [d] }
  | _ => none }
def fnAdrWrapRow : OpenClaim := { program := "ytgfcidpkepnphaa", sum := "b11d201d1c774528fe517a9dc1ff1ab80f830ccf69127f2a6573d6fb0312e1a5", func := "loop.example/crossyard/laws.FnAdrWrap", spec := "fnAdrWrap", unfollowed := true, recurses := true, apart := false }
def FnAdrWrapSaid : Prop := fnAdrWrapRow.holds Try.pinned (OpenSpec.ofChange fnAdrWrapSpec)

/-- ITS FALSE NEIGHBOUR: 'it returns false'. Refute it at one input. -/
def fnAdrWrapWrong : ChangeSpec := { name := "fnAdrWrap", fn := fun _ => fun
  | [d] => { results := [.lit (.bool false)], args := [d] }
  | _ => none }
def FnAdrWrapWrongFalsely : Prop := fnAdrWrapRow.holds Try.pinned (OpenSpec.ofChange fnAdrWrapWrong)

/-- 'laws.FnExactMapOk': WHATEVER THE INPUT: true; the input reads as it did. -/
def fnExactMapOkSpec : ChangeSpec := { name := "fnExactMapOk", fn := fun _ => fun
  | [d] => { results := [.lit (.bool true)], args := [d] }
  | _ => none }
def fnExactMapOkRow : OpenClaim := { program := "ytgfcidpkepnphaa", sum := "b11d201d1c774528fe517a9dc1ff1ab80f830ccf69127f2a6573d6fb0312e1a5", func := "loop.example/crossyard/laws.FnExactMapOk", spec := "fnExactMapOk", apart := false }
def FnExactMapOkSaid : Prop := fnExactMapOkRow.holds Try.pinned (OpenSpec.ofChange fnExactMapOkSpec)

/-- ITS FALSE NEIGHBOUR: 'it returns false'. Refute it at one input. -/
def fnExactMapOkWrong : ChangeSpec := { name := "fnExactMapOk", fn := fun _ => fun
  | [d] => { results := [.lit (.bool false)], args := [d] }
  | _ => none }
def FnExactMapOkWrongFalsely : Prop := fnExactMapOkRow.holds Try.pinned (OpenSpec.ofChange fnExactMapOkWrong)

/-- 'laws.FnExactMapFind': WHATEVER THE INPUT: true; the input reads as it did. -/
def fnExactMapFindSpec : ChangeSpec := { name := "fnExactMapFind", fn := fun _ => fun
  | [d1, d2] => { results := [.lit (.bool true)], args := [d1, d2] }
  | _ => none }
def fnExactMapFindRow : OpenClaim := { program := "ytgfcidpkepnphaa", sum := "b11d201d1c774528fe517a9dc1ff1ab80f830ccf69127f2a6573d6fb0312e1a5", func := "loop.example/crossyard/laws.FnExactMapFind", spec := "fnExactMapFind", apart := false }
def FnExactMapFindSaid : Prop := fnExactMapFindRow.holds Try.pinned (OpenSpec.ofChange fnExactMapFindSpec)

/-- ITS FALSE NEIGHBOUR: 'it returns false'. Refute it at one input. -/
def fnExactMapFindWrong : ChangeSpec := { name := "fnExactMapFind", fn := fun _ => fun
  | [d1, d2] => { results := [.lit (.bool false)], args := [d1, d2] }
  | _ => none }
def FnExactMapFindWrongFalsely : Prop := fnExactMapFindRow.holds Try.pinned (OpenSpec.ofChange fnExactMapFindWrong)

/-- 'laws.FnExactAdrOk': WHATEVER THE INPUT: true; the input reads as it did. -/
def fnExactAdrOkSpec : ChangeSpec := { name := "fnExactAdrOk", fn := fun _ => fun
  | [d1, d2, d3] => { results := [.lit (.bool true)], args := [d1, d2, d3] }
  | _ => none }
def fnExactAdrOkRow : OpenClaim := { program := "ytgfcidpkepnphaa", sum := "b11d201d1c774528fe517a9dc1ff1ab80f830ccf69127f2a6573d6fb0312e1a5", func := "loop.example/crossyard/laws.FnExactAdrOk", spec := "fnExactAdrOk", apart := false }
def FnExactAdrOkSaid : Prop := fnExactAdrOkRow.holds Try.pinned (OpenSpec.ofChange fnExactAdrOkSpec)

/-- ITS FALSE NEIGHBOUR: 'it returns false'. Refute it at one input. -/
def fnExactAdrOkWrong : ChangeSpec := { name := "fnExactAdrOk", fn := fun _ => fun
  | [d1, d2, d3] => { results := [.lit (.bool false)], args := [d1, d2, d3] }
  | _ => none }
def FnExactAdrOkWrongFalsely : Prop := fnExactAdrOkRow.holds Try.pinned (OpenSpec.ofChange fnExactAdrOkWrong)

/-- 'laws.FnExactAdrBurst': WHATEVER THE INPUT: true; the input reads as it did. -/
def fnExactAdrBurstSpec : ChangeSpec := { name := "fnExactAdrBurst", fn := fun _ => fun
  | [d1, d2, d3] => { results := [.lit (.bool true)], args := [d1, d2, d3] }
  | _ => none }
def fnExactAdrBurstRow : OpenClaim := { program := "ytgfcidpkepnphaa", sum := "b11d201d1c774528fe517a9dc1ff1ab80f830ccf69127f2a6573d6fb0312e1a5", func := "loop.example/crossyard/laws.FnExactAdrBurst", spec := "fnExactAdrBurst", unfollowed := true, recurses := true, apart := false }
def FnExactAdrBurstSaid : Prop := fnExactAdrBurstRow.holds Try.pinned (OpenSpec.ofChange fnExactAdrBurstSpec)

/-- ITS FALSE NEIGHBOUR: 'it returns false'. Refute it at one input. -/
def fnExactAdrBurstWrong : ChangeSpec := { name := "fnExactAdrBurst", fn := fun _ => fun
  | [d1, d2, d3] => { results := [.lit (.bool false)], args := [d1, d2, d3] }
  | _ => none }
def FnExactAdrBurstWrongFalsely : Prop := fnExactAdrBurstRow.holds Try.pinned (OpenSpec.ofChange fnExactAdrBurstWrong)

/- THE SECOND FORM. 'bulk': how many values and letters a reading holds, each counted each time it is reached (what is shared counts as often as it is met; a slice's spare places count too). A statement '..UptoSaid' is the law's where the arguments, and the package variables that the reading takes, are together of bulk at most 1048576: NARROWER than '..Said'. Prove '..Said' where nothing that the law and all that it calls make is longer than what came in: it says more and counts as full. Else prove '..UptoSaid'. A law counts once. -/
mutual
def uptoBulk {H : Type} : DataW H → Nat
  | .lit (.string bytes) => bytes.length + 1
  | .lit _ => 1
  | .nil => 1
  | .ptr d => uptoBulk d + 1
  | .slice elems spare => uptoBulkAll elems + uptoBulkAll spare + 1
  | .agg parts => uptoBulkAll parts + 1
  | .iface _ d => uptoBulk d + 1
  | .map entries => uptoBulkEntries entries + 1
  | .held _ => 1
def uptoBulkAll {H : Type} : List (DataW H) → Nat
  | [] => 0
  | d :: r => uptoBulk d + uptoBulkAll r
def uptoBulkEntries {H : Type} : List (Lit × DataW H) → Nat
  | [] => 0
  | x :: r => uptoBulkEntry x + uptoBulkEntries r
def uptoBulkEntry {H : Type} : Lit × DataW H → Nat
  | (.string bytes, d) => bytes.length + uptoBulk d + 1
  | (_, d) => uptoBulk d + 1
 end
def uptoSmall : (H : Type) → List (DataW H) → Bool := fun _ ds => decide (uptoBulkAll ds ≤ 1048576)
def OpenSpec.upto (s : _root_.Go.ChangeSpec) : _root_.Go.OpenSpec := { _root_.Go.OpenSpec.ofChange s with cond := some uptoSmall }

/-- 'laws.FnMapOk', WHERE WHAT IT READS IS OF BULK AT MOST 1048576: true; the input reads as it did. -/
def fnMapOkUptoRow : OpenClaim := { program := "ytgfcidpkepnphaa", sum := "b11d201d1c774528fe517a9dc1ff1ab80f830ccf69127f2a6573d6fb0312e1a5", func := "loop.example/crossyard/laws.FnMapOk", spec := "fnMapOk", apart := false, narrowed := true }
def FnMapOkUptoSaid : Prop := fnMapOkUptoRow.holds Try.pinned (OpenSpec.upto fnMapOkSpec)

/-- 'laws.FnMapFind', WHERE WHAT IT READS IS OF BULK AT MOST 1048576: true; the input reads as it did. -/
def fnMapFindUptoRow : OpenClaim := { program := "ytgfcidpkepnphaa", sum := "b11d201d1c774528fe517a9dc1ff1ab80f830ccf69127f2a6573d6fb0312e1a5", func := "loop.example/crossyard/laws.FnMapFind", spec := "fnMapFind", apart := false, narrowed := true }
def FnMapFindUptoSaid : Prop := fnMapFindUptoRow.holds Try.pinned (OpenSpec.upto fnMapFindSpec)

/-- 'laws.FnAdrBurst', WHERE WHAT IT READS IS OF BULK AT MOST 1048576: true; the input reads as it did. -/
def fnAdrBurstUptoRow : OpenClaim := { program := "ytgfcidpkepnphaa", sum := "b11d201d1c774528fe517a9dc1ff1ab80f830ccf69127f2a6573d6fb0312e1a5", func := "loop.example/crossyard/laws.FnAdrBurst", spec := "fnAdrBurst", unfollowed := true, recurses := true, apart := false, narrowed := true }
def FnAdrBurstUptoSaid : Prop := fnAdrBurstUptoRow.holds Try.pinned (OpenSpec.upto fnAdrBurstSpec)

/-- 'laws.FnAdrOk', WHERE WHAT IT READS IS OF BULK AT MOST 1048576: true; the input reads as it did. -/
def fnAdrOkUptoRow : OpenClaim := { program := "ytgfcidpkepnphaa", sum := "b11d201d1c774528fe517a9dc1ff1ab80f830ccf69127f2a6573d6fb0312e1a5", func := "loop.example/crossyard/laws.FnAdrOk", spec := "fnAdrOk", unfollowed := true, recurses := true, apart := false, narrowed := true }
def FnAdrOkUptoSaid : Prop := fnAdrOkUptoRow.holds Try.pinned (OpenSpec.upto fnAdrOkSpec)

/-- 'laws.FnMapLess', WHERE WHAT IT READS IS OF BULK AT MOST 1048576: true; the input reads as it did. -/
def fnMapLessUptoRow : OpenClaim := { program := "ytgfcidpkepnphaa", sum := "b11d201d1c774528fe517a9dc1ff1ab80f830ccf69127f2a6573d6fb0312e1a5", func := "loop.example/crossyard/laws.FnMapLess", spec := "fnMapLess", apart := false, narrowed := true }
def FnMapLessUptoSaid : Prop := fnMapLessUptoRow.holds Try.pinned (OpenSpec.upto fnMapLessSpec)

/-- 'laws.FnAdrWrap', WHERE WHAT IT READS IS OF BULK AT MOST 1048576: true; the input reads as it did. -/
def fnAdrWrapUptoRow : OpenClaim := { program := "ytgfcidpkepnphaa", sum := "b11d201d1c774528fe517a9dc1ff1ab80f830ccf69127f2a6573d6fb0312e1a5", func := "loop.example/crossyard/laws.FnAdrWrap", spec := "fnAdrWrap", unfollowed := true, recurses := true, apart := false, narrowed := true }
def FnAdrWrapUptoSaid : Prop := fnAdrWrapUptoRow.holds Try.pinned (OpenSpec.upto fnAdrWrapSpec)

/-- 'laws.FnExactMapOk', WHERE WHAT IT READS IS OF BULK AT MOST 1048576: true; the input reads as it did. -/
def fnExactMapOkUptoRow : OpenClaim := { program := "ytgfcidpkepnphaa", sum := "b11d201d1c774528fe517a9dc1ff1ab80f830ccf69127f2a6573d6fb0312e1a5", func := "loop.example/crossyard/laws.FnExactMapOk", spec := "fnExactMapOk", apart := false, narrowed := true }
def FnExactMapOkUptoSaid : Prop := fnExactMapOkUptoRow.holds Try.pinned (OpenSpec.upto fnExactMapOkSpec)

/-- 'laws.FnExactMapFind', WHERE WHAT IT READS IS OF BULK AT MOST 1048576: true; the input reads as it did. -/
def fnExactMapFindUptoRow : OpenClaim := { program := "ytgfcidpkepnphaa", sum := "b11d201d1c774528fe517a9dc1ff1ab80f830ccf69127f2a6573d6fb0312e1a5", func := "loop.example/crossyard/laws.FnExactMapFind", spec := "fnExactMapFind", apart := false, narrowed := true }
def FnExactMapFindUptoSaid : Prop := fnExactMapFindUptoRow.holds Try.pinned (OpenSpec.upto fnExactMapFindSpec)

/-- 'laws.FnExactAdrOk', WHERE WHAT IT READS IS OF BULK AT MOST 1048576: true; the input reads as it did. -/
def fnExactAdrOkUptoRow : OpenClaim := { program := "ytgfcidpkepnphaa", sum := "b11d201d1c774528fe517a9dc1ff1ab80f830ccf69127f2a6573d6fb0312e1a5", func := "loop.example/crossyard/laws.FnExactAdrOk", spec := "fnExactAdrOk", apart := false, narrowed := true }
def FnExactAdrOkUptoSaid : Prop := fnExactAdrOkUptoRow.holds Try.pinned (OpenSpec.upto fnExactAdrOkSpec)

/-- 'laws.FnExactAdrBurst', WHERE WHAT IT READS IS OF BULK AT MOST 1048576: true; the input reads as it did. -/
def fnExactAdrBurstUptoRow : OpenClaim := { program := "ytgfcidpkepnphaa", sum := "b11d201d1c774528fe517a9dc1ff1ab80f830ccf69127f2a6573d6fb0312e1a5", func := "loop.example/crossyard/laws.FnExactAdrBurst", spec := "fnExactAdrBurst", unfollowed := true, recurses := true, apart := false, narrowed := true }
def FnExactAdrBurstUptoSaid : Prop := fnExactAdrBurstUptoRow.holds Try.pinned (OpenSpec.upto fnExactAdrBurstSpec)

end Rows
end Go.Proofs.Ytgfcidpkepnphaa
