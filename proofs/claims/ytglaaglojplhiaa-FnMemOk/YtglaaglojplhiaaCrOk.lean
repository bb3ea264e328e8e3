/-
  The laws' crOk.
-/
import Derived.Test.YtglaaglojplhiaaProg
import Derived.Test.YtglaaglojplhiaaAdr
namespace Go.Proofs.Ytglaaglojplhiaa
open Go.RowKit
set_option linter.unusedSimpArgs false
set_option linter.unusedVariables false

theorem crOk_any (w : World) : Calls Try.prog 11 #[] w fun e w' => e = .returned (.bool true) ∧ w' = w := by
  go_enter Try.func11, Try.ntmps11
  go_wp2_with fail
  refine (impl_AdrOk 5 1 false w).mono ?_
  rintro e w' ⟨rfl, rfl⟩
  go_wp2
  go_ret
  exact ⟨rfl, rfl⟩

end Go.Proofs.Ytglaaglojplhiaa
