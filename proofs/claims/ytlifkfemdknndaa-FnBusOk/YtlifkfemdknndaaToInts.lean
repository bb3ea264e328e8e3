/-
  toIntS: a copy of ints, in a block of its own.
-/
import Derived.Test.YtlifkfemdknndaaProg
import Derived.Test.YtlifkfemdknndaaMem
import Derived.Test.YtlifkfemdknndaaMarkG
namespace Go.Proofs.Ytlifkfemdknndaa
open Go.RowKit
set_option linter.unusedSimpArgs false
set_option linter.unusedVariables false

/-- j of the numbers are copied -/
def cpL (xs : List Int) (j : Nat) : List Int := xs.take j ++ noughts (xs.length - j)
theorem cpL_zero (xs : List Int) : cpL xs 0 = noughts xs.length := by simp [cpL]
theorem cpL_all (xs : List Int) : cpL xs xs.length = xs := by simp [cpL, noughts]
theorem cpL_len (xs : List Int) (j : Nat) (h : j ≤ xs.length) : (cpL xs j).length = xs.length := by simp [cpL, noughts]; omega
theorem cpL_step (xs : List Int) (j : Nat) (h : j < xs.length) : cpL xs (j + 1) = (cpL xs j).set j xs[j] := by
  have hl : (xs.take j).length = j := by simp; omega
  have e : noughts (xs.length - j) = 0 :: noughts (xs.length - (j + 1)) := by
    unfold noughts
    rw [show xs.length - j = (xs.length - (j + 1)) + 1 by omega, List.replicate_succ]
  unfold cpL
  rw [e, List.take_succ_eq_append_getElem h, List.append_assoc, List.set_append_right _ _ (by omega), hl, Nat.sub_self]
  rfl

end Go.Proofs.Ytlifkfemdknndaa
