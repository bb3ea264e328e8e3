/-
  l5Rsp of the model: what came of something, in new memory.
-/
import Derived.Test.YtlifkfemdknndaaKTlmJobM
import Derived.Test.YtlifkfemdknndaaKndDM
import Derived.Test.YtlifkfemdknndaaTypedL
namespace Go.Proofs.Ytlifkfemdknndaa
open Go.RowKit
set_option linter.unusedSimpArgs false
set_option linter.unusedVariables false

theorem nw_below (w : World) (o : Obj) : Below w.heap.size w (w.alloc o) := (Below.refl _ w).alloc (Nat.le_refl _) o
def kEmp : World → Value → Prop := fun w v => ∃ g, v = .slice (some ⟨g, 0, none⟩) 0 0 ∧ w.heap[g]? = some (.cells #[] 3 (0, 0))
def kCpI (M : Nat) (ys : List Int) : World → Value → Prop := fun w v => ∃ p c, v = .slice p ys.length c ∧ Fresh yI M w ⟨p, c, ys⟩
def kRspC (M : Nat) (i0 i1 : Int) (ys : List Int) : World → Value → Prop := fun w v => ∃ p c, v = .agg #[.int .i64 i0, .int .i64 i1, .slice p ys.length c] ∧ Fresh yI M w ⟨p, c, ys⟩
theorem kEmp_gr {w w' : World} {v : Value} (hg : Gr w w') (h : kEmp w v) : kEmp w' v := by obtain ⟨g, e, h1⟩ := h; exact ⟨g, e, hg.cells h1⟩
theorem kCpI_gr {M : Nat} {ys : List Int} {w w' : World} {v : Value} (hg : Gr w w') (h : kCpI M ys w v) : kCpI M ys w' v := by obtain ⟨p, c, e, h1⟩ := h; exact ⟨p, c, e, h1.below yI_law hg⟩
theorem kRspC_gr {M : Nat} {i0 i1 : Int} {ys : List Int} {w w' : World} {v : Value} (hg : Gr w w') (h : kRspC M i0 i1 ys w v) : kRspC M i0 i1 ys w' v := by obtain ⟨p, c, e, h1⟩ := h; exact ⟨p, c, e, h1.below yI_law hg⟩

end Go.Proofs.Ytlifkfemdknndaa
