/-
  RspOk of the program.
-/
import Derived.Test.YtcjlmdjiddadfaaImplUM
namespace Go.Proofs.Ytcjlmdjiddadfaa
open Go.RowKit
set_option linter.unusedSimpArgs false
set_option linter.unusedVariables false

set_option maxRecDepth 100000 in
set_option maxHeartbeats 1000000 in
theorem impl_RspOk : RspOkC := by
  intro r p c w h
  have hbl : ∀ o, Below w.heap.size w (w.alloc o) := fun o => (Below.refl _ w).alloc (Nat.le_refl _) o
  have HE := Hid.intro (rspOk_eq r)
  have HL := Hid.intro (fun o => allAre_w p c r.data (w.alloc o) (h.below (hbl _)).data h.c1 h.c2)
  clear h
  unfold rspV
  cases h1 : inB r.id 0 1
  · go_enter Try.func28, Try.ntmps28
    go_wp2_with (go_at_call 68; refine (nameOk_any _ _).mono ?_; rintro e w' ⟨rfl, rfl⟩)
    go_ret
    exact ⟨by rw [HE.out, h1]; rfl, hbl _⟩
  cases h2 : inB r.code 1 4
  · go_enter Try.func28, Try.ntmps28
    go_wp2_with (first | (go_at_call 68; refine (nameOk_any _ _).mono ?_; rintro e w' ⟨rfl, rfl⟩) | (go_at_call 69; refine (codeOk_any _ _).mono ?_; rintro e w' ⟨rfl, rfl⟩))
    go_ret
    exact ⟨by rw [HE.out, h1, h2]; rfl, hbl _⟩
  cases h3 : decide ((r.data.length : Int) ≤ 4)
  · go_enter Try.func28, Try.ntmps28
    go_wp2_with (first | (go_at_call 68; refine (nameOk_any _ _).mono ?_; rintro e w' ⟨rfl, rfl⟩) | (go_at_call 69; refine (codeOk_any _ _).mono ?_; rintro e w' ⟨rfl, rfl⟩))
    go_ret
    exact ⟨by rw [HE.out, h1, h2, h3]; rfl, hbl _⟩
  go_enter Try.func28, Try.ntmps28
  go_wp2_with (first | (go_at_call 68; refine (nameOk_any _ _).mono ?_; rintro e w' ⟨rfl, rfl⟩) | (go_at_call 69; refine (codeOk_any _ _).mono ?_; rintro e w' ⟨rfl, rfl⟩) | (go_at_call 66; refine (HL.out _).mono ?_; rintro e w' ⟨rfl, rfl⟩))
  go_ret
  exact ⟨by rw [HE.out, h1, h2, h3]; rfl, hbl _⟩

end Go.Proofs.Ytcjlmdjiddadfaa
