/-
  The laws' own values of what comes of something: their size, a copy, whether two are the same; an argument, opened.
-/
import Derived.Test.YtpbkpfdbdfnlbaaGreatRows
import Derived.Test.YtpbkpfdbdfnlbaaGreatReqS
import Derived.Test.YtpbkpfdbdfnlbaaGreatReqT
import Derived.Test.YtpbkpfdbdfnlbaaGreatOpenI
import Derived.Test.YtpbkpfdbdfnlbaaGreatOpenQ
namespace Go.Proofs.YtpbkpfdbdfnlbaaGreat
open Go.ChangeShapes Go.WideShapes Go.ChangeAt Go.RowKit Go.Deep Go.Joins
set_option linter.unusedSimpArgs false
set_option linter.unusedVariables false

set_option maxRecDepth 100000 in
set_option maxHeartbeats 1000000 in
theorem eqRsp_same (r : Rsp) (pd qd : Option Addr) (cd ed : Nat) (w : World) (h : RspAt w r pd cd) (k : RspAt w r qd ed) :
    Calls Tryz.prog 14 #[rspV r pd cd, rspV r qd ed] w fun e w' => e = .returned (.bool true) ∧ Below w.heap.size w w' := by
  have hbl : ∀ o o', Below w.heap.size w ((w.alloc o).alloc o') := fun o o' => ((Below.refl _ w).alloc (Nat.le_refl _) o).alloc (by simp) o'
  have hA := h.below (hbl (.cells #[.int .i64 r.id, .int .i64 r.code, (.slice pd r.data.length cd)] 37) (.cells #[.int .i64 r.id, .int .i64 r.code, (.slice qd r.data.length ed)] 37))
  have hK := k.below (hbl (.cells #[.int .i64 r.id, .int .i64 r.code, (.slice pd r.data.length cd)] 37) (.cells #[.int .i64 r.id, .int .i64 r.code, (.slice qd r.data.length ed)] 37))
  have HA := Hid.intro hA
  have HK := Hid.intro hK
  clear h k hA hK
  unfold rspV
  go_enter Tryz.func14, Tryz.ntmps14
  go_wp2_with fail
  refine (eqIntS_same pd qd cd ed r.data _ HA.out.data HK.out.data HA.out.c1 HA.out.c2 HK.out.c1 HK.out.c2).mono ?_
  rintro e w1 ⟨rfl, hb1⟩
  have hb1' := (hbl _ _).trans (hb1.mono (hbl _ _).size)
  clear hb1 HA HK
  go_wp2
  go_ret
  exact ⟨rfl, hb1'⟩

end Go.Proofs.YtpbkpfdbdfnlbaaGreat
