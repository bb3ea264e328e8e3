/-
  Two boxes, one behind the other.
-/
import Derived.Test.YtpamjkkghghggaaGreatWld
import Derived.Test.YtpamjkkghghggaaGreatSpcA
import Derived.Test.YtpamjkkghghggaaGreatPureT
namespace Go.Proofs.YtpamjkkghghggaaGreat
open Go.RowKit
set_option linter.unusedSimpArgs false
set_option linter.unusedVariables false

theorem below_two (w : World) (o o' : Obj) : Below w.heap.size w ((w.alloc o).alloc o') := ((Below.refl _ w).alloc (Nat.le_refl _) o).alloc (by simp) o'
theorem two_at0 (w : World) (o o' : Obj) : ((w.alloc o).alloc o').heap[w.heap.size]? = some o := (Below.heap_alloc _ _ _ (by simp)).trans (nw_at _ rfl)
theorem two_at1 (w : World) (o o' : Obj) : ((w.alloc o).alloc o').heap[w.heap.size + 1]? = some o' := nw_at _ (by simp)
/-- AtmDo at an answer that is known -/
theorem atmF_at {F : Nat} (hF : AtmDoF F) {a : Option Addr} {c : Nat} {ms : List Rng} {s : Stt} {pw ph : Option Addr} {cw ch : Nat} {who : Int} {r : Req} {pd pl : Option Addr} {cd cl : Nat} {W : World} {zs : Stt} {zr : Rsp} (hZ : atmZ ms s who r = (zs, zr))
    (hM : RowOf W a ms) (xc : ms.length ≤ c) (xm : c ≤ 9223372036854775807) (hS : StAt W s pw cw ph ch) (hR : ReqAt W r pd cd pl cl) :
    Calls Tryz.prog F #[.slice a ms.length c, stV s pw cw ph ch, .int .i64 who, reqV r pd cd pl cl] W fun e w' => ∃ qw dw qh dh qx dx, e = .returned (.tuple #[stV zs qw dw qh dh, rspV zr qx dx]) ∧ AtmOut W.heap.size w' zs zr qw dw qh dh qx dx ∧ Below W.heap.size W w' := by
  have := hF a c ms s pw ph cw ch who r pd pl cd cl W hM xc xm hS hR
  rw [hZ] at this
  exact this

end Go.Proofs.YtpamjkkghghggaaGreat
