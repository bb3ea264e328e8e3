/-
  What is asked, and what comes of it: ReqOk and RspOk of the model.
-/
import Derived.Test.YtpjfkimgienkbabProg
import Derived.Test.YtpjfkimgienkbabPureQ
import Derived.Test.YtpjfkimgienkbabAdr
import Derived.Test.YtpjfkimgienkbabIRow
namespace Go.Proofs.Ytpjfkimgienkbab
open Go.RowKit
set_option linter.unusedSimpArgs false
set_option linter.unusedVariables false

/-- the value of what is asked -/
def reqV (r : Req) (pd : Option Addr) (cd : Nat) (pl : Option Addr) (cl : Nat) : Value :=
  .agg #[.int .i64 r.id, .int .i64 r.kind, .int .i64 r.addr, .int .i64 r.many, .bool r.wrap, .slice pd r.data.length cd, .slice pl r.lanes.length cl]
/-- its words and lanes lie in memory -/
structure ReqAt (w : World) (r : Req) (pd : Option Addr) (cd : Nat) (pl : Option Addr) (cl : Nat) : Prop where
  data : IntsAt w pd r.data
  lanes : IntsAt w pl r.lanes
  cd1 : r.data.length ≤ cd
  cd2 : cd ≤ 9223372036854775807
  cl1 : r.lanes.length ≤ cl
  cl2 : cl ≤ 9223372036854775807
theorem ReqAt.below {w w' : World} {r : Req} {pd pl : Option Addr} {cd cl : Nat} (h : ReqAt w r pd cd pl cl) (hb : Below w.heap.size w w') : ReqAt w' r pd cd pl cl :=
  ⟨h.data.below hb, h.lanes.below hb, h.cd1, h.cd2, h.cl1, h.cl2⟩

/-- ReqOk in the walk's own words -/
theorem reqOk_eq (r : Req) : reqOkB r = (inB r.id 0 1 && (inB r.kind 1 4 && adrOkB r.addr r.many r.wrap) && ((!(decide (3 ≤ r.kind)) || !(r.many != 1)) &&
    (if writesB r then ((r.data.length : Int) == r.many) && (((r.lanes.length : Int) == r.many) && (allIn r.data 0 65535 && allIn r.lanes 0 3)) else ((r.data.length : Int) == 0) && ((r.lanes.length : Int) == 0)))) := by
  have e1 : reqOneB r = (!(decide (3 ≤ r.kind)) || !(r.many != 1)) := by
    rw [Bool.eq_iff_iff]; simp [reqOneB]
  have e2 : ∀ a b : Int, decide (a = b) = (a == b) := fun a b => by rw [Bool.eq_iff_iff]; simp
  have e3 : ∀ n : Nat, decide (n = 0) = ((n : Int) == 0) := fun n => by rw [Bool.eq_iff_iff]; simp
  unfold reqOkB reqHeadB reqWordsB reqNoneB
  rw [e1, e2, e2, e3, e3]

/-- a variable of seven cells, behind a call -/
theorem box7 {w w1 : World} {v0 v1 v2 v3 v4 v5 v6 : Value} {t : TypeId} (hb : Below (w.alloc (.cells #[v0, v1, v2, v3, v4, v5, v6] t)).heap.size (w.alloc (.cells #[v0, v1, v2, v3, v4, v5, v6] t)) w1) :
    w1.cell? ⟨w.heap.size, 0, none⟩ = some v0 ∧ w1.cell? ⟨w.heap.size, 1, none⟩ = some v1 ∧ w1.cell? ⟨w.heap.size, 2, none⟩ = some v2 ∧ w1.cell? ⟨w.heap.size, 3, none⟩ = some v3 ∧
    w1.cell? ⟨w.heap.size, 4, none⟩ = some v4 ∧ w1.cell? ⟨w.heap.size, 5, none⟩ = some v5 ∧ w1.cell? ⟨w.heap.size, 6, none⟩ = some v6 := by
  have h : ∀ i, w1.cell? ⟨w.heap.size, i, none⟩ = #[v0, v1, v2, v3, v4, v5, v6][i]? := fun i => (hb.cell (p := ⟨w.heap.size, i, none⟩) (by simp)).trans (by simp)
  exact ⟨h 0, h 1, h 2, h 3, h 4, h 5, h 6⟩

end Go.Proofs.Ytpjfkimgienkbab
