/-
  What ReqOk, RspOk and ReqSlave of the program are asked to answer.
-/
import Derived.Test.YtdjmjdljgdagcaaProg
import Derived.Test.YtdjmjdljgdagcaaReqS
namespace Go.Proofs.Ytdjmjdljgdagcaa
open Go.RowKit

/-- ReqOk of the program answers so -/
def ReqOkC : Prop := ∀ (r : Req) (pd pl : Option Addr) (cd cl : Nat) (w : World), ReqAt w r pd cd pl cl → Calls Try.prog 21 #[reqV r pd cd pl cl] w fun e w' => e = .returned (.bool (reqOkB r)) ∧ Below w.heap.size w w'

/-- RspOk of the program answers so -/
def RspOkC : Prop := ∀ (r : Rsp) (p : Option Addr) (c : Nat) (w : World), RspAt w r p c → Calls Try.prog 30 #[rspV r p c] w fun e w' => e = .returned (.bool (rspOkB r)) ∧ Below w.heap.size w w'

/-- ReqSlave of the program answers so -/
def ReqSlaveC : Prop := ∀ (a : Option Addr) (cap : Nat) (ms : List Rng) (r : Req) (pd pl : Option Addr) (cd cl : Nat) (w : World), RowOf w a ms → ms.length ≤ cap → cap ≤ 9223372036854775807 → ReqAt w r pd cd pl cl →
    Calls Try.prog 24 #[.slice a ms.length cap, reqV r pd cd pl cl] w fun e w' => e = .returned (.int .i64 (reqSlaveZ ms r)) ∧ Below w.heap.size w w'

end Go.Proofs.Ytdjmjdljgdagcaa
