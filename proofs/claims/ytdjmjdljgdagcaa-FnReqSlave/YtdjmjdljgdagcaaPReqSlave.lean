/-
  At every code FnReqSlave answers true, and its argument reads as it read; no condition.
-/
import Derived.Test.YtdjmjdljgdagcaaRows
import Derived.Test.YtdjmjdljgdagcaaLReqSlave
import Derived.Test.YtdjmjdljgdagcaaImplU
namespace Go.Proofs.Ytdjmjdljgdagcaa.fnReqSlave

theorem proved : Rows.FnReqSlaveSaid := proved_of impl_ReqSlave
end Go.Proofs.Ytdjmjdljgdagcaa.fnReqSlave
