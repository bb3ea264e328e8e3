/-
  At all ranges and every thing that is asked FnExactReqSlave answers true, and its arguments read as they read; no condition.
-/
import Derived.Test.YtdjmjdljgdagcaaRows
import Derived.Test.YtdjmjdljgdagcaaLXReqSlave
import Derived.Test.YtdjmjdljgdagcaaImplU
namespace Go.Proofs.Ytdjmjdljgdagcaa.fnExactReqSlave

theorem proved : Rows.FnExactReqSlaveSaid := proved_of impl_ReqSlave
end Go.Proofs.Ytdjmjdljgdagcaa.fnExactReqSlave
