/-
  At every code FnReqSame answers true, and its argument reads as it read; no condition.
-/
import Derived.Test.YtdjmjdljgdagcaaRows
import Derived.Test.YtdjmjdljgdagcaaLReqSame
import Derived.Test.YtdjmjdljgdagcaaImplU
namespace Go.Proofs.Ytdjmjdljgdagcaa.fnReqSame

theorem proved : Rows.FnReqSameSaid := proved_of impl_ReqSlave
end Go.Proofs.Ytdjmjdljgdagcaa.fnReqSame
