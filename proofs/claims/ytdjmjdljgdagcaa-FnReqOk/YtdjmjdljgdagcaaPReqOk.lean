/-
  At every code FnReqOk answers true, and its argument reads as it read; no condition.
-/
import Derived.Test.YtdjmjdljgdagcaaRows
import Derived.Test.YtdjmjdljgdagcaaLReqOk
import Derived.Test.YtdjmjdljgdagcaaImplR
namespace Go.Proofs.Ytdjmjdljgdagcaa.fnReqOk

theorem proved : Rows.FnReqOkSaid := proved_of impl_ReqOk
end Go.Proofs.Ytdjmjdljgdagcaa.fnReqOk
