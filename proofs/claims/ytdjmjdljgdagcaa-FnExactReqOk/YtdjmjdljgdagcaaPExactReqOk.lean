/-
  At every thing that is asked FnExactReqOk answers true, and its argument reads as it read; no condition.
-/
import Derived.Test.YtdjmjdljgdagcaaRows
import Derived.Test.YtdjmjdljgdagcaaLXReqOk
import Derived.Test.YtdjmjdljgdagcaaImplR
namespace Go.Proofs.Ytdjmjdljgdagcaa.fnExactReqOk

theorem proved : Rows.FnExactReqOkSaid := proved_of impl_ReqOk
end Go.Proofs.Ytdjmjdljgdagcaa.fnExactReqOk
