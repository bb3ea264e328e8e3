/-
  At every answer FnExactRspOk answers true, and its argument reads as it read; no condition.
-/
import Derived.Test.YtdjmjdljgdagcaaRows
import Derived.Test.YtdjmjdljgdagcaaLXRspOk
import Derived.Test.YtdjmjdljgdagcaaImplS
namespace Go.Proofs.Ytdjmjdljgdagcaa.fnExactRspOk

theorem proved : Rows.FnExactRspOkSaid := proved_of impl_RspOk
end Go.Proofs.Ytdjmjdljgdagcaa.fnExactRspOk
