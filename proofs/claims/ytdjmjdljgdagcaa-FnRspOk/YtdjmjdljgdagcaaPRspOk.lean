/-
  At every code FnRspOk answers true, and its argument reads as it read; no condition.
-/
import Derived.Test.YtdjmjdljgdagcaaRows
import Derived.Test.YtdjmjdljgdagcaaLRspOk
import Derived.Test.YtdjmjdljgdagcaaImplS
namespace Go.Proofs.Ytdjmjdljgdagcaa.fnRspOk

theorem proved : Rows.FnRspOkSaid := proved_of impl_RspOk
end Go.Proofs.Ytdjmjdljgdagcaa.fnRspOk
