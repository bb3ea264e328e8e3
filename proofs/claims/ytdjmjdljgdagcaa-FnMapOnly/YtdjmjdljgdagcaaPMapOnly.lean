/-
  At every code FnMapOnly answers true, and its argument reads as it read; no condition.
-/
import Derived.Test.YtdjmjdljgdagcaaRows
import Derived.Test.YtdjmjdljgdagcaaLMapOnly
import Derived.Test.YtdjmjdljgdagcaaImplU
namespace Go.Proofs.Ytdjmjdljgdagcaa.fnMapOnly

theorem proved : Rows.FnMapOnlySaid := proved_of impl_ReqSlave
end Go.Proofs.Ytdjmjdljgdagcaa.fnMapOnly
