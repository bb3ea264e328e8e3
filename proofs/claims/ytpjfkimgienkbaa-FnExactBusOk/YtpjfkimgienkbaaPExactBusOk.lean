/-
  FnExactBusOk: at every argument the function answers as its model, it writes into no argument, and its answer owns its memory.
-/
import Derived.Test.YtpjfkimgienkbaaRows
import Derived.Test.YtpjfkimgienkbaaLXBusOk
import Derived.Test.YtpjfkimgienkbaaImplUM
namespace Go.Proofs.Ytpjfkimgienkbaa
theorem fnExactBusOk.proved : Rows.FnExactBusOkSaid := fnExactBusOk.proved_of impl_ReqOk
end Go.Proofs.Ytpjfkimgienkbaa
