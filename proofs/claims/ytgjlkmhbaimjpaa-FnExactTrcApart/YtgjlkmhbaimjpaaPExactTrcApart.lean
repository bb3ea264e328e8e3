/-
  FnExactTrcApart: at every argument the function answers as its model, it writes into no argument, and its answer owns its memory.
-/
import Derived.Test.YtgjlkmhbaimjpaaRows
import Derived.Test.YtgjlkmhbaimjpaaLXTrcApart
import Derived.Test.YtgjlkmhbaimjpaaImplUM
namespace Go.Proofs.Ytgjlkmhbaimjpaa
theorem fnExactTrcApart.proved : Rows.FnExactTrcApartSaid := fnExactTrcApart.proved_of impl_ReqOk
end Go.Proofs.Ytgjlkmhbaimjpaa
