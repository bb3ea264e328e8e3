/-
  FnExactBusApart: at every argument the function answers as its model, it writes into no argument, and its answer owns its memory.
-/
import Derived.Test.YtgjlkmhbaimjpaaRows
import Derived.Test.YtgjlkmhbaimjpaaLXBusApart
import Derived.Test.YtgjlkmhbaimjpaaImplUM
namespace Go.Proofs.Ytgjlkmhbaimjpaa
theorem fnExactBusApart.proved : Rows.FnExactBusApartSaid := fnExactBusApart.proved_of ⟨impl_ReqOk, impl_ReqSlave⟩
end Go.Proofs.Ytgjlkmhbaimjpaa
