/-
  FnExactTrcOf: at every argument the function answers as its model, it writes into no argument, and its answer owns its memory.
-/
import Derived.Test.YtgjlkmhbaimjpaaRows
import Derived.Test.YtgjlkmhbaimjpaaLXTrcOf
namespace Go.Proofs.Ytgjlkmhbaimjpaa
theorem fnExactTrcOf.proved : Rows.FnExactTrcOfSaid := fnExactTrcOf.proved_of trivial
end Go.Proofs.Ytgjlkmhbaimjpaa
