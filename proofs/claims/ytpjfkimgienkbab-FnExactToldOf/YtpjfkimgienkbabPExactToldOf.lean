/-
  FnExactToldOf: at every argument the function answers as its model, it writes into no argument, and its answer owns its memory.
-/
import Derived.Test.YtpjfkimgienkbabRows
import Derived.Test.YtpjfkimgienkbabLXToldOf
namespace Go.Proofs.Ytpjfkimgienkbab
theorem fnExactToldOf.proved : Rows.FnExactToldOfSaid := fnExactToldOf.proved_of trivial
end Go.Proofs.Ytpjfkimgienkbab
