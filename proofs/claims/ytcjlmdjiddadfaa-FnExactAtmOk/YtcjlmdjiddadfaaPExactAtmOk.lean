/-
  At every argument FnExactAtmOk answers true, and its argument reads as it read; no condition.
-/
import Derived.Test.YtcjlmdjiddadfaaRows
import Derived.Test.YtcjlmdjiddadfaaLXAtmOk
import Derived.Test.YtcjlmdjiddadfaaImpA
namespace Go.Proofs.Ytcjlmdjiddadfaa.fnExactAtmOk

theorem proved : Rows.FnExactAtmOkSaid := proved_of impl_AtmOk
end Go.Proofs.Ytcjlmdjiddadfaa.fnExactAtmOk
