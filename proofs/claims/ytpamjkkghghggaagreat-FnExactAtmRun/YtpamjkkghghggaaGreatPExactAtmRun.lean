/-
  FnExactAtmRun: at every argument the function answers as its model, it writes into no argument, and its answer owns its memory.
-/
import Derived.Test.YtpamjkkghghggaaGreatRows
import Derived.Test.YtpamjkkghghggaaGreatLXAtmRun
import Derived.Test.YtpamjkkghghggaaGreatRunIM
namespace Go.Proofs.YtpamjkkghghggaaGreat
theorem fnExactAtmRun.proved : Rows.FnExactAtmRunSaid := fnExactAtmRun.proved_of impl_AtmRun
end Go.Proofs.YtpamjkkghghggaaGreat
