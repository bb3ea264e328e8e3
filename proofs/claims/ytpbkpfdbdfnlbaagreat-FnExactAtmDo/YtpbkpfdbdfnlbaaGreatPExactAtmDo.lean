/-
  At all ranges, every state, every who and every thing that is asked FnExactAtmDo answers true, and its arguments read as they read; no condition.
-/
import Derived.Test.YtpbkpfdbdfnlbaaGreatRows
import Derived.Test.YtpbkpfdbdfnlbaaGreatLXAtmDo
import Derived.Test.YtpbkpfdbdfnlbaaGreatImpKM
namespace Go.Proofs.YtpbkpfdbdfnlbaaGreat.fnExactAtmDo

theorem proved : Rows.FnExactAtmDoSaid := proved_of impl_AtmDo
end Go.Proofs.YtpbkpfdbdfnlbaaGreat.fnExactAtmDo
