/-
  BusCfg: the laws' functions, by contract of kinds.
-/
import Derived.Test.YtlifkfemdknndaaKMapRange
import Derived.Test.YtlifkfemdknndaaKReqReq
import Derived.Test.YtlifkfemdknndaaKndI
import Derived.Test.YtlifkfemdknndaaKndLM
import Derived.Test.YtlifkfemdknndaaOpsXM
namespace Go.Proofs.Ytlifkfemdknndaa
open Go.RowKit
set_option linter.unusedSimpArgs false
set_option linter.unusedVariables false

def yBusCfg : Knd ((Lst (Int × Int × Int × Bool)) × (Lst Int) × (Lst (Lst (Int × Int × Int × Int × Bool × (Lst Int) × (Lst Int))))) ((List (Int × Int × Int × Bool)) × (List Int) × (List (List (Int × Int × Int × Int × Bool × (List Int) × (List Int))))) := gRec (gPair yMapRangeS (gPair yI yReqReqSS))
theorem yBusCfg_law : KLaw yBusCfg := gRec_law (gPair_law yMapRangeS_law (gPair_law yI_law yReqReqSS_law))
theorem yBusCfg_val (f : ((Lst (Int × Int × Int × Bool)) × (Lst Int) × (Lst (Lst (Int × Int × Int × Int × Bool × (Lst Int) × (Lst Int)))))) : yBusCfg.val f = .agg #[.slice f.1.p f.1.l.length f.1.c, .slice f.2.1.p f.2.1.l.length f.2.1.c, .slice f.2.2.p f.2.2.l.length f.2.2.c] := rfl
theorem yBusCfg_cells (f : ((Lst (Int × Int × Int × Bool)) × (Lst Int) × (Lst (Lst (Int × Int × Int × Int × Bool × (Lst Int) × (Lst Int)))))) : yBusCfg.cells f = [.slice f.1.p f.1.l.length f.1.c, .slice f.2.1.p f.2.1.l.length f.2.1.c, .slice f.2.2.p f.2.2.l.length f.2.2.c] := rfl

end Go.Proofs.Ytlifkfemdknndaa
