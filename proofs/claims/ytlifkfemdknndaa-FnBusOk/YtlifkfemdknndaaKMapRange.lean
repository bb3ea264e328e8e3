/-
  MapRange: the laws' functions, by contract of kinds.
-/
import Derived.Test.YtlifkfemdknndaaKndI
import Derived.Test.YtlifkfemdknndaaKndLM
import Derived.Test.YtlifkfemdknndaaOpsXM
namespace Go.Proofs.Ytlifkfemdknndaa
open Go.RowKit
set_option linter.unusedSimpArgs false
set_option linter.unusedVariables false

def yMapRange : Knd (Int × Int × Int × Bool) (Int × Int × Int × Bool) := gRec (gPair gInt (gPair gInt (gPair gInt gBool)))
theorem yMapRange_law : KLaw yMapRange := gRec_law (gPair_law gInt_law (gPair_law gInt_law (gPair_law gInt_law gBool_law)))
theorem yMapRange_val (f : (Int × Int × Int × Bool)) : yMapRange.val f = .agg #[.int .i64 f.1, .int .i64 f.2.1, .int .i64 f.2.2.1, .bool f.2.2.2] := rfl
theorem yMapRange_cells (f : (Int × Int × Int × Bool)) : yMapRange.cells f = [.int .i64 f.1, .int .i64 f.2.1, .int .i64 f.2.2.1, .bool f.2.2.2] := rfl

def yMapRangeS : Knd (Lst (Int × Int × Int × Bool)) (List (Int × Int × Int × Bool)) := gLst 70 yMapRange
theorem yMapRangeS_law : KLaw yMapRangeS := gLst_law yMapRange_law (by decide)

theorem Try.infoMapRangeS : (Try.prog.info? 70).map (fun i => (i.zero, i.size, i.bytes)) = some (some (.agg #[.int .i64 0, .int .i64 0, .int .i64 0, .bool false]), 4, 32) := by kernel_rfl

end Go.Proofs.Ytlifkfemdknndaa
