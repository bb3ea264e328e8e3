/-
  TlmJob: the laws' functions, by contract of kinds.
-/
import Derived.Test.YtlifkfemdknndaaKndI
import Derived.Test.YtlifkfemdknndaaKndLM
import Derived.Test.YtlifkfemdknndaaOpsXM
/-
  RspRsp: the laws' functions, by contract of kinds.
-/
namespace Go.Proofs.Ytlifkfemdknndaa
open Go.RowKit
set_option linter.unusedSimpArgs false
set_option linter.unusedVariables false

def yRspRsp : Knd (Int × Int × (Lst Int)) (Int × Int × (List Int)) := gRec (gPair gInt (gPair gInt yI))
theorem yRspRsp_law : KLaw yRspRsp := gRec_law (gPair_law gInt_law (gPair_law gInt_law yI_law))
theorem yRspRsp_val (f : (Int × Int × (Lst Int))) : yRspRsp.val f = .agg #[.int .i64 f.1, .int .i64 f.2.1, .slice f.2.2.p f.2.2.l.length f.2.2.c] := rfl
theorem yRspRsp_cells (f : (Int × Int × (Lst Int))) : yRspRsp.cells f = [.int .i64 f.1, .int .i64 f.2.1, .slice f.2.2.p f.2.2.l.length f.2.2.c] := rfl

def yRspRspS : Knd (Lst (Int × Int × (Lst Int))) (List (Int × Int × (List Int))) := gLst 49 yRspRsp
theorem yRspRspS_law : KLaw yRspRspS := gLst_law yRspRsp_law (by decide)

theorem Try.infoRspRspS : (Try.prog.info? 49).map (fun i => (i.zero, i.size, i.bytes)) = some (some (.agg #[.int .i64 0, .int .i64 0, .slice none 0 0]), 3, 40) := by kernel_rfl

end Go.Proofs.Ytlifkfemdknndaa

namespace Go.Proofs.Ytlifkfemdknndaa
open Go.RowKit
set_option linter.unusedSimpArgs false
set_option linter.unusedVariables false

def yTlmJob : Knd (Int × Int × (Int × Int × (Lst Int))) (Int × Int × (Int × Int × (List Int))) := gRec (gPair gInt (gPair gInt yRspRsp))
theorem yTlmJob_law : KLaw yTlmJob := gRec_law (gPair_law gInt_law (gPair_law gInt_law yRspRsp_law))
theorem yTlmJob_val (f : (Int × Int × (Int × Int × (Lst Int)))) : yTlmJob.val f = .agg #[.int .i64 f.1, .int .i64 f.2.1, .int .i64 f.2.2.1, .int .i64 f.2.2.2.1, .slice f.2.2.2.2.p f.2.2.2.2.l.length f.2.2.2.2.c] := rfl
theorem yTlmJob_cells (f : (Int × Int × (Int × Int × (Lst Int)))) : yTlmJob.cells f = [.int .i64 f.1, .int .i64 f.2.1, .int .i64 f.2.2.1, .int .i64 f.2.2.2.1, .slice f.2.2.2.2.p f.2.2.2.2.l.length f.2.2.2.2.c] := rfl

end Go.Proofs.Ytlifkfemdknndaa
