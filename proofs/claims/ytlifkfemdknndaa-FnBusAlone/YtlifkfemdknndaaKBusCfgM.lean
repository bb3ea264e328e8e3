/-
  BusCfg: the laws' functions, by contract of kinds.
-/
import Derived.Test.YtlifkfemdknndaaKndI
import Derived.Test.YtlifkfemdknndaaKndLM
import Derived.Test.YtlifkfemdknndaaOpsXM
/-
  MapRange: the laws' functions, by contract of kinds.
-/
namespace Go.Proofs.Ytlifkfemdknndaa
open Go.RowKit
set_option linter.unusedSimpArgs false
set_option linter.unusedVariables false

def yMapRange : Knd (Int × Int × Int × Bool) (Int × Int × Int × Bool) := gRec (gPair gInt (gPair gInt (gPair gInt gBool)))
theorem yMapRange_law : KLaw yMapRange := gRec_law (gPair_law gInt_law (gPair_law gInt_law (gPair_law gInt_law gBool_law)))
theorem yMapRange_val (f : (Int × Int × Int × Bool)) : yMapRange.val f = .agg #[.int .i64 f.1, .int .i64 f.2.1, .int .i64 f.2.2.1, .bool f.2.2.2] := rfl
theorem yMapRange_cells (f : (Int × Int × Int × Bool)) : yMapRange.cells f = [.int .i64 f.1, .int .i64 f.2.1, .int .i64 f.2.2.1, .bool f.2.2.2] := rfl

def yMapRangeS : Knd (Lst (Int × Int × Int × Bool)) (List (Int × Int × Int × Bool)) := gLst 70 yMapRange
theorem yMapRangeS_law : KLaw yMapRangeS := gLst_law yMapRange_law (by decide)

theorem Try.infoMapRangeS : (Try.prog.info? 70).map (fun i => (i.zero, i.size, i.bytes)) = some (some (.agg #[.int .i64 0, .int .i64 0, .int .i64 0, .bool false]), 4, 32) := by kernel_rfl

end Go.Proofs.Ytlifkfemdknndaa

/-
  ReqReq: the laws' functions, by contract of kinds.
-/
namespace Go.Proofs.Ytlifkfemdknndaa
open Go.RowKit
set_option linter.unusedSimpArgs false
set_option linter.unusedVariables false

def yReqReq : Knd (Int × Int × Int × Int × Bool × (Lst Int) × (Lst Int)) (Int × Int × Int × Int × Bool × (List Int) × (List Int)) := gRec (gPair gInt (gPair gInt (gPair gInt (gPair gInt (gPair gBool (gPair yI yI))))))
theorem yReqReq_law : KLaw yReqReq := gRec_law (gPair_law gInt_law (gPair_law gInt_law (gPair_law gInt_law (gPair_law gInt_law (gPair_law gBool_law (gPair_law yI_law yI_law))))))
theorem yReqReq_val (f : (Int × Int × Int × Int × Bool × (Lst Int) × (Lst Int))) : yReqReq.val f = .agg #[.int .i64 f.1, .int .i64 f.2.1, .int .i64 f.2.2.1, .int .i64 f.2.2.2.1, .bool f.2.2.2.2.1, .slice f.2.2.2.2.2.1.p f.2.2.2.2.2.1.l.length f.2.2.2.2.2.1.c, .slice f.2.2.2.2.2.2.p f.2.2.2.2.2.2.l.length f.2.2.2.2.2.2.c] := rfl
theorem yReqReq_cells (f : (Int × Int × Int × Int × Bool × (Lst Int) × (Lst Int))) : yReqReq.cells f = [.int .i64 f.1, .int .i64 f.2.1, .int .i64 f.2.2.1, .int .i64 f.2.2.2.1, .bool f.2.2.2.2.1, .slice f.2.2.2.2.2.1.p f.2.2.2.2.2.1.l.length f.2.2.2.2.2.1.c, .slice f.2.2.2.2.2.2.p f.2.2.2.2.2.2.l.length f.2.2.2.2.2.2.c] := rfl

def yReqReqS : Knd (Lst (Int × Int × Int × Int × Bool × (Lst Int) × (Lst Int))) (List (Int × Int × Int × Int × Bool × (List Int) × (List Int))) := gLst 40 yReqReq
theorem yReqReqS_law : KLaw yReqReqS := gLst_law yReqReq_law (by decide)

theorem Try.infoReqReqS : (Try.prog.info? 40).map (fun i => (i.zero, i.size, i.bytes)) = some (some (.agg #[.int .i64 0, .int .i64 0, .int .i64 0, .int .i64 0, .bool false, .slice none 0 0, .slice none 0 0]), 7, 88) := by kernel_rfl

def yReqReqSS : Knd (Lst (Lst (Int × Int × Int × Int × Bool × (Lst Int) × (Lst Int)))) (List (List (Int × Int × Int × Int × Bool × (List Int) × (List Int)))) := gLst 31 yReqReqS
theorem yReqReqSS_law : KLaw yReqReqSS := gLst_law yReqReqS_law (by decide)

theorem Try.infoReqReqSS : (Try.prog.info? 31).map (fun i => (i.zero, i.size, i.bytes)) = some (some (.slice none 0 0), 1, 24) := by kernel_rfl

end Go.Proofs.Ytlifkfemdknndaa

namespace Go.Proofs.Ytlifkfemdknndaa
open Go.RowKit
set_option linter.unusedSimpArgs false
set_option linter.unusedVariables false

def yBusCfg : Knd ((Lst (Int × Int × Int × Bool)) × (Lst Int) × (Lst (Lst (Int × Int × Int × Int × Bool × (Lst Int) × (Lst Int))))) ((List (Int × Int × Int × Bool)) × (List Int) × (List (List (Int × Int × Int × Int × Bool × (List Int) × (List Int))))) := gRec (gPair yMapRangeS (gPair yI yReqReqSS))
theorem yBusCfg_law : KLaw yBusCfg := gRec_law (gPair_law yMapRangeS_law (gPair_law yI_law yReqReqSS_law))
theorem yBusCfg_val (f : ((Lst (Int × Int × Int × Bool)) × (Lst Int) × (Lst (Lst (Int × Int × Int × Int × Bool × (Lst Int) × (Lst Int)))))) : yBusCfg.val f = .agg #[.slice f.1.p f.1.l.length f.1.c, .slice f.2.1.p f.2.1.l.length f.2.1.c, .slice f.2.2.p f.2.2.l.length f.2.2.c] := rfl
theorem yBusCfg_cells (f : ((Lst (Int × Int × Int × Bool)) × (Lst Int) × (Lst (Lst (Int × Int × Int × Int × Bool × (Lst Int) × (Lst Int)))))) : yBusCfg.cells f = [.slice f.1.p f.1.l.length f.1.c, .slice f.2.1.p f.2.1.l.length f.2.1.c, .slice f.2.2.p f.2.2.l.length f.2.2.c] := rfl

end Go.Proofs.Ytlifkfemdknndaa
