/-
  BusApart, by kinds.
-/
import Derived.Test.YtgjlkmhbaimjpaaApI
namespace Go.Proofs.Ytgjlkmhbaimjpaa
open Go.RowKit
theorem spec_BusApartK (c : Lst (Int × Int × Int × Bool) × Lst Int × Lst (Lst (Int × Int × Int × Int × Bool × Lst Int × Lst Int))) (who : Int) (w : World) (h : yBusCfg.rd w c) (_ : yBusCfg.size c ≤ 1048576) :
    Calls Try.prog 23 #[yBusCfg.val c, .int .i64 who] w fun e w' => e = .returned (.bool (busApartP (yBusCfg.pl c) who)) ∧ Below w.heap.size w w' := spec_BusApart c who w h
theorem impl_BusApartK (hI : ReqOkC) (hS : ReqSlaveC) (c : Lst (Int × Int × Int × Bool) × Lst Int × Lst (Lst (Int × Int × Int × Int × Bool × Lst Int × Lst Int))) (who : Int) (w : World) (h : yBusCfg.rd w c) (_ : yBusCfg.size c ≤ 1048576) :
    Calls Try.prog 24 #[yBusCfg.val c, .int .i64 who] w fun e w' => e = .returned (.bool (busApartP (yBusCfg.pl c) who)) ∧ Below w.heap.size w w' := impl_BusApart hI hS c who w h
end Go.Proofs.Ytgjlkmhbaimjpaa
