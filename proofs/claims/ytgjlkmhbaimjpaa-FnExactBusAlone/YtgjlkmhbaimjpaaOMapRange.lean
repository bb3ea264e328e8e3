/-
  MapRange: an argument, opened.
-/
import Derived.Test.YtgjlkmhbaimjpaaKMapRange
import Derived.Test.YtgjlkmhbaimjpaaKOpen
namespace Go.Proofs.Ytgjlkmhbaimjpaa
open Go.ChangeShapes Go.WideShapes Go.ChangeAt Go.RowKit Go.Deep Go.Joins
set_option linter.unusedSimpArgs false
set_option linter.unusedVariables false

set_option maxRecDepth 100000 in
theorem oMapRange : OpenK yMapRange 123 := by
  intro H enc W n cs y h
  obtain ⟨xs, m, _, _, hlen, hxl, hf⟩ := DataW.trod_struct Try.underlying123 h
  have hn : cs.length = 4 := hlen.trans (by kernel_rfl)
  clear hlen h
  match cs, hn with
  | [c0, c1, c2, c3], _ =>
  match xs, hxl with
  | [y0, y1, y2, y3], _ =>
  have g0 : DataW.trod enc Try.prog W 0 (fun _ => true) true m 3 (([c0, c1, c2, c3].drop 0).take (Try.prog.cellsOf 3)) = some y0 := hf 0 _ rfl
  rw [show Try.prog.cellsOf 3 = 1 from by kernel_rfl] at g0
  obtain ⟨a0, e0, r0⟩ := oInt H enc W m [c0] y0 g0
  have g1 : DataW.trod enc Try.prog W 0 (fun _ => true) true m 3 (([c0, c1, c2, c3].drop 1).take (Try.prog.cellsOf 3)) = some y1 := hf 1 _ rfl
  rw [show Try.prog.cellsOf 3 = 1 from by kernel_rfl] at g1
  obtain ⟨a1, e1, r1⟩ := oInt H enc W m [c1] y1 g1
  have g2 : DataW.trod enc Try.prog W 0 (fun _ => true) true m 3 (([c0, c1, c2, c3].drop 2).take (Try.prog.cellsOf 3)) = some y2 := hf 2 _ rfl
  rw [show Try.prog.cellsOf 3 = 1 from by kernel_rfl] at g2
  obtain ⟨a2, e2, r2⟩ := oInt H enc W m [c2] y2 g2
  have g3 : DataW.trod enc Try.prog W 0 (fun _ => true) true m 4 (([c0, c1, c2, c3].drop 3).take (Try.prog.cellsOf 4)) = some y3 := hf 3 _ rfl
  rw [show Try.prog.cellsOf 4 = 1 from by kernel_rfl] at g3
  obtain ⟨a3, e3, r3⟩ := oBool H enc W m [c3] y3 g3
  refine ⟨(a0, a1, a2, a3), ?_, ⟨r0, r1, r2, r3⟩⟩
  show [c0, c1, c2, c3] = gInt.cells a0 ++ (gInt.cells a1 ++ (gInt.cells a2 ++ (gBool.cells a3)))
  rw [← e0, ← e1, ← e2, ← e3]
  rfl

theorem oMapRangeS : OpenK yMapRangeS 22 := oLst Try.underlying22 (by kernel_rfl) yMapRange_law oMapRange

end Go.Proofs.Ytgjlkmhbaimjpaa
