/-
  BusCfg: an argument, opened.
-/
import Derived.Test.YtgjlkmhbaimjpaaKBusCfg
import Derived.Test.YtgjlkmhbaimjpaaKOpen
import Derived.Test.YtgjlkmhbaimjpaaOMapRange
import Derived.Test.YtgjlkmhbaimjpaaOReqReq
namespace Go.Proofs.Ytgjlkmhbaimjpaa
open Go.ChangeShapes Go.WideShapes Go.ChangeAt Go.RowKit Go.Deep Go.Joins
set_option linter.unusedSimpArgs false
set_option linter.unusedVariables false

set_option maxRecDepth 100000 in
theorem oBusCfg : OpenK yBusCfg 26 := by
  intro H enc W n cs y h
  obtain ⟨xs, m, _, _, hlen, hxl, hf⟩ := DataW.trod_struct Try.underlying26 h
  have hn : cs.length = 3 := hlen.trans (by kernel_rfl)
  clear hlen h
  match cs, hn with
  | [c0, c1, c2], _ =>
  match xs, hxl with
  | [y0, y1, y2], _ =>
  have g0 : DataW.trod enc Try.prog W 0 (fun _ => true) true m 22 (([c0, c1, c2].drop 0).take (Try.prog.cellsOf 22)) = some y0 := hf 0 _ rfl
  rw [show Try.prog.cellsOf 22 = 1 from by kernel_rfl] at g0
  obtain ⟨a0, e0, r0⟩ := oMapRangeS H enc W m [c0] y0 g0
  have g1 : DataW.trod enc Try.prog W 0 (fun _ => true) true m 23 (([c0, c1, c2].drop 1).take (Try.prog.cellsOf 23)) = some y1 := hf 1 _ rfl
  rw [show Try.prog.cellsOf 23 = 1 from by kernel_rfl] at g1
  obtain ⟨a1, e1, r1⟩ := oI H enc W m [c1] y1 g1
  have g2 : DataW.trod enc Try.prog W 0 (fun _ => true) true m 24 (([c0, c1, c2].drop 2).take (Try.prog.cellsOf 24)) = some y2 := hf 2 _ rfl
  rw [show Try.prog.cellsOf 24 = 1 from by kernel_rfl] at g2
  obtain ⟨a2, e2, r2⟩ := oReqReqSS H enc W m [c2] y2 g2
  refine ⟨(a0, a1, a2), ?_, ⟨r0, r1, r2⟩⟩
  show [c0, c1, c2] = yMapRangeS.cells a0 ++ (yI.cells a1 ++ (yReqReqSS.cells a2))
  rw [← e0, ← e1, ← e2]
  rfl

end Go.Proofs.Ytgjlkmhbaimjpaa
