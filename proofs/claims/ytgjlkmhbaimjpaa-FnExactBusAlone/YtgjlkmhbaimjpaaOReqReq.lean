/-
  ReqReq: an argument, opened.
-/
import Derived.Test.YtgjlkmhbaimjpaaKOpen
import Derived.Test.YtgjlkmhbaimjpaaKReqReq
namespace Go.Proofs.Ytgjlkmhbaimjpaa
open Go.ChangeShapes Go.WideShapes Go.ChangeAt Go.RowKit Go.Deep Go.Joins
set_option linter.unusedSimpArgs false
set_option linter.unusedVariables false

set_option maxRecDepth 100000 in
theorem oReqReq : OpenK yReqReq 155 := by
  intro H enc W n cs y h
  obtain ⟨xs, m, _, _, hlen, hxl, hf⟩ := DataW.trod_struct Try.underlying155 h
  have hn : cs.length = 7 := hlen.trans (by kernel_rfl)
  clear hlen h
  match cs, hn with
  | [c0, c1, c2, c3, c4, c5, c6], _ =>
  match xs, hxl with
  | [y0, y1, y2, y3, y4, y5, y6], _ =>
  have g0 : DataW.trod enc Try.prog W 0 (fun _ => true) true m 3 (([c0, c1, c2, c3, c4, c5, c6].drop 0).take (Try.prog.cellsOf 3)) = some y0 := hf 0 _ rfl
  rw [show Try.prog.cellsOf 3 = 1 from by kernel_rfl] at g0
  obtain ⟨a0, e0, r0⟩ := oInt H enc W m [c0] y0 g0
  have g1 : DataW.trod enc Try.prog W 0 (fun _ => true) true m 3 (([c0, c1, c2, c3, c4, c5, c6].drop 1).take (Try.prog.cellsOf 3)) = some y1 := hf 1 _ rfl
  rw [show Try.prog.cellsOf 3 = 1 from by kernel_rfl] at g1
  obtain ⟨a1, e1, r1⟩ := oInt H enc W m [c1] y1 g1
  have g2 : DataW.trod enc Try.prog W 0 (fun _ => true) true m 3 (([c0, c1, c2, c3, c4, c5, c6].drop 2).take (Try.prog.cellsOf 3)) = some y2 := hf 2 _ rfl
  rw [show Try.prog.cellsOf 3 = 1 from by kernel_rfl] at g2
  obtain ⟨a2, e2, r2⟩ := oInt H enc W m [c2] y2 g2
  have g3 : DataW.trod enc Try.prog W 0 (fun _ => true) true m 3 (([c0, c1, c2, c3, c4, c5, c6].drop 3).take (Try.prog.cellsOf 3)) = some y3 := hf 3 _ rfl
  rw [show Try.prog.cellsOf 3 = 1 from by kernel_rfl] at g3
  obtain ⟨a3, e3, r3⟩ := oInt H enc W m [c3] y3 g3
  have g4 : DataW.trod enc Try.prog W 0 (fun _ => true) true m 4 (([c0, c1, c2, c3, c4, c5, c6].drop 4).take (Try.prog.cellsOf 4)) = some y4 := hf 4 _ rfl
  rw [show Try.prog.cellsOf 4 = 1 from by kernel_rfl] at g4
  obtain ⟨a4, e4, r4⟩ := oBool H enc W m [c4] y4 g4
  have g5 : DataW.trod enc Try.prog W 0 (fun _ => true) true m 23 (([c0, c1, c2, c3, c4, c5, c6].drop 5).take (Try.prog.cellsOf 23)) = some y5 := hf 5 _ rfl
  rw [show Try.prog.cellsOf 23 = 1 from by kernel_rfl] at g5
  obtain ⟨a5, e5, r5⟩ := oI H enc W m [c5] y5 g5
  have g6 : DataW.trod enc Try.prog W 0 (fun _ => true) true m 23 (([c0, c1, c2, c3, c4, c5, c6].drop 6).take (Try.prog.cellsOf 23)) = some y6 := hf 6 _ rfl
  rw [show Try.prog.cellsOf 23 = 1 from by kernel_rfl] at g6
  obtain ⟨a6, e6, r6⟩ := oI H enc W m [c6] y6 g6
  refine ⟨(a0, a1, a2, a3, a4, a5, a6), ?_, ⟨r0, r1, r2, r3, r4, r5, r6⟩⟩
  show [c0, c1, c2, c3, c4, c5, c6] = gInt.cells a0 ++ (gInt.cells a1 ++ (gInt.cells a2 ++ (gInt.cells a3 ++ (gBool.cells a4 ++ (yI.cells a5 ++ (yI.cells a6))))))
  rw [← e0, ← e1, ← e2, ← e3, ← e4, ← e5, ← e6]
  rfl

theorem oReqReqS : OpenK yReqReqS 118 := oLst Try.underlying118 (by kernel_rfl) yReqReq_law oReqReq

theorem oReqReqSS : OpenK yReqReqSS 24 := oLst Try.underlying24 (by kernel_rfl) yReqReqS_law oReqReqS

end Go.Proofs.Ytgjlkmhbaimjpaa
