/-
  AtmState: an argument, opened.
-/
import Derived.Test.YtpamjkkghghggaaGreatKAtmStateM
import Derived.Test.YtpamjkkghghggaaGreatKOpen
/-
  MemMem: an argument, opened.
-/
namespace Go.Proofs.YtpamjkkghghggaaGreat
open Go.ChangeShapes Go.WideShapes Go.ChangeAt Go.RowKit Go.Deep Go.Joins
set_option linter.unusedSimpArgs false
set_option linter.unusedVariables false

set_option maxRecDepth 100000 in
theorem oMemMem : OpenK yMemMem 25 := by
  intro H enc W n cs y h
  obtain ⟨xs, m, _, _, hlen, hxl, hf⟩ := DataW.trod_struct Tryz.underlying25 h
  have hn : cs.length = 1 := hlen.trans (by kernel_rfl)
  clear hlen h
  match cs, hn with
  | [c0], _ =>
  match xs, hxl with
  | [y0], _ =>
  have g0 : DataW.trod enc Tryz.prog W 0 (fun _ => true) true m 23 (([c0].drop 0).take (Tryz.prog.cellsOf 23)) = some y0 := hf 0 _ rfl
  rw [show Tryz.prog.cellsOf 23 = 1 from by kernel_rfl] at g0
  obtain ⟨a0, e0, r0⟩ := oI H enc W m [c0] y0 g0
  refine ⟨a0, ?_, r0⟩
  show [c0] = yI.cells a0
  rw [← e0]

end Go.Proofs.YtpamjkkghghggaaGreat

namespace Go.Proofs.YtpamjkkghghggaaGreat
open Go.ChangeShapes Go.WideShapes Go.ChangeAt Go.RowKit Go.Deep Go.Joins
set_option linter.unusedSimpArgs false
set_option linter.unusedVariables false

set_option maxRecDepth 100000 in
theorem oAtmState : OpenK yAtmState 27 := by
  intro H enc W n cs y h
  obtain ⟨xs, m, _, _, hlen, hxl, hf⟩ := DataW.trod_struct Tryz.underlying27 h
  have hn : cs.length = 2 := hlen.trans (by kernel_rfl)
  clear hlen h
  match cs, hn with
  | [c0, c1], _ =>
  match xs, hxl with
  | [y0, y1], _ =>
  have g0 : DataW.trod enc Tryz.prog W 0 (fun _ => true) true m 25 (([c0, c1].drop 0).take (Tryz.prog.cellsOf 25)) = some y0 := hf 0 _ rfl
  rw [show Tryz.prog.cellsOf 25 = 1 from by kernel_rfl] at g0
  obtain ⟨a0, e0, r0⟩ := oMemMem H enc W m [c0] y0 g0
  have g1 : DataW.trod enc Tryz.prog W 0 (fun _ => true) true m 23 (([c0, c1].drop 1).take (Tryz.prog.cellsOf 23)) = some y1 := hf 1 _ rfl
  rw [show Tryz.prog.cellsOf 23 = 1 from by kernel_rfl] at g1
  obtain ⟨a1, e1, r1⟩ := oI H enc W m [c1] y1 g1
  refine ⟨(a0, a1), ?_, ⟨r0, r1⟩⟩
  show [c0, c1] = yMemMem.cells a0 ++ (yI.cells a1)
  rw [← e0, ← e1]
  rfl

end Go.Proofs.YtpamjkkghghggaaGreat
