/-
  toReqReq: a copy of what is asked, its words and lanes in memory of their own.
-/
import Derived.Test.YtpbkpfdbdfnlbaaGreatProg
import Derived.Test.YtpbkpfdbdfnlbaaGreatReqM
namespace Go.Proofs.YtpbkpfdbdfnlbaaGreat
open Go.RowKit
set_option linter.unusedSimpArgs false
set_option linter.unusedVariables false

theorem at_new {w : World} {n : Nat} (o : Obj) (h : n = w.heap.size) : (w.alloc o).heap[n]? = some o := by
  subst h; show (w.heap.push _)[w.heap.size]? = _; simp

set_option maxRecDepth 100000 in
set_option maxHeartbeats 2000000 in
theorem toReq_own (r : Req) (pd pl : Option Addr) (cd cl : Nat) (w : World) (h : ReqAt w r pd cd pl cl) (hd : r.data.length ≤ 1048576) (hl : r.lanes.length ≤ 1048576) :
    Calls Tryz.prog 11 #[reqV r pd cd pl cl] w fun e w' => ∃ g1 g2, e = .returned (reqV r (some ⟨g1, 0, none⟩) r.data.length (some ⟨g2, 0, none⟩) r.lanes.length) ∧ ReqAt w' r (some ⟨g1, 0, none⟩) r.data.length (some ⟨g2, 0, none⟩) r.lanes.length ∧ w.heap.size ≤ g1 ∧ w.heap.size ≤ g2 ∧ Below w.heap.size w w' ∧ ORow 3 1 w' g1 r.data.length r.data.length (r.data.map (Value.int .i64)) ∧ ORow 3 1 w' g2 r.lanes.length r.lanes.length (r.lanes.map (Value.int .i64)) ∧ g1 ≠ g2 := by
  have hbl : ∀ o o' o'', Below w.heap.size w (((w.alloc o).alloc o').alloc o'') := fun o o' o'' => (((Below.refl _ w).alloc (Nat.le_refl _) o).alloc (by simp) o').alloc (by simp <;> omega) o''
  have HA := Hid.intro h
  clear h
  unfold reqV
  go_enter Tryz.func11, Tryz.ntmps11
  go_wp2_with fail
  refine (toInts_any pd cd r.data _ (HA.out.below (hbl _ _ _)).data HA.out.cd1 HA.out.cd2 hd).mono ?_
  rintro e w1 ⟨rfl, hO1, hb1⟩
  have hs1 := hb1.size
  have hl1 := hO1.lt
  simp only [World.size_alloc, Nat.add_assoc, Nat.reduceAdd] at hO1 hs1 hl1 ⊢
  have bI : w1.heap[w.heap.size]? = some (.cells #[.int .i64 r.id, .int .i64 r.kind, .int .i64 r.addr, .int .i64 r.many, .bool r.wrap, (.slice pd r.data.length cd), (.slice pl r.lanes.length cl)] 29 (0, 0)) := (hb1.block w.heap.size (by simp <;> omega)).trans ((Below.heap_alloc _ _ _ (by simp <;> omega)).trans ((Below.heap_alloc _ _ _ (by simp)).trans (at_new _ rfl)))
  have bR : w1.heap[w.heap.size + 1]? = some (.cells #[.int .i64 0, .int .i64 0, .int .i64 0, .int .i64 0, .bool false, .slice none 0 0, .slice none 0 0] 43 (0, 0)) := (hb1.block (w.heap.size + 1) (by simp <;> omega)).trans ((Below.heap_alloc _ _ _ (by simp)).trans (at_new _ (by simp)))
  have bO : w1.heap[w.heap.size + 2]? = some (.cells #[.int .i64 r.id, .int .i64 r.kind, .int .i64 r.addr, .int .i64 r.many, .bool r.wrap, (.slice none 0 0), (.slice none 0 0)] 43 (0, 0)) := (hb1.block (w.heap.size + 2) (by simp)).trans (at_new _ (by simp))
  have hb1' := (hbl _ _ _).trans (hb1.mono (hbl _ _ _).size)
  clear hb1
  have c6 : w1.cell? ⟨w.heap.size, 6, none⟩ = some (.slice pl r.lanes.length cl) := heap_cell bI 6
  have o5 : w1.cell? ⟨w.heap.size + 2, 5, none⟩ = some (.slice none 0 0) := heap_cell bO 5
  have fo5 : w1.frozen? ⟨w.heap.size + 2, 5, none⟩ = false := heap_free bO 5
  go_wp2_with fail
  have bO2 : (w1.setCell ⟨w.heap.size + 2, 5, none⟩ (.slice (some ⟨w.heap.size + 3, 0, none⟩) r.data.length r.data.length)).heap[w.heap.size + 2]? = some (.cells #[.int .i64 r.id, .int .i64 r.kind, .int .i64 r.addr, .int .i64 r.many, .bool r.wrap, (.slice (some ⟨w.heap.size + 3, 0, none⟩) r.data.length r.data.length), (.slice none 0 0)] 43 (0, 0)) := by simpa using heap_set bO 5 (.slice (some ⟨w.heap.size + 3, 0, none⟩) r.data.length r.data.length)
  have bR2 := (heap_set_ne (w := w1) (b := w.heap.size + 2) (k := w.heap.size + 1) (i := 5) (v := (.slice (some ⟨w.heap.size + 3, 0, none⟩) r.data.length r.data.length)) (by omega)).trans bR
  have hO2 := hO1.of (heap_set_ne (w := w1) (b := w.heap.size + 2) (k := w.heap.size + 3) (i := 5) (v := (.slice (some ⟨w.heap.size + 3, 0, none⟩) r.data.length r.data.length)) (by omega))
  have hb2 := hb1'.setCell (p := ⟨w.heap.size + 2, 5, none⟩) (by simp) (.slice (some ⟨w.heap.size + 3, 0, none⟩) r.data.length r.data.length)
  have hs2 : (w1.setCell ⟨w.heap.size + 2, 5, none⟩ (.slice (some ⟨w.heap.size + 3, 0, none⟩) r.data.length r.data.length)).heap.size = w1.heap.size := by simp
  refine (toInts_any pl cl r.lanes _ (HA.out.below hb2).lanes HA.out.cl1 HA.out.cl2 hl).mono ?_
  rintro e w3 ⟨rfl, hO3, hb3⟩
  have hs3 := hb3.size
  rw [hs2] at hO3 hs3 ⊢
  have bO3 := (hb3.block (w.heap.size + 2) (by rw [hs2]; omega)).trans bO2
  have bR3 := (hb3.block (w.heap.size + 1) (by rw [hs2]; omega)).trans bR2
  have hO23 := hO2.of (hb3.block (w.heap.size + 3) (by rw [hs2]; omega))
  have hb3' := hb2.trans (hb3.mono hb2.size)
  have hl3 := hO3.lt
  clear hb3 hb2 bI bR bO bO2 bR2 hO1 hO2 c6 o5 fo5 hb1'
  have o0 : w3.cell? ⟨w.heap.size + 2, 0, none⟩ = some (.int .i64 r.id) := heap_cell bO3 0
  have fo0 : w3.frozen? ⟨w.heap.size + 2, 0, none⟩ = false := heap_free bO3 0
  have o1 : w3.cell? ⟨w.heap.size + 2, 1, none⟩ = some (.int .i64 r.kind) := heap_cell bO3 1
  have fo1 : w3.frozen? ⟨w.heap.size + 2, 1, none⟩ = false := heap_free bO3 1
  have o2 : w3.cell? ⟨w.heap.size + 2, 2, none⟩ = some (.int .i64 r.addr) := heap_cell bO3 2
  have fo2 : w3.frozen? ⟨w.heap.size + 2, 2, none⟩ = false := heap_free bO3 2
  have o3 : w3.cell? ⟨w.heap.size + 2, 3, none⟩ = some (.int .i64 r.many) := heap_cell bO3 3
  have fo3 : w3.frozen? ⟨w.heap.size + 2, 3, none⟩ = false := heap_free bO3 3
  have o4 : w3.cell? ⟨w.heap.size + 2, 4, none⟩ = some (.bool r.wrap) := heap_cell bO3 4
  have fo4 : w3.frozen? ⟨w.heap.size + 2, 4, none⟩ = false := heap_free bO3 4
  have o5 : w3.cell? ⟨w.heap.size + 2, 5, none⟩ = some (.slice (some ⟨w.heap.size + 3, 0, none⟩) r.data.length r.data.length) := heap_cell bO3 5
  have fo5 : w3.frozen? ⟨w.heap.size + 2, 5, none⟩ = false := heap_free bO3 5
  have o6 : w3.cell? ⟨w.heap.size + 2, 6, none⟩ = some (.slice none 0 0) := heap_cell bO3 6
  have fo6 : w3.frozen? ⟨w.heap.size + 2, 6, none⟩ = false := heap_free bO3 6
  have bO4 : (w3.setCell ⟨w.heap.size + 2, 6, none⟩ (.slice (some ⟨w1.heap.size, 0, none⟩) r.lanes.length r.lanes.length)).heap[w.heap.size + 2]? = some (.cells #[.int .i64 r.id, .int .i64 r.kind, .int .i64 r.addr, .int .i64 r.many, .bool r.wrap, (.slice (some ⟨w.heap.size + 3, 0, none⟩) r.data.length r.data.length), (.slice (some ⟨w1.heap.size, 0, none⟩) r.lanes.length r.lanes.length)] 43 (0, 0)) := by simpa using heap_set bO3 6 (.slice (some ⟨w1.heap.size, 0, none⟩) r.lanes.length r.lanes.length)
  have bR4 := (heap_set_ne (w := w3) (b := w.heap.size + 2) (k := w.heap.size + 1) (i := 6) (v := (.slice (some ⟨w1.heap.size, 0, none⟩) r.lanes.length r.lanes.length)) (by omega)).trans bR3
  have q0 : w3.cell? ⟨w.heap.size + 1, 0, none⟩ = some (.int .i64 0) := heap_cell bR3 0
  have fq0 : w3.frozen? ⟨w.heap.size + 1, 0, none⟩ = false := heap_free bR3 0
  have q1 : w3.cell? ⟨w.heap.size + 1, 1, none⟩ = some (.int .i64 0) := heap_cell bR3 1
  have fq1 : w3.frozen? ⟨w.heap.size + 1, 1, none⟩ = false := heap_free bR3 1
  have q2 : w3.cell? ⟨w.heap.size + 1, 2, none⟩ = some (.int .i64 0) := heap_cell bR3 2
  have fq2 : w3.frozen? ⟨w.heap.size + 1, 2, none⟩ = false := heap_free bR3 2
  have q3 : w3.cell? ⟨w.heap.size + 1, 3, none⟩ = some (.int .i64 0) := heap_cell bR3 3
  have fq3 : w3.frozen? ⟨w.heap.size + 1, 3, none⟩ = false := heap_free bR3 3
  have q4 : w3.cell? ⟨w.heap.size + 1, 4, none⟩ = some (.bool false) := heap_cell bR3 4
  have fq4 : w3.frozen? ⟨w.heap.size + 1, 4, none⟩ = false := heap_free bR3 4
  have q5 : w3.cell? ⟨w.heap.size + 1, 5, none⟩ = some (.slice none 0 0) := heap_cell bR3 5
  have fq5 : w3.frozen? ⟨w.heap.size + 1, 5, none⟩ = false := heap_free bR3 5
  have q6 : w3.cell? ⟨w.heap.size + 1, 6, none⟩ = some (.slice none 0 0) := heap_cell bR3 6
  have fq6 : w3.frozen? ⟨w.heap.size + 1, 6, none⟩ = false := heap_free bR3 6
  have hf := heap_set (heap_set (heap_set (heap_set (heap_set (heap_set (heap_set bR4 0 (.int .i64 r.id)) 1 (.int .i64 r.kind)) 2 (.int .i64 r.addr)) 3 (.int .i64 r.many)) 4 (.bool r.wrap)) 5 (.slice (some ⟨w.heap.size + 3, 0, none⟩) r.data.length r.data.length)) 6 (.slice (some ⟨w1.heap.size, 0, none⟩) r.lanes.length r.lanes.length)
  have r0 := heap_cell hf 0
  have r1 := heap_cell hf 1
  have r2 := heap_cell hf 2
  have r3 := heap_cell hf 3
  have r4 := heap_cell hf 4
  have r5 := heap_cell hf 5
  have r6 := heap_cell hf 6
  simp at r0 r1 r2 r3 r4 r5 r6
  have hne : ∀ k, k ≠ w.heap.size + 1 → k ≠ w.heap.size + 2 → ((((((((w3.setCell ⟨w.heap.size + 2, 6, none⟩ (.slice (some ⟨w1.heap.size, 0, none⟩) r.lanes.length r.lanes.length)).setCell ⟨w.heap.size + 1, 0, none⟩ (.int .i64 r.id)).setCell ⟨w.heap.size + 1, 1, none⟩ (.int .i64 r.kind)).setCell ⟨w.heap.size + 1, 2, none⟩ (.int .i64 r.addr)).setCell ⟨w.heap.size + 1, 3, none⟩ (.int .i64 r.many)).setCell ⟨w.heap.size + 1, 4, none⟩ (.bool r.wrap)).setCell ⟨w.heap.size + 1, 5, none⟩ (.slice (some ⟨w.heap.size + 3, 0, none⟩) r.data.length r.data.length)).setCell ⟨w.heap.size + 1, 6, none⟩ (.slice (some ⟨w1.heap.size, 0, none⟩) r.lanes.length r.lanes.length)).heap[k]? = w3.heap[k]? := fun k h1 h2 => ((heap_set_ne h1).trans ((heap_set_ne h1).trans ((heap_set_ne h1).trans ((heap_set_ne h1).trans ((heap_set_ne h1).trans ((heap_set_ne h1).trans (heap_set_ne h1))))))).trans (heap_set_ne h2)
  have HP : Hid (ReqAt ((((((((w3.setCell ⟨w.heap.size + 2, 6, none⟩ (.slice (some ⟨w1.heap.size, 0, none⟩) r.lanes.length r.lanes.length)).setCell ⟨w.heap.size + 1, 0, none⟩ (.int .i64 r.id)).setCell ⟨w.heap.size + 1, 1, none⟩ (.int .i64 r.kind)).setCell ⟨w.heap.size + 1, 2, none⟩ (.int .i64 r.addr)).setCell ⟨w.heap.size + 1, 3, none⟩ (.int .i64 r.many)).setCell ⟨w.heap.size + 1, 4, none⟩ (.bool r.wrap)).setCell ⟨w.heap.size + 1, 5, none⟩ (.slice (some ⟨w.heap.size + 3, 0, none⟩) r.data.length r.data.length)).setCell ⟨w.heap.size + 1, 6, none⟩ (.slice (some ⟨w1.heap.size, 0, none⟩) r.lanes.length r.lanes.length)) r (some ⟨w.heap.size + 3, 0, none⟩) r.data.length (some ⟨w1.heap.size, 0, none⟩) r.lanes.length) :=
    ⟨(hO23.of (hne _ (by omega) (by omega))).ints, (hO3.of (hne _ (by omega) (by omega))).ints, Nat.le_refl _, by omega, Nat.le_refl _, by omega⟩
  have HP2 : Hid (ORow 3 1 ((((((((w3.setCell ⟨w.heap.size + 2, 6, none⟩ (.slice (some ⟨w1.heap.size, 0, none⟩) r.lanes.length r.lanes.length)).setCell ⟨w.heap.size + 1, 0, none⟩ (.int .i64 r.id)).setCell ⟨w.heap.size + 1, 1, none⟩ (.int .i64 r.kind)).setCell ⟨w.heap.size + 1, 2, none⟩ (.int .i64 r.addr)).setCell ⟨w.heap.size + 1, 3, none⟩ (.int .i64 r.many)).setCell ⟨w.heap.size + 1, 4, none⟩ (.bool r.wrap)).setCell ⟨w.heap.size + 1, 5, none⟩ (.slice (some ⟨w.heap.size + 3, 0, none⟩) r.data.length r.data.length)).setCell ⟨w.heap.size + 1, 6, none⟩ (.slice (some ⟨w1.heap.size, 0, none⟩) r.lanes.length r.lanes.length)) (w.heap.size + 3) r.data.length r.data.length (r.data.map (Value.int .i64)) ∧ ORow 3 1 ((((((((w3.setCell ⟨w.heap.size + 2, 6, none⟩ (.slice (some ⟨w1.heap.size, 0, none⟩) r.lanes.length r.lanes.length)).setCell ⟨w.heap.size + 1, 0, none⟩ (.int .i64 r.id)).setCell ⟨w.heap.size + 1, 1, none⟩ (.int .i64 r.kind)).setCell ⟨w.heap.size + 1, 2, none⟩ (.int .i64 r.addr)).setCell ⟨w.heap.size + 1, 3, none⟩ (.int .i64 r.many)).setCell ⟨w.heap.size + 1, 4, none⟩ (.bool r.wrap)).setCell ⟨w.heap.size + 1, 5, none⟩ (.slice (some ⟨w.heap.size + 3, 0, none⟩) r.data.length r.data.length)).setCell ⟨w.heap.size + 1, 6, none⟩ (.slice (some ⟨w1.heap.size, 0, none⟩) r.lanes.length r.lanes.length)) w1.heap.size r.lanes.length r.lanes.length (r.lanes.map (Value.int .i64))) := ⟨hO23.of (hne _ (by omega) (by omega)), hO3.of (hne _ (by omega) (by omega))⟩
  have HB : Hid (Below w.heap.size w ((((((((w3.setCell ⟨w.heap.size + 2, 6, none⟩ (.slice (some ⟨w1.heap.size, 0, none⟩) r.lanes.length r.lanes.length)).setCell ⟨w.heap.size + 1, 0, none⟩ (.int .i64 r.id)).setCell ⟨w.heap.size + 1, 1, none⟩ (.int .i64 r.kind)).setCell ⟨w.heap.size + 1, 2, none⟩ (.int .i64 r.addr)).setCell ⟨w.heap.size + 1, 3, none⟩ (.int .i64 r.many)).setCell ⟨w.heap.size + 1, 4, none⟩ (.bool r.wrap)).setCell ⟨w.heap.size + 1, 5, none⟩ (.slice (some ⟨w.heap.size + 3, 0, none⟩) r.data.length r.data.length)).setCell ⟨w.heap.size + 1, 6, none⟩ (.slice (some ⟨w1.heap.size, 0, none⟩) r.lanes.length r.lanes.length))) := ((((((((hb3'.setCell (p := ⟨w.heap.size + 2, 6, none⟩) (by simp) _).setCell (p := ⟨w.heap.size + 1, 0, none⟩) (by simp) _).setCell (p := ⟨w.heap.size + 1, 1, none⟩) (by simp) _).setCell (p := ⟨w.heap.size + 1, 2, none⟩) (by simp) _).setCell (p := ⟨w.heap.size + 1, 3, none⟩) (by simp) _).setCell (p := ⟨w.heap.size + 1, 4, none⟩) (by simp) _).setCell (p := ⟨w.heap.size + 1, 5, none⟩) (by simp) _).setCell (p := ⟨w.heap.size + 1, 6, none⟩) (by simp) _)
  clear hf hne hO23 hO3 bO3 bR3 bO4 bR4 hb3' HA
  go_wp2
  refine bodyPost_ret (v := .agg #[.int .i64 r.id, .int .i64 r.kind, .int .i64 r.addr, .int .i64 r.many, .bool r.wrap, (.slice (some ⟨w.heap.size + 3, 0, none⟩) r.data.length r.data.length), (.slice (some ⟨w1.heap.size, 0, none⟩) r.lanes.length r.lanes.length)]) (by simp [results, Tryz.results11, go_sem, r0, r1, r2, r3, r4, r5, r6]) rfl ⟨w.heap.size + 3, w1.heap.size, rfl, HP.out, by omega, by omega, HB.out, HP2.out.1, HP2.out.2, by omega⟩
theorem toReq_any (r : Req) (pd pl : Option Addr) (cd cl : Nat) (w : World) (h : ReqAt w r pd cd pl cl) (hd : r.data.length ≤ 1048576) (hl : r.lanes.length ≤ 1048576) :
    Calls Tryz.prog 11 #[reqV r pd cd pl cl] w fun e w' => ∃ g1 g2, e = .returned (reqV r (some ⟨g1, 0, none⟩) r.data.length (some ⟨g2, 0, none⟩) r.lanes.length) ∧ ReqAt w' r (some ⟨g1, 0, none⟩) r.data.length (some ⟨g2, 0, none⟩) r.lanes.length ∧ w.heap.size ≤ g1 ∧ w.heap.size ≤ g2 ∧ Below w.heap.size w w' :=
  (toReq_own r pd pl cd cl w h hd hl).mono (by rintro e w' ⟨g1, g2, h1, h2, h3, h4, h5, _⟩; exact ⟨g1, g2, h1, h2, h3, h4, h5⟩)

end Go.Proofs.YtpbkpfdbdfnlbaaGreat
