/-
  TlmJob: the laws' functions, by contract of kinds.
-/
import Derived.Test.YtgjlkmhbaimjpaaKRspRsp
import Derived.Test.YtgjlkmhbaimjpaaKndI
import Derived.Test.YtgjlkmhbaimjpaaKndLM
import Derived.Test.YtgjlkmhbaimjpaaOpsXM
namespace Go.Proofs.Ytgjlkmhbaimjpaa
open Go.RowKit
set_option linter.unusedSimpArgs false
set_option linter.unusedVariables false

def yTlmJob : Knd (Int × Int × (Int × Int × (Lst Int))) (Int × Int × (Int × Int × (List Int))) := gRec (gPair gInt (gPair gInt yRspRsp))
theorem yTlmJob_law : KLaw yTlmJob := gRec_law (gPair_law gInt_law (gPair_law gInt_law yRspRsp_law))
theorem yTlmJob_val (f : (Int × Int × (Int × Int × (Lst Int)))) : yTlmJob.val f = .agg #[.int .i64 f.1, .int .i64 f.2.1, .int .i64 f.2.2.1, .int .i64 f.2.2.2.1, .slice f.2.2.2.2.p f.2.2.2.2.l.length f.2.2.2.2.c] := rfl
theorem yTlmJob_cells (f : (Int × Int × (Int × Int × (Lst Int)))) : yTlmJob.cells f = [.int .i64 f.1, .int .i64 f.2.1, .int .i64 f.2.2.1, .int .i64 f.2.2.2.1, .slice f.2.2.2.2.p f.2.2.2.2.l.length f.2.2.2.2.c] := rfl

set_option maxRecDepth 100000 in
set_option maxHeartbeats 2000000 in
theorem yTlmJob_sz : SzC yTlmJob 93 := by
  rintro ⟨f_0, f_1, ⟨f_2_0, f_2_1, f_2_2⟩⟩ left w hr h0 h1
  have HR := Hid.intro hr
  clear hr
  have hbl : ∀ o, Below w.heap.size w (w.alloc o) := fun o => (Below.refl _ w).alloc (Nat.le_refl _) o
  show Calls Try.prog 93 #[.agg #[.int .i64 f_0, .int .i64 f_1, .int .i64 f_2_0, .int .i64 f_2_1, .slice f_2_2.p f_2_2.l.length f_2_2.c], .int .i64 left] w _
  go_enter Try.func93, Try.ntmps93
  have HC2 : Hid (∀ (left : Int) (w : World), yRspRsp.rd w (f_2_0, f_2_1, f_2_2) → 0 ≤ left → left ≤ 1048576 → Calls Try.prog 123 #[.agg #[.int .i64 f_2_0, .int .i64 f_2_1, .slice f_2_2.p f_2_2.l.length f_2_2.c], .int .i64 left] w fun e w' => (∃ z : Int, e = .returned (.int .i64 z) ∧ (z = -1 ∨ (0 ≤ z ∧ z = left - (yRspRsp.size (f_2_0, f_2_1, f_2_2) : Int)))) ∧ Below w.heap.size w w') := Hid.intro (yRspRsp_sz (f_2_0, f_2_1, f_2_2))
  go_wp2_with fail
  refine (HC2.out left _ (yRspRsp_law.rd_blw HR.out.2.2 (hbl _)) h0 (by omega)).mono ?_
  clear HC2
  rintro e w1 ⟨⟨z0, rfl, hz0⟩, hb⟩
  have bel0 : Below w.heap.size w w1 := (hbl _).trans (hb.mono (hbl _).size)
  have bA0 : w1.heap[w.heap.size]? = some (.cells #[.int .i64 f_0, .int .i64 f_1, .int .i64 f_2_0, .int .i64 f_2_1, .slice f_2_2.p f_2_2.l.length f_2_2.c] 132 (0, 0)) := (hb.block _ (by simp)).trans (nw_k _ rfl)
  clear hb
  rcases hz0 with rfl | ⟨g0, q0⟩
  · clear HR
    go_wp2
    go_ret
    exact ⟨⟨_, rfl, .inl rfl⟩, bel0⟩
  have n0 : ¬ (z0 < 0) := by omega
  have Q0 := Hid.intro q0
  have l0 : z0 ≤ 1048576 := by omega
  clear q0
  have c0 : w1.cell? ⟨w.heap.size, 0, none⟩ = some (.int .i64 f_0) := heap_cell bA0 0
  have c1 : w1.cell? ⟨w.heap.size, 1, none⟩ = some (.int .i64 f_1) := heap_cell bA0 1
  have c2 : w1.cell? ⟨w.heap.size, 2, none⟩ = some (.int .i64 f_2_0) := heap_cell bA0 2
  have c3 : w1.cell? ⟨w.heap.size, 3, none⟩ = some (.int .i64 f_2_1) := heap_cell bA0 3
  have c4 : w1.cell? ⟨w.heap.size, 4, none⟩ = some (.slice f_2_2.p f_2_2.l.length f_2_2.c) := heap_cell bA0 4
  have HS : Hid ((yTlmJob.size (f_0, f_1, (f_2_0, f_2_1, f_2_2)) : Nat) = 0 + (0 + (yRspRsp.size (f_2_0, f_2_1, f_2_2)))) := Hid.intro rfl
  clear HR
  go_wp2
  go_ret
  exact ⟨⟨_, rfl, .inr ⟨g0, by have := HS.out; have := Q0.out; omega⟩⟩, bel0⟩

set_option maxRecDepth 100000 in
set_option maxHeartbeats 2000000 in
theorem yTlmJob_eq : EqC yTlmJob 107 := by
  rintro ⟨f_0, f_1, ⟨f_2_0, f_2_1, f_2_2⟩⟩ ⟨g_0, g_1, ⟨g_2_0, g_2_1, g_2_2⟩⟩ w hr hr' hp
  have hp' : ((f_0, f_1, yRspRsp.pl (f_2_0, f_2_1, f_2_2)) : (Int × Int × (Int × Int × (List Int)))) = (g_0, g_1, yRspRsp.pl (g_2_0, g_2_1, g_2_2)) := hp
  clear hp
  simp only [Prod.mk.injEq] at hp'
  obtain ⟨rfl, rfl, p2⟩ := hp'
  have HR := Hid.intro hr
  have HQ := Hid.intro hr'
  clear hr hr'
  have hbl : ∀ o o', Below w.heap.size w ((w.alloc o).alloc o') := fun o o' => ((Below.refl _ w).alloc (Nat.le_refl _) o).alloc (by simp) o'
  show Calls Try.prog 107 #[.agg #[.int .i64 f_0, .int .i64 f_1, .int .i64 f_2_0, .int .i64 f_2_1, .slice f_2_2.p f_2_2.l.length f_2_2.c], .agg #[.int .i64 f_0, .int .i64 f_1, .int .i64 g_2_0, .int .i64 g_2_1, .slice g_2_2.p g_2_2.l.length g_2_2.c]] w _
  go_enter Try.func107, Try.ntmps107
  have HC2 : Hid (∀ (w : World), yRspRsp.rd w (f_2_0, f_2_1, f_2_2) → yRspRsp.rd w (g_2_0, g_2_1, g_2_2) → yRspRsp.pl (f_2_0, f_2_1, f_2_2) = yRspRsp.pl (g_2_0, g_2_1, g_2_2) → Calls Try.prog 129 #[.agg #[.int .i64 f_2_0, .int .i64 f_2_1, .slice f_2_2.p f_2_2.l.length f_2_2.c], .agg #[.int .i64 g_2_0, .int .i64 g_2_1, .slice g_2_2.p g_2_2.l.length g_2_2.c]] w fun e w' => e = .returned (.bool true) ∧ Below w.heap.size w w') := Hid.intro (yRspRsp_eq (f_2_0, f_2_1, f_2_2) (g_2_0, g_2_1, g_2_2))
  go_wp2_with fail
  refine (HC2.out _ (yRspRsp_law.rd_blw HR.out.2.2 (hbl _ _)) (yRspRsp_law.rd_blw HQ.out.2.2 (hbl _ _)) p2).mono ?_
  clear HC2
  rintro e w1 ⟨rfl, hb⟩
  have bel0 : Below w.heap.size w w1 := (hbl _ _).trans (hb.mono (hbl _ _).size)
  have bA0 : w1.heap[w.heap.size]? = some (.cells #[.int .i64 f_0, .int .i64 f_1, .int .i64 f_2_0, .int .i64 f_2_1, .slice f_2_2.p f_2_2.l.length f_2_2.c] 97 (0, 0)) := (hb.block _ (by simp <;> omega)).trans ((Below.heap_alloc _ _ _ (by simp)).trans (nw_k _ rfl))
  have bB0 : w1.heap[w.heap.size + 1]? = some (.cells #[.int .i64 f_0, .int .i64 f_1, .int .i64 g_2_0, .int .i64 g_2_1, .slice g_2_2.p g_2_2.l.length g_2_2.c] 97 (0, 0)) := (hb.block _ (by simp)).trans (nw_k _ (by simp))
  clear hb
  have c0 : w1.cell? ⟨w.heap.size, 0, none⟩ = some (.int .i64 f_0) := heap_cell bA0 0
  have c1 : w1.cell? ⟨w.heap.size, 1, none⟩ = some (.int .i64 f_1) := heap_cell bA0 1
  have c2 : w1.cell? ⟨w.heap.size, 2, none⟩ = some (.int .i64 f_2_0) := heap_cell bA0 2
  have c3 : w1.cell? ⟨w.heap.size, 3, none⟩ = some (.int .i64 f_2_1) := heap_cell bA0 3
  have c4 : w1.cell? ⟨w.heap.size, 4, none⟩ = some (.slice f_2_2.p f_2_2.l.length f_2_2.c) := heap_cell bA0 4
  have d0 : w1.cell? ⟨w.heap.size + 1, 0, none⟩ = some (.int .i64 f_0) := heap_cell bB0 0
  have d1 : w1.cell? ⟨w.heap.size + 1, 1, none⟩ = some (.int .i64 f_1) := heap_cell bB0 1
  have d2 : w1.cell? ⟨w.heap.size + 1, 2, none⟩ = some (.int .i64 g_2_0) := heap_cell bB0 2
  have d3 : w1.cell? ⟨w.heap.size + 1, 3, none⟩ = some (.int .i64 g_2_1) := heap_cell bB0 3
  have d4 : w1.cell? ⟨w.heap.size + 1, 4, none⟩ = some (.slice g_2_2.p g_2_2.l.length g_2_2.c) := heap_cell bB0 4
  clear HR HQ
  go_wp2
  go_ret
  exact ⟨rfl, bel0⟩

set_option maxRecDepth 100000 in
set_option maxHeartbeats 2000000 in
theorem yTlmJob_to : ToC yTlmJob 98 := by
  rintro ⟨f_0, f_1, ⟨f_2_0, f_2_1, f_2_2⟩⟩ w hr hs
  have HR := Hid.intro hr
  clear hr
  have hbl : ∀ o o' o'', Below w.heap.size w (((w.alloc o).alloc o').alloc o'') := fun o o' o'' => (((Below.refl _ w).alloc (Nat.le_refl _) o).alloc (by simp) o').alloc (by simp <;> omega) o''
  have HS : Hid (0 + (0 + (yRspRsp.size (f_2_0, f_2_1, f_2_2))) ≤ 1048576) := Hid.intro hs
  clear hs
  show Calls Try.prog 98 #[.agg #[.int .i64 f_0, .int .i64 f_1, .int .i64 f_2_0, .int .i64 f_2_1, .slice f_2_2.p f_2_2.l.length f_2_2.c]] w _
  go_enter Try.func98, Try.ntmps98
  have HC2 : Hid (∀ (w : World), yRspRsp.rd w (f_2_0, f_2_1, f_2_2) → yRspRsp.size (f_2_0, f_2_1, f_2_2) ≤ 1048576 → Calls Try.prog 124 #[.agg #[.int .i64 f_2_0, .int .i64 f_2_1, .slice f_2_2.p f_2_2.l.length f_2_2.c]] w fun e w' => ∃ a', e = .returned (yRspRsp.val a') ∧ yRspRsp.pl a' = yRspRsp.pl (f_2_0, f_2_1, f_2_2) ∧ yRspRsp.size a' = yRspRsp.size (f_2_0, f_2_1, f_2_2) ∧ Fresh yRspRsp w.heap.size w' a' ∧ Below w.heap.size w w') := Hid.intro (yRspRsp_to (f_2_0, f_2_1, f_2_2))
  go_wp2_with fail
  refine (HC2.out _ (yRspRsp_law.rd_blw HR.out.2.2 (hbl _ _ _)) (by have := HS.out; omega)).mono ?_
  clear HC2
  rintro e w1 ⟨⟨x2_0, x2_1, x2_2⟩, he, hpl2, hsz2, hf2, hb⟩
  rw [yRspRsp_val] at he
  subst he
  have hzz0 := hb.size
  simp only [World.size_alloc, Nat.add_assoc, Nat.reduceAdd] at hzz0
  have bA0 : w1.heap[w.heap.size]? = some (.cells #[.int .i64 f_0, .int .i64 f_1, .int .i64 f_2_0, .int .i64 f_2_1, .slice f_2_2.p f_2_2.l.length f_2_2.c] 132 (0, 0)) := (hb.block _ (by simp <;> omega)).trans ((Below.heap_alloc _ _ _ (by simp <;> omega)).trans ((Below.heap_alloc _ _ _ (by simp)).trans (nw_k _ rfl)))
  have bR0 : w1.heap[w.heap.size + 1]? = some (.cells #[.int .i64 0, .int .i64 0, .int .i64 0, .int .i64 0, .slice none 0 0] 97 (0, 0)) := (hb.block _ (by simp <;> omega)).trans ((Below.heap_alloc _ _ _ (by simp)).trans (nw_k _ (by simp)))
  have bO0 : w1.heap[w.heap.size + 2]? = some (.cells #[.int .i64 f_0, .int .i64 f_1, .int .i64 0, .int .i64 0, .slice none 0 0] 97 (0, 0)) := (hb.block _ (by simp)).trans (nw_k _ (by simp))
  have bel0 : Below w.heap.size w w1 := (hbl _ _ _).trans (hb.mono (hbl _ _ _).size)
  replace hf2 := hf2.mono (M' := w.heap.size + 3) (by simp <;> omega)
  have c0 : w1.cell? ⟨w.heap.size, 0, none⟩ = some (.int .i64 f_0) := heap_cell bA0 0
  have c1 : w1.cell? ⟨w.heap.size, 1, none⟩ = some (.int .i64 f_1) := heap_cell bA0 1
  have c2 : w1.cell? ⟨w.heap.size, 2, none⟩ = some (.int .i64 f_2_0) := heap_cell bA0 2
  have c3 : w1.cell? ⟨w.heap.size, 3, none⟩ = some (.int .i64 f_2_1) := heap_cell bA0 3
  have c4 : w1.cell? ⟨w.heap.size, 4, none⟩ = some (.slice f_2_2.p f_2_2.l.length f_2_2.c) := heap_cell bA0 4
  have o0 : w1.cell? ⟨w.heap.size + 2, 0, none⟩ = some (.int .i64 f_0) := heap_cell bO0 0
  have o1 : w1.cell? ⟨w.heap.size + 2, 1, none⟩ = some (.int .i64 f_1) := heap_cell bO0 1
  have o2 : w1.cell? ⟨w.heap.size + 2, 2, none⟩ = some (.int .i64 0) := heap_cell bO0 2
  have o3 : w1.cell? ⟨w.heap.size + 2, 3, none⟩ = some (.int .i64 0) := heap_cell bO0 3
  have o4 : w1.cell? ⟨w.heap.size + 2, 4, none⟩ = some (.slice none 0 0) := heap_cell bO0 4
  have fo0 : w1.frozen? ⟨w.heap.size + 2, 0, none⟩ = false := heap_free bO0 0
  have fo1 : w1.frozen? ⟨w.heap.size + 2, 1, none⟩ = false := heap_free bO0 1
  have fo2 : w1.frozen? ⟨w.heap.size + 2, 2, none⟩ = false := heap_free bO0 2
  have fo3 : w1.frozen? ⟨w.heap.size + 2, 3, none⟩ = false := heap_free bO0 3
  have fo4 : w1.frozen? ⟨w.heap.size + 2, 4, none⟩ = false := heap_free bO0 4
  have lt2 : ∀ x ∈ yRspRsp.foot (x2_0, x2_1, x2_2), x < w1.heap.size := yRspRsp_law.ow_lt hf2.ow
  clear hb
  have bR'' : (((w1.setCell ⟨w.heap.size + 2, 2, none⟩ (.int .i64 x2_0)).setCell ⟨w.heap.size + 2, 3, none⟩ (.int .i64 x2_1)).setCell ⟨w.heap.size + 2, 4, none⟩ (.slice x2_2.p x2_2.l.length x2_2.c)).heap[w.heap.size + 1]? = some (.cells #[.int .i64 0, .int .i64 0, .int .i64 0, .int .i64 0, .slice none 0 0] 97 (0, 0)) := (heap_set_ne (by omega)).trans ((heap_set_ne (by omega)).trans ((heap_set_ne (by omega)).trans (bR0)))
  have q0 : w1.cell? ⟨w.heap.size + 1, 0, none⟩ = some (.int .i64 0) := heap_cell bR0 0
  have q1 : w1.cell? ⟨w.heap.size + 1, 1, none⟩ = some (.int .i64 0) := heap_cell bR0 1
  have q2 : w1.cell? ⟨w.heap.size + 1, 2, none⟩ = some (.int .i64 0) := heap_cell bR0 2
  have q3 : w1.cell? ⟨w.heap.size + 1, 3, none⟩ = some (.int .i64 0) := heap_cell bR0 3
  have q4 : w1.cell? ⟨w.heap.size + 1, 4, none⟩ = some (.slice none 0 0) := heap_cell bR0 4
  have fq0 : w1.frozen? ⟨w.heap.size + 1, 0, none⟩ = false := heap_free bR0 0
  have fq1 : w1.frozen? ⟨w.heap.size + 1, 1, none⟩ = false := heap_free bR0 1
  have fq2 : w1.frozen? ⟨w.heap.size + 1, 2, none⟩ = false := heap_free bR0 2
  have fq3 : w1.frozen? ⟨w.heap.size + 1, 3, none⟩ = false := heap_free bR0 3
  have fq4 : w1.frozen? ⟨w.heap.size + 1, 4, none⟩ = false := heap_free bR0 4
  have hf := (heap_set (heap_set (heap_set (heap_set (heap_set bR'' 0 (.int .i64 f_0)) 1 (.int .i64 f_1)) 2 (.int .i64 x2_0)) 3 (.int .i64 x2_1)) 4 (.slice x2_2.p x2_2.l.length x2_2.c))
  have r0 := heap_cell hf 0
  have r1 := heap_cell hf 1
  have r2 := heap_cell hf 2
  have r3 := heap_cell hf 3
  have r4 := heap_cell hf 4
  simp at r0 r1 r2 r3 r4
  have hne : ∀ x, x ≠ w.heap.size + 1 → x ≠ w.heap.size + 2 → ((((((((w1.setCell ⟨w.heap.size + 2, 2, none⟩ (.int .i64 x2_0)).setCell ⟨w.heap.size + 2, 3, none⟩ (.int .i64 x2_1)).setCell ⟨w.heap.size + 2, 4, none⟩ (.slice x2_2.p x2_2.l.length x2_2.c)).setCell ⟨w.heap.size + 1, 0, none⟩ (.int .i64 f_0)).setCell ⟨w.heap.size + 1, 1, none⟩ (.int .i64 f_1)).setCell ⟨w.heap.size + 1, 2, none⟩ (.int .i64 x2_0)).setCell ⟨w.heap.size + 1, 3, none⟩ (.int .i64 x2_1)).setCell ⟨w.heap.size + 1, 4, none⟩ (.slice x2_2.p x2_2.l.length x2_2.c)).heap[x]? = w1.heap[x]? := fun x h1 h2 => (heap_set_ne h1).trans ((heap_set_ne h1).trans ((heap_set_ne h1).trans ((heap_set_ne h1).trans ((heap_set_ne h1).trans ((heap_set_ne h2).trans ((heap_set_ne h2).trans ((heap_set_ne h2).trans (rfl))))))))
  have HB : Hid (Below w.heap.size w ((((((((w1.setCell ⟨w.heap.size + 2, 2, none⟩ (.int .i64 x2_0)).setCell ⟨w.heap.size + 2, 3, none⟩ (.int .i64 x2_1)).setCell ⟨w.heap.size + 2, 4, none⟩ (.slice x2_2.p x2_2.l.length x2_2.c)).setCell ⟨w.heap.size + 1, 0, none⟩ (.int .i64 f_0)).setCell ⟨w.heap.size + 1, 1, none⟩ (.int .i64 f_1)).setCell ⟨w.heap.size + 1, 2, none⟩ (.int .i64 x2_0)).setCell ⟨w.heap.size + 1, 3, none⟩ (.int .i64 x2_1)).setCell ⟨w.heap.size + 1, 4, none⟩ (.slice x2_2.p x2_2.l.length x2_2.c))) := Hid.intro (((((((((bel0.setCell (p := ⟨w.heap.size + 2, 2, none⟩) (by simp) (.int .i64 x2_0)).setCell (p := ⟨w.heap.size + 2, 3, none⟩) (by simp) (.int .i64 x2_1)).setCell (p := ⟨w.heap.size + 2, 4, none⟩) (by simp) (.slice x2_2.p x2_2.l.length x2_2.c)).setCell (p := ⟨w.heap.size + 1, 0, none⟩) (by simp) (.int .i64 f_0)).setCell (p := ⟨w.heap.size + 1, 1, none⟩) (by simp) (.int .i64 f_1)).setCell (p := ⟨w.heap.size + 1, 2, none⟩) (by simp) (.int .i64 x2_0)).setCell (p := ⟨w.heap.size + 1, 3, none⟩) (by simp) (.int .i64 x2_1)).setCell (p := ⟨w.heap.size + 1, 4, none⟩) (by simp) (.slice x2_2.p x2_2.l.length x2_2.c)))
  have HX : Hid (Fresh yRspRsp (w.heap.size + 3) ((((((((w1.setCell ⟨w.heap.size + 2, 2, none⟩ (.int .i64 x2_0)).setCell ⟨w.heap.size + 2, 3, none⟩ (.int .i64 x2_1)).setCell ⟨w.heap.size + 2, 4, none⟩ (.slice x2_2.p x2_2.l.length x2_2.c)).setCell ⟨w.heap.size + 1, 0, none⟩ (.int .i64 f_0)).setCell ⟨w.heap.size + 1, 1, none⟩ (.int .i64 f_1)).setCell ⟨w.heap.size + 1, 2, none⟩ (.int .i64 x2_0)).setCell ⟨w.heap.size + 1, 3, none⟩ (.int .i64 x2_1)).setCell ⟨w.heap.size + 1, 4, none⟩ (.slice x2_2.p x2_2.l.length x2_2.c)) (x2_0, x2_1, x2_2)) := Hid.intro (hf2.of yRspRsp_law (fun x hx => hne x (by have := hf2.ge x hx; omega) (by have := hf2.ge x hx; omega)))
  have HL : Hid ((∀ x ∈ yRspRsp.foot (x2_0, x2_1, x2_2), x < w1.heap.size)) := Hid.intro (fun x hx => lt2 x hx)
  have HPL : Hid ((yRspRsp.pl (x2_0, x2_1, x2_2) = yRspRsp.pl (f_2_0, f_2_1, f_2_2) ∧ yRspRsp.size (x2_0, x2_1, x2_2) = yRspRsp.size (f_2_0, f_2_1, f_2_2))) := Hid.intro ⟨hpl2, hsz2⟩
  clear hne hf bA0 bR0 bO0 bel0 bR'' HR HS hf2 lt2 hpl2 hsz2
  go_wp2
  refine bodyPost_ret (v := .agg #[.int .i64 f_0, .int .i64 f_1, .int .i64 x2_0, .int .i64 x2_1, .slice x2_2.p x2_2.l.length x2_2.c]) (by simp [results, Try.results98, go_sem, r0, r1, r2, r3, r4]) rfl ⟨(f_0, f_1, (x2_0, x2_1, x2_2)), rfl, ?_, ?_, Fresh.recd (Fresh.pair (Fresh.int _ _ _) (Nat.le_refl _) (lt_int _ _) (Fresh.pair (Fresh.int _ _ _) (Nat.le_refl _) (lt_int _ _) ((HX.out).mono (by omega)))), HB.out⟩
  · show ((f_0, f_1, yRspRsp.pl (x2_0, x2_1, x2_2)) : (Int × Int × (Int × Int × (List Int)))) = (f_0, f_1, yRspRsp.pl (f_2_0, f_2_1, f_2_2))
    rw [(HPL.out).1]
  · show 0 + (0 + (yRspRsp.size (x2_0, x2_1, x2_2))) = 0 + (0 + (yRspRsp.size (f_2_0, f_2_1, f_2_2)))
    have hh := HPL.out
    omega

def yTlmJobS : Knd (Lst (Int × Int × (Int × Int × (Lst Int)))) (List (Int × Int × (Int × Int × (List Int)))) := gLst 97 yTlmJob
theorem yTlmJobS_law : KLaw yTlmJobS := gLst_law yTlmJob_law (by decide)

set_option maxRecDepth 100000 in
set_option maxHeartbeats 2000000 in
theorem yTlmJobS_sz : SzC yTlmJobS 52 := by
  rintro ⟨p, c, l⟩ left w hr h0 h1
  have hl1 : l.length ≤ c := hr.1
  have hl2 : c ≤ 9223372036854775807 := hr.2.1
  have HR := Hid.intro hr
  clear hr
  show Calls Try.prog 52 #[.slice p l.length c, .int .i64 left] w _
  by_cases hn : left - (l.length : Int) < 0
  · go_enter Try.func52, Try.ntmps52
    go_wp2
    go_ret
    exact ⟨⟨_, rfl, .inl rfl⟩, Below.refl _ _⟩
  go_enter Try.func52, Try.ntmps52
  go_wp2
  go_loopw [5, 1] (fun i z wr => ∃ (k : Nat) (y : Int), k ≤ l.length ∧ i = .int .i64 k ∧ z = .int .i64 y ∧ 0 ≤ y ∧ y ≤ 1048576 ∧ Hid (y = left - (l.length : Int) - ((((l.take k).map yTlmJob.size).sum : Nat) : Int)) ∧ Below w.heap.size w wr) (fun i _ _ => l.length - (intOf i).toNat)
  case atStart => exact ⟨0, _, Nat.zero_le _, rfl, rfl, by omega, by omega, Hid.intro (by simp), Below.refl _ _⟩
  case round =>
    obtain ⟨k, y, hk, rfl, rfl, hz, hz1, HY, hbl⟩ := hrel
    by_cases hlt : k < l.length
    · have hp := yTlmJobS_law.rd_blw HR.out hbl
      have hq := hp.2.2.2 _ (List.getElem_mem hlt)
      have hk0 : (0 : Int) ≤ (k : Int) := by omega
      have hk1 : (k : Int) < (l.length : Int) := by omega
      have hst := size_take yTlmJob hlt
      have hc : ∃ b off, p = some ⟨b, off, none⟩ ∧ b < wr.heap.size ∧ ∀ (j : Nat) (v : Value), (yTlmJob.cells l[k])[j]? = some v → wr.cell? ⟨b, off + k * 5 + j, none⟩ = some v := by
        rcases hp.2.2.1 with h0 | ⟨b, off, e, hb, hc⟩
        · have h0 : l = [] := h0
          subst h0; simp at hlt
        · exact ⟨b, off, e, hb, fun j v hv => hc k hlt j v hv⟩
      obtain ⟨b, off, rfl, hb, hc⟩ := hc
      clear hp
      generalize l[k] = q at hq hst hc
      obtain ⟨q_0, q_1, ⟨q_2_0, q_2_1, q_2_2⟩⟩ := q
      have c0 : wr.cell? ⟨b, off + k * 5, none⟩ = some (.int .i64 q_0) := hc 0 _ rfl
      have c1 : wr.cell? ⟨b, off + k * 5 + 1, none⟩ = some (.int .i64 q_1) := hc 1 _ rfl
      have c2 : wr.cell? ⟨b, off + k * 5 + 2, none⟩ = some (.int .i64 q_2_0) := hc 2 _ rfl
      have c3 : wr.cell? ⟨b, off + k * 5 + 3, none⟩ = some (.int .i64 q_2_1) := hc 3 _ rfl
      have c4 : wr.cell? ⟨b, off + k * 5 + 4, none⟩ = some (.slice q_2_2.p q_2_2.l.length q_2_2.c) := hc 4 _ rfl
      have HCE : Hid (∀ (left : Int) (w : World), yTlmJob.rd w (q_0, q_1, (q_2_0, q_2_1, q_2_2)) → 0 ≤ left → left ≤ 1048576 → Calls Try.prog 93 #[.agg #[.int .i64 q_0, .int .i64 q_1, .int .i64 q_2_0, .int .i64 q_2_1, .slice q_2_2.p q_2_2.l.length q_2_2.c], .int .i64 left] w fun e w' => (∃ z : Int, e = .returned (.int .i64 z) ∧ (z = -1 ∨ (0 ≤ z ∧ z = left - (yTlmJob.size (q_0, q_1, (q_2_0, q_2_1, q_2_2)) : Int)))) ∧ Below w.heap.size w w') := Hid.intro (yTlmJob_sz (q_0, q_1, (q_2_0, q_2_1, q_2_2)))
      have HST := Hid.intro hst
      have HQ := Hid.intro hq
      clear hst hq hc
      go_wp2_with fail
      refine (HCE.out _ _ HQ.out hz hz1).mono ?_
      clear HCE
      rintro e w1 ⟨⟨z, rfl, hzz⟩, hb1⟩
      have hbl1 := hbl.trans (hb1.mono hbl.size)
      clear hb1 HQ hbl c0 c1 c2 c3 c4
      rcases hzz with rfl | ⟨g0, g1⟩
      · go_wp2
        go_ret
        exact ⟨⟨_, rfl, .inl rfl⟩, hbl1⟩
      have hg : ¬ (z < 0) := by omega
      have hz2 : z ≤ 1048576 := by omega
      have HY2 : Hid (z = left - (l.length : Int) - ((((l.take (k + 1)).map yTlmJob.size).sum : Nat) : Int)) := Hid.intro (by have h1 := HST.out; have h2 := HY.out; omega)
      clear g1 HY HST
      go_wp2
      go_roundw
      case rel => exact ⟨k + 1, z, by omega, by go_num, rfl, g0, hz2, HY2, hbl1⟩
      case measure => simp [intOf]; omega
    · have hk3 : ¬ (k : Int) < (l.length : Int) := by omega
      have HE : Hid ((yTlmJobS.size ⟨p, c, l⟩ : Nat) = l.length + ((l.take k).map yTlmJob.size).sum) := Hid.intro (by rw [show k = l.length by omega, List.take_length]; rfl)
      go_wp2
      go_ret
      exact ⟨⟨_, rfl, .inr ⟨hz, by have h1 := HE.out; have h2 := HY.out; omega⟩⟩, hbl⟩

set_option maxRecDepth 100000 in
set_option maxHeartbeats 2000000 in
theorem yTlmJobS_eq : EqC yTlmJobS 66 := by
  rintro ⟨p, c, l⟩ ⟨p', c', m⟩ w hr hr' hpl
  have hl1 : l.length ≤ c := hr.1
  have hl2 : c ≤ 9223372036854775807 := hr.2.1
  have hl3 : m.length ≤ c' := hr'.1
  have hl4 : c' ≤ 9223372036854775807 := hr'.2.1
  have hpl' : l.map yTlmJob.pl = m.map yTlmJob.pl := hpl
  have hlm : l.length = m.length := by have := congrArg List.length hpl'; simpa using this
  have HP := Hid.intro hr
  have HQ := Hid.intro hr'
  have HE := Hid.intro hpl'
  clear hr hr' hpl hpl'
  obtain ⟨n, hn⟩ : ∃ n, n = l.length := ⟨_, rfl⟩
  have HN := Hid.intro (And.intro hn (hn.trans hlm))
  show Calls Try.prog 66 #[.slice p l.length c, .slice p' m.length c'] w _
  rw [← hlm, ← hn]
  have hn1 : n ≤ 9223372036854775807 := by omega
  clear hn hlm hl1 hl2 hl3 hl4
  go_enter Try.func66, Try.ntmps66
  go_wp2
  go_loopw [5] (fun i wr => ∃ k : Nat, k ≤ n ∧ i = .int .i64 k ∧ Below w.heap.size w wr) (fun i _ => n - (intOf i).toNat)
  case atStart => exact ⟨0, Nat.zero_le _, rfl, Below.refl _ _⟩
  case round =>
    obtain ⟨k, hk, rfl, hbl⟩ := hrel
    by_cases hlt : k < n
    · have hk0 : (0 : Int) ≤ (k : Int) := by omega
      have hk1 : (k : Int) < (n : Int) := by omega
      have hp := yTlmJobS_law.rd_blw HP.out hbl
      have hq := yTlmJobS_law.rd_blw HQ.out hbl
      have ly : k < l.length := by have := HN.out.1; omega
      have lz : k < m.length := by have := HN.out.2; omega
      have hxx : yTlmJob.pl l[k] = yTlmJob.pl m[k] := by
        have e1 : (l.map yTlmJob.pl)[k]? = (m.map yTlmJob.pl)[k]? := by rw [HE.out]
        simpa [ly, lz] using e1
      have hpa := hp.2.2.2 _ (List.getElem_mem ly)
      have hqa := hq.2.2.2 _ (List.getElem_mem lz)
      have hcp : ∃ b off, p = some ⟨b, off, none⟩ ∧ b < wr.heap.size ∧ ∀ (j : Nat) (v : Value), (yTlmJob.cells l[k])[j]? = some v → wr.cell? ⟨b, off + k * 5 + j, none⟩ = some v := by
        rcases hp.2.2.1 with h0 | ⟨b, off, e, hb, hc⟩
        · have h0 : l = [] := h0
          rw [h0] at ly; simp at ly
        · exact ⟨b, off, e, hb, fun j v hv => hc k ly j v hv⟩
      obtain ⟨b, off, rfl, hb, hcp⟩ := hcp
      have hcq : ∃ b off, p' = some ⟨b, off, none⟩ ∧ b < wr.heap.size ∧ ∀ (j : Nat) (v : Value), (yTlmJob.cells m[k])[j]? = some v → wr.cell? ⟨b, off + k * 5 + j, none⟩ = some v := by
        rcases hq.2.2.1 with h0 | ⟨b, off, e, hb, hc⟩
        · have h0 : m = [] := h0
          rw [h0] at lz; simp at lz
        · exact ⟨b, off, e, hb, fun j v hv => hc k lz j v hv⟩
      obtain ⟨b', off', rfl, hb', hcq⟩ := hcq
      clear hp hq
      generalize l[k] = x at hxx hpa hcp
      generalize m[k] = z at hxx hqa hcq
      obtain ⟨x_0, x_1, ⟨x_2_0, x_2_1, x_2_2⟩⟩ := x
      obtain ⟨z_0, z_1, ⟨z_2_0, z_2_1, z_2_2⟩⟩ := z
      have u0 : wr.cell? ⟨b, off + k * 5, none⟩ = some (.int .i64 x_0) := hcp 0 _ rfl
      have u1 : wr.cell? ⟨b, off + k * 5 + 1, none⟩ = some (.int .i64 x_1) := hcp 1 _ rfl
      have u2 : wr.cell? ⟨b, off + k * 5 + 2, none⟩ = some (.int .i64 x_2_0) := hcp 2 _ rfl
      have u3 : wr.cell? ⟨b, off + k * 5 + 3, none⟩ = some (.int .i64 x_2_1) := hcp 3 _ rfl
      have u4 : wr.cell? ⟨b, off + k * 5 + 4, none⟩ = some (.slice x_2_2.p x_2_2.l.length x_2_2.c) := hcp 4 _ rfl
      have y0 : wr.cell? ⟨b', off' + k * 5, none⟩ = some (.int .i64 z_0) := hcq 0 _ rfl
      have y1 : wr.cell? ⟨b', off' + k * 5 + 1, none⟩ = some (.int .i64 z_1) := hcq 1 _ rfl
      have y2 : wr.cell? ⟨b', off' + k * 5 + 2, none⟩ = some (.int .i64 z_2_0) := hcq 2 _ rfl
      have y3 : wr.cell? ⟨b', off' + k * 5 + 3, none⟩ = some (.int .i64 z_2_1) := hcq 3 _ rfl
      have y4 : wr.cell? ⟨b', off' + k * 5 + 4, none⟩ = some (.slice z_2_2.p z_2_2.l.length z_2_2.c) := hcq 4 _ rfl
      have HP1 := Hid.intro (And.intro hpa (And.intro u0 (And.intro u1 (And.intro u2 (And.intro u3 u4)))))
      have HQ1 := Hid.intro (And.intro hqa (And.intro y0 (And.intro y1 (And.intro y2 (And.intro y3 y4)))))
      have HXX := Hid.intro hxx
      clear hpa hqa hxx hcp hcq ly lz u0 u1 u2 u3 u4 y0 y1 y2 y3 y4
      go_wp2_with fail
      refine wp_region_typed (by kernel_rfl) Gr (fun _ W => Below wr.heap.size wr W)
        (tab [(17, kIs (.slice (some ⟨b, off, none⟩) n c)), (18, kIs (.int .i64 k)), (19, kIs (.pointer (some ⟨b, off + k * 5, none⟩))), (20, kIs (.agg #[.int .i64 x_0, .int .i64 x_1, .int .i64 x_2_0, .int .i64 x_2_1, .slice x_2_2.p x_2_2.l.length x_2_2.c])), (21, kIs (.slice (some ⟨b', off', none⟩) n c')), (22, kIs (.int .i64 k)), (23, kIs (.pointer (some ⟨b', off' + k * 5, none⟩))), (24, kIs (.agg #[.int .i64 z_0, .int .i64 z_1, .int .i64 z_2_0, .int .i64 z_2_1, .slice z_2_2.p z_2_2.l.length z_2_2.c])), (25, kIs (.bool true)), (26, kIs (.bool false))])
        [17, 18, 19, 20, 21, 22, 23, 24, 25, 26] (by kernel_rfl) (by kernel_rfl) ?_ ?_ ?_ ?_
      · refine tabR_stable ?_
        intro y hy
        simp only [List.mem_cons, List.not_mem_nil, or_false] at hy
        rcases hy with rfl | rfl | rfl | rfl | rfl | rfl | rfl | rfl | rfl | rfl
        all_goals intro w w' v hr hv
        all_goals exact hv
      · exact (Below.refl _ _).drew
      · refine ops_cons (gd rfl <| ty_move_out (.inl rfl) rfl (by kernel_rfl) rfl (fun _ _ h => h) Gr.refl) ?_
        refine ops_cons (gd rfl <| ty_move_out (.inl rfl) rfl (by kernel_rfl) rfl (fun _ _ h => h) Gr.refl) ?_
        refine ops_cons (gd rfl <| tx_pure rfl rfl (fun _ _ h => h) Gr.refl (fun _ ρ W hat hW => ?_)) ?_
        · have e1 : ρ (.tmp 17) = _ := hat.dep 17 (by kernel_rfl)
          have e2 : ρ (.tmp 18) = _ := hat.dep 18 (by kernel_rfl)
          simp only [execOp, e1, e2]; go_simp
        refine ops_cons (gd rfl <| tx_pure rfl rfl (fun _ _ h => h) Gr.refl (fun _ ρ W hat hW => ?_)) ?_
        · have e1 : ρ (.tmp 19) = _ := hat.dep 19 (by kernel_rfl)
          obtain ⟨u0, u1, u2, u3, u4⟩ := HP1.out.2
          have v0 := (hW.cell (p := ⟨b, off + k * 5, none⟩) hb).trans u0
          have v1 := (hW.cell (p := ⟨b, off + k * 5 + 1, none⟩) hb).trans u1
          have v2 := (hW.cell (p := ⟨b, off + k * 5 + 2, none⟩) hb).trans u2
          have v3 := (hW.cell (p := ⟨b, off + k * 5 + 3, none⟩) hb).trans u3
          have v4 := (hW.cell (p := ⟨b, off + k * 5 + 4, none⟩) hb).trans u4
          clear u0 u1 u2 u3 u4
          simp only [execOp, e1]; go_simp
        refine ops_cons (gd rfl <| ty_move_out (.inl rfl) rfl (by kernel_rfl) rfl (fun _ _ h => h) Gr.refl) ?_
        refine ops_cons (gd rfl <| ty_move_out (.inl rfl) rfl (by kernel_rfl) rfl (fun _ _ h => h) Gr.refl) ?_
        refine ops_cons (gd rfl <| tx_pure rfl rfl (fun _ _ h => h) Gr.refl (fun _ ρ W hat hW => ?_)) ?_
        · have e1 : ρ (.tmp 21) = _ := hat.dep 21 (by kernel_rfl)
          have e2 : ρ (.tmp 22) = _ := hat.dep 22 (by kernel_rfl)
          simp only [execOp, e1, e2]; go_simp
        refine ops_cons (gd rfl <| tx_pure rfl rfl (fun _ _ h => h) Gr.refl (fun _ ρ W hat hW => ?_)) ?_
        · have e1 : ρ (.tmp 23) = _ := hat.dep 23 (by kernel_rfl)
          obtain ⟨y0, y1, y2, y3, y4⟩ := HQ1.out.2
          have v0 := (hW.cell (p := ⟨b', off' + k * 5, none⟩) hb').trans y0
          have v1 := (hW.cell (p := ⟨b', off' + k * 5 + 1, none⟩) hb').trans y1
          have v2 := (hW.cell (p := ⟨b', off' + k * 5 + 2, none⟩) hb').trans y2
          have v3 := (hW.cell (p := ⟨b', off' + k * 5 + 3, none⟩) hb').trans y3
          have v4 := (hW.cell (p := ⟨b', off' + k * 5 + 4, none⟩) hb').trans y4
          clear y0 y1 y2 y3 y4
          simp only [execOp, e1]; go_simp
        refine ops_cons (gd rfl <| tx_call rfl (fun _ ρ W _ hat hW => ?_)) ?_
        · have e1 : ρ (.tmp 20) = _ := hat.dep 20 (by kernel_rfl)
          have e2 : ρ (.tmp 24) = _ := hat.dep 24 (by kernel_rfl)
          have hf := hat.fn
          refine ⟨107, #[.agg #[.int .i64 x_0, .int .i64 x_1, .int .i64 x_2_0, .int .i64 x_2_1, .slice x_2_2.p x_2_2.l.length x_2_2.c], .agg #[.int .i64 z_0, .int .i64 z_1, .int .i64 z_2_0, .int .i64 z_2_1, .slice z_2_2.p z_2_2.l.length z_2_2.c]], by simp only [execOp]; go_simp, ?_⟩
          have hcl := yTlmJob_eq (x_0, x_1, (x_2_0, x_2_1, x_2_2)) (z_0, z_1, (z_2_0, z_2_1, z_2_2)) W (yTlmJob_law.rd_blw HP1.out.1 hW) (yTlmJob_law.rd_blw HQ1.out.1 hW) HXX.out
          refine Calls.mono (show Calls Try.prog 107 #[.agg #[.int .i64 x_0, .int .i64 x_1, .int .i64 x_2_0, .int .i64 x_2_1, .slice x_2_2.p x_2_2.l.length x_2_2.c], .agg #[.int .i64 z_0, .int .i64 z_1, .int .i64 z_2_0, .int .i64 z_2_1, .slice z_2_2.p z_2_2.l.length z_2_2.c]] W _ from hcl) ?_
          rintro e W' ⟨rfl, hb⟩
          exact ⟨_, rfl, hW.trans (hb.mono hW.size), hb, rfl⟩
        refine ops_cons (gd rfl <| tx_pure rfl rfl (fun _ _ h => h) Gr.refl (fun _ ρ W hat hW => ?_)) ?_
        · have e1 : ρ (.tmp 25) = _ := hat.dep 25 (by kernel_rfl)
          simp only [execOp, e1]; go_simp
        exact ops_nil
      · intro f W hW hf
        have e26 : f 26 = .bool false := hf 26 (by simp)
        clear hf
        have hbW := hbl.trans (hW.mono hbl.size)
        simp only [fill, e26]
        go_simp
        go_wp2
        go_roundw
        case rel => exact ⟨k + 1, by omega, by go_num, hbW⟩
        case measure => simp [intOf]; omega
    · have hk3 : ¬ (k : Int) < (n : Int) := by omega
      go_wp2
      go_ret
      exact ⟨rfl, hbl⟩

theorem Try.infoTlmJobS : (Try.prog.info? 97).map (fun i => (i.zero, i.size, i.bytes)) = some (some (.agg #[.int .i64 0, .int .i64 0, .int .i64 0, .int .i64 0, .slice none 0 0]), 5, 56) := by kernel_rfl

set_option maxRecDepth 100000 in
set_option maxHeartbeats 2000000 in
theorem yTlmJobS_to : ToC yTlmJobS 59 := by
  rintro ⟨p, c, l⟩ w hr hs
  have hl1 : l.length ≤ c := hr.1
  have hl2 : c ≤ 9223372036854775807 := hr.2.1
  have hs' : l.length + (l.map yTlmJob.size).sum ≤ 1048576 := hs
  have hl3 : l.length ≤ 1048576 := by omega
  have HR := Hid.intro hr
  have HSZ := Hid.intro hs'
  clear hr hs hs'
  obtain ⟨i0, hi, hz0, hz1, hz2⟩ := info_parts Try.infoTlmJobS
  have hmk : ∀ W : World, (Instr.makeSlice 48 (.int .i64 (l.length : Int)) (.int .i64 (l.length : Int))).run Try.prog W =
      .ok (.slice (some ⟨W.heap.size, 0, none⟩) l.length l.length) (W.alloc (.cells (madeCells (Value.cells (.agg #[.int .i64 0, .int .i64 0, .int .i64 0, .int .i64 0, .slice none 0 0])) (l.length * 5)) 97)) := fun W => by
    have := run_make (P := Try.prog) W 48 97 i0 _ Try.underlying48 hi hz0 .i64 .i64 (l.length : Int) (l.length : Int) (by omega) (by omega) (by rw [hz2]; omega) (by omega)
    rw [hz1] at this
    simpa using this
  have HM0 : Hid (MakeSt yTlmJob 97 l w.heap.size (w.alloc (.cells (madeCells (Value.cells (.agg #[.int .i64 0, .int .i64 0, .int .i64 0, .int .i64 0, .slice none 0 0])) (l.length * 5)) 97)) 0 []) := Hid.intro (MakeSt.start yTlmJob_law (by rfl))
  have hbl0 : Below w.heap.size w (w.alloc (.cells (madeCells (Value.cells (.agg #[.int .i64 0, .int .i64 0, .int .i64 0, .int .i64 0, .slice none 0 0])) (l.length * 5)) 97)) := (Below.refl _ w).alloc (Nat.le_refl _) _
  have hsz0 : w.heap.size < (w.alloc (.cells (madeCells (Value.cells (.agg #[.int .i64 0, .int .i64 0, .int .i64 0, .int .i64 0, .slice none 0 0])) (l.length * 5)) 97)).heap.size := by simp
  show Calls Try.prog 59 #[.slice p l.length c] w _
  go_enter Try.func59, Try.ntmps59
  go_wp2
  clear hmk
  go_loopw [4] (fun i wr => ∃ (k : Nat) (zs : List (Int × Int × (Int × Int × (Lst Int)))), k ≤ l.length ∧ i = .int .i64 k ∧ Below w.heap.size w wr ∧ w.heap.size < wr.heap.size ∧ Hid (MakeSt yTlmJob 97 l w.heap.size wr k zs)) (fun i _ => l.length - (intOf i).toNat)
  case atStart => exact ⟨0, [], Nat.zero_le _, rfl, hbl0, hsz0, HM0⟩
  case round =>
    clear HM0 hbl0 hsz0
    obtain ⟨k, zs, hk, rfl, hbl, hsz, HM⟩ := hrel
    by_cases hlt : k < l.length
    · have hp := yTlmJobS_law.rd_blw HR.out hbl
      have hq := hp.2.2.2 _ (List.getElem_mem hlt)
      have hk0 : (0 : Int) ≤ (k : Int) := by omega
      have hk1 : (k : Int) < (l.length : Int) := by omega
      have hqs : yTlmJob.size l[k] ≤ 1048576 := by have := size_le yTlmJob hlt; have := HSZ.out; omega
      obtain ⟨q, hqe⟩ : ∃ q, q = l[k] := ⟨_, rfl⟩
      rw [← hqe] at hq hqs
      have hc : ∃ b off, p = some ⟨b, off, none⟩ ∧ b < wr.heap.size ∧ ∀ (j : Nat) (v : Value), (yTlmJob.cells q)[j]? = some v → wr.cell? ⟨b, off + k * 5 + j, none⟩ = some v := by
        rcases hp.2.2.1 with h0 | ⟨b, off, e, hb, hc⟩
        · have h0 : l = [] := h0
          subst h0; simp at hlt
        · exact ⟨b, off, e, hb, fun j v hv => hc k hlt j v (by rw [← hqe]; exact hv)⟩
      obtain ⟨b, off, rfl, hb, hc⟩ := hc
      clear hp
      have HQE := Hid.intro hqe
      clear hqe
      obtain ⟨q_0, q_1, ⟨q_2_0, q_2_1, q_2_2⟩⟩ := q
      have c0 : wr.cell? ⟨b, off + k * 5, none⟩ = some (.int .i64 q_0) := hc 0 _ rfl
      have c1 : wr.cell? ⟨b, off + k * 5 + 1, none⟩ = some (.int .i64 q_1) := hc 1 _ rfl
      have c2 : wr.cell? ⟨b, off + k * 5 + 2, none⟩ = some (.int .i64 q_2_0) := hc 2 _ rfl
      have c3 : wr.cell? ⟨b, off + k * 5 + 3, none⟩ = some (.int .i64 q_2_1) := hc 3 _ rfl
      have c4 : wr.cell? ⟨b, off + k * 5 + 4, none⟩ = some (.slice q_2_2.p q_2_2.l.length q_2_2.c) := hc 4 _ rfl
      have HCE : Hid (∀ (w : World), yTlmJob.rd w (q_0, q_1, (q_2_0, q_2_1, q_2_2)) → yTlmJob.size (q_0, q_1, (q_2_0, q_2_1, q_2_2)) ≤ 1048576 → Calls Try.prog 98 #[.agg #[.int .i64 q_0, .int .i64 q_1, .int .i64 q_2_0, .int .i64 q_2_1, .slice q_2_2.p q_2_2.l.length q_2_2.c]] w fun e w' => ∃ a', e = .returned (yTlmJob.val a') ∧ yTlmJob.pl a' = yTlmJob.pl (q_0, q_1, (q_2_0, q_2_1, q_2_2)) ∧ yTlmJob.size a' = yTlmJob.size (q_0, q_1, (q_2_0, q_2_1, q_2_2)) ∧ Fresh yTlmJob w.heap.size w' a' ∧ Below w.heap.size w w') := Hid.intro (yTlmJob_to (q_0, q_1, (q_2_0, q_2_1, q_2_2)))
      have HQ := Hid.intro (And.intro hq hqs)
      clear hq hqs hc
      go_wp2_with fail
      refine (HCE.out _ HQ.out.1 HQ.out.2).mono ?_
      clear HCE
      rintro e w1 ⟨⟨x_0, x_1, ⟨x_2_0, x_2_1, x_2_2⟩⟩, he, hpl, hss, hf, hb1⟩
      rw [yTlmJob_val] at he
      subst he
      have hsz1 : w.heap.size < w1.heap.size := Nat.lt_of_lt_of_le hsz hb1.size
      have hm1 := HM.out.below yTlmJob_law hb1
      have hlt1 : ∀ b ∈ zs.flatMap yTlmJob.foot, b < wr.heap.size := HM.out.fr.lt yTlmJob_law
      obtain ⟨u0, t0⟩ := hm1.row.there (k * 5) (show _ < l.length * 5 by omega)
      have f0 := hm1.row.frz (k * 5)
      obtain ⟨u1, t1⟩ := hm1.row.there (k * 5 + 1) (show _ < l.length * 5 by omega)
      have f1 := hm1.row.frz (k * 5 + 1)
      obtain ⟨u2, t2⟩ := hm1.row.there (k * 5 + 2) (show _ < l.length * 5 by omega)
      have f2 := hm1.row.frz (k * 5 + 2)
      obtain ⟨u3, t3⟩ := hm1.row.there (k * 5 + 3) (show _ < l.length * 5 by omega)
      have f3 := hm1.row.frz (k * 5 + 3)
      obtain ⟨u4, t4⟩ := hm1.row.there (k * 5 + 4) (show _ < l.length * 5 by omega)
      have f4 := hm1.row.frz (k * 5 + 4)
      have HM2 := Hid.intro (hm1.step yTlmJob_law (q := (x_0, x_1, (x_2_0, x_2_1, x_2_2))) hlt (by rw [← HQE.out]; exact hpl) (by rw [← HQE.out]; exact hss) hf hlt1 hsz)
      have HB2 := Hid.intro (putC_below (Nat.le_refl _) (rowVs (k * yTlmJob.sz) (yTlmJob.cells (x_0, x_1, (x_2_0, x_2_1, x_2_2)))) (hbl.trans (hb1.mono (by omega))))
      clear hm1 HM HQ hbl hb1 hf hpl hss hlt1 HQE c0 c1 c2 c3 c4
      go_wp2
      go_roundw
      case rel => exact ⟨k + 1, zs ++ [(x_0, x_1, (x_2_0, x_2_1, x_2_2))], by omega, by go_num, HB2.out, by simpa using hsz1, HM2.out⟩
      case measure => simp [intOf]; omega
    · have hd := HM.out.done (show k = l.length by omega) (by omega)
      have HD := Hid.intro hd
      clear hd HM
      go_wp2
      go_ret
      exact ⟨⟨some ⟨w.heap.size, 0, none⟩, l.length, zs⟩, by show _ = Ending.returned (Value.slice _ zs.length _); rw [HD.out.2.2.2]; rfl, HD.out.2.1, by show zs.length + (zs.map yTlmJob.size).sum = l.length + (l.map yTlmJob.size).sum; rw [HD.out.2.2.2, HD.out.2.2.1], HD.out.1, hbl⟩

end Go.Proofs.Ytgjlkmhbaimjpaa
