/-
  ReqReq: the laws' functions, by contract of kinds.
-/
import Derived.Test.YtpjfkimgienkbaaKndI
import Derived.Test.YtpjfkimgienkbaaKndLM
import Derived.Test.YtpjfkimgienkbaaOpsXM
namespace Go.Proofs.Ytpjfkimgienkbaa
open Go.RowKit
set_option linter.unusedSimpArgs false
set_option linter.unusedVariables false

def yReqReq : Knd (Int × Int × Int × Int × Bool × (Lst Int) × (Lst Int)) (Int × Int × Int × Int × Bool × (List Int) × (List Int)) := gRec (gPair gInt (gPair gInt (gPair gInt (gPair gInt (gPair gBool (gPair yI yI))))))
theorem yReqReq_law : KLaw yReqReq := gRec_law (gPair_law gInt_law (gPair_law gInt_law (gPair_law gInt_law (gPair_law gInt_law (gPair_law gBool_law (gPair_law yI_law yI_law))))))
theorem yReqReq_val (f : (Int × Int × Int × Int × Bool × (Lst Int) × (Lst Int))) : yReqReq.val f = .agg #[.int .i64 f.1, .int .i64 f.2.1, .int .i64 f.2.2.1, .int .i64 f.2.2.2.1, .bool f.2.2.2.2.1, .slice f.2.2.2.2.2.1.p f.2.2.2.2.2.1.l.length f.2.2.2.2.2.1.c, .slice f.2.2.2.2.2.2.p f.2.2.2.2.2.2.l.length f.2.2.2.2.2.2.c] := rfl
theorem yReqReq_cells (f : (Int × Int × Int × Int × Bool × (Lst Int) × (Lst Int))) : yReqReq.cells f = [.int .i64 f.1, .int .i64 f.2.1, .int .i64 f.2.2.1, .int .i64 f.2.2.2.1, .bool f.2.2.2.2.1, .slice f.2.2.2.2.2.1.p f.2.2.2.2.2.1.l.length f.2.2.2.2.2.1.c, .slice f.2.2.2.2.2.2.p f.2.2.2.2.2.2.l.length f.2.2.2.2.2.2.c] := rfl

set_option maxRecDepth 100000 in
set_option maxHeartbeats 2000000 in
theorem yReqReq_sz : SzC yReqReq 75 := by
  rintro ⟨f_0, f_1, f_2, f_3, f_4, f_5, f_6⟩ left w hr h0 h1
  have HR := Hid.intro hr
  clear hr
  have hbl : ∀ o, Below w.heap.size w (w.alloc o) := fun o => (Below.refl _ w).alloc (Nat.le_refl _) o
  show Calls Try.prog 75 #[.agg #[.int .i64 f_0, .int .i64 f_1, .int .i64 f_2, .int .i64 f_3, .bool f_4, .slice f_5.p f_5.l.length f_5.c, .slice f_6.p f_6.l.length f_6.c], .int .i64 left] w _
  go_enter Try.func75, Try.ntmps75
  have HC5 : Hid (∀ (left : Int) (w : World), yI.rd w f_5 → 0 ≤ left → left ≤ 1048576 → Calls Try.prog 33 #[.slice f_5.p f_5.l.length f_5.c, .int .i64 left] w fun e w' => (∃ z : Int, e = .returned (.int .i64 z) ∧ (z = -1 ∨ (0 ≤ z ∧ z = left - (yI.size f_5 : Int)))) ∧ Below w.heap.size w w') := Hid.intro (yI_sz f_5)
  go_wp2_with fail
  refine (HC5.out left _ (yI_law.rd_blw HR.out.2.2.2.2.2.1 (hbl _)) h0 (by omega)).mono ?_
  clear HC5
  rintro e w1 ⟨⟨z0, rfl, hz0⟩, hb⟩
  have bel0 : Below w.heap.size w w1 := (hbl _).trans (hb.mono (hbl _).size)
  have bA0 : w1.heap[w.heap.size]? = some (.cells #[.int .i64 f_0, .int .i64 f_1, .int .i64 f_2, .int .i64 f_3, .bool f_4, .slice f_5.p f_5.l.length f_5.c, .slice f_6.p f_6.l.length f_6.c] 118 (0, 0)) := (hb.block _ (by simp)).trans (nw_k _ rfl)
  clear hb
  rcases hz0 with rfl | ⟨g0, q0⟩
  · clear HR
    go_wp2
    go_ret
    exact ⟨⟨_, rfl, .inl rfl⟩, bel0⟩
  have n0 : ¬ (z0 < 0) := by omega
  have Q0 := Hid.intro q0
  have l0 : z0 ≤ 1048576 := by omega
  clear q0
  have c0 : w1.cell? ⟨w.heap.size, 0, none⟩ = some (.int .i64 f_0) := heap_cell bA0 0
  have c1 : w1.cell? ⟨w.heap.size, 1, none⟩ = some (.int .i64 f_1) := heap_cell bA0 1
  have c2 : w1.cell? ⟨w.heap.size, 2, none⟩ = some (.int .i64 f_2) := heap_cell bA0 2
  have c3 : w1.cell? ⟨w.heap.size, 3, none⟩ = some (.int .i64 f_3) := heap_cell bA0 3
  have c4 : w1.cell? ⟨w.heap.size, 4, none⟩ = some (.bool f_4) := heap_cell bA0 4
  have c5 : w1.cell? ⟨w.heap.size, 5, none⟩ = some (.slice f_5.p f_5.l.length f_5.c) := heap_cell bA0 5
  have c6 : w1.cell? ⟨w.heap.size, 6, none⟩ = some (.slice f_6.p f_6.l.length f_6.c) := heap_cell bA0 6
  have HC6 : Hid (∀ (left : Int) (w : World), yI.rd w f_6 → 0 ≤ left → left ≤ 1048576 → Calls Try.prog 33 #[.slice f_6.p f_6.l.length f_6.c, .int .i64 left] w fun e w' => (∃ z : Int, e = .returned (.int .i64 z) ∧ (z = -1 ∨ (0 ≤ z ∧ z = left - (yI.size f_6 : Int)))) ∧ Below w.heap.size w w') := Hid.intro (yI_sz f_6)
  go_wp2_with fail
  refine (HC6.out z0 w1 (yI_law.rd_blw HR.out.2.2.2.2.2.2 bel0) g0 (by omega)).mono ?_
  clear HC6
  rintro e w2 ⟨⟨z1, rfl, hz1⟩, hb⟩
  have bel1 : Below w.heap.size w w2 := bel0.trans (hb.mono bel0.size)
  have bA1 : w2.heap[w.heap.size]? = some (.cells #[.int .i64 f_0, .int .i64 f_1, .int .i64 f_2, .int .i64 f_3, .bool f_4, .slice f_5.p f_5.l.length f_5.c, .slice f_6.p f_6.l.length f_6.c] 118 (0, 0)) := (hb.block _ (heap_lt bA0)).trans bA0
  clear bel0 bA0 c0 c1 c2 c3 c4 c5 c6
  clear hb
  rcases hz1 with rfl | ⟨g1, q1⟩
  · clear HR
    go_wp2
    go_ret
    exact ⟨⟨_, rfl, .inl rfl⟩, bel1⟩
  have n1 : ¬ (z1 < 0) := by omega
  have Q1 := Hid.intro q1
  have l1 : z1 ≤ 1048576 := by omega
  clear q1
  have c0 : w2.cell? ⟨w.heap.size, 0, none⟩ = some (.int .i64 f_0) := heap_cell bA1 0
  have c1 : w2.cell? ⟨w.heap.size, 1, none⟩ = some (.int .i64 f_1) := heap_cell bA1 1
  have c2 : w2.cell? ⟨w.heap.size, 2, none⟩ = some (.int .i64 f_2) := heap_cell bA1 2
  have c3 : w2.cell? ⟨w.heap.size, 3, none⟩ = some (.int .i64 f_3) := heap_cell bA1 3
  have c4 : w2.cell? ⟨w.heap.size, 4, none⟩ = some (.bool f_4) := heap_cell bA1 4
  have c5 : w2.cell? ⟨w.heap.size, 5, none⟩ = some (.slice f_5.p f_5.l.length f_5.c) := heap_cell bA1 5
  have c6 : w2.cell? ⟨w.heap.size, 6, none⟩ = some (.slice f_6.p f_6.l.length f_6.c) := heap_cell bA1 6
  have HS : Hid ((yReqReq.size (f_0, f_1, f_2, f_3, f_4, f_5, f_6) : Nat) = 0 + (0 + (0 + (0 + (0 + (yI.size f_5 + (yI.size f_6))))))) := Hid.intro rfl
  clear HR
  go_wp2
  go_ret
  exact ⟨⟨_, rfl, .inr ⟨g1, by have := HS.out; have := Q0.out; have := Q1.out; omega⟩⟩, bel1⟩

set_option maxRecDepth 100000 in
set_option maxHeartbeats 2000000 in
theorem yReqReq_eq : EqC yReqReq 77 := by
  rintro ⟨f_0, f_1, f_2, f_3, f_4, f_5, f_6⟩ ⟨g_0, g_1, g_2, g_3, g_4, g_5, g_6⟩ w hr hr' hp
  have hp' : ((f_0, f_1, f_2, f_3, f_4, yI.pl f_5, yI.pl f_6) : (Int × Int × Int × Int × Bool × (List Int) × (List Int))) = (g_0, g_1, g_2, g_3, g_4, yI.pl g_5, yI.pl g_6) := hp
  clear hp
  simp only [Prod.mk.injEq] at hp'
  obtain ⟨rfl, rfl, rfl, rfl, rfl, p5, p6⟩ := hp'
  have HR := Hid.intro hr
  have HQ := Hid.intro hr'
  clear hr hr'
  have hbl : ∀ o o', Below w.heap.size w ((w.alloc o).alloc o') := fun o o' => ((Below.refl _ w).alloc (Nat.le_refl _) o).alloc (by simp) o'
  show Calls Try.prog 77 #[.agg #[.int .i64 f_0, .int .i64 f_1, .int .i64 f_2, .int .i64 f_3, .bool f_4, .slice f_5.p f_5.l.length f_5.c, .slice f_6.p f_6.l.length f_6.c], .agg #[.int .i64 f_0, .int .i64 f_1, .int .i64 f_2, .int .i64 f_3, .bool f_4, .slice g_5.p g_5.l.length g_5.c, .slice g_6.p g_6.l.length g_6.c]] w _
  go_enter Try.func77, Try.ntmps77
  have HC5 : Hid (∀ (w : World), yI.rd w f_5 → yI.rd w g_5 → yI.pl f_5 = yI.pl g_5 → Calls Try.prog 39 #[.slice f_5.p f_5.l.length f_5.c, .slice g_5.p g_5.l.length g_5.c] w fun e w' => e = .returned (.bool true) ∧ Below w.heap.size w w') := Hid.intro (yI_eq f_5 g_5)
  go_wp2_with fail
  refine (HC5.out _ (yI_law.rd_blw HR.out.2.2.2.2.2.1 (hbl _ _)) (yI_law.rd_blw HQ.out.2.2.2.2.2.1 (hbl _ _)) p5).mono ?_
  clear HC5
  rintro e w1 ⟨rfl, hb⟩
  have bel0 : Below w.heap.size w w1 := (hbl _ _).trans (hb.mono (hbl _ _).size)
  have bA0 : w1.heap[w.heap.size]? = some (.cells #[.int .i64 f_0, .int .i64 f_1, .int .i64 f_2, .int .i64 f_3, .bool f_4, .slice f_5.p f_5.l.length f_5.c, .slice f_6.p f_6.l.length f_6.c] 84 (0, 0)) := (hb.block _ (by simp <;> omega)).trans ((Below.heap_alloc _ _ _ (by simp)).trans (nw_k _ rfl))
  have bB0 : w1.heap[w.heap.size + 1]? = some (.cells #[.int .i64 f_0, .int .i64 f_1, .int .i64 f_2, .int .i64 f_3, .bool f_4, .slice g_5.p g_5.l.length g_5.c, .slice g_6.p g_6.l.length g_6.c] 84 (0, 0)) := (hb.block _ (by simp)).trans (nw_k _ (by simp))
  clear hb
  have c0 : w1.cell? ⟨w.heap.size, 0, none⟩ = some (.int .i64 f_0) := heap_cell bA0 0
  have c1 : w1.cell? ⟨w.heap.size, 1, none⟩ = some (.int .i64 f_1) := heap_cell bA0 1
  have c2 : w1.cell? ⟨w.heap.size, 2, none⟩ = some (.int .i64 f_2) := heap_cell bA0 2
  have c3 : w1.cell? ⟨w.heap.size, 3, none⟩ = some (.int .i64 f_3) := heap_cell bA0 3
  have c4 : w1.cell? ⟨w.heap.size, 4, none⟩ = some (.bool f_4) := heap_cell bA0 4
  have c5 : w1.cell? ⟨w.heap.size, 5, none⟩ = some (.slice f_5.p f_5.l.length f_5.c) := heap_cell bA0 5
  have c6 : w1.cell? ⟨w.heap.size, 6, none⟩ = some (.slice f_6.p f_6.l.length f_6.c) := heap_cell bA0 6
  have d0 : w1.cell? ⟨w.heap.size + 1, 0, none⟩ = some (.int .i64 f_0) := heap_cell bB0 0
  have d1 : w1.cell? ⟨w.heap.size + 1, 1, none⟩ = some (.int .i64 f_1) := heap_cell bB0 1
  have d2 : w1.cell? ⟨w.heap.size + 1, 2, none⟩ = some (.int .i64 f_2) := heap_cell bB0 2
  have d3 : w1.cell? ⟨w.heap.size + 1, 3, none⟩ = some (.int .i64 f_3) := heap_cell bB0 3
  have d4 : w1.cell? ⟨w.heap.size + 1, 4, none⟩ = some (.bool f_4) := heap_cell bB0 4
  have d5 : w1.cell? ⟨w.heap.size + 1, 5, none⟩ = some (.slice g_5.p g_5.l.length g_5.c) := heap_cell bB0 5
  have d6 : w1.cell? ⟨w.heap.size + 1, 6, none⟩ = some (.slice g_6.p g_6.l.length g_6.c) := heap_cell bB0 6
  have HC6 : Hid (∀ (w : World), yI.rd w f_6 → yI.rd w g_6 → yI.pl f_6 = yI.pl g_6 → Calls Try.prog 39 #[.slice f_6.p f_6.l.length f_6.c, .slice g_6.p g_6.l.length g_6.c] w fun e w' => e = .returned (.bool true) ∧ Below w.heap.size w w') := Hid.intro (yI_eq f_6 g_6)
  go_wp2_with fail
  refine (HC6.out w1 (yI_law.rd_blw HR.out.2.2.2.2.2.2 bel0) (yI_law.rd_blw HQ.out.2.2.2.2.2.2 bel0) p6).mono ?_
  clear HC6
  rintro e w2 ⟨rfl, hb⟩
  have bel1 : Below w.heap.size w w2 := bel0.trans (hb.mono bel0.size)
  have bA1 : w2.heap[w.heap.size]? = some (.cells #[.int .i64 f_0, .int .i64 f_1, .int .i64 f_2, .int .i64 f_3, .bool f_4, .slice f_5.p f_5.l.length f_5.c, .slice f_6.p f_6.l.length f_6.c] 84 (0, 0)) := (hb.block _ (heap_lt bA0)).trans bA0
  have bB1 : w2.heap[w.heap.size + 1]? = some (.cells #[.int .i64 f_0, .int .i64 f_1, .int .i64 f_2, .int .i64 f_3, .bool f_4, .slice g_5.p g_5.l.length g_5.c, .slice g_6.p g_6.l.length g_6.c] 84 (0, 0)) := (hb.block _ (heap_lt bB0)).trans bB0
  clear bel0 bA0 bB0 c0 c1 c2 c3 c4 c5 c6 d0 d1 d2 d3 d4 d5 d6
  clear hb
  have c0 : w2.cell? ⟨w.heap.size, 0, none⟩ = some (.int .i64 f_0) := heap_cell bA1 0
  have c1 : w2.cell? ⟨w.heap.size, 1, none⟩ = some (.int .i64 f_1) := heap_cell bA1 1
  have c2 : w2.cell? ⟨w.heap.size, 2, none⟩ = some (.int .i64 f_2) := heap_cell bA1 2
  have c3 : w2.cell? ⟨w.heap.size, 3, none⟩ = some (.int .i64 f_3) := heap_cell bA1 3
  have c4 : w2.cell? ⟨w.heap.size, 4, none⟩ = some (.bool f_4) := heap_cell bA1 4
  have c5 : w2.cell? ⟨w.heap.size, 5, none⟩ = some (.slice f_5.p f_5.l.length f_5.c) := heap_cell bA1 5
  have c6 : w2.cell? ⟨w.heap.size, 6, none⟩ = some (.slice f_6.p f_6.l.length f_6.c) := heap_cell bA1 6
  have d0 : w2.cell? ⟨w.heap.size + 1, 0, none⟩ = some (.int .i64 f_0) := heap_cell bB1 0
  have d1 : w2.cell? ⟨w.heap.size + 1, 1, none⟩ = some (.int .i64 f_1) := heap_cell bB1 1
  have d2 : w2.cell? ⟨w.heap.size + 1, 2, none⟩ = some (.int .i64 f_2) := heap_cell bB1 2
  have d3 : w2.cell? ⟨w.heap.size + 1, 3, none⟩ = some (.int .i64 f_3) := heap_cell bB1 3
  have d4 : w2.cell? ⟨w.heap.size + 1, 4, none⟩ = some (.bool f_4) := heap_cell bB1 4
  have d5 : w2.cell? ⟨w.heap.size + 1, 5, none⟩ = some (.slice g_5.p g_5.l.length g_5.c) := heap_cell bB1 5
  have d6 : w2.cell? ⟨w.heap.size + 1, 6, none⟩ = some (.slice g_6.p g_6.l.length g_6.c) := heap_cell bB1 6
  clear HR HQ
  go_wp2
  go_ret
  exact ⟨rfl, bel1⟩

set_option maxRecDepth 100000 in
set_option maxHeartbeats 2000000 in
theorem yReqReq_to : ToC yReqReq 76 := by
  rintro ⟨f_0, f_1, f_2, f_3, f_4, f_5, f_6⟩ w hr hs
  have HR := Hid.intro hr
  clear hr
  have hbl : ∀ o o' o'', Below w.heap.size w (((w.alloc o).alloc o').alloc o'') := fun o o' o'' => (((Below.refl _ w).alloc (Nat.le_refl _) o).alloc (by simp) o').alloc (by simp <;> omega) o''
  have HS : Hid (0 + (0 + (0 + (0 + (0 + (yI.size f_5 + (yI.size f_6)))))) ≤ 1048576) := Hid.intro hs
  clear hs
  show Calls Try.prog 76 #[.agg #[.int .i64 f_0, .int .i64 f_1, .int .i64 f_2, .int .i64 f_3, .bool f_4, .slice f_5.p f_5.l.length f_5.c, .slice f_6.p f_6.l.length f_6.c]] w _
  go_enter Try.func76, Try.ntmps76
  have HC5 : Hid (∀ (w : World), yI.rd w f_5 → yI.size f_5 ≤ 1048576 → Calls Try.prog 36 #[.slice f_5.p f_5.l.length f_5.c] w fun e w' => ∃ a', e = .returned (yI.val a') ∧ yI.pl a' = yI.pl f_5 ∧ yI.size a' = yI.size f_5 ∧ Fresh yI w.heap.size w' a' ∧ Below w.heap.size w w') := Hid.intro (yI_to f_5)
  go_wp2_with fail
  refine (HC5.out _ (yI_law.rd_blw HR.out.2.2.2.2.2.1 (hbl _ _ _)) (by have := HS.out; omega)).mono ?_
  clear HC5
  rintro e w1 ⟨x5, he, hpl5, hsz5, hf5, hb⟩
  replace he : e = .returned (.slice x5.p x5.l.length x5.c) := he
  subst he
  have hzz0 := hb.size
  simp only [World.size_alloc, Nat.add_assoc, Nat.reduceAdd] at hzz0
  have bA0 : w1.heap[w.heap.size]? = some (.cells #[.int .i64 f_0, .int .i64 f_1, .int .i64 f_2, .int .i64 f_3, .bool f_4, .slice f_5.p f_5.l.length f_5.c, .slice f_6.p f_6.l.length f_6.c] 118 (0, 0)) := (hb.block _ (by simp <;> omega)).trans ((Below.heap_alloc _ _ _ (by simp <;> omega)).trans ((Below.heap_alloc _ _ _ (by simp)).trans (nw_k _ rfl)))
  have bR0 : w1.heap[w.heap.size + 1]? = some (.cells #[.int .i64 0, .int .i64 0, .int .i64 0, .int .i64 0, .bool false, .slice none 0 0, .slice none 0 0] 84 (0, 0)) := (hb.block _ (by simp <;> omega)).trans ((Below.heap_alloc _ _ _ (by simp)).trans (nw_k _ (by simp)))
  have bO0 : w1.heap[w.heap.size + 2]? = some (.cells #[.int .i64 f_0, .int .i64 f_1, .int .i64 f_2, .int .i64 f_3, .bool f_4, .slice none 0 0, .slice none 0 0] 84 (0, 0)) := (hb.block _ (by simp)).trans (nw_k _ (by simp))
  have bel0 : Below w.heap.size w w1 := (hbl _ _ _).trans (hb.mono (hbl _ _ _).size)
  replace hf5 := hf5.mono (M' := w.heap.size + 3) (by simp <;> omega)
  have c0 : w1.cell? ⟨w.heap.size, 0, none⟩ = some (.int .i64 f_0) := heap_cell bA0 0
  have c1 : w1.cell? ⟨w.heap.size, 1, none⟩ = some (.int .i64 f_1) := heap_cell bA0 1
  have c2 : w1.cell? ⟨w.heap.size, 2, none⟩ = some (.int .i64 f_2) := heap_cell bA0 2
  have c3 : w1.cell? ⟨w.heap.size, 3, none⟩ = some (.int .i64 f_3) := heap_cell bA0 3
  have c4 : w1.cell? ⟨w.heap.size, 4, none⟩ = some (.bool f_4) := heap_cell bA0 4
  have c5 : w1.cell? ⟨w.heap.size, 5, none⟩ = some (.slice f_5.p f_5.l.length f_5.c) := heap_cell bA0 5
  have c6 : w1.cell? ⟨w.heap.size, 6, none⟩ = some (.slice f_6.p f_6.l.length f_6.c) := heap_cell bA0 6
  have o0 : w1.cell? ⟨w.heap.size + 2, 0, none⟩ = some (.int .i64 f_0) := heap_cell bO0 0
  have o1 : w1.cell? ⟨w.heap.size + 2, 1, none⟩ = some (.int .i64 f_1) := heap_cell bO0 1
  have o2 : w1.cell? ⟨w.heap.size + 2, 2, none⟩ = some (.int .i64 f_2) := heap_cell bO0 2
  have o3 : w1.cell? ⟨w.heap.size + 2, 3, none⟩ = some (.int .i64 f_3) := heap_cell bO0 3
  have o4 : w1.cell? ⟨w.heap.size + 2, 4, none⟩ = some (.bool f_4) := heap_cell bO0 4
  have o5 : w1.cell? ⟨w.heap.size + 2, 5, none⟩ = some (.slice none 0 0) := heap_cell bO0 5
  have o6 : w1.cell? ⟨w.heap.size + 2, 6, none⟩ = some (.slice none 0 0) := heap_cell bO0 6
  have fo0 : w1.frozen? ⟨w.heap.size + 2, 0, none⟩ = false := heap_free bO0 0
  have fo1 : w1.frozen? ⟨w.heap.size + 2, 1, none⟩ = false := heap_free bO0 1
  have fo2 : w1.frozen? ⟨w.heap.size + 2, 2, none⟩ = false := heap_free bO0 2
  have fo3 : w1.frozen? ⟨w.heap.size + 2, 3, none⟩ = false := heap_free bO0 3
  have fo4 : w1.frozen? ⟨w.heap.size + 2, 4, none⟩ = false := heap_free bO0 4
  have fo5 : w1.frozen? ⟨w.heap.size + 2, 5, none⟩ = false := heap_free bO0 5
  have fo6 : w1.frozen? ⟨w.heap.size + 2, 6, none⟩ = false := heap_free bO0 6
  have lt5 : ∀ x ∈ yI.foot x5, x < w1.heap.size := yI_law.ow_lt hf5.ow
  clear hb
  have belc1 : Below w.heap.size w (w1.setCell ⟨w.heap.size + 2, 5, none⟩ (.slice x5.p x5.l.length x5.c)) := (bel0.setCell (p := ⟨w.heap.size + 2, 5, none⟩) (by simp) (.slice x5.p x5.l.length x5.c))
  have HC6 : Hid (∀ (w : World), yI.rd w f_6 → yI.size f_6 ≤ 1048576 → Calls Try.prog 36 #[.slice f_6.p f_6.l.length f_6.c] w fun e w' => ∃ a', e = .returned (yI.val a') ∧ yI.pl a' = yI.pl f_6 ∧ yI.size a' = yI.size f_6 ∧ Fresh yI w.heap.size w' a' ∧ Below w.heap.size w w') := Hid.intro (yI_to f_6)
  go_wp2_with fail
  refine (HC6.out (w1.setCell ⟨w.heap.size + 2, 5, none⟩ (.slice x5.p x5.l.length x5.c)) (yI_law.rd_blw HR.out.2.2.2.2.2.2 belc1) (by have := HS.out; omega)).mono ?_
  clear HC6
  rintro e w2 ⟨x6, he, hpl6, hsz6, hf6, hb⟩
  replace he : e = .returned (.slice x6.p x6.l.length x6.c) := he
  subst he
  have hzz1 := hb.size
  simp only [World.size_setCell] at hzz1
  have bA1 : w2.heap[w.heap.size]? = some (.cells #[.int .i64 f_0, .int .i64 f_1, .int .i64 f_2, .int .i64 f_3, .bool f_4, .slice f_5.p f_5.l.length f_5.c, .slice f_6.p f_6.l.length f_6.c] 118 (0, 0)) := (hb.block _ (by simp only [World.size_setCell]; omega)).trans ((heap_set_ne (by omega)).trans (bA0))
  have bR1 : w2.heap[w.heap.size + 1]? = some (.cells #[.int .i64 0, .int .i64 0, .int .i64 0, .int .i64 0, .bool false, .slice none 0 0, .slice none 0 0] 84 (0, 0)) := (hb.block _ (by simp only [World.size_setCell]; omega)).trans ((heap_set_ne (by omega)).trans (bR0))
  have bO1 : w2.heap[w.heap.size + 2]? = some (.cells #[.int .i64 f_0, .int .i64 f_1, .int .i64 f_2, .int .i64 f_3, .bool f_4, .slice x5.p x5.l.length x5.c, .slice none 0 0] 84 (0, 0)) := (hb.block _ (by simp only [World.size_setCell]; omega)).trans (by simpa using (heap_set bO0 5 (.slice x5.p x5.l.length x5.c)))
  have bel1 : Below w.heap.size w w2 := belc1.trans (hb.mono belc1.size)
  replace hf5 : Fresh yI (w.heap.size + 3) w2 x5 := (hf5.of yI_law (fun x hx => by have := hf5.ge x hx; exact (heap_set_ne (by omega)).trans (rfl))).below yI_law hb
  replace hf6 := hf6.mono (M' := w1.heap.size) (by simp only [World.size_setCell]; omega)
  clear bA0 bR0 bO0 bel0 belc1 c0 c1 c2 c3 c4 c5 c6 o0 o1 o2 o3 o4 o5 o6 fo0 fo1 fo2 fo3 fo4 fo5 fo6
  have c0 : w2.cell? ⟨w.heap.size, 0, none⟩ = some (.int .i64 f_0) := heap_cell bA1 0
  have c1 : w2.cell? ⟨w.heap.size, 1, none⟩ = some (.int .i64 f_1) := heap_cell bA1 1
  have c2 : w2.cell? ⟨w.heap.size, 2, none⟩ = some (.int .i64 f_2) := heap_cell bA1 2
  have c3 : w2.cell? ⟨w.heap.size, 3, none⟩ = some (.int .i64 f_3) := heap_cell bA1 3
  have c4 : w2.cell? ⟨w.heap.size, 4, none⟩ = some (.bool f_4) := heap_cell bA1 4
  have c5 : w2.cell? ⟨w.heap.size, 5, none⟩ = some (.slice f_5.p f_5.l.length f_5.c) := heap_cell bA1 5
  have c6 : w2.cell? ⟨w.heap.size, 6, none⟩ = some (.slice f_6.p f_6.l.length f_6.c) := heap_cell bA1 6
  have o0 : w2.cell? ⟨w.heap.size + 2, 0, none⟩ = some (.int .i64 f_0) := heap_cell bO1 0
  have o1 : w2.cell? ⟨w.heap.size + 2, 1, none⟩ = some (.int .i64 f_1) := heap_cell bO1 1
  have o2 : w2.cell? ⟨w.heap.size + 2, 2, none⟩ = some (.int .i64 f_2) := heap_cell bO1 2
  have o3 : w2.cell? ⟨w.heap.size + 2, 3, none⟩ = some (.int .i64 f_3) := heap_cell bO1 3
  have o4 : w2.cell? ⟨w.heap.size + 2, 4, none⟩ = some (.bool f_4) := heap_cell bO1 4
  have o5 : w2.cell? ⟨w.heap.size + 2, 5, none⟩ = some (.slice x5.p x5.l.length x5.c) := heap_cell bO1 5
  have o6 : w2.cell? ⟨w.heap.size + 2, 6, none⟩ = some (.slice none 0 0) := heap_cell bO1 6
  have fo0 : w2.frozen? ⟨w.heap.size + 2, 0, none⟩ = false := heap_free bO1 0
  have fo1 : w2.frozen? ⟨w.heap.size + 2, 1, none⟩ = false := heap_free bO1 1
  have fo2 : w2.frozen? ⟨w.heap.size + 2, 2, none⟩ = false := heap_free bO1 2
  have fo3 : w2.frozen? ⟨w.heap.size + 2, 3, none⟩ = false := heap_free bO1 3
  have fo4 : w2.frozen? ⟨w.heap.size + 2, 4, none⟩ = false := heap_free bO1 4
  have fo5 : w2.frozen? ⟨w.heap.size + 2, 5, none⟩ = false := heap_free bO1 5
  have fo6 : w2.frozen? ⟨w.heap.size + 2, 6, none⟩ = false := heap_free bO1 6
  have lt6 : ∀ x ∈ yI.foot x6, x < w2.heap.size := yI_law.ow_lt hf6.ow
  clear hb
  have bR'' : (w2.setCell ⟨w.heap.size + 2, 6, none⟩ (.slice x6.p x6.l.length x6.c)).heap[w.heap.size + 1]? = some (.cells #[.int .i64 0, .int .i64 0, .int .i64 0, .int .i64 0, .bool false, .slice none 0 0, .slice none 0 0] 84 (0, 0)) := (heap_set_ne (by omega)).trans (bR1)
  have q0 : w2.cell? ⟨w.heap.size + 1, 0, none⟩ = some (.int .i64 0) := heap_cell bR1 0
  have q1 : w2.cell? ⟨w.heap.size + 1, 1, none⟩ = some (.int .i64 0) := heap_cell bR1 1
  have q2 : w2.cell? ⟨w.heap.size + 1, 2, none⟩ = some (.int .i64 0) := heap_cell bR1 2
  have q3 : w2.cell? ⟨w.heap.size + 1, 3, none⟩ = some (.int .i64 0) := heap_cell bR1 3
  have q4 : w2.cell? ⟨w.heap.size + 1, 4, none⟩ = some (.bool false) := heap_cell bR1 4
  have q5 : w2.cell? ⟨w.heap.size + 1, 5, none⟩ = some (.slice none 0 0) := heap_cell bR1 5
  have q6 : w2.cell? ⟨w.heap.size + 1, 6, none⟩ = some (.slice none 0 0) := heap_cell bR1 6
  have fq0 : w2.frozen? ⟨w.heap.size + 1, 0, none⟩ = false := heap_free bR1 0
  have fq1 : w2.frozen? ⟨w.heap.size + 1, 1, none⟩ = false := heap_free bR1 1
  have fq2 : w2.frozen? ⟨w.heap.size + 1, 2, none⟩ = false := heap_free bR1 2
  have fq3 : w2.frozen? ⟨w.heap.size + 1, 3, none⟩ = false := heap_free bR1 3
  have fq4 : w2.frozen? ⟨w.heap.size + 1, 4, none⟩ = false := heap_free bR1 4
  have fq5 : w2.frozen? ⟨w.heap.size + 1, 5, none⟩ = false := heap_free bR1 5
  have fq6 : w2.frozen? ⟨w.heap.size + 1, 6, none⟩ = false := heap_free bR1 6
  have hf := (heap_set (heap_set (heap_set (heap_set (heap_set (heap_set (heap_set bR'' 0 (.int .i64 f_0)) 1 (.int .i64 f_1)) 2 (.int .i64 f_2)) 3 (.int .i64 f_3)) 4 (.bool f_4)) 5 (.slice x5.p x5.l.length x5.c)) 6 (.slice x6.p x6.l.length x6.c))
  have r0 := heap_cell hf 0
  have r1 := heap_cell hf 1
  have r2 := heap_cell hf 2
  have r3 := heap_cell hf 3
  have r4 := heap_cell hf 4
  have r5 := heap_cell hf 5
  have r6 := heap_cell hf 6
  simp at r0 r1 r2 r3 r4 r5 r6
  have hne : ∀ x, x ≠ w.heap.size + 1 → x ≠ w.heap.size + 2 → ((((((((w2.setCell ⟨w.heap.size + 2, 6, none⟩ (.slice x6.p x6.l.length x6.c)).setCell ⟨w.heap.size + 1, 0, none⟩ (.int .i64 f_0)).setCell ⟨w.heap.size + 1, 1, none⟩ (.int .i64 f_1)).setCell ⟨w.heap.size + 1, 2, none⟩ (.int .i64 f_2)).setCell ⟨w.heap.size + 1, 3, none⟩ (.int .i64 f_3)).setCell ⟨w.heap.size + 1, 4, none⟩ (.bool f_4)).setCell ⟨w.heap.size + 1, 5, none⟩ (.slice x5.p x5.l.length x5.c)).setCell ⟨w.heap.size + 1, 6, none⟩ (.slice x6.p x6.l.length x6.c)).heap[x]? = w2.heap[x]? := fun x h1 h2 => (heap_set_ne h1).trans ((heap_set_ne h1).trans ((heap_set_ne h1).trans ((heap_set_ne h1).trans ((heap_set_ne h1).trans ((heap_set_ne h1).trans ((heap_set_ne h1).trans ((heap_set_ne h2).trans (rfl))))))))
  have HB : Hid (Below w.heap.size w ((((((((w2.setCell ⟨w.heap.size + 2, 6, none⟩ (.slice x6.p x6.l.length x6.c)).setCell ⟨w.heap.size + 1, 0, none⟩ (.int .i64 f_0)).setCell ⟨w.heap.size + 1, 1, none⟩ (.int .i64 f_1)).setCell ⟨w.heap.size + 1, 2, none⟩ (.int .i64 f_2)).setCell ⟨w.heap.size + 1, 3, none⟩ (.int .i64 f_3)).setCell ⟨w.heap.size + 1, 4, none⟩ (.bool f_4)).setCell ⟨w.heap.size + 1, 5, none⟩ (.slice x5.p x5.l.length x5.c)).setCell ⟨w.heap.size + 1, 6, none⟩ (.slice x6.p x6.l.length x6.c))) := Hid.intro (((((((((bel1.setCell (p := ⟨w.heap.size + 2, 6, none⟩) (by simp) (.slice x6.p x6.l.length x6.c)).setCell (p := ⟨w.heap.size + 1, 0, none⟩) (by simp) (.int .i64 f_0)).setCell (p := ⟨w.heap.size + 1, 1, none⟩) (by simp) (.int .i64 f_1)).setCell (p := ⟨w.heap.size + 1, 2, none⟩) (by simp) (.int .i64 f_2)).setCell (p := ⟨w.heap.size + 1, 3, none⟩) (by simp) (.int .i64 f_3)).setCell (p := ⟨w.heap.size + 1, 4, none⟩) (by simp) (.bool f_4)).setCell (p := ⟨w.heap.size + 1, 5, none⟩) (by simp) (.slice x5.p x5.l.length x5.c)).setCell (p := ⟨w.heap.size + 1, 6, none⟩) (by simp) (.slice x6.p x6.l.length x6.c)))
  have HX : Hid (Fresh yI (w.heap.size + 3) ((((((((w2.setCell ⟨w.heap.size + 2, 6, none⟩ (.slice x6.p x6.l.length x6.c)).setCell ⟨w.heap.size + 1, 0, none⟩ (.int .i64 f_0)).setCell ⟨w.heap.size + 1, 1, none⟩ (.int .i64 f_1)).setCell ⟨w.heap.size + 1, 2, none⟩ (.int .i64 f_2)).setCell ⟨w.heap.size + 1, 3, none⟩ (.int .i64 f_3)).setCell ⟨w.heap.size + 1, 4, none⟩ (.bool f_4)).setCell ⟨w.heap.size + 1, 5, none⟩ (.slice x5.p x5.l.length x5.c)).setCell ⟨w.heap.size + 1, 6, none⟩ (.slice x6.p x6.l.length x6.c)) x5 ∧ Fresh yI w1.heap.size ((((((((w2.setCell ⟨w.heap.size + 2, 6, none⟩ (.slice x6.p x6.l.length x6.c)).setCell ⟨w.heap.size + 1, 0, none⟩ (.int .i64 f_0)).setCell ⟨w.heap.size + 1, 1, none⟩ (.int .i64 f_1)).setCell ⟨w.heap.size + 1, 2, none⟩ (.int .i64 f_2)).setCell ⟨w.heap.size + 1, 3, none⟩ (.int .i64 f_3)).setCell ⟨w.heap.size + 1, 4, none⟩ (.bool f_4)).setCell ⟨w.heap.size + 1, 5, none⟩ (.slice x5.p x5.l.length x5.c)).setCell ⟨w.heap.size + 1, 6, none⟩ (.slice x6.p x6.l.length x6.c)) x6) := Hid.intro ⟨(hf5.of yI_law (fun x hx => hne x (by have := hf5.ge x hx; omega) (by have := hf5.ge x hx; omega))), (hf6.of yI_law (fun x hx => hne x (by have := hf6.ge x hx; omega) (by have := hf6.ge x hx; omega)))⟩
  have HL : Hid ((∀ x ∈ yI.foot x5, x < w1.heap.size) ∧ (∀ x ∈ yI.foot x6, x < w2.heap.size)) := Hid.intro ⟨(fun x hx => lt5 x hx), (fun x hx => lt6 x hx)⟩
  have HPL : Hid ((yI.pl x5 = yI.pl f_5 ∧ yI.size x5 = yI.size f_5) ∧ (yI.pl x6 = yI.pl f_6 ∧ yI.size x6 = yI.size f_6)) := Hid.intro ⟨⟨hpl5, hsz5⟩, ⟨hpl6, hsz6⟩⟩
  clear hne hf bA1 bR1 bO1 bel1 bR'' HR HS hf5 hf6 lt5 lt6 hpl5 hpl6 hsz5 hsz6
  go_wp2
  refine bodyPost_ret (v := .agg #[.int .i64 f_0, .int .i64 f_1, .int .i64 f_2, .int .i64 f_3, .bool f_4, .slice x5.p x5.l.length x5.c, .slice x6.p x6.l.length x6.c]) (by simp [results, Try.results76, go_sem, r0, r1, r2, r3, r4, r5, r6]) rfl ⟨(f_0, f_1, f_2, f_3, f_4, x5, x6), rfl, ?_, ?_, Fresh.recd (Fresh.pair (Fresh.int _ _ _) (Nat.le_refl _) (lt_int _ _) (Fresh.pair (Fresh.int _ _ _) (Nat.le_refl _) (lt_int _ _) (Fresh.pair (Fresh.int _ _ _) (Nat.le_refl _) (lt_int _ _) (Fresh.pair (Fresh.int _ _ _) (Nat.le_refl _) (lt_int _ _) (Fresh.pair (Fresh.bool _ _ _) (Nat.le_refl _) (lt_bool _ _) (Fresh.pair (M' := w1.heap.size) ((HX.out.1).mono (by omega)) (by omega) (HL.out.1) ((HX.out.2).mono (by omega)))))))), HB.out⟩
  · show ((f_0, f_1, f_2, f_3, f_4, yI.pl x5, yI.pl x6) : (Int × Int × Int × Int × Bool × (List Int) × (List Int))) = (f_0, f_1, f_2, f_3, f_4, yI.pl f_5, yI.pl f_6)
    rw [(HPL.out.1).1, (HPL.out.2).1]
  · show 0 + (0 + (0 + (0 + (0 + (yI.size x5 + (yI.size x6)))))) = 0 + (0 + (0 + (0 + (0 + (yI.size f_5 + (yI.size f_6))))))
    have hh := HPL.out
    omega

def yReqReqS : Knd (Lst (Int × Int × Int × Int × Bool × (Lst Int) × (Lst Int))) (List (Int × Int × Int × Int × Bool × (List Int) × (List Int))) := gLst 84 yReqReq
theorem yReqReqS_law : KLaw yReqReqS := gLst_law yReqReq_law (by decide)

set_option maxRecDepth 100000 in
set_option maxHeartbeats 2000000 in
theorem yReqReqS_sz : SzC yReqReqS 58 := by
  rintro ⟨p, c, l⟩ left w hr h0 h1
  have hl1 : l.length ≤ c := hr.1
  have hl2 : c ≤ 9223372036854775807 := hr.2.1
  have HR := Hid.intro hr
  clear hr
  show Calls Try.prog 58 #[.slice p l.length c, .int .i64 left] w _
  by_cases hn : left - (l.length : Int) < 0
  · go_enter Try.func58, Try.ntmps58
    go_wp2
    go_ret
    exact ⟨⟨_, rfl, .inl rfl⟩, Below.refl _ _⟩
  go_enter Try.func58, Try.ntmps58
  go_wp2
  go_loopw [5, 1] (fun i z wr => ∃ (k : Nat) (y : Int), k ≤ l.length ∧ i = .int .i64 k ∧ z = .int .i64 y ∧ 0 ≤ y ∧ y ≤ 1048576 ∧ Hid (y = left - (l.length : Int) - ((((l.take k).map yReqReq.size).sum : Nat) : Int)) ∧ Below w.heap.size w wr) (fun i _ _ => l.length - (intOf i).toNat)
  case atStart => exact ⟨0, _, Nat.zero_le _, rfl, rfl, by omega, by omega, Hid.intro (by simp), Below.refl _ _⟩
  case round =>
    obtain ⟨k, y, hk, rfl, rfl, hz, hz1, HY, hbl⟩ := hrel
    by_cases hlt : k < l.length
    · have hp := yReqReqS_law.rd_blw HR.out hbl
      have hq := hp.2.2.2 _ (List.getElem_mem hlt)
      have hk0 : (0 : Int) ≤ (k : Int) := by omega
      have hk1 : (k : Int) < (l.length : Int) := by omega
      have hst := size_take yReqReq hlt
      have hc : ∃ b off, p = some ⟨b, off, none⟩ ∧ b < wr.heap.size ∧ ∀ (j : Nat) (v : Value), (yReqReq.cells l[k])[j]? = some v → wr.cell? ⟨b, off + k * 7 + j, none⟩ = some v := by
        rcases hp.2.2.1 with h0 | ⟨b, off, e, hb, hc⟩
        · have h0 : l = [] := h0
          subst h0; simp at hlt
        · exact ⟨b, off, e, hb, fun j v hv => hc k hlt j v hv⟩
      obtain ⟨b, off, rfl, hb, hc⟩ := hc
      clear hp
      generalize l[k] = q at hq hst hc
      obtain ⟨q_0, q_1, q_2, q_3, q_4, q_5, q_6⟩ := q
      have c0 : wr.cell? ⟨b, off + k * 7, none⟩ = some (.int .i64 q_0) := hc 0 _ rfl
      have c1 : wr.cell? ⟨b, off + k * 7 + 1, none⟩ = some (.int .i64 q_1) := hc 1 _ rfl
      have c2 : wr.cell? ⟨b, off + k * 7 + 2, none⟩ = some (.int .i64 q_2) := hc 2 _ rfl
      have c3 : wr.cell? ⟨b, off + k * 7 + 3, none⟩ = some (.int .i64 q_3) := hc 3 _ rfl
      have c4 : wr.cell? ⟨b, off + k * 7 + 4, none⟩ = some (.bool q_4) := hc 4 _ rfl
      have c5 : wr.cell? ⟨b, off + k * 7 + 5, none⟩ = some (.slice q_5.p q_5.l.length q_5.c) := hc 5 _ rfl
      have c6 : wr.cell? ⟨b, off + k * 7 + 6, none⟩ = some (.slice q_6.p q_6.l.length q_6.c) := hc 6 _ rfl
      have HCE : Hid (∀ (left : Int) (w : World), yReqReq.rd w (q_0, q_1, q_2, q_3, q_4, q_5, q_6) → 0 ≤ left → left ≤ 1048576 → Calls Try.prog 75 #[.agg #[.int .i64 q_0, .int .i64 q_1, .int .i64 q_2, .int .i64 q_3, .bool q_4, .slice q_5.p q_5.l.length q_5.c, .slice q_6.p q_6.l.length q_6.c], .int .i64 left] w fun e w' => (∃ z : Int, e = .returned (.int .i64 z) ∧ (z = -1 ∨ (0 ≤ z ∧ z = left - (yReqReq.size (q_0, q_1, q_2, q_3, q_4, q_5, q_6) : Int)))) ∧ Below w.heap.size w w') := Hid.intro (yReqReq_sz (q_0, q_1, q_2, q_3, q_4, q_5, q_6))
      have HST := Hid.intro hst
      have HQ := Hid.intro hq
      clear hst hq hc
      go_wp2_with fail
      refine (HCE.out _ _ HQ.out hz hz1).mono ?_
      clear HCE
      rintro e w1 ⟨⟨z, rfl, hzz⟩, hb1⟩
      have hbl1 := hbl.trans (hb1.mono hbl.size)
      clear hb1 HQ hbl c0 c1 c2 c3 c4 c5 c6
      rcases hzz with rfl | ⟨g0, g1⟩
      · go_wp2
        go_ret
        exact ⟨⟨_, rfl, .inl rfl⟩, hbl1⟩
      have hg : ¬ (z < 0) := by omega
      have hz2 : z ≤ 1048576 := by omega
      have HY2 : Hid (z = left - (l.length : Int) - ((((l.take (k + 1)).map yReqReq.size).sum : Nat) : Int)) := Hid.intro (by have h1 := HST.out; have h2 := HY.out; omega)
      clear g1 HY HST
      go_wp2
      go_roundw
      case rel => exact ⟨k + 1, z, by omega, by go_num, rfl, g0, hz2, HY2, hbl1⟩
      case measure => simp [intOf]; omega
    · have hk3 : ¬ (k : Int) < (l.length : Int) := by omega
      have HE : Hid ((yReqReqS.size ⟨p, c, l⟩ : Nat) = l.length + ((l.take k).map yReqReq.size).sum) := Hid.intro (by rw [show k = l.length by omega, List.take_length]; rfl)
      go_wp2
      go_ret
      exact ⟨⟨_, rfl, .inr ⟨hz, by have h1 := HE.out; have h2 := HY.out; omega⟩⟩, hbl⟩

set_option maxRecDepth 100000 in
set_option maxHeartbeats 2000000 in
theorem yReqReqS_eq : EqC yReqReqS 62 := by
  rintro ⟨p, c, l⟩ ⟨p', c', m⟩ w hr hr' hpl
  have hl1 : l.length ≤ c := hr.1
  have hl2 : c ≤ 9223372036854775807 := hr.2.1
  have hl3 : m.length ≤ c' := hr'.1
  have hl4 : c' ≤ 9223372036854775807 := hr'.2.1
  have hpl' : l.map yReqReq.pl = m.map yReqReq.pl := hpl
  have hlm : l.length = m.length := by have := congrArg List.length hpl'; simpa using this
  have HP := Hid.intro hr
  have HQ := Hid.intro hr'
  have HE := Hid.intro hpl'
  clear hr hr' hpl hpl'
  obtain ⟨n, hn⟩ : ∃ n, n = l.length := ⟨_, rfl⟩
  have HN := Hid.intro (And.intro hn (hn.trans hlm))
  show Calls Try.prog 62 #[.slice p l.length c, .slice p' m.length c'] w _
  rw [← hlm, ← hn]
  have hn1 : n ≤ 9223372036854775807 := by omega
  clear hn hlm hl1 hl2 hl3 hl4
  go_enter Try.func62, Try.ntmps62
  go_wp2
  go_loopw [5] (fun i wr => ∃ k : Nat, k ≤ n ∧ i = .int .i64 k ∧ Below w.heap.size w wr) (fun i _ => n - (intOf i).toNat)
  case atStart => exact ⟨0, Nat.zero_le _, rfl, Below.refl _ _⟩
  case round =>
    obtain ⟨k, hk, rfl, hbl⟩ := hrel
    by_cases hlt : k < n
    · have hk0 : (0 : Int) ≤ (k : Int) := by omega
      have hk1 : (k : Int) < (n : Int) := by omega
      have hp := yReqReqS_law.rd_blw HP.out hbl
      have hq := yReqReqS_law.rd_blw HQ.out hbl
      have ly : k < l.length := by have := HN.out.1; omega
      have lz : k < m.length := by have := HN.out.2; omega
      have hxx : yReqReq.pl l[k] = yReqReq.pl m[k] := by
        have e1 : (l.map yReqReq.pl)[k]? = (m.map yReqReq.pl)[k]? := by rw [HE.out]
        simpa [ly, lz] using e1
      have hpa := hp.2.2.2 _ (List.getElem_mem ly)
      have hqa := hq.2.2.2 _ (List.getElem_mem lz)
      have hcp : ∃ b off, p = some ⟨b, off, none⟩ ∧ b < wr.heap.size ∧ ∀ (j : Nat) (v : Value), (yReqReq.cells l[k])[j]? = some v → wr.cell? ⟨b, off + k * 7 + j, none⟩ = some v := by
        rcases hp.2.2.1 with h0 | ⟨b, off, e, hb, hc⟩
        · have h0 : l = [] := h0
          rw [h0] at ly; simp at ly
        · exact ⟨b, off, e, hb, fun j v hv => hc k ly j v hv⟩
      obtain ⟨b, off, rfl, hb, hcp⟩ := hcp
      have hcq : ∃ b off, p' = some ⟨b, off, none⟩ ∧ b < wr.heap.size ∧ ∀ (j : Nat) (v : Value), (yReqReq.cells m[k])[j]? = some v → wr.cell? ⟨b, off + k * 7 + j, none⟩ = some v := by
        rcases hq.2.2.1 with h0 | ⟨b, off, e, hb, hc⟩
        · have h0 : m = [] := h0
          rw [h0] at lz; simp at lz
        · exact ⟨b, off, e, hb, fun j v hv => hc k lz j v hv⟩
      obtain ⟨b', off', rfl, hb', hcq⟩ := hcq
      clear hp hq
      generalize l[k] = x at hxx hpa hcp
      generalize m[k] = z at hxx hqa hcq
      obtain ⟨x_0, x_1, x_2, x_3, x_4, x_5, x_6⟩ := x
      obtain ⟨z_0, z_1, z_2, z_3, z_4, z_5, z_6⟩ := z
      have u0 : wr.cell? ⟨b, off + k * 7, none⟩ = some (.int .i64 x_0) := hcp 0 _ rfl
      have u1 : wr.cell? ⟨b, off + k * 7 + 1, none⟩ = some (.int .i64 x_1) := hcp 1 _ rfl
      have u2 : wr.cell? ⟨b, off + k * 7 + 2, none⟩ = some (.int .i64 x_2) := hcp 2 _ rfl
      have u3 : wr.cell? ⟨b, off + k * 7 + 3, none⟩ = some (.int .i64 x_3) := hcp 3 _ rfl
      have u4 : wr.cell? ⟨b, off + k * 7 + 4, none⟩ = some (.bool x_4) := hcp 4 _ rfl
      have u5 : wr.cell? ⟨b, off + k * 7 + 5, none⟩ = some (.slice x_5.p x_5.l.length x_5.c) := hcp 5 _ rfl
      have u6 : wr.cell? ⟨b, off + k * 7 + 6, none⟩ = some (.slice x_6.p x_6.l.length x_6.c) := hcp 6 _ rfl
      have y0 : wr.cell? ⟨b', off' + k * 7, none⟩ = some (.int .i64 z_0) := hcq 0 _ rfl
      have y1 : wr.cell? ⟨b', off' + k * 7 + 1, none⟩ = some (.int .i64 z_1) := hcq 1 _ rfl
      have y2 : wr.cell? ⟨b', off' + k * 7 + 2, none⟩ = some (.int .i64 z_2) := hcq 2 _ rfl
      have y3 : wr.cell? ⟨b', off' + k * 7 + 3, none⟩ = some (.int .i64 z_3) := hcq 3 _ rfl
      have y4 : wr.cell? ⟨b', off' + k * 7 + 4, none⟩ = some (.bool z_4) := hcq 4 _ rfl
      have y5 : wr.cell? ⟨b', off' + k * 7 + 5, none⟩ = some (.slice z_5.p z_5.l.length z_5.c) := hcq 5 _ rfl
      have y6 : wr.cell? ⟨b', off' + k * 7 + 6, none⟩ = some (.slice z_6.p z_6.l.length z_6.c) := hcq 6 _ rfl
      have HP1 := Hid.intro (And.intro hpa (And.intro u0 (And.intro u1 (And.intro u2 (And.intro u3 (And.intro u4 (And.intro u5 u6)))))))
      have HQ1 := Hid.intro (And.intro hqa (And.intro y0 (And.intro y1 (And.intro y2 (And.intro y3 (And.intro y4 (And.intro y5 y6)))))))
      have HXX := Hid.intro hxx
      clear hpa hqa hxx hcp hcq ly lz u0 u1 u2 u3 u4 u5 u6 y0 y1 y2 y3 y4 y5 y6
      go_wp2_with fail
      refine wp_region_typed (by kernel_rfl) Gr (fun _ W => Below wr.heap.size wr W)
        (tab [(17, kIs (.slice (some ⟨b, off, none⟩) n c)), (18, kIs (.int .i64 k)), (19, kIs (.pointer (some ⟨b, off + k * 7, none⟩))), (20, kIs (.agg #[.int .i64 x_0, .int .i64 x_1, .int .i64 x_2, .int .i64 x_3, .bool x_4, .slice x_5.p x_5.l.length x_5.c, .slice x_6.p x_6.l.length x_6.c])), (21, kIs (.slice (some ⟨b', off', none⟩) n c')), (22, kIs (.int .i64 k)), (23, kIs (.pointer (some ⟨b', off' + k * 7, none⟩))), (24, kIs (.agg #[.int .i64 z_0, .int .i64 z_1, .int .i64 z_2, .int .i64 z_3, .bool z_4, .slice z_5.p z_5.l.length z_5.c, .slice z_6.p z_6.l.length z_6.c])), (25, kIs (.bool true)), (26, kIs (.bool false))])
        [17, 18, 19, 20, 21, 22, 23, 24, 25, 26] (by kernel_rfl) (by kernel_rfl) ?_ ?_ ?_ ?_
      · refine tabR_stable ?_
        intro y hy
        simp only [List.mem_cons, List.not_mem_nil, or_false] at hy
        rcases hy with rfl | rfl | rfl | rfl | rfl | rfl | rfl | rfl | rfl | rfl
        all_goals intro w w' v hr hv
        all_goals exact hv
      · exact (Below.refl _ _).drew
      · refine ops_cons (gd rfl <| ty_move_out (.inl rfl) rfl (by kernel_rfl) rfl (fun _ _ h => h) Gr.refl) ?_
        refine ops_cons (gd rfl <| ty_move_out (.inl rfl) rfl (by kernel_rfl) rfl (fun _ _ h => h) Gr.refl) ?_
        refine ops_cons (gd rfl <| tx_pure rfl rfl (fun _ _ h => h) Gr.refl (fun _ ρ W hat hW => ?_)) ?_
        · have e1 : ρ (.tmp 17) = _ := hat.dep 17 (by kernel_rfl)
          have e2 : ρ (.tmp 18) = _ := hat.dep 18 (by kernel_rfl)
          simp only [execOp, e1, e2]; go_simp
        refine ops_cons (gd rfl <| tx_pure rfl rfl (fun _ _ h => h) Gr.refl (fun _ ρ W hat hW => ?_)) ?_
        · have e1 : ρ (.tmp 19) = _ := hat.dep 19 (by kernel_rfl)
          obtain ⟨u0, u1, u2, u3, u4, u5, u6⟩ := HP1.out.2
          have v0 := (hW.cell (p := ⟨b, off + k * 7, none⟩) hb).trans u0
          have v1 := (hW.cell (p := ⟨b, off + k * 7 + 1, none⟩) hb).trans u1
          have v2 := (hW.cell (p := ⟨b, off + k * 7 + 2, none⟩) hb).trans u2
          have v3 := (hW.cell (p := ⟨b, off + k * 7 + 3, none⟩) hb).trans u3
          have v4 := (hW.cell (p := ⟨b, off + k * 7 + 4, none⟩) hb).trans u4
          have v5 := (hW.cell (p := ⟨b, off + k * 7 + 5, none⟩) hb).trans u5
          have v6 := (hW.cell (p := ⟨b, off + k * 7 + 6, none⟩) hb).trans u6
          clear u0 u1 u2 u3 u4 u5 u6
          simp only [execOp, e1]; go_simp
        refine ops_cons (gd rfl <| ty_move_out (.inl rfl) rfl (by kernel_rfl) rfl (fun _ _ h => h) Gr.refl) ?_
        refine ops_cons (gd rfl <| ty_move_out (.inl rfl) rfl (by kernel_rfl) rfl (fun _ _ h => h) Gr.refl) ?_
        refine ops_cons (gd rfl <| tx_pure rfl rfl (fun _ _ h => h) Gr.refl (fun _ ρ W hat hW => ?_)) ?_
        · have e1 : ρ (.tmp 21) = _ := hat.dep 21 (by kernel_rfl)
          have e2 : ρ (.tmp 22) = _ := hat.dep 22 (by kernel_rfl)
          simp only [execOp, e1, e2]; go_simp
        refine ops_cons (gd rfl <| tx_pure rfl rfl (fun _ _ h => h) Gr.refl (fun _ ρ W hat hW => ?_)) ?_
        · have e1 : ρ (.tmp 23) = _ := hat.dep 23 (by kernel_rfl)
          obtain ⟨y0, y1, y2, y3, y4, y5, y6⟩ := HQ1.out.2
          have v0 := (hW.cell (p := ⟨b', off' + k * 7, none⟩) hb').trans y0
          have v1 := (hW.cell (p := ⟨b', off' + k * 7 + 1, none⟩) hb').trans y1
          have v2 := (hW.cell (p := ⟨b', off' + k * 7 + 2, none⟩) hb').trans y2
          have v3 := (hW.cell (p := ⟨b', off' + k * 7 + 3, none⟩) hb').trans y3
          have v4 := (hW.cell (p := ⟨b', off' + k * 7 + 4, none⟩) hb').trans y4
          have v5 := (hW.cell (p := ⟨b', off' + k * 7 + 5, none⟩) hb').trans y5
          have v6 := (hW.cell (p := ⟨b', off' + k * 7 + 6, none⟩) hb').trans y6
          clear y0 y1 y2 y3 y4 y5 y6
          simp only [execOp, e1]; go_simp
        refine ops_cons (gd rfl <| tx_call rfl (fun _ ρ W _ hat hW => ?_)) ?_
        · have e1 : ρ (.tmp 20) = _ := hat.dep 20 (by kernel_rfl)
          have e2 : ρ (.tmp 24) = _ := hat.dep 24 (by kernel_rfl)
          have hf := hat.fn
          refine ⟨77, #[.agg #[.int .i64 x_0, .int .i64 x_1, .int .i64 x_2, .int .i64 x_3, .bool x_4, .slice x_5.p x_5.l.length x_5.c, .slice x_6.p x_6.l.length x_6.c], .agg #[.int .i64 z_0, .int .i64 z_1, .int .i64 z_2, .int .i64 z_3, .bool z_4, .slice z_5.p z_5.l.length z_5.c, .slice z_6.p z_6.l.length z_6.c]], by simp only [execOp]; go_simp, ?_⟩
          have hcl := yReqReq_eq (x_0, x_1, x_2, x_3, x_4, x_5, x_6) (z_0, z_1, z_2, z_3, z_4, z_5, z_6) W (yReqReq_law.rd_blw HP1.out.1 hW) (yReqReq_law.rd_blw HQ1.out.1 hW) HXX.out
          refine Calls.mono (show Calls Try.prog 77 #[.agg #[.int .i64 x_0, .int .i64 x_1, .int .i64 x_2, .int .i64 x_3, .bool x_4, .slice x_5.p x_5.l.length x_5.c, .slice x_6.p x_6.l.length x_6.c], .agg #[.int .i64 z_0, .int .i64 z_1, .int .i64 z_2, .int .i64 z_3, .bool z_4, .slice z_5.p z_5.l.length z_5.c, .slice z_6.p z_6.l.length z_6.c]] W _ from hcl) ?_
          rintro e W' ⟨rfl, hb⟩
          exact ⟨_, rfl, hW.trans (hb.mono hW.size), hb, rfl⟩
        refine ops_cons (gd rfl <| tx_pure rfl rfl (fun _ _ h => h) Gr.refl (fun _ ρ W hat hW => ?_)) ?_
        · have e1 : ρ (.tmp 25) = _ := hat.dep 25 (by kernel_rfl)
          simp only [execOp, e1]; go_simp
        exact ops_nil
      · intro f W hW hf
        have e26 : f 26 = .bool false := hf 26 (by simp)
        clear hf
        have hbW := hbl.trans (hW.mono hbl.size)
        simp only [fill, e26]
        go_simp
        go_wp2
        go_roundw
        case rel => exact ⟨k + 1, by omega, by go_num, hbW⟩
        case measure => simp [intOf]; omega
    · have hk3 : ¬ (k : Int) < (n : Int) := by omega
      go_wp2
      go_ret
      exact ⟨rfl, hbl⟩

theorem Try.infoReqReqS : (Try.prog.info? 84).map (fun i => (i.zero, i.size, i.bytes)) = some (some (.agg #[.int .i64 0, .int .i64 0, .int .i64 0, .int .i64 0, .bool false, .slice none 0 0, .slice none 0 0]), 7, 88) := by kernel_rfl

set_option maxRecDepth 100000 in
set_option maxHeartbeats 2000000 in
theorem yReqReqS_to : ToC yReqReqS 60 := by
  rintro ⟨p, c, l⟩ w hr hs
  have hl1 : l.length ≤ c := hr.1
  have hl2 : c ≤ 9223372036854775807 := hr.2.1
  have hs' : l.length + (l.map yReqReq.size).sum ≤ 1048576 := hs
  have hl3 : l.length ≤ 1048576 := by omega
  have HR := Hid.intro hr
  have HSZ := Hid.intro hs'
  clear hr hs hs'
  obtain ⟨i0, hi, hz0, hz1, hz2⟩ := info_parts Try.infoReqReqS
  have hmk : ∀ W : World, (Instr.makeSlice 31 (.int .i64 (l.length : Int)) (.int .i64 (l.length : Int))).run Try.prog W =
      .ok (.slice (some ⟨W.heap.size, 0, none⟩) l.length l.length) (W.alloc (.cells (madeCells (Value.cells (.agg #[.int .i64 0, .int .i64 0, .int .i64 0, .int .i64 0, .bool false, .slice none 0 0, .slice none 0 0])) (l.length * 7)) 84)) := fun W => by
    have := run_make (P := Try.prog) W 31 84 i0 _ Try.underlying31 hi hz0 .i64 .i64 (l.length : Int) (l.length : Int) (by omega) (by omega) (by rw [hz2]; omega) (by omega)
    rw [hz1] at this
    simpa using this
  have HM0 : Hid (MakeSt yReqReq 84 l w.heap.size (w.alloc (.cells (madeCells (Value.cells (.agg #[.int .i64 0, .int .i64 0, .int .i64 0, .int .i64 0, .bool false, .slice none 0 0, .slice none 0 0])) (l.length * 7)) 84)) 0 []) := Hid.intro (MakeSt.start yReqReq_law (by rfl))
  have hbl0 : Below w.heap.size w (w.alloc (.cells (madeCells (Value.cells (.agg #[.int .i64 0, .int .i64 0, .int .i64 0, .int .i64 0, .bool false, .slice none 0 0, .slice none 0 0])) (l.length * 7)) 84)) := (Below.refl _ w).alloc (Nat.le_refl _) _
  have hsz0 : w.heap.size < (w.alloc (.cells (madeCells (Value.cells (.agg #[.int .i64 0, .int .i64 0, .int .i64 0, .int .i64 0, .bool false, .slice none 0 0, .slice none 0 0])) (l.length * 7)) 84)).heap.size := by simp
  show Calls Try.prog 60 #[.slice p l.length c] w _
  go_enter Try.func60, Try.ntmps60
  go_wp2
  clear hmk
  go_loopw [4] (fun i wr => ∃ (k : Nat) (zs : List (Int × Int × Int × Int × Bool × (Lst Int) × (Lst Int))), k ≤ l.length ∧ i = .int .i64 k ∧ Below w.heap.size w wr ∧ w.heap.size < wr.heap.size ∧ Hid (MakeSt yReqReq 84 l w.heap.size wr k zs)) (fun i _ => l.length - (intOf i).toNat)
  case atStart => exact ⟨0, [], Nat.zero_le _, rfl, hbl0, hsz0, HM0⟩
  case round =>
    clear HM0 hbl0 hsz0
    obtain ⟨k, zs, hk, rfl, hbl, hsz, HM⟩ := hrel
    by_cases hlt : k < l.length
    · have hp := yReqReqS_law.rd_blw HR.out hbl
      have hq := hp.2.2.2 _ (List.getElem_mem hlt)
      have hk0 : (0 : Int) ≤ (k : Int) := by omega
      have hk1 : (k : Int) < (l.length : Int) := by omega
      have hqs : yReqReq.size l[k] ≤ 1048576 := by have := size_le yReqReq hlt; have := HSZ.out; omega
      obtain ⟨q, hqe⟩ : ∃ q, q = l[k] := ⟨_, rfl⟩
      rw [← hqe] at hq hqs
      have hc : ∃ b off, p = some ⟨b, off, none⟩ ∧ b < wr.heap.size ∧ ∀ (j : Nat) (v : Value), (yReqReq.cells q)[j]? = some v → wr.cell? ⟨b, off + k * 7 + j, none⟩ = some v := by
        rcases hp.2.2.1 with h0 | ⟨b, off, e, hb, hc⟩
        · have h0 : l = [] := h0
          subst h0; simp at hlt
        · exact ⟨b, off, e, hb, fun j v hv => hc k hlt j v (by rw [← hqe]; exact hv)⟩
      obtain ⟨b, off, rfl, hb, hc⟩ := hc
      clear hp
      have HQE := Hid.intro hqe
      clear hqe
      obtain ⟨q_0, q_1, q_2, q_3, q_4, q_5, q_6⟩ := q
      have c0 : wr.cell? ⟨b, off + k * 7, none⟩ = some (.int .i64 q_0) := hc 0 _ rfl
      have c1 : wr.cell? ⟨b, off + k * 7 + 1, none⟩ = some (.int .i64 q_1) := hc 1 _ rfl
      have c2 : wr.cell? ⟨b, off + k * 7 + 2, none⟩ = some (.int .i64 q_2) := hc 2 _ rfl
      have c3 : wr.cell? ⟨b, off + k * 7 + 3, none⟩ = some (.int .i64 q_3) := hc 3 _ rfl
      have c4 : wr.cell? ⟨b, off + k * 7 + 4, none⟩ = some (.bool q_4) := hc 4 _ rfl
      have c5 : wr.cell? ⟨b, off + k * 7 + 5, none⟩ = some (.slice q_5.p q_5.l.length q_5.c) := hc 5 _ rfl
      have c6 : wr.cell? ⟨b, off + k * 7 + 6, none⟩ = some (.slice q_6.p q_6.l.length q_6.c) := hc 6 _ rfl
      have HCE : Hid (∀ (w : World), yReqReq.rd w (q_0, q_1, q_2, q_3, q_4, q_5, q_6) → yReqReq.size (q_0, q_1, q_2, q_3, q_4, q_5, q_6) ≤ 1048576 → Calls Try.prog 76 #[.agg #[.int .i64 q_0, .int .i64 q_1, .int .i64 q_2, .int .i64 q_3, .bool q_4, .slice q_5.p q_5.l.length q_5.c, .slice q_6.p q_6.l.length q_6.c]] w fun e w' => ∃ a', e = .returned (yReqReq.val a') ∧ yReqReq.pl a' = yReqReq.pl (q_0, q_1, q_2, q_3, q_4, q_5, q_6) ∧ yReqReq.size a' = yReqReq.size (q_0, q_1, q_2, q_3, q_4, q_5, q_6) ∧ Fresh yReqReq w.heap.size w' a' ∧ Below w.heap.size w w') := Hid.intro (yReqReq_to (q_0, q_1, q_2, q_3, q_4, q_5, q_6))
      have HQ := Hid.intro (And.intro hq hqs)
      clear hq hqs hc
      go_wp2_with fail
      refine (HCE.out _ HQ.out.1 HQ.out.2).mono ?_
      clear HCE
      rintro e w1 ⟨⟨x_0, x_1, x_2, x_3, x_4, x_5, x_6⟩, he, hpl, hss, hf, hb1⟩
      rw [yReqReq_val] at he
      subst he
      have hsz1 : w.heap.size < w1.heap.size := Nat.lt_of_lt_of_le hsz hb1.size
      have hm1 := HM.out.below yReqReq_law hb1
      have hlt1 : ∀ b ∈ zs.flatMap yReqReq.foot, b < wr.heap.size := HM.out.fr.lt yReqReq_law
      obtain ⟨u0, t0⟩ := hm1.row.there (k * 7) (show _ < l.length * 7 by omega)
      have f0 := hm1.row.frz (k * 7)
      obtain ⟨u1, t1⟩ := hm1.row.there (k * 7 + 1) (show _ < l.length * 7 by omega)
      have f1 := hm1.row.frz (k * 7 + 1)
      obtain ⟨u2, t2⟩ := hm1.row.there (k * 7 + 2) (show _ < l.length * 7 by omega)
      have f2 := hm1.row.frz (k * 7 + 2)
      obtain ⟨u3, t3⟩ := hm1.row.there (k * 7 + 3) (show _ < l.length * 7 by omega)
      have f3 := hm1.row.frz (k * 7 + 3)
      obtain ⟨u4, t4⟩ := hm1.row.there (k * 7 + 4) (show _ < l.length * 7 by omega)
      have f4 := hm1.row.frz (k * 7 + 4)
      obtain ⟨u5, t5⟩ := hm1.row.there (k * 7 + 5) (show _ < l.length * 7 by omega)
      have f5 := hm1.row.frz (k * 7 + 5)
      obtain ⟨u6, t6⟩ := hm1.row.there (k * 7 + 6) (show _ < l.length * 7 by omega)
      have f6 := hm1.row.frz (k * 7 + 6)
      have HM2 := Hid.intro (hm1.step yReqReq_law (q := (x_0, x_1, x_2, x_3, x_4, x_5, x_6)) hlt (by rw [← HQE.out]; exact hpl) (by rw [← HQE.out]; exact hss) hf hlt1 hsz)
      have HB2 := Hid.intro (putC_below (Nat.le_refl _) (rowVs (k * yReqReq.sz) (yReqReq.cells (x_0, x_1, x_2, x_3, x_4, x_5, x_6))) (hbl.trans (hb1.mono (by omega))))
      clear hm1 HM HQ hbl hb1 hf hpl hss hlt1 HQE c0 c1 c2 c3 c4 c5 c6
      go_wp2
      go_roundw
      case rel => exact ⟨k + 1, zs ++ [(x_0, x_1, x_2, x_3, x_4, x_5, x_6)], by omega, by go_num, HB2.out, by simpa using hsz1, HM2.out⟩
      case measure => simp [intOf]; omega
    · have hd := HM.out.done (show k = l.length by omega) (by omega)
      have HD := Hid.intro hd
      clear hd HM
      go_wp2
      go_ret
      exact ⟨⟨some ⟨w.heap.size, 0, none⟩, l.length, zs⟩, by show _ = Ending.returned (Value.slice _ zs.length _); rw [HD.out.2.2.2]; rfl, HD.out.2.1, by show zs.length + (zs.map yReqReq.size).sum = l.length + (l.map yReqReq.size).sum; rw [HD.out.2.2.2, HD.out.2.2.1], HD.out.1, hbl⟩

def yReqReqSS : Knd (Lst (Lst (Int × Int × Int × Int × Bool × (Lst Int) × (Lst Int)))) (List (List (Int × Int × Int × Int × Bool × (List Int) × (List Int)))) := gLst 31 yReqReqS
theorem yReqReqSS_law : KLaw yReqReqSS := gLst_law yReqReqS_law (by decide)

set_option maxRecDepth 100000 in
set_option maxHeartbeats 2000000 in
theorem yReqReqSS_sz : SzC yReqReqSS 34 := by
  rintro ⟨p, c, l⟩ left w hr h0 h1
  have hl1 : l.length ≤ c := hr.1
  have hl2 : c ≤ 9223372036854775807 := hr.2.1
  have HR := Hid.intro hr
  clear hr
  show Calls Try.prog 34 #[.slice p l.length c, .int .i64 left] w _
  by_cases hn : left - (l.length : Int) < 0
  · go_enter Try.func34, Try.ntmps34
    go_wp2
    go_ret
    exact ⟨⟨_, rfl, .inl rfl⟩, Below.refl _ _⟩
  go_enter Try.func34, Try.ntmps34
  go_wp2
  go_loopw [5, 1] (fun i z wr => ∃ (k : Nat) (y : Int), k ≤ l.length ∧ i = .int .i64 k ∧ z = .int .i64 y ∧ 0 ≤ y ∧ y ≤ 1048576 ∧ Hid (y = left - (l.length : Int) - ((((l.take k).map yReqReqS.size).sum : Nat) : Int)) ∧ Below w.heap.size w wr) (fun i _ _ => l.length - (intOf i).toNat)
  case atStart => exact ⟨0, _, Nat.zero_le _, rfl, rfl, by omega, by omega, Hid.intro (by simp), Below.refl _ _⟩
  case round =>
    obtain ⟨k, y, hk, rfl, rfl, hz, hz1, HY, hbl⟩ := hrel
    by_cases hlt : k < l.length
    · have hp := yReqReqSS_law.rd_blw HR.out hbl
      have hq := hp.2.2.2 _ (List.getElem_mem hlt)
      have hk0 : (0 : Int) ≤ (k : Int) := by omega
      have hk1 : (k : Int) < (l.length : Int) := by omega
      have hst := size_take yReqReqS hlt
      have hc : ∃ b off, p = some ⟨b, off, none⟩ ∧ b < wr.heap.size ∧ ∀ (j : Nat) (v : Value), (yReqReqS.cells l[k])[j]? = some v → wr.cell? ⟨b, off + k * 1 + j, none⟩ = some v := by
        rcases hp.2.2.1 with h0 | ⟨b, off, e, hb, hc⟩
        · have h0 : l = [] := h0
          subst h0; simp at hlt
        · exact ⟨b, off, e, hb, fun j v hv => hc k hlt j v hv⟩
      obtain ⟨b, off, rfl, hb, hc⟩ := hc
      clear hp
      generalize l[k] = q at hq hst hc
      have c0 : wr.cell? ⟨b, off + k, none⟩ = some (.slice q.p q.l.length q.c) := by simpa using hc 0 _ rfl
      have HCE : Hid (∀ (left : Int) (w : World), yReqReqS.rd w q → 0 ≤ left → left ≤ 1048576 → Calls Try.prog 58 #[.slice q.p q.l.length q.c, .int .i64 left] w fun e w' => (∃ z : Int, e = .returned (.int .i64 z) ∧ (z = -1 ∨ (0 ≤ z ∧ z = left - (yReqReqS.size q : Int)))) ∧ Below w.heap.size w w') := Hid.intro (yReqReqS_sz q)
      have HST := Hid.intro hst
      have HQ := Hid.intro hq
      clear hst hq hc
      go_wp2_with fail
      refine (HCE.out _ _ HQ.out hz hz1).mono ?_
      clear HCE
      rintro e w1 ⟨⟨z, rfl, hzz⟩, hb1⟩
      have hbl1 := hbl.trans (hb1.mono hbl.size)
      clear hb1 HQ hbl c0
      rcases hzz with rfl | ⟨g0, g1⟩
      · go_wp2
        go_ret
        exact ⟨⟨_, rfl, .inl rfl⟩, hbl1⟩
      have hg : ¬ (z < 0) := by omega
      have hz2 : z ≤ 1048576 := by omega
      have HY2 : Hid (z = left - (l.length : Int) - ((((l.take (k + 1)).map yReqReqS.size).sum : Nat) : Int)) := Hid.intro (by have h1 := HST.out; have h2 := HY.out; omega)
      clear g1 HY HST
      go_wp2
      go_roundw
      case rel => exact ⟨k + 1, z, by omega, by go_num, rfl, g0, hz2, HY2, hbl1⟩
      case measure => simp [intOf]; omega
    · have hk3 : ¬ (k : Int) < (l.length : Int) := by omega
      have HE : Hid ((yReqReqSS.size ⟨p, c, l⟩ : Nat) = l.length + ((l.take k).map yReqReqS.size).sum) := Hid.intro (by rw [show k = l.length by omega, List.take_length]; rfl)
      go_wp2
      go_ret
      exact ⟨⟨_, rfl, .inr ⟨hz, by have h1 := HE.out; have h2 := HY.out; omega⟩⟩, hbl⟩

set_option maxRecDepth 100000 in
set_option maxHeartbeats 2000000 in
theorem yReqReqSS_eq : EqC yReqReqSS 40 := by
  rintro ⟨p, c, l⟩ ⟨p', c', m⟩ w hr hr' hpl
  have hl1 : l.length ≤ c := hr.1
  have hl2 : c ≤ 9223372036854775807 := hr.2.1
  have hl3 : m.length ≤ c' := hr'.1
  have hl4 : c' ≤ 9223372036854775807 := hr'.2.1
  have hpl' : l.map yReqReqS.pl = m.map yReqReqS.pl := hpl
  have hlm : l.length = m.length := by have := congrArg List.length hpl'; simpa using this
  have HP := Hid.intro hr
  have HQ := Hid.intro hr'
  have HE := Hid.intro hpl'
  clear hr hr' hpl hpl'
  obtain ⟨n, hn⟩ : ∃ n, n = l.length := ⟨_, rfl⟩
  have HN := Hid.intro (And.intro hn (hn.trans hlm))
  show Calls Try.prog 40 #[.slice p l.length c, .slice p' m.length c'] w _
  rw [← hlm, ← hn]
  have hn1 : n ≤ 9223372036854775807 := by omega
  clear hn hlm hl1 hl2 hl3 hl4
  go_enter Try.func40, Try.ntmps40
  go_wp2
  go_loopw [5] (fun i wr => ∃ k : Nat, k ≤ n ∧ i = .int .i64 k ∧ Below w.heap.size w wr) (fun i _ => n - (intOf i).toNat)
  case atStart => exact ⟨0, Nat.zero_le _, rfl, Below.refl _ _⟩
  case round =>
    obtain ⟨k, hk, rfl, hbl⟩ := hrel
    by_cases hlt : k < n
    · have hk0 : (0 : Int) ≤ (k : Int) := by omega
      have hk1 : (k : Int) < (n : Int) := by omega
      have hp := yReqReqSS_law.rd_blw HP.out hbl
      have hq := yReqReqSS_law.rd_blw HQ.out hbl
      have ly : k < l.length := by have := HN.out.1; omega
      have lz : k < m.length := by have := HN.out.2; omega
      have hxx : yReqReqS.pl l[k] = yReqReqS.pl m[k] := by
        have e1 : (l.map yReqReqS.pl)[k]? = (m.map yReqReqS.pl)[k]? := by rw [HE.out]
        simpa [ly, lz] using e1
      have hpa := hp.2.2.2 _ (List.getElem_mem ly)
      have hqa := hq.2.2.2 _ (List.getElem_mem lz)
      have hcp : ∃ b off, p = some ⟨b, off, none⟩ ∧ b < wr.heap.size ∧ ∀ (j : Nat) (v : Value), (yReqReqS.cells l[k])[j]? = some v → wr.cell? ⟨b, off + k * 1 + j, none⟩ = some v := by
        rcases hp.2.2.1 with h0 | ⟨b, off, e, hb, hc⟩
        · have h0 : l = [] := h0
          rw [h0] at ly; simp at ly
        · exact ⟨b, off, e, hb, fun j v hv => hc k ly j v hv⟩
      obtain ⟨b, off, rfl, hb, hcp⟩ := hcp
      have hcq : ∃ b off, p' = some ⟨b, off, none⟩ ∧ b < wr.heap.size ∧ ∀ (j : Nat) (v : Value), (yReqReqS.cells m[k])[j]? = some v → wr.cell? ⟨b, off + k * 1 + j, none⟩ = some v := by
        rcases hq.2.2.1 with h0 | ⟨b, off, e, hb, hc⟩
        · have h0 : m = [] := h0
          rw [h0] at lz; simp at lz
        · exact ⟨b, off, e, hb, fun j v hv => hc k lz j v hv⟩
      obtain ⟨b', off', rfl, hb', hcq⟩ := hcq
      clear hp hq
      generalize l[k] = x at hxx hpa hcp
      generalize m[k] = z at hxx hqa hcq
      have u0 : wr.cell? ⟨b, off + k, none⟩ = some (.slice x.p x.l.length x.c) := by simpa using hcp 0 _ rfl
      have y0 : wr.cell? ⟨b', off' + k, none⟩ = some (.slice z.p z.l.length z.c) := by simpa using hcq 0 _ rfl
      have HP1 := Hid.intro (And.intro hpa u0)
      have HQ1 := Hid.intro (And.intro hqa y0)
      have HXX := Hid.intro hxx
      clear hpa hqa hxx hcp hcq ly lz u0 y0
      go_wp2_with fail
      refine wp_region_typed (by kernel_rfl) Gr (fun _ W => Below wr.heap.size wr W)
        (tab [(17, kIs (.slice (some ⟨b, off, none⟩) n c)), (18, kIs (.int .i64 k)), (19, kIs (.pointer (some ⟨b, off + k, none⟩))), (20, kIs (.slice x.p x.l.length x.c)), (21, kIs (.slice (some ⟨b', off', none⟩) n c')), (22, kIs (.int .i64 k)), (23, kIs (.pointer (some ⟨b', off' + k, none⟩))), (24, kIs (.slice z.p z.l.length z.c)), (25, kIs (.bool true)), (26, kIs (.bool false))])
        [17, 18, 19, 20, 21, 22, 23, 24, 25, 26] (by kernel_rfl) (by kernel_rfl) ?_ ?_ ?_ ?_
      · refine tabR_stable ?_
        intro y hy
        simp only [List.mem_cons, List.not_mem_nil, or_false] at hy
        rcases hy with rfl | rfl | rfl | rfl | rfl | rfl | rfl | rfl | rfl | rfl
        all_goals intro w w' v hr hv
        all_goals exact hv
      · exact (Below.refl _ _).drew
      · refine ops_cons (gd rfl <| ty_move_out (.inl rfl) rfl (by kernel_rfl) rfl (fun _ _ h => h) Gr.refl) ?_
        refine ops_cons (gd rfl <| ty_move_out (.inl rfl) rfl (by kernel_rfl) rfl (fun _ _ h => h) Gr.refl) ?_
        refine ops_cons (gd rfl <| tx_pure rfl rfl (fun _ _ h => h) Gr.refl (fun _ ρ W hat hW => ?_)) ?_
        · have e1 : ρ (.tmp 17) = _ := hat.dep 17 (by kernel_rfl)
          have e2 : ρ (.tmp 18) = _ := hat.dep 18 (by kernel_rfl)
          simp only [execOp, e1, e2]; go_simp
        refine ops_cons (gd rfl <| tx_pure rfl rfl (fun _ _ h => h) Gr.refl (fun _ ρ W hat hW => ?_)) ?_
        · have e1 : ρ (.tmp 19) = _ := hat.dep 19 (by kernel_rfl)
          obtain u0 := HP1.out.2
          have v0 := (hW.cell (p := ⟨b, off + k, none⟩) hb).trans u0
          clear u0
          simp only [execOp, e1]; go_simp
        refine ops_cons (gd rfl <| ty_move_out (.inl rfl) rfl (by kernel_rfl) rfl (fun _ _ h => h) Gr.refl) ?_
        refine ops_cons (gd rfl <| ty_move_out (.inl rfl) rfl (by kernel_rfl) rfl (fun _ _ h => h) Gr.refl) ?_
        refine ops_cons (gd rfl <| tx_pure rfl rfl (fun _ _ h => h) Gr.refl (fun _ ρ W hat hW => ?_)) ?_
        · have e1 : ρ (.tmp 21) = _ := hat.dep 21 (by kernel_rfl)
          have e2 : ρ (.tmp 22) = _ := hat.dep 22 (by kernel_rfl)
          simp only [execOp, e1, e2]; go_simp
        refine ops_cons (gd rfl <| tx_pure rfl rfl (fun _ _ h => h) Gr.refl (fun _ ρ W hat hW => ?_)) ?_
        · have e1 : ρ (.tmp 23) = _ := hat.dep 23 (by kernel_rfl)
          obtain y0 := HQ1.out.2
          have v0 := (hW.cell (p := ⟨b', off' + k, none⟩) hb').trans y0
          clear y0
          simp only [execOp, e1]; go_simp
        refine ops_cons (gd rfl <| tx_call rfl (fun _ ρ W _ hat hW => ?_)) ?_
        · have e1 : ρ (.tmp 20) = _ := hat.dep 20 (by kernel_rfl)
          have e2 : ρ (.tmp 24) = _ := hat.dep 24 (by kernel_rfl)
          have hf := hat.fn
          refine ⟨62, #[.slice x.p x.l.length x.c, .slice z.p z.l.length z.c], by simp only [execOp]; go_simp, ?_⟩
          have hcl := yReqReqS_eq x z W (yReqReqS_law.rd_blw HP1.out.1 hW) (yReqReqS_law.rd_blw HQ1.out.1 hW) HXX.out
          refine Calls.mono (show Calls Try.prog 62 #[.slice x.p x.l.length x.c, .slice z.p z.l.length z.c] W _ from hcl) ?_
          rintro e W' ⟨rfl, hb⟩
          exact ⟨_, rfl, hW.trans (hb.mono hW.size), hb, rfl⟩
        refine ops_cons (gd rfl <| tx_pure rfl rfl (fun _ _ h => h) Gr.refl (fun _ ρ W hat hW => ?_)) ?_
        · have e1 : ρ (.tmp 25) = _ := hat.dep 25 (by kernel_rfl)
          simp only [execOp, e1]; go_simp
        exact ops_nil
      · intro f W hW hf
        have e26 : f 26 = .bool false := hf 26 (by simp)
        clear hf
        have hbW := hbl.trans (hW.mono hbl.size)
        simp only [fill, e26]
        go_simp
        go_wp2
        go_roundw
        case rel => exact ⟨k + 1, by omega, by go_num, hbW⟩
        case measure => simp [intOf]; omega
    · have hk3 : ¬ (k : Int) < (n : Int) := by omega
      go_wp2
      go_ret
      exact ⟨rfl, hbl⟩

theorem Try.infoReqReqSS : (Try.prog.info? 31).map (fun i => (i.zero, i.size, i.bytes)) = some (some (.slice none 0 0), 1, 24) := by kernel_rfl

set_option maxRecDepth 100000 in
set_option maxHeartbeats 2000000 in
theorem yReqReqSS_to : ToC yReqReqSS 37 := by
  rintro ⟨p, c, l⟩ w hr hs
  have hl1 : l.length ≤ c := hr.1
  have hl2 : c ≤ 9223372036854775807 := hr.2.1
  have hs' : l.length + (l.map yReqReqS.size).sum ≤ 1048576 := hs
  have hl3 : l.length ≤ 1048576 := by omega
  have HR := Hid.intro hr
  have HSZ := Hid.intro hs'
  clear hr hs hs'
  obtain ⟨i0, hi, hz0, hz1, hz2⟩ := info_parts Try.infoReqReqSS
  have hmk : ∀ W : World, (Instr.makeSlice 25 (.int .i64 (l.length : Int)) (.int .i64 (l.length : Int))).run Try.prog W =
      .ok (.slice (some ⟨W.heap.size, 0, none⟩) l.length l.length) (W.alloc (.cells (madeCells #[Value.slice none 0 0] l.length) 31)) := fun W => by
    have := run_make (P := Try.prog) W 25 31 i0 _ Try.underlying25 hi hz0 .i64 .i64 (l.length : Int) (l.length : Int) (by omega) (by omega) (by rw [hz2]; omega) (by omega)
    rw [hz1] at this
    simpa [Value.cells] using this
  have HM0 : Hid (MakeSt yReqReqS 31 l w.heap.size (w.alloc (.cells (madeCells #[Value.slice none 0 0] l.length) 31)) 0 []) := Hid.intro (by have h := MakeSt.start (K := yReqReqS) (E := 31) (l := l) (w := w) (z := #[Value.slice none 0 0]) yReqReqS_law (by rfl); rw [show l.length * yReqReqS.sz = l.length from Nat.mul_one _] at h; exact h)
  have hbl0 : Below w.heap.size w (w.alloc (.cells (madeCells #[Value.slice none 0 0] l.length) 31)) := (Below.refl _ w).alloc (Nat.le_refl _) _
  have hsz0 : w.heap.size < (w.alloc (.cells (madeCells #[Value.slice none 0 0] l.length) 31)).heap.size := by simp
  show Calls Try.prog 37 #[.slice p l.length c] w _
  go_enter Try.func37, Try.ntmps37
  go_wp2
  clear hmk
  go_loopw [4] (fun i wr => ∃ (k : Nat) (zs : List (Lst (Int × Int × Int × Int × Bool × (Lst Int) × (Lst Int)))), k ≤ l.length ∧ i = .int .i64 k ∧ Below w.heap.size w wr ∧ w.heap.size < wr.heap.size ∧ Hid (MakeSt yReqReqS 31 l w.heap.size wr k zs)) (fun i _ => l.length - (intOf i).toNat)
  case atStart => exact ⟨0, [], Nat.zero_le _, rfl, hbl0, hsz0, HM0⟩
  case round =>
    clear HM0 hbl0 hsz0
    obtain ⟨k, zs, hk, rfl, hbl, hsz, HM⟩ := hrel
    by_cases hlt : k < l.length
    · have hp := yReqReqSS_law.rd_blw HR.out hbl
      have hq := hp.2.2.2 _ (List.getElem_mem hlt)
      have hk0 : (0 : Int) ≤ (k : Int) := by omega
      have hk1 : (k : Int) < (l.length : Int) := by omega
      have hqs : yReqReqS.size l[k] ≤ 1048576 := by have := size_le yReqReqS hlt; have := HSZ.out; omega
      obtain ⟨q, hqe⟩ : ∃ q, q = l[k] := ⟨_, rfl⟩
      rw [← hqe] at hq hqs
      have hc : ∃ b off, p = some ⟨b, off, none⟩ ∧ b < wr.heap.size ∧ ∀ (j : Nat) (v : Value), (yReqReqS.cells q)[j]? = some v → wr.cell? ⟨b, off + k * 1 + j, none⟩ = some v := by
        rcases hp.2.2.1 with h0 | ⟨b, off, e, hb, hc⟩
        · have h0 : l = [] := h0
          subst h0; simp at hlt
        · exact ⟨b, off, e, hb, fun j v hv => hc k hlt j v (by rw [← hqe]; exact hv)⟩
      obtain ⟨b, off, rfl, hb, hc⟩ := hc
      clear hp
      have HQE := Hid.intro hqe
      clear hqe
      have c0 : wr.cell? ⟨b, off + k, none⟩ = some (.slice q.p q.l.length q.c) := by simpa using hc 0 _ rfl
      have HCE : Hid (∀ (w : World), yReqReqS.rd w q → yReqReqS.size q ≤ 1048576 → Calls Try.prog 60 #[.slice q.p q.l.length q.c] w fun e w' => ∃ a', e = .returned (yReqReqS.val a') ∧ yReqReqS.pl a' = yReqReqS.pl q ∧ yReqReqS.size a' = yReqReqS.size q ∧ Fresh yReqReqS w.heap.size w' a' ∧ Below w.heap.size w w') := Hid.intro (yReqReqS_to q)
      have HQ := Hid.intro (And.intro hq hqs)
      clear hq hqs hc
      go_wp2_with fail
      refine (HCE.out _ HQ.out.1 HQ.out.2).mono ?_
      clear HCE
      rintro e w1 ⟨x, he, hpl, hss, hf, hb1⟩
      replace he : e = .returned (.slice x.p x.l.length x.c) := he
      subst he
      have hsz1 : w.heap.size < w1.heap.size := Nat.lt_of_lt_of_le hsz hb1.size
      have hm1 := HM.out.below yReqReqS_law hb1
      have hlt1 : ∀ b ∈ zs.flatMap yReqReqS.foot, b < wr.heap.size := HM.out.fr.lt yReqReqS_law
      obtain ⟨u0, t0⟩ := hm1.row.there k (show _ < l.length * 1 by omega)
      have f0 := hm1.row.frz k
      have HM2 := Hid.intro (by have h := hm1.step yReqReqS_law (q := x) hlt (by rw [← HQE.out]; exact hpl) (by rw [← HQE.out]; exact hss) hf hlt1 hsz; rw [show k * yReqReqS.sz = k from Nat.mul_one k] at h; exact h)
      have HB2 := Hid.intro (putC_below (Nat.le_refl _) (rowVs k (yReqReqS.cells x)) (hbl.trans (hb1.mono (by omega))))
      clear hm1 HM HQ hbl hb1 hf hpl hss hlt1 HQE c0
      go_wp2
      go_roundw
      case rel => exact ⟨k + 1, zs ++ [x], by omega, by go_num, HB2.out, by simpa using hsz1, HM2.out⟩
      case measure => simp [intOf]; omega
    · have hd := HM.out.done (show k = l.length by omega) (by omega)
      have HD := Hid.intro hd
      clear hd HM
      go_wp2
      go_ret
      exact ⟨⟨some ⟨w.heap.size, 0, none⟩, l.length, zs⟩, by show _ = Ending.returned (Value.slice _ zs.length _); rw [HD.out.2.2.2]; rfl, HD.out.2.1, by show zs.length + (zs.map yReqReqS.size).sum = l.length + (l.map yReqReqS.size).sum; rw [HD.out.2.2.2, HD.out.2.2.1], HD.out.1, hbl⟩

end Go.Proofs.Ytpjfkimgienkbaa
