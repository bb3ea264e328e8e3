/-
  ReqReq: the laws' functions, by contract of kinds.
-/
import Derived.Test.YtgjlkmhbaimjpaaKndI
import Derived.Test.YtgjlkmhbaimjpaaKndLM
import Derived.Test.YtgjlkmhbaimjpaaOpsXM
namespace Go.Proofs.Ytgjlkmhbaimjpaa
open Go.RowKit
set_option linter.unusedSimpArgs false
set_option linter.unusedVariables false

def yReqReq : Knd (Int × Int × Int × Int × Bool × (Lst Int) × (Lst Int)) (Int × Int × Int × Int × Bool × (List Int) × (List Int)) := gRec (gPair gInt (gPair gInt (gPair gInt (gPair gInt (gPair gBool (gPair yI yI))))))
theorem yReqReq_law : KLaw yReqReq := gRec_law (gPair_law gInt_law (gPair_law gInt_law (gPair_law gInt_law (gPair_law gInt_law (gPair_law gBool_law (gPair_law yI_law yI_law))))))
theorem yReqReq_val (f : (Int × Int × Int × Int × Bool × (Lst Int) × (Lst Int))) : yReqReq.val f = .agg #[.int .i64 f.1, .int .i64 f.2.1, .int .i64 f.2.2.1, .int .i64 f.2.2.2.1, .bool f.2.2.2.2.1, .slice f.2.2.2.2.2.1.p f.2.2.2.2.2.1.l.length f.2.2.2.2.2.1.c, .slice f.2.2.2.2.2.2.p f.2.2.2.2.2.2.l.length f.2.2.2.2.2.2.c] := rfl
theorem yReqReq_cells (f : (Int × Int × Int × Int × Bool × (Lst Int) × (Lst Int))) : yReqReq.cells f = [.int .i64 f.1, .int .i64 f.2.1, .int .i64 f.2.2.1, .int .i64 f.2.2.2.1, .bool f.2.2.2.2.1, .slice f.2.2.2.2.2.1.p f.2.2.2.2.2.1.l.length f.2.2.2.2.2.1.c, .slice f.2.2.2.2.2.2.p f.2.2.2.2.2.2.l.length f.2.2.2.2.2.2.c] := rfl

set_option maxRecDepth 100000 in
set_option maxHeartbeats 2000000 in
theorem yReqReq_sz : SzC yReqReq 116 := by
  rintro ⟨f_0, f_1, f_2, f_3, f_4, f_5, f_6⟩ left w hr h0 h1
  have HR := Hid.intro hr
  clear hr
  have hbl : ∀ o, Below w.heap.size w (w.alloc o) := fun o => (Below.refl _ w).alloc (Nat.le_refl _) o
  show Calls Try.prog 116 #[.agg #[.int .i64 f_0, .int .i64 f_1, .int .i64 f_2, .int .i64 f_3, .bool f_4, .slice f_5.p f_5.l.length f_5.c, .slice f_6.p f_6.l.length f_6.c], .int .i64 left] w _
  go_enter Try.func116, Try.ntmps116
  have HC5 : Hid (∀ (left : Int) (w : World), yI.rd w f_5 → 0 ≤ left → left ≤ 1048576 → Calls Try.prog 36 #[.slice f_5.p f_5.l.length f_5.c, .int .i64 left] w fun e w' => (∃ z : Int, e = .returned (.int .i64 z) ∧ (z = -1 ∨ (0 ≤ z ∧ z = left - (yI.size f_5 : Int)))) ∧ Below w.heap.size w w') := Hid.intro (yI_sz f_5)
  go_wp2_with fail
  refine (HC5.out left _ (yI_law.rd_blw HR.out.2.2.2.2.2.1 (hbl _)) h0 (by omega)).mono ?_
  clear HC5
  rintro e w1 ⟨⟨z0, rfl, hz0⟩, hb⟩
  have bel0 : Below w.heap.size w w1 := (hbl _).trans (hb.mono (hbl _).size)
  have bA0 : w1.heap[w.heap.size]? = some (.cells #[.int .i64 f_0, .int .i64 f_1, .int .i64 f_2, .int .i64 f_3, .bool f_4, .slice f_5.p f_5.l.length f_5.c, .slice f_6.p f_6.l.length f_6.c] 155 (0, 0)) := (hb.block _ (by simp)).trans (nw_k _ rfl)
  clear hb
  rcases hz0 with rfl | ⟨g0, q0⟩
  · clear HR
    go_wp2
    go_ret
    exact ⟨⟨_, rfl, .inl rfl⟩, bel0⟩
  have n0 : ¬ (z0 < 0) := by omega
  have Q0 := Hid.intro q0
  have l0 : z0 ≤ 1048576 := by omega
  clear q0
  have c0 : w1.cell? ⟨w.heap.size, 0, none⟩ = some (.int .i64 f_0) := heap_cell bA0 0
  have c1 : w1.cell? ⟨w.heap.size, 1, none⟩ = some (.int .i64 f_1) := heap_cell bA0 1
  have c2 : w1.cell? ⟨w.heap.size, 2, none⟩ = some (.int .i64 f_2) := heap_cell bA0 2
  have c3 : w1.cell? ⟨w.heap.size, 3, none⟩ = some (.int .i64 f_3) := heap_cell bA0 3
  have c4 : w1.cell? ⟨w.heap.size, 4, none⟩ = some (.bool f_4) := heap_cell bA0 4
  have c5 : w1.cell? ⟨w.heap.size, 5, none⟩ = some (.slice f_5.p f_5.l.length f_5.c) := heap_cell bA0 5
  have c6 : w1.cell? ⟨w.heap.size, 6, none⟩ = some (.slice f_6.p f_6.l.length f_6.c) := heap_cell bA0 6
  have HC6 : Hid (∀ (left : Int) (w : World), yI.rd w f_6 → 0 ≤ left → left ≤ 1048576 → Calls Try.prog 36 #[.slice f_6.p f_6.l.length f_6.c, .int .i64 left] w fun e w' => (∃ z : Int, e = .returned (.int .i64 z) ∧ (z = -1 ∨ (0 ≤ z ∧ z = left - (yI.size f_6 : Int)))) ∧ Below w.heap.size w w') := Hid.intro (yI_sz f_6)
  go_wp2_with fail
  refine (HC6.out z0 w1 (yI_law.rd_blw HR.out.2.2.2.2.2.2 bel0) g0 (by omega)).mono ?_
  clear HC6
  rintro e w2 ⟨⟨z1, rfl, hz1⟩, hb⟩
  have bel1 : Below w.heap.size w w2 := bel0.trans (hb.mono bel0.size)
  have bA1 : w2.heap[w.heap.size]? = some (.cells #[.int .i64 f_0, .int .i64 f_1, .int .i64 f_2, .int .i64 f_3, .bool f_4, .slice f_5.p f_5.l.length f_5.c, .slice f_6.p f_6.l.length f_6.c] 155 (0, 0)) := (hb.block _ (heap_lt bA0)).trans bA0
  clear bel0 bA0 c0 c1 c2 c3 c4 c5 c6
  clear hb
  rcases hz1 with rfl | ⟨g1, q1⟩
  · clear HR
    go_wp2
    go_ret
    exact ⟨⟨_, rfl, .inl rfl⟩, bel1⟩
  have n1 : ¬ (z1 < 0) := by omega
  have Q1 := Hid.intro q1
  have l1 : z1 ≤ 1048576 := by omega
  clear q1
  have c0 : w2.cell? ⟨w.heap.size, 0, none⟩ = some (.int .i64 f_0) := heap_cell bA1 0
  have c1 : w2.cell? ⟨w.heap.size, 1, none⟩ = some (.int .i64 f_1) := heap_cell bA1 1
  have c2 : w2.cell? ⟨w.heap.size, 2, none⟩ = some (.int .i64 f_2) := heap_cell bA1 2
  have c3 : w2.cell? ⟨w.heap.size, 3, none⟩ = some (.int .i64 f_3) := heap_cell bA1 3
  have c4 : w2.cell? ⟨w.heap.size, 4, none⟩ = some (.bool f_4) := heap_cell bA1 4
  have c5 : w2.cell? ⟨w.heap.size, 5, none⟩ = some (.slice f_5.p f_5.l.length f_5.c) := heap_cell bA1 5
  have c6 : w2.cell? ⟨w.heap.size, 6, none⟩ = some (.slice f_6.p f_6.l.length f_6.c) := heap_cell bA1 6
  have HS : Hid ((yReqReq.size (f_0, f_1, f_2, f_3, f_4, f_5, f_6) : Nat) = 0 + (0 + (0 + (0 + (0 + (yI.size f_5 + (yI.size f_6))))))) := Hid.intro rfl
  clear HR
  go_wp2
  go_ret
  exact ⟨⟨_, rfl, .inr ⟨g1, by have := HS.out; have := Q0.out; have := Q1.out; omega⟩⟩, bel1⟩

set_option maxRecDepth 100000 in
set_option maxHeartbeats 2000000 in
theorem yReqReq_eq : EqC yReqReq 122 := by
  rintro ⟨f_0, f_1, f_2, f_3, f_4, f_5, f_6⟩ ⟨g_0, g_1, g_2, g_3, g_4, g_5, g_6⟩ w hr hr' hp
  have hp' : ((f_0, f_1, f_2, f_3, f_4, yI.pl f_5, yI.pl f_6) : (Int × Int × Int × Int × Bool × (List Int) × (List Int))) = (g_0, g_1, g_2, g_3, g_4, yI.pl g_5, yI.pl g_6) := hp
  clear hp
  simp only [Prod.mk.injEq] at hp'
  obtain ⟨rfl, rfl, rfl, rfl, rfl, p5, p6⟩ := hp'
  have HR := Hid.intro hr
  have HQ := Hid.intro hr'
  clear hr hr'
  have hbl : ∀ o o', Below w.heap.size w ((w.alloc o).alloc o') := fun o o' => ((Below.refl _ w).alloc (Nat.le_refl _) o).alloc (by simp) o'
  show Calls Try.prog 122 #[.agg #[.int .i64 f_0, .int .i64 f_1, .int .i64 f_2, .int .i64 f_3, .bool f_4, .slice f_5.p f_5.l.length f_5.c, .slice f_6.p f_6.l.length f_6.c], .agg #[.int .i64 f_0, .int .i64 f_1, .int .i64 f_2, .int .i64 f_3, .bool f_4, .slice g_5.p g_5.l.length g_5.c, .slice g_6.p g_6.l.length g_6.c]] w _
  go_enter Try.func122, Try.ntmps122
  have HC5 : Hid (∀ (w : World), yI.rd w f_5 → yI.rd w g_5 → yI.pl f_5 = yI.pl g_5 → Calls Try.prog 49 #[.slice f_5.p f_5.l.length f_5.c, .slice g_5.p g_5.l.length g_5.c] w fun e w' => e = .returned (.bool true) ∧ Below w.heap.size w w') := Hid.intro (yI_eq f_5 g_5)
  go_wp2_with fail
  refine (HC5.out _ (yI_law.rd_blw HR.out.2.2.2.2.2.1 (hbl _ _)) (yI_law.rd_blw HQ.out.2.2.2.2.2.1 (hbl _ _)) p5).mono ?_
  clear HC5
  rintro e w1 ⟨rfl, hb⟩
  have bel0 : Below w.heap.size w w1 := (hbl _ _).trans (hb.mono (hbl _ _).size)
  have bA0 : w1.heap[w.heap.size]? = some (.cells #[.int .i64 f_0, .int .i64 f_1, .int .i64 f_2, .int .i64 f_3, .bool f_4, .slice f_5.p f_5.l.length f_5.c, .slice f_6.p f_6.l.length f_6.c] 107 (0, 0)) := (hb.block _ (by simp <;> omega)).trans ((Below.heap_alloc _ _ _ (by simp)).trans (nw_k _ rfl))
  have bB0 : w1.heap[w.heap.size + 1]? = some (.cells #[.int .i64 f_0, .int .i64 f_1, .int .i64 f_2, .int .i64 f_3, .bool f_4, .slice g_5.p g_5.l.length g_5.c, .slice g_6.p g_6.l.length g_6.c] 107 (0, 0)) := (hb.block _ (by simp)).trans (nw_k _ (by simp))
  clear hb
  have c0 : w1.cell? ⟨w.heap.size, 0, none⟩ = some (.int .i64 f_0) := heap_cell bA0 0
  have c1 : w1.cell? ⟨w.heap.size, 1, none⟩ = some (.int .i64 f_1) := heap_cell bA0 1
  have c2 : w1.cell? ⟨w.heap.size, 2, none⟩ = some (.int .i64 f_2) := heap_cell bA0 2
  have c3 : w1.cell? ⟨w.heap.size, 3, none⟩ = some (.int .i64 f_3) := heap_cell bA0 3
  have c4 : w1.cell? ⟨w.heap.size, 4, none⟩ = some (.bool f_4) := heap_cell bA0 4
  have c5 : w1.cell? ⟨w.heap.size, 5, none⟩ = some (.slice f_5.p f_5.l.length f_5.c) := heap_cell bA0 5
  have c6 : w1.cell? ⟨w.heap.size, 6, none⟩ = some (.slice f_6.p f_6.l.length f_6.c) := heap_cell bA0 6
  have d0 : w1.cell? ⟨w.heap.size + 1, 0, none⟩ = some (.int .i64 f_0) := heap_cell bB0 0
  have d1 : w1.cell? ⟨w.heap.size + 1, 1, none⟩ = some (.int .i64 f_1) := heap_cell bB0 1
  have d2 : w1.cell? ⟨w.heap.size + 1, 2, none⟩ = some (.int .i64 f_2) := heap_cell bB0 2
  have d3 : w1.cell? ⟨w.heap.size + 1, 3, none⟩ = some (.int .i64 f_3) := heap_cell bB0 3
  have d4 : w1.cell? ⟨w.heap.size + 1, 4, none⟩ = some (.bool f_4) := heap_cell bB0 4
  have d5 : w1.cell? ⟨w.heap.size + 1, 5, none⟩ = some (.slice g_5.p g_5.l.length g_5.c) := heap_cell bB0 5
  have d6 : w1.cell? ⟨w.heap.size + 1, 6, none⟩ = some (.slice g_6.p g_6.l.length g_6.c) := heap_cell bB0 6
  have HC6 : Hid (∀ (w : World), yI.rd w f_6 → yI.rd w g_6 → yI.pl f_6 = yI.pl g_6 → Calls Try.prog 49 #[.slice f_6.p f_6.l.length f_6.c, .slice g_6.p g_6.l.length g_6.c] w fun e w' => e = .returned (.bool true) ∧ Below w.heap.size w w') := Hid.intro (yI_eq f_6 g_6)
  go_wp2_with fail
  refine (HC6.out w1 (yI_law.rd_blw HR.out.2.2.2.2.2.2 bel0) (yI_law.rd_blw HQ.out.2.2.2.2.2.2 bel0) p6).mono ?_
  clear HC6
  rintro e w2 ⟨rfl, hb⟩
  have bel1 : Below w.heap.size w w2 := bel0.trans (hb.mono bel0.size)
  have bA1 : w2.heap[w.heap.size]? = some (.cells #[.int .i64 f_0, .int .i64 f_1, .int .i64 f_2, .int .i64 f_3, .bool f_4, .slice f_5.p f_5.l.length f_5.c, .slice f_6.p f_6.l.length f_6.c] 107 (0, 0)) := (hb.block _ (heap_lt bA0)).trans bA0
  have bB1 : w2.heap[w.heap.size + 1]? = some (.cells #[.int .i64 f_0, .int .i64 f_1, .int .i64 f_2, .int .i64 f_3, .bool f_4, .slice g_5.p g_5.l.length g_5.c, .slice g_6.p g_6.l.length g_6.c] 107 (0, 0)) := (hb.block _ (heap_lt bB0)).trans bB0
  clear bel0 bA0 bB0 c0 c1 c2 c3 c4 c5 c6 d0 d1 d2 d3 d4 d5 d6
  clear hb
  have c0 : w2.cell? ⟨w.heap.size, 0, none⟩ = some (.int .i64 f_0) := heap_cell bA1 0
  have c1 : w2.cell? ⟨w.heap.size, 1, none⟩ = some (.int .i64 f_1) := heap_cell bA1 1
  have c2 : w2.cell? ⟨w.heap.size, 2, none⟩ = some (.int .i64 f_2) := heap_cell bA1 2
  have c3 : w2.cell? ⟨w.heap.size, 3, none⟩ = some (.int .i64 f_3) := heap_cell bA1 3
  have c4 : w2.cell? ⟨w.heap.size, 4, none⟩ = some (.bool f_4) := heap_cell bA1 4
  have c5 : w2.cell? ⟨w.heap.size, 5, none⟩ = some (.slice f_5.p f_5.l.length f_5.c) := heap_cell bA1 5
  have c6 : w2.cell? ⟨w.heap.size, 6, none⟩ = some (.slice f_6.p f_6.l.length f_6.c) := heap_cell bA1 6
  have d0 : w2.cell? ⟨w.heap.size + 1, 0, none⟩ = some (.int .i64 f_0) := heap_cell bB1 0
  have d1 : w2.cell? ⟨w.heap.size + 1, 1, none⟩ = some (.int .i64 f_1) := heap_cell bB1 1
  have d2 : w2.cell? ⟨w.heap.size + 1, 2, none⟩ = some (.int .i64 f_2) := heap_cell bB1 2
  have d3 : w2.cell? ⟨w.heap.size + 1, 3, none⟩ = some (.int .i64 f_3) := heap_cell bB1 3
  have d4 : w2.cell? ⟨w.heap.size + 1, 4, none⟩ = some (.bool f_4) := heap_cell bB1 4
  have d5 : w2.cell? ⟨w.heap.size + 1, 5, none⟩ = some (.slice g_5.p g_5.l.length g_5.c) := heap_cell bB1 5
  have d6 : w2.cell? ⟨w.heap.size + 1, 6, none⟩ = some (.slice g_6.p g_6.l.length g_6.c) := heap_cell bB1 6
  clear HR HQ
  go_wp2
  go_ret
  exact ⟨rfl, bel1⟩

set_option maxRecDepth 100000 in
set_option maxHeartbeats 2000000 in
theorem yReqReq_to : ToC yReqReq 119 := by
  rintro ⟨f_0, f_1, f_2, f_3, f_4, f_5, f_6⟩ w hr hs
  have HR := Hid.intro hr
  clear hr
  have hbl : ∀ o o' o'', Below w.heap.size w (((w.alloc o).alloc o').alloc o'') := fun o o' o'' => (((Below.refl _ w).alloc (Nat.le_refl _) o).alloc (by simp) o').alloc (by simp <;> omega) o''
  have HS : Hid (0 + (0 + (0 + (0 + (0 + (yI.size f_5 + (yI.size f_6)))))) ≤ 1048576) := Hid.intro hs
  clear hs
  show Calls Try.prog 119 #[.agg #[.int .i64 f_0, .int .i64 f_1, .int .i64 f_2, .int .i64 f_3, .bool f_4, .slice f_5.p f_5.l.length f_5.c, .slice f_6.p f_6.l.length f_6.c]] w _
  go_enter Try.func119, Try.ntmps119
  have HC5 : Hid (∀ (w : World), yI.rd w f_5 → yI.size f_5 ≤ 1048576 → Calls Try.prog 42 #[.slice f_5.p f_5.l.length f_5.c] w fun e w' => ∃ a', e = .returned (yI.val a') ∧ yI.pl a' = yI.pl f_5 ∧ yI.size a' = yI.size f_5 ∧ Fresh yI w.heap.size w' a' ∧ Below w.heap.size w w') := Hid.intro (yI_to f_5)
  go_wp2_with fail
  refine (HC5.out _ (yI_law.rd_blw HR.out.2.2.2.2.2.1 (hbl _ _ _)) (by have := HS.out; omega)).mono ?_
  clear HC5
  rintro e w1 ⟨x5, he, hpl5, hsz5, hf5, hb⟩
  replace he : e = .returned (.slice x5.p x5.l.length x5.c) := he
  subst he
  have hzz0 := hb.size
  simp only [World.size_alloc, Nat.add_assoc, Nat.reduceAdd] at hzz0
  have bA0 : w1.heap[w.heap.size]? = some (.cells #[.int .i64 f_0, .int .i64 f_1, .int .i64 f_2, .int .i64 f_3, .bool f_4, .slice f_5.p f_5.l.length f_5.c, .slice f_6.p f_6.l.length f_6.c] 155 (0, 0)) := (hb.block _ (by simp <;> omega)).trans ((Below.heap_alloc _ _ _ (by simp <;> omega)).trans ((Below.heap_alloc _ _ _ (by simp)).trans (nw_k _ rfl)))
  have bR0 : w1.heap[w.heap.size + 1]? = some (.cells #[.int .i64 0, .int .i64 0, .int .i64 0, .int .i64 0, .bool false, .slice none 0 0, .slice none 0 0] 107 (0, 0)) := (hb.block _ (by simp <;> omega)).trans ((Below.heap_alloc _ _ _ (by simp)).trans (nw_k _ (by simp)))
  have bO0 : w1.heap[w.heap.size + 2]? = some (.cells #[.int .i64 f_0, .int .i64 f_1, .int .i64 f_2, .int .i64 f_3, .bool f_4, .slice none 0 0, .slice none 0 0] 107 (0, 0)) := (hb.block _ (by simp)).trans (nw_k _ (by simp))
  have bel0 : Below w.heap.size w w1 := (hbl _ _ _).trans (hb.mono (hbl _ _ _).size)
  replace hf5 := hf5.mono (M' := w.heap.size + 3) (by simp <;> omega)
  have c0 : w1.cell? ⟨w.heap.size, 0, none⟩ = some (.int .i64 f_0) := heap_cell bA0 0
  have c1 : w1.cell? ⟨w.heap.size, 1, none⟩ = some (.int .i64 f_1) := heap_cell bA0 1
  have c2 : w1.cell? ⟨w.heap.size, 2, none⟩ = some (.int .i64 f_2) := heap_cell bA0 2
  have c3 : w1.cell? ⟨w.heap.size, 3, none⟩ = some (.int .i64 f_3) := heap_cell bA0 3
  have c4 : w1.cell? ⟨w.heap.size, 4, none⟩ = some (.bool f_4) := heap_cell bA0 4
  have c5 : w1.cell? ⟨w.heap.size, 5, none⟩ = some (.slice f_5.p f_5.l.length f_5.c) := heap_cell bA0 5
  have c6 : w1.cell? ⟨w.heap.size, 6, none⟩ = some (.slice f_6.p f_6.l.length f_6.c) := heap_cell bA0 6
  have o0 : w1.cell? ⟨w.heap.size + 2, 0, none⟩ = some (.int .i64 f_0) := heap_cell bO0 0
  have o1 : w1.cell? ⟨w.heap.size + 2, 1, none⟩ = some (.int .i64 f_1) := heap_cell bO0 1
  have o2 : w1.cell? ⟨w.heap.size + 2, 2, none⟩ = some (.int .i64 f_2) := heap_cell bO0 2
  have o3 : w1.cell? ⟨w.heap.size + 2, 3, none⟩ = some (.int .i64 f_3) := heap_cell bO0 3
  have o4 : w1.cell? ⟨w.heap.size + 2, 4, none⟩ = some (.bool f_4) := heap_cell bO0 4
  have o5 : w1.cell? ⟨w.heap.size + 2, 5, none⟩ = some (.slice none 0 0) := heap_cell bO0 5
  have o6 : w1.cell? ⟨w.heap.size + 2, 6, none⟩ = some (.slice none 0 0) := heap_cell bO0 6
  have fo0 : w1.frozen? ⟨w.heap.size + 2, 0, none⟩ = false := heap_free bO0 0
  have fo1 : w1.frozen? ⟨w.heap.size + 2, 1, none⟩ = false := heap_free bO0 1
  have fo2 : w1.frozen? ⟨w.heap.size + 2, 2, none⟩ = false := heap_free bO0 2
  have fo3 : w1.frozen? ⟨w.heap.size + 2, 3, none⟩ = false := heap_free bO0 3
  have fo4 : w1.frozen? ⟨w.heap.size + 2, 4, none⟩ = false := heap_free bO0 4
  have fo5 : w1.frozen? ⟨w.heap.size + 2, 5, none⟩ = false := heap_free bO0 5
  have fo6 : w1.frozen? ⟨w.heap.size + 2, 6, none⟩ = false := heap_free bO0 6
  have lt5 : ∀ x ∈ yI.foot x5, x < w1.heap.size := yI_law.ow_lt hf5.ow
  clear hb
  have belc1 : Below w.heap.size w (w1.setCell ⟨w.heap.size + 2, 5, none⟩ (.slice x5.p x5.l.length x5.c)) := (bel0.setCell (p := ⟨w.heap.size + 2, 5, none⟩) (by simp) (.slice x5.p x5.l.length x5.c))
  have HC6 : Hid (∀ (w : World), yI.rd w f_6 → yI.size f_6 ≤ 1048576 → Calls Try.prog 42 #[.slice f_6.p f_6.l.length f_6.c] w fun e w' => ∃ a', e = .returned (yI.val a') ∧ yI.pl a' = yI.pl f_6 ∧ yI.size a' = yI.size f_6 ∧ Fresh yI w.heap.size w' a' ∧ Below w.heap.size w w') := Hid.intro (yI_to f_6)
  go_wp2_with fail
  refine (HC6.out (w1.setCell ⟨w.heap.size + 2, 5, none⟩ (.slice x5.p x5.l.length x5.c)) (yI_law.rd_blw HR.out.2.2.2.2.2.2 belc1) (by have := HS.out; omega)).mono ?_
  clear HC6
  rintro e w2 ⟨x6, he, hpl6, hsz6, hf6, hb⟩
  replace he : e = .returned (.slice x6.p x6.l.length x6.c) := he
  subst he
  have hzz1 := hb.size
  simp only [World.size_setCell] at hzz1
  have bA1 : w2.heap[w.heap.size]? = some (.cells #[.int .i64 f_0, .int .i64 f_1, .int .i64 f_2, .int .i64 f_3, .bool f_4, .slice f_5.p f_5.l.length f_5.c, .slice f_6.p f_6.l.length f_6.c] 155 (0, 0)) := (hb.block _ (by simp only [World.size_setCell]; omega)).trans ((heap_set_ne (by omega)).trans (bA0))
  have bR1 : w2.heap[w.heap.size + 1]? = some (.cells #[.int .i64 0, .int .i64 0, .int .i64 0, .int .i64 0, .bool false, .slice none 0 0, .slice none 0 0] 107 (0, 0)) := (hb.block _ (by simp only [World.size_setCell]; omega)).trans ((heap_set_ne (by omega)).trans (bR0))
  have bO1 : w2.heap[w.heap.size + 2]? = some (.cells #[.int .i64 f_0, .int .i64 f_1, .int .i64 f_2, .int .i64 f_3, .bool f_4, .slice x5.p x5.l.length x5.c, .slice none 0 0] 107 (0, 0)) := (hb.block _ (by simp only [World.size_setCell]; omega)).trans (by simpa using (heap_set bO0 5 (.slice x5.p x5.l.length x5.c)))
  have bel1 : Below w.heap.size w w2 := belc1.trans (hb.mono belc1.size)
  replace hf5 : Fresh yI (w.heap.size + 3) w2 x5 := (hf5.of yI_law (fun x hx => by have := hf5.ge x hx; exact (heap_set_ne (by omega)).trans (rfl))).below yI_law hb
  replace hf6 := hf6.mono (M' := w1.heap.size) (by simp only [World.size_setCell]; omega)
  clear bA0 bR0 bO0 bel0 belc1 c0 c1 c2 c3 c4 c5 c6 o0 o1 o2 o3 o4 o5 o6 fo0 fo1 fo2 fo3 fo4 fo5 fo6
  have c0 : w2.cell? ⟨w.heap.size, 0, none⟩ = some (.int .i64 f_0) := heap_cell bA1 0
  have c1 : w2.cell? ⟨w.heap.size, 1, none⟩ = some (.int .i64 f_1) := heap_cell bA1 1
  have c2 : w2.cell? ⟨w.heap.size, 2, none⟩ = some (.int .i64 f_2) := heap_cell bA1 2
  have c3 : w2.cell? ⟨w.heap.size, 3, none⟩ = some (.int .i64 f_3) := heap_cell bA1 3
  have c4 : w2.cell? ⟨w.heap.size, 4, none⟩ = some (.bool f_4) := heap_cell bA1 4
  have c5 : w2.cell? ⟨w.heap.size, 5, none⟩ = some (.slice f_5.p f_5.l.length f_5.c) := heap_cell bA1 5
  have c6 : w2.cell? ⟨w.heap.size, 6, none⟩ = some (.slice f_6.p f_6.l.length f_6.c) := heap_cell bA1 6
  have o0 : w2.cell? ⟨w.heap.size + 2, 0, none⟩ = some (.int .i64 f_0) := heap_cell bO1 0
  have o1 : w2.cell? ⟨w.heap.size + 2, 1, none⟩ = some (.int .i64 f_1) := heap_cell bO1 1
  have o2 : w2.cell? ⟨w.heap.size + 2, 2, none⟩ = some (.int .i64 f_2) := heap_cell bO1 2
  have o3 : w2.cell? ⟨w.heap.size + 2, 3, none⟩ = some (.int .i64 f_3) := heap_cell bO1 3
  have o4 : w2.cell? ⟨w.heap.size + 2, 4, none⟩ = some (.bool f_4) := heap_cell bO1 4
  have o5 : w2.cell? ⟨w.heap.size + 2, 5, none⟩ = some (.slice x5.p x5.l.length x5.c) := heap_cell bO1 5
  have o6 : w2.cell? ⟨w.heap.size + 2, 6, none⟩ = some (.slice none 0 0) := heap_cell bO1 6
  have fo0 : w2.frozen? ⟨w.heap.size + 2, 0, none⟩ = false := heap_free bO1 0
  have fo1 : w2.frozen? ⟨w.heap.size + 2, 1, none⟩ = false := heap_free bO1 1
  have fo2 : w2.frozen? ⟨w.heap.size + 2, 2, none⟩ = false := heap_free bO1 2
  have fo3 : w2.frozen? ⟨w.heap.size + 2, 3, none⟩ = false := heap_free bO1 3
  have fo4 : w2.frozen? ⟨w.heap.size + 2, 4, none⟩ = false := heap_free bO1 4
  have fo5 : w2.frozen? ⟨w.heap.size + 2, 5, none⟩ = false := heap_free bO1 5
  have fo6 : w2.frozen? ⟨w.heap.size + 2, 6, none⟩ = false := heap_free bO1 6
  have lt6 : ∀ x ∈ yI.foot x6, x < w2.heap.size := yI_law.ow_lt hf6.ow
  clear hb
  have bR'' : (w2.setCell ⟨w.heap.size + 2, 6, none⟩ (.slice x6.p x6.l.length x6.c)).heap[w.heap.size + 1]? = some (.cells #[.int .i64 0, .int .i64 0, .int .i64 0, .int .i64 0, .bool false, .slice none 0 0, .slice none 0 0] 107 (0, 0)) := (heap_set_ne (by omega)).trans (bR1)
  have q0 : w2.cell? ⟨w.heap.size + 1, 0, none⟩ = some (.int .i64 0) := heap_cell bR1 0
  have q1 : w2.cell? ⟨w.heap.size + 1, 1, none⟩ = some (.int .i64 0) := heap_cell bR1 1
  have q2 : w2.cell? ⟨w.heap.size + 1, 2, none⟩ = some (.int .i64 0) := heap_cell bR1 2
  have q3 : w2.cell? ⟨w.heap.size + 1, 3, none⟩ = some (.int .i64 0) := heap_cell bR1 3
  have q4 : w2.cell? ⟨w.heap.size + 1, 4, none⟩ = some (.bool false) := heap_cell bR1 4
  have q5 : w2.cell? ⟨w.heap.size + 1, 5, none⟩ = some (.slice none 0 0) := heap_cell bR1 5
  have q6 : w2.cell? ⟨w.heap.size + 1, 6, none⟩ = some (.slice none 0 0) := heap_cell bR1 6
  have fq0 : w2.frozen? ⟨w.heap.size + 1, 0, none⟩ = false := heap_free bR1 0
  have fq1 : w2.frozen? ⟨w.heap.size + 1, 1, none⟩ = false := heap_free bR1 1
  have fq2 : w2.frozen? ⟨w.heap.size + 1, 2, none⟩ = false := heap_free bR1 2
  have fq3 : w2.frozen? ⟨w.heap.size + 1, 3, none⟩ = false := heap_free bR1 3
  have fq4 : w2.frozen? ⟨w.heap.size + 1, 4, none⟩ = false := heap_free bR1 4
  have fq5 : w2.frozen? ⟨w.heap.size + 1, 5, none⟩ = false := heap_free bR1 5
  have fq6 : w2.frozen? ⟨w.heap.size + 1, 6, none⟩ = false := heap_free bR1 6
  have hf := (heap_set (heap_set (heap_set (heap_set (heap_set (heap_set (heap_set bR'' 0 (.int .i64 f_0)) 1 (.int .i64 f_1)) 2 (.int .i64 f_2)) 3 (.int .i64 f_3)) 4 (.bool f_4)) 5 (.slice x5.p x5.l.length x5.c)) 6 (.slice x6.p x6.l.length x6.c))
  have r0 := heap_cell hf 0
  have r1 := heap_cell hf 1
  have r2 := heap_cell hf 2
  have r3 := heap_cell hf 3
  have r4 := heap_cell hf 4
  have r5 := heap_cell hf 5
  have r6 := heap_cell hf 6
  simp at r0 r1 r2 r3 r4 r5 r6
  have hne : ∀ x, x ≠ w.heap.size + 1 → x ≠ w.heap.size + 2 → ((((((((w2.setCell ⟨w.heap.size + 2, 6, none⟩ (.slice x6.p x6.l.length x6.c)).setCell ⟨w.heap.size + 1, 0, none⟩ (.int .i64 f_0)).setCell ⟨w.heap.size + 1, 1, none⟩ (.int .i64 f_1)).setCell ⟨w.heap.size + 1, 2, none⟩ (.int .i64 f_2)).setCell ⟨w.heap.size + 1, 3, none⟩ (.int .i64 f_3)).setCell ⟨w.heap.size + 1, 4, none⟩ (.bool f_4)).setCell ⟨w.heap.size + 1, 5, none⟩ (.slice x5.p x5.l.length x5.c)).setCell ⟨w.heap.size + 1, 6, none⟩ (.slice x6.p x6.l.length x6.c)).heap[x]? = w2.heap[x]? := fun x h1 h2 => (heap_set_ne h1).trans ((heap_set_ne h1).trans ((heap_set_ne h1).trans ((heap_set_ne h1).trans ((heap_set_ne h1).trans ((heap_set_ne h1).trans ((heap_set_ne h1).trans ((heap_set_ne h2).trans (rfl))))))))
  have HB : Hid (Below w.heap.size w ((((((((w2.setCell ⟨w.heap.size + 2, 6, none⟩ (.slice x6.p x6.l.length x6.c)).setCell ⟨w.heap.size + 1, 0, none⟩ (.int .i64 f_0)).setCell ⟨w.heap.size + 1, 1, none⟩ (.int .i64 f_1)).setCell ⟨w.heap.size + 1, 2, none⟩ (.int .i64 f_2)).setCell ⟨w.heap.size + 1, 3, none⟩ (.int .i64 f_3)).setCell ⟨w.heap.size + 1, 4, none⟩ (.bool f_4)).setCell ⟨w.heap.size + 1, 5, none⟩ (.slice x5.p x5.l.length x5.c)).setCell ⟨w.heap.size + 1, 6, none⟩ (.slice x6.p x6.l.length x6.c))) := Hid.intro (((((((((bel1.setCell (p := ⟨w.heap.size + 2, 6, none⟩) (by simp) (.slice x6.p x6.l.length x6.c)).setCell (p := ⟨w.heap.size + 1, 0, none⟩) (by simp) (.int .i64 f_0)).setCell (p := ⟨w.heap.size + 1, 1, none⟩) (by simp) (.int .i64 f_1)).setCell (p := ⟨w.heap.size + 1, 2, none⟩) (by simp) (.int .i64 f_2)).setCell (p := ⟨w.heap.size + 1, 3, none⟩) (by simp) (.int .i64 f_3)).setCell (p := ⟨w.heap.size + 1, 4, none⟩) (by simp) (.bool f_4)).setCell (p := ⟨w.heap.size + 1, 5, none⟩) (by simp) (.slice x5.p x5.l.length x5.c)).setCell (p := ⟨w.heap.size + 1, 6, none⟩) (by simp) (.slice x6.p x6.l.length x6.c)))
  have HX : Hid (Fresh yI (w.heap.size + 3) ((((((((w2.setCell ⟨w.heap.size + 2, 6, none⟩ (.slice x6.p x6.l.length x6.c)).setCell ⟨w.heap.size + 1, 0, none⟩ (.int .i64 f_0)).setCell ⟨w.heap.size + 1, 1, none⟩ (.int .i64 f_1)).setCell ⟨w.heap.size + 1, 2, none⟩ (.int .i64 f_2)).setCell ⟨w.heap.size + 1, 3, none⟩ (.int .i64 f_3)).setCell ⟨w.heap.size + 1, 4, none⟩ (.bool f_4)).setCell ⟨w.heap.size + 1, 5, none⟩ (.slice x5.p x5.l.length x5.c)).setCell ⟨w.heap.size + 1, 6, none⟩ (.slice x6.p x6.l.length x6.c)) x5 ∧ Fresh yI w1.heap.size ((((((((w2.setCell ⟨w.heap.size + 2, 6, none⟩ (.slice x6.p x6.l.length x6.c)).setCell ⟨w.heap.size + 1, 0, none⟩ (.int .i64 f_0)).setCell ⟨w.heap.size + 1, 1, none⟩ (.int .i64 f_1)).setCell ⟨w.heap.size + 1, 2, none⟩ (.int .i64 f_2)).setCell ⟨w.heap.size + 1, 3, none⟩ (.int .i64 f_3)).setCell ⟨w.heap.size + 1, 4, none⟩ (.bool f_4)).setCell ⟨w.heap.size + 1, 5, none⟩ (.slice x5.p x5.l.length x5.c)).setCell ⟨w.heap.size + 1, 6, none⟩ (.slice x6.p x6.l.length x6.c)) x6) := Hid.intro ⟨(hf5.of yI_law (fun x hx => hne x (by have := hf5.ge x hx; omega) (by have := hf5.ge x hx; omega))), (hf6.of yI_law (fun x hx => hne x (by have := hf6.ge x hx; omega) (by have := hf6.ge x hx; omega)))⟩
  have HL : Hid ((∀ x ∈ yI.foot x5, x < w1.heap.size) ∧ (∀ x ∈ yI.foot x6, x < w2.heap.size)) := Hid.intro ⟨(fun x hx => lt5 x hx), (fun x hx => lt6 x hx)⟩
  have HPL : Hid ((yI.pl x5 = yI.pl f_5 ∧ yI.size x5 = yI.size f_5) ∧ (yI.pl x6 = yI.pl f_6 ∧ yI.size x6 = yI.size f_6)) := Hid.intro ⟨⟨hpl5, hsz5⟩, ⟨hpl6, hsz6⟩⟩
  clear hne hf bA1 bR1 bO1 bel1 bR'' HR HS hf5 hf6 lt5 lt6 hpl5 hpl6 hsz5 hsz6
  go_wp2
  refine bodyPost_ret (v := .agg #[.int .i64 f_0, .int .i64 f_1, .int .i64 f_2, .int .i64 f_3, .bool f_4, .slice x5.p x5.l.length x5.c, .slice x6.p x6.l.length x6.c]) (by simp [results, Try.results119, go_sem, r0, r1, r2, r3, r4, r5, r6]) rfl ⟨(f_0, f_1, f_2, f_3, f_4, x5, x6), rfl, ?_, ?_, Fresh.recd (Fresh.pair (Fresh.int _ _ _) (Nat.le_refl _) (lt_int _ _) (Fresh.pair (Fresh.int _ _ _) (Nat.le_refl _) (lt_int _ _) (Fresh.pair (Fresh.int _ _ _) (Nat.le_refl _) (lt_int _ _) (Fresh.pair (Fresh.int _ _ _) (Nat.le_refl _) (lt_int _ _) (Fresh.pair (Fresh.bool _ _ _) (Nat.le_refl _) (lt_bool _ _) (Fresh.pair (M' := w1.heap.size) ((HX.out.1).mono (by omega)) (by omega) (HL.out.1) ((HX.out.2).mono (by omega)))))))), HB.out⟩
  · show ((f_0, f_1, f_2, f_3, f_4, yI.pl x5, yI.pl x6) : (Int × Int × Int × Int × Bool × (List Int) × (List Int))) = (f_0, f_1, f_2, f_3, f_4, yI.pl f_5, yI.pl f_6)
    rw [(HPL.out.1).1, (HPL.out.2).1]
  · show 0 + (0 + (0 + (0 + (0 + (yI.size x5 + (yI.size x6)))))) = 0 + (0 + (0 + (0 + (0 + (yI.size f_5 + (yI.size f_6))))))
    have hh := HPL.out
    omega

def yReqReqS : Knd (Lst (Int × Int × Int × Int × Bool × (Lst Int) × (Lst Int))) (List (Int × Int × Int × Int × Bool × (List Int) × (List Int))) := gLst 107 yReqReq
theorem yReqReqS_law : KLaw yReqReqS := gLst_law yReqReq_law (by decide)

set_option maxRecDepth 100000 in
set_option maxHeartbeats 2000000 in
theorem yReqReqS_sz : SzC yReqReqS 83 := by
  rintro ⟨p, c, l⟩ left w hr h0 h1
  have hl1 : l.length ≤ c := hr.1
  have hl2 : c ≤ 9223372036854775807 := hr.2.1
  have HR := Hid.intro hr
  clear hr
  show Calls Try.prog 83 #[.slice p l.length c, .int .i64 left] w _
  by_cases hn : left - (l.length : Int) < 0
  · go_enter Try.func83, Try.ntmps83
    go_wp2
    go_ret
    exact ⟨⟨_, rfl, .inl rfl⟩, Below.refl _ _⟩
  go_enter Try.func83, Try.ntmps83
  go_wp2
  go_loopw [5, 1] (fun i z wr => ∃ (k : Nat) (y : Int), k ≤ l.length ∧ i = .int .i64 k ∧ z = .int .i64 y ∧ 0 ≤ y ∧ y ≤ 1048576 ∧ Hid (y = left - (l.length : Int) - ((((l.take k).map yReqReq.size).sum : Nat) : Int)) ∧ Below w.heap.size w wr) (fun i _ _ => l.length - (intOf i).toNat)
  case atStart => exact ⟨0, _, Nat.zero_le _, rfl, rfl, by omega, by omega, Hid.intro (by simp), Below.refl _ _⟩
  case round =>
    obtain ⟨k, y, hk, rfl, rfl, hz, hz1, HY, hbl⟩ := hrel
    by_cases hlt : k < l.length
    · have hp := yReqReqS_law.rd_blw HR.out hbl
      have hq := hp.2.2.2 _ (List.getElem_mem hlt)
      have hk0 : (0 : Int) ≤ (k : Int) := by omega
      have hk1 : (k : Int) < (l.length : Int) := by omega
      have hst := size_take yReqReq hlt
      have hc : ∃ b off, p = some ⟨b, off, none⟩ ∧ b < wr.heap.size ∧ ∀ (j : Nat) (v : Value), (yReqReq.cells l[k])[j]? = some v → wr.cell? ⟨b, off + k * 7 + j, none⟩ = some v := by
        rcases hp.2.2.1 with h0 | ⟨b, off, e, hb, hc⟩
        · have h0 : l = [] := h0
          subst h0; simp at hlt
        · exact ⟨b, off, e, hb, fun j v hv => hc k hlt j v hv⟩
      obtain ⟨b, off, rfl, hb, hc⟩ := hc
      clear hp
      generalize l[k] = q at hq hst hc
      obtain ⟨q_0, q_1, q_2, q_3, q_4, q_5, q_6⟩ := q
      have c0 : wr.cell? ⟨b, off + k * 7, none⟩ = some (.int .i64 q_0) := hc 0 _ rfl
      have c1 : wr.cell? ⟨b, off + k * 7 + 1, none⟩ = some (.int .i64 q_1) := hc 1 _ rfl
      have c2 : wr.cell? ⟨b, off + k * 7 + 2, none⟩ = some (.int .i64 q_2) := hc 2 _ rfl
      have c3 : wr.cell? ⟨b, off + k * 7 + 3, none⟩ = some (.int .i64 q_3) := hc 3 _ rfl
      have c4 : wr.cell? ⟨b, off + k * 7 + 4, none⟩ = some (.bool q_4) := hc 4 _ rfl
      have c5 : wr.cell? ⟨b, off + k * 7 + 5, none⟩ = some (.slice q_5.p q_5.l.length q_5.c) := hc 5 _ rfl
      have c6 : wr.cell? ⟨b, off + k * 7 + 6, none⟩ = some (.slice q_6.p q_6.l.length q_6.c) := hc 6 _ rfl
      have HCE : Hid (∀ (left : Int) (w : World), yReqReq.rd w (q_0, q_1, q_2, q_3, q_4, q_5, q_6) → 0 ≤ left → left ≤ 1048576 → Calls Try.prog 116 #[.agg #[.int .i64 q_0, .int .i64 q_1, .int .i64 q_2, .int .i64 q_3, .bool q_4, .slice q_5.p q_5.l.length q_5.c, .slice q_6.p q_6.l.length q_6.c], .int .i64 left] w fun e w' => (∃ z : Int, e = .returned (.int .i64 z) ∧ (z = -1 ∨ (0 ≤ z ∧ z = left - (yReqReq.size (q_0, q_1, q_2, q_3, q_4, q_5, q_6) : Int)))) ∧ Below w.heap.size w w') := Hid.intro (yReqReq_sz (q_0, q_1, q_2, q_3, q_4, q_5, q_6))
      have HST := Hid.intro hst
      have HQ := Hid.intro hq
      clear hst hq hc
      go_wp2_with fail
      refine (HCE.out _ _ HQ.out hz hz1).mono ?_
      clear HCE
      rintro e w1 ⟨⟨z, rfl, hzz⟩, hb1⟩
      have hbl1 := hbl.trans (hb1.mono hbl.size)
      clear hb1 HQ hbl c0 c1 c2 c3 c4 c5 c6
      rcases hzz with rfl | ⟨g0, g1⟩
      · go_wp2
        go_ret
        exact ⟨⟨_, rfl, .inl rfl⟩, hbl1⟩
      have hg : ¬ (z < 0) := by omega
      have hz2 : z ≤ 1048576 := by omega
      have HY2 : Hid (z = left - (l.length : Int) - ((((l.take (k + 1)).map yReqReq.size).sum : Nat) : Int)) := Hid.intro (by have h1 := HST.out; have h2 := HY.out; omega)
      clear g1 HY HST
      go_wp2
      go_roundw
      case rel => exact ⟨k + 1, z, by omega, by go_num, rfl, g0, hz2, HY2, hbl1⟩
      case measure => simp [intOf]; omega
    · have hk3 : ¬ (k : Int) < (l.length : Int) := by omega
      have HE : Hid ((yReqReqS.size ⟨p, c, l⟩ : Nat) = l.length + ((l.take k).map yReqReq.size).sum) := Hid.intro (by rw [show k = l.length by omega, List.take_length]; rfl)
      go_wp2
      go_ret
      exact ⟨⟨_, rfl, .inr ⟨hz, by have h1 := HE.out; have h2 := HY.out; omega⟩⟩, hbl⟩

set_option maxRecDepth 100000 in
set_option maxHeartbeats 2000000 in
theorem yReqReqS_eq : EqC yReqReqS 91 := by
  rintro ⟨p, c, l⟩ ⟨p', c', m⟩ w hr hr' hpl
  have hl1 : l.length ≤ c := hr.1
  have hl2 : c ≤ 9223372036854775807 := hr.2.1
  have hl3 : m.length ≤ c' := hr'.1
  have hl4 : c' ≤ 9223372036854775807 := hr'.2.1
  have hpl' : l.map yReqReq.pl = m.map yReqReq.pl := hpl
  have hlm : l.length = m.length := by have := congrArg List.length hpl'; simpa using this
  have HP := Hid.intro hr
  have HQ := Hid.intro hr'
  have HE := Hid.intro hpl'
  clear hr hr' hpl hpl'
  obtain ⟨n, hn⟩ : ∃ n, n = l.length := ⟨_, rfl⟩
  have HN := Hid.intro (And.intro hn (hn.trans hlm))
  show Calls Try.prog 91 #[.slice p l.length c, .slice p' m.length c'] w _
  rw [← hlm, ← hn]
  have hn1 : n ≤ 9223372036854775807 := by omega
  clear hn hlm hl1 hl2 hl3 hl4
  go_enter Try.func91, Try.ntmps91
  go_wp2
  go_loopw [5] (fun i wr => ∃ k : Nat, k ≤ n ∧ i = .int .i64 k ∧ Below w.heap.size w wr) (fun i _ => n - (intOf i).toNat)
  case atStart => exact ⟨0, Nat.zero_le _, rfl, Below.refl _ _⟩
  case round =>
    obtain ⟨k, hk, rfl, hbl⟩ := hrel
    by_cases hlt : k < n
    · have hk0 : (0 : Int) ≤ (k : Int) := by omega
      have hk1 : (k : Int) < (n : Int) := by omega
      have hp := yReqReqS_law.rd_blw HP.out hbl
      have hq := yReqReqS_law.rd_blw HQ.out hbl
      have ly : k < l.length := by have := HN.out.1; omega
      have lz : k < m.length := by have := HN.out.2; omega
      have hxx : yReqReq.pl l[k] = yReqReq.pl m[k] := by
        have e1 : (l.map yReqReq.pl)[k]? = (m.map yReqReq.pl)[k]? := by rw [HE.out]
        simpa [ly, lz] using e1
      have hpa := hp.2.2.2 _ (List.getElem_mem ly)
      have hqa := hq.2.2.2 _ (List.getElem_mem lz)
      have hcp : ∃ b off, p = some ⟨b, off, none⟩ ∧ b < wr.heap.size ∧ ∀ (j : Nat) (v : Value), (yReqReq.cells l[k])[j]? = some v → wr.cell? ⟨b, off + k * 7 + j, none⟩ = some v := by
        rcases hp.2.2.1 with h0 | ⟨b, off, e, hb, hc⟩
        · have h0 : l = [] := h0
          rw [h0] at ly; simp at ly
        · exact ⟨b, off, e, hb, fun j v hv => hc k ly j v hv⟩
      obtain ⟨b, off, rfl, hb, hcp⟩ := hcp
      have hcq : ∃ b off, p' = some ⟨b, off, none⟩ ∧ b < wr.heap.size ∧ ∀ (j : Nat) (v : Value), (yReqReq.cells m[k])[j]? = some v → wr.cell? ⟨b, off + k * 7 + j, none⟩ = some v := by
        rcases hq.2.2.1 with h0 | ⟨b, off, e, hb, hc⟩
        · have h0 : m = [] := h0
          rw [h0] at lz; simp at lz
        · exact ⟨b, off, e, hb, fun j v hv => hc k lz j v hv⟩
      obtain ⟨b', off', rfl, hb', hcq⟩ := hcq
      clear hp hq
      generalize l[k] = x at hxx hpa hcp
      generalize m[k] = z at hxx hqa hcq
      obtain ⟨x_0, x_1, x_2, x_3, x_4, x_5, x_6⟩ := x
      obtain ⟨z_0, z_1, z_2, z_3, z_4, z_5, z_6⟩ := z
      have u0 : wr.cell? ⟨b, off + k * 7, none⟩ = some (.int .i64 x_0) := hcp 0 _ rfl
      have u1 : wr.cell? ⟨b, off + k * 7 + 1, none⟩ = some (.int .i64 x_1) := hcp 1 _ rfl
      have u2 : wr.cell? ⟨b, off + k * 7 + 2, none⟩ = some (.int .i64 x_2) := hcp 2 _ rfl
      have u3 : wr.cell? ⟨b, off + k * 7 + 3, none⟩ = some (.int .i64 x_3) := hcp 3 _ rfl
      have u4 : wr.cell? ⟨b, off + k * 7 + 4, none⟩ = some (.bool x_4) := hcp 4 _ rfl
      have u5 : wr.cell? ⟨b, off + k * 7 + 5, none⟩ = some (.slice x_5.p x_5.l.length x_5.c) := hcp 5 _ rfl
      have u6 : wr.cell? ⟨b, off + k * 7 + 6, none⟩ = some (.slice x_6.p x_6.l.length x_6.c) := hcp 6 _ rfl
      have y0 : wr.cell? ⟨b', off' + k * 7, none⟩ = some (.int .i64 z_0) := hcq 0 _ rfl
      have y1 : wr.cell? ⟨b', off' + k * 7 + 1, none⟩ = some (.int .i64 z_1) := hcq 1 _ rfl
      have y2 : wr.cell? ⟨b', off' + k * 7 + 2, none⟩ = some (.int .i64 z_2) := hcq 2 _ rfl
      have y3 : wr.cell? ⟨b', off' + k * 7 + 3, none⟩ = some (.int .i64 z_3) := hcq 3 _ rfl
      have y4 : wr.cell? ⟨b', off' + k * 7 + 4, none⟩ = some (.bool z_4) := hcq 4 _ rfl
      have y5 : wr.cell? ⟨b', off' + k * 7 + 5, none⟩ = some (.slice z_5.p z_5.l.length z_5.c) := hcq 5 _ rfl
      have y6 : wr.cell? ⟨b', off' + k * 7 + 6, none⟩ = some (.slice z_6.p z_6.l.length z_6.c) := hcq 6 _ rfl
      have HP1 := Hid.intro (And.intro hpa (And.intro u0 (And.intro u1 (And.intro u2 (And.intro u3 (And.intro u4 (And.intro u5 u6)))))))
      have HQ1 := Hid.intro (And.intro hqa (And.intro y0 (And.intro y1 (And.intro y2 (And.intro y3 (And.intro y4 (And.intro y5 y6)))))))
      have HXX := Hid.intro hxx
      clear hpa hqa hxx hcp hcq ly lz u0 u1 u2 u3 u4 u5 u6 y0 y1 y2 y3 y4 y5 y6
      go_wp2_with fail
      refine wp_region_typed (by kernel_rfl) Gr (fun _ W => Below wr.heap.size wr W)
        (tab [(17, kIs (.slice (some ⟨b, off, none⟩) n c)), (18, kIs (.int .i64 k)), (19, kIs (.pointer (some ⟨b, off + k * 7, none⟩))), (20, kIs (.agg #[.int .i64 x_0, .int .i64 x_1, .int .i64 x_2, .int .i64 x_3, .bool x_4, .slice x_5.p x_5.l.length x_5.c, .slice x_6.p x_6.l.length x_6.c])), (21, kIs (.slice (some ⟨b', off', none⟩) n c')), (22, kIs (.int .i64 k)), (23, kIs (.pointer (some ⟨b', off' + k * 7, none⟩))), (24, kIs (.agg #[.int .i64 z_0, .int .i64 z_1, .int .i64 z_2, .int .i64 z_3, .bool z_4, .slice z_5.p z_5.l.length z_5.c, .slice z_6.p z_6.l.length z_6.c])), (25, kIs (.bool true)), (26, kIs (.bool false))])
        [17, 18, 19, 20, 21, 22, 23, 24, 25, 26] (by kernel_rfl) (by kernel_rfl) ?_ ?_ ?_ ?_
      · refine tabR_stable ?_
        intro y hy
        simp only [List.mem_cons, List.not_mem_nil, or_false] at hy
        rcases hy with rfl | rfl | rfl | rfl | rfl | rfl | rfl | rfl | rfl | rfl
        all_goals intro w w' v hr hv
        all_goals exact hv
      · exact (Below.refl _ _).drew
      · refine ops_cons (gd rfl <| ty_move_out (.inl rfl) rfl (by kernel_rfl) rfl (fun _ _ h => h) Gr.refl) ?_
        refine ops_cons (gd rfl <| ty_move_out (.inl rfl) rfl (by kernel_rfl) rfl (fun _ _ h => h) Gr.refl) ?_
        refine ops_cons (gd rfl <| tx_pure rfl rfl (fun _ _ h => h) Gr.refl (fun _ ρ W hat hW => ?_)) ?_
        · have e1 : ρ (.tmp 17) = _ := hat.dep 17 (by kernel_rfl)
          have e2 : ρ (.tmp 18) = _ := hat.dep 18 (by kernel_rfl)
          simp only [execOp, e1, e2]; go_simp
        refine ops_cons (gd rfl <| tx_pure rfl rfl (fun _ _ h => h) Gr.refl (fun _ ρ W hat hW => ?_)) ?_
        · have e1 : ρ (.tmp 19) = _ := hat.dep 19 (by kernel_rfl)
          obtain ⟨u0, u1, u2, u3, u4, u5, u6⟩ := HP1.out.2
          have v0 := (hW.cell (p := ⟨b, off + k * 7, none⟩) hb).trans u0
          have v1 := (hW.cell (p := ⟨b, off + k * 7 + 1, none⟩) hb).trans u1
          have v2 := (hW.cell (p := ⟨b, off + k * 7 + 2, none⟩) hb).trans u2
          have v3 := (hW.cell (p := ⟨b, off + k * 7 + 3, none⟩) hb).trans u3
          have v4 := (hW.cell (p := ⟨b, off + k * 7 + 4, none⟩) hb).trans u4
          have v5 := (hW.cell (p := ⟨b, off + k * 7 + 5, none⟩) hb).trans u5
          have v6 := (hW.cell (p := ⟨b, off + k * 7 + 6, none⟩) hb).trans u6
          clear u0 u1 u2 u3 u4 u5 u6
          simp only [execOp, e1]; go_simp
        refine ops_cons (gd rfl <| ty_move_out (.inl rfl) rfl (by kernel_rfl) rfl (fun _ _ h => h) Gr.refl) ?_
        refine ops_cons (gd rfl <| ty_move_out (.inl rfl) rfl (by kernel_rfl) rfl (fun _ _ h => h) Gr.refl) ?_
        refine ops_cons (gd rfl <| tx_pure rfl rfl (fun _ _ h => h) Gr.refl (fun _ ρ W hat hW => ?_)) ?_
        · have e1 : ρ (.tmp 21) = _ := hat.dep 21 (by kernel_rfl)
          have e2 : ρ (.tmp 22) = _ := hat.dep 22 (by kernel_rfl)
          simp only [execOp, e1, e2]; go_simp
        refine ops_cons (gd rfl <| tx_pure rfl rfl (fun _ _ h => h) Gr.refl (fun _ ρ W hat hW => ?_)) ?_
        · have e1 : ρ (.tmp 23) = _ := hat.dep 23 (by kernel_rfl)
          obtain ⟨y0, y1, y2, y3, y4, y5, y6⟩ := HQ1.out.2
          have v0 := (hW.cell (p := ⟨b', off' + k * 7, none⟩) hb').trans y0
          have v1 := (hW.cell (p := ⟨b', off' + k * 7 + 1, none⟩) hb').trans y1
          have v2 := (hW.cell (p := ⟨b', off' + k * 7 + 2, none⟩) hb').trans y2
          have v3 := (hW.cell (p := ⟨b', off' + k * 7 + 3, none⟩) hb').trans y3
          have v4 := (hW.cell (p := ⟨b', off' + k * 7 + 4, none⟩) hb').trans y4
          have v5 := (hW.cell (p := ⟨b', off' + k * 7 + 5, none⟩) hb').trans y5
          have v6 := (hW.cell (p := ⟨b', off' + k * 7 + 6, none⟩) hb').trans y6
          clear y0 y1 y2 y3 y4 y5 y6
          simp only [execOp, e1]; go_simp
        refine ops_cons (gd rfl <| tx_call rfl (fun _ ρ W _ hat hW => ?_)) ?_
        · have e1 : ρ (.tmp 20) = _ := hat.dep 20 (by kernel_rfl)
          have e2 : ρ (.tmp 24) = _ := hat.dep 24 (by kernel_rfl)
          have hf := hat.fn
          refine ⟨122, #[.agg #[.int .i64 x_0, .int .i64 x_1, .int .i64 x_2, .int .i64 x_3, .bool x_4, .slice x_5.p x_5.l.length x_5.c, .slice x_6.p x_6.l.length x_6.c], .agg #[.int .i64 z_0, .int .i64 z_1, .int .i64 z_2, .int .i64 z_3, .bool z_4, .slice z_5.p z_5.l.length z_5.c, .slice z_6.p z_6.l.length z_6.c]], by simp only [execOp]; go_simp, ?_⟩
          have hcl := yReqReq_eq (x_0, x_1, x_2, x_3, x_4, x_5, x_6) (z_0, z_1, z_2, z_3, z_4, z_5, z_6) W (yReqReq_law.rd_blw HP1.out.1 hW) (yReqReq_law.rd_blw HQ1.out.1 hW) HXX.out
          refine Calls.mono (show Calls Try.prog 122 #[.agg #[.int .i64 x_0, .int .i64 x_1, .int .i64 x_2, .int .i64 x_3, .bool x_4, .slice x_5.p x_5.l.length x_5.c, .slice x_6.p x_6.l.length x_6.c], .agg #[.int .i64 z_0, .int .i64 z_1, .int .i64 z_2, .int .i64 z_3, .bool z_4, .slice z_5.p z_5.l.length z_5.c, .slice z_6.p z_6.l.length z_6.c]] W _ from hcl) ?_
          rintro e W' ⟨rfl, hb⟩
          exact ⟨_, rfl, hW.trans (hb.mono hW.size), hb, rfl⟩
        refine ops_cons (gd rfl <| tx_pure rfl rfl (fun _ _ h => h) Gr.refl (fun _ ρ W hat hW => ?_)) ?_
        · have e1 : ρ (.tmp 25) = _ := hat.dep 25 (by kernel_rfl)
          simp only [execOp, e1]; go_simp
        exact ops_nil
      · intro f W hW hf
        have e26 : f 26 = .bool false := hf 26 (by simp)
        clear hf
        have hbW := hbl.trans (hW.mono hbl.size)
        simp only [fill, e26]
        go_simp
        go_wp2
        go_roundw
        case rel => exact ⟨k + 1, by omega, by go_num, hbW⟩
        case measure => simp [intOf]; omega
    · have hk3 : ¬ (k : Int) < (n : Int) := by omega
      go_wp2
      go_ret
      exact ⟨rfl, hbl⟩

theorem Try.infoReqReqS : (Try.prog.info? 107).map (fun i => (i.zero, i.size, i.bytes)) = some (some (.agg #[.int .i64 0, .int .i64 0, .int .i64 0, .int .i64 0, .bool false, .slice none 0 0, .slice none 0 0]), 7, 88) := by kernel_rfl

set_option maxRecDepth 100000 in
set_option maxHeartbeats 2000000 in
theorem yReqReqS_to : ToC yReqReqS 86 := by
  rintro ⟨p, c, l⟩ w hr hs
  have hl1 : l.length ≤ c := hr.1
  have hl2 : c ≤ 9223372036854775807 := hr.2.1
  have hs' : l.length + (l.map yReqReq.size).sum ≤ 1048576 := hs
  have hl3 : l.length ≤ 1048576 := by omega
  have HR := Hid.intro hr
  have HSZ := Hid.intro hs'
  clear hr hs hs'
  obtain ⟨i0, hi, hz0, hz1, hz2⟩ := info_parts Try.infoReqReqS
  have hmk : ∀ W : World, (Instr.makeSlice 77 (.int .i64 (l.length : Int)) (.int .i64 (l.length : Int))).run Try.prog W =
      .ok (.slice (some ⟨W.heap.size, 0, none⟩) l.length l.length) (W.alloc (.cells (madeCells (Value.cells (.agg #[.int .i64 0, .int .i64 0, .int .i64 0, .int .i64 0, .bool false, .slice none 0 0, .slice none 0 0])) (l.length * 7)) 107)) := fun W => by
    have := run_make (P := Try.prog) W 77 107 i0 _ Try.underlying77 hi hz0 .i64 .i64 (l.length : Int) (l.length : Int) (by omega) (by omega) (by rw [hz2]; omega) (by omega)
    rw [hz1] at this
    simpa using this
  have HM0 : Hid (MakeSt yReqReq 107 l w.heap.size (w.alloc (.cells (madeCells (Value.cells (.agg #[.int .i64 0, .int .i64 0, .int .i64 0, .int .i64 0, .bool false, .slice none 0 0, .slice none 0 0])) (l.length * 7)) 107)) 0 []) := Hid.intro (MakeSt.start yReqReq_law (by rfl))
  have hbl0 : Below w.heap.size w (w.alloc (.cells (madeCells (Value.cells (.agg #[.int .i64 0, .int .i64 0, .int .i64 0, .int .i64 0, .bool false, .slice none 0 0, .slice none 0 0])) (l.length * 7)) 107)) := (Below.refl _ w).alloc (Nat.le_refl _) _
  have hsz0 : w.heap.size < (w.alloc (.cells (madeCells (Value.cells (.agg #[.int .i64 0, .int .i64 0, .int .i64 0, .int .i64 0, .bool false, .slice none 0 0, .slice none 0 0])) (l.length * 7)) 107)).heap.size := by simp
  show Calls Try.prog 86 #[.slice p l.length c] w _
  go_enter Try.func86, Try.ntmps86
  go_wp2
  clear hmk
  go_loopw [4] (fun i wr => ∃ (k : Nat) (zs : List (Int × Int × Int × Int × Bool × (Lst Int) × (Lst Int))), k ≤ l.length ∧ i = .int .i64 k ∧ Below w.heap.size w wr ∧ w.heap.size < wr.heap.size ∧ Hid (MakeSt yReqReq 107 l w.heap.size wr k zs)) (fun i _ => l.length - (intOf i).toNat)
  case atStart => exact ⟨0, [], Nat.zero_le _, rfl, hbl0, hsz0, HM0⟩
  case round =>
    clear HM0 hbl0 hsz0
    obtain ⟨k, zs, hk, rfl, hbl, hsz, HM⟩ := hrel
    by_cases hlt : k < l.length
    · have hp := yReqReqS_law.rd_blw HR.out hbl
      have hq := hp.2.2.2 _ (List.getElem_mem hlt)
      have hk0 : (0 : Int) ≤ (k : Int) := by omega
      have hk1 : (k : Int) < (l.length : Int) := by omega
      have hqs : yReqReq.size l[k] ≤ 1048576 := by have := size_le yReqReq hlt; have := HSZ.out; omega
      obtain ⟨q, hqe⟩ : ∃ q, q = l[k] := ⟨_, rfl⟩
      rw [← hqe] at hq hqs
      have hc : ∃ b off, p = some ⟨b, off, none⟩ ∧ b < wr.heap.size ∧ ∀ (j : Nat) (v : Value), (yReqReq.cells q)[j]? = some v → wr.cell? ⟨b, off + k * 7 + j, none⟩ = some v := by
        rcases hp.2.2.1 with h0 | ⟨b, off, e, hb, hc⟩
        · have h0 : l = [] := h0
          subst h0; simp at hlt
        · exact ⟨b, off, e, hb, fun j v hv => hc k hlt j v (by rw [← hqe]; exact hv)⟩
      obtain ⟨b, off, rfl, hb, hc⟩ := hc
      clear hp
      have HQE := Hid.intro hqe
      clear hqe
      obtain ⟨q_0, q_1, q_2, q_3, q_4, q_5, q_6⟩ := q
      have c0 : wr.cell? ⟨b, off + k * 7, none⟩ = some (.int .i64 q_0) := hc 0 _ rfl
      have c1 : wr.cell? ⟨b, off + k * 7 + 1, none⟩ = some (.int .i64 q_1) := hc 1 _ rfl
      have c2 : wr.cell? ⟨b, off + k * 7 + 2, none⟩ = some (.int .i64 q_2) := hc 2 _ rfl
      have c3 : wr.cell? ⟨b, off + k * 7 + 3, none⟩ = some (.int .i64 q_3) := hc 3 _ rfl
      have c4 : wr.cell? ⟨b, off + k * 7 + 4, none⟩ = some (.bool q_4) := hc 4 _ rfl
      have c5 : wr.cell? ⟨b, off + k * 7 + 5, none⟩ = some (.slice q_5.p q_5.l.length q_5.c) := hc 5 _ rfl
      have c6 : wr.cell? ⟨b, off + k * 7 + 6, none⟩ = some (.slice q_6.p q_6.l.length q_6.c) := hc 6 _ rfl
      have HCE : Hid (∀ (w : World), yReqReq.rd w (q_0, q_1, q_2, q_3, q_4, q_5, q_6) → yReqReq.size (q_0, q_1, q_2, q_3, q_4, q_5, q_6) ≤ 1048576 → Calls Try.prog 119 #[.agg #[.int .i64 q_0, .int .i64 q_1, .int .i64 q_2, .int .i64 q_3, .bool q_4, .slice q_5.p q_5.l.length q_5.c, .slice q_6.p q_6.l.length q_6.c]] w fun e w' => ∃ a', e = .returned (yReqReq.val a') ∧ yReqReq.pl a' = yReqReq.pl (q_0, q_1, q_2, q_3, q_4, q_5, q_6) ∧ yReqReq.size a' = yReqReq.size (q_0, q_1, q_2, q_3, q_4, q_5, q_6) ∧ Fresh yReqReq w.heap.size w' a' ∧ Below w.heap.size w w') := Hid.intro (yReqReq_to (q_0, q_1, q_2, q_3, q_4, q_5, q_6))
      have HQ := Hid.intro (And.intro hq hqs)
      clear hq hqs hc
      go_wp2_with fail
      refine (HCE.out _ HQ.out.1 HQ.out.2).mono ?_
      clear HCE
      rintro e w1 ⟨⟨x_0, x_1, x_2, x_3, x_4, x_5, x_6⟩, he, hpl, hss, hf, hb1⟩
      rw [yReqReq_val] at he
      subst he
      have hsz1 : w.heap.size < w1.heap.size := Nat.lt_of_lt_of_le hsz hb1.size
      have hm1 := HM.out.below yReqReq_law hb1
      have hlt1 : ∀ b ∈ zs.flatMap yReqReq.foot, b < wr.heap.size := HM.out.fr.lt yReqReq_law
      obtain ⟨u0, t0⟩ := hm1.row.there (k * 7) (show _ < l.length * 7 by omega)
      have f0 := hm1.row.frz (k * 7)
      obtain ⟨u1, t1⟩ := hm1.row.there (k * 7 + 1) (show _ < l.length * 7 by omega)
      have f1 := hm1.row.frz (k * 7 + 1)
      obtain ⟨u2, t2⟩ := hm1.row.there (k * 7 + 2) (show _ < l.length * 7 by omega)
      have f2 := hm1.row.frz (k * 7 + 2)
      obtain ⟨u3, t3⟩ := hm1.row.there (k * 7 + 3) (show _ < l.length * 7 by omega)
      have f3 := hm1.row.frz (k * 7 + 3)
      obtain ⟨u4, t4⟩ := hm1.row.there (k * 7 + 4) (show _ < l.length * 7 by omega)
      have f4 := hm1.row.frz (k * 7 + 4)
      obtain ⟨u5, t5⟩ := hm1.row.there (k * 7 + 5) (show _ < l.length * 7 by omega)
      have f5 := hm1.row.frz (k * 7 + 5)
      obtain ⟨u6, t6⟩ := hm1.row.there (k * 7 + 6) (show _ < l.length * 7 by omega)
      have f6 := hm1.row.frz (k * 7 + 6)
      have HM2 := Hid.intro (hm1.step yReqReq_law (q := (x_0, x_1, x_2, x_3, x_4, x_5, x_6)) hlt (by rw [← HQE.out]; exact hpl) (by rw [← HQE.out]; exact hss) hf hlt1 hsz)
      have HB2 := Hid.intro (putC_below (Nat.le_refl _) (rowVs (k * yReqReq.sz) (yReqReq.cells (x_0, x_1, x_2, x_3, x_4, x_5, x_6))) (hbl.trans (hb1.mono (by omega))))
      clear hm1 HM HQ hbl hb1 hf hpl hss hlt1 HQE c0 c1 c2 c3 c4 c5 c6
      go_wp2
      go_roundw
      case rel => exact ⟨k + 1, zs ++ [(x_0, x_1, x_2, x_3, x_4, x_5, x_6)], by omega, by go_num, HB2.out, by simpa using hsz1, HM2.out⟩
      case measure => simp [intOf]; omega
    · have hd := HM.out.done (show k = l.length by omega) (by omega)
      have HD := Hid.intro hd
      clear hd HM
      go_wp2
      go_ret
      exact ⟨⟨some ⟨w.heap.size, 0, none⟩, l.length, zs⟩, by show _ = Ending.returned (Value.slice _ zs.length _); rw [HD.out.2.2.2]; rfl, HD.out.2.1, by show zs.length + (zs.map yReqReq.size).sum = l.length + (l.map yReqReq.size).sum; rw [HD.out.2.2.2, HD.out.2.2.1], HD.out.1, hbl⟩

set_option maxRecDepth 100000 in
set_option maxHeartbeats 2000000 in
theorem yReqReqS_mark : MarkC yReqReqS 108 := by
  rintro ⟨p, c, l⟩ k0 w ho hn h0 h1
  have hl1 : l.length ≤ c := ho.1
  have hl2 : c ≤ 9223372036854775807 := ho.2.1
  have HC : Hid (k0 + ((cntL yReqReq l : Nat) : Int) ≤ 1000000000000000) := Hid.intro h1
  have HN := Hid.intro hn
  have HS : Hid (MarkSt yReqReq 107 l p c k0 w w 0 l) := Hid.intro (MarkSt.start ho k0)
  clear ho hn h1
  show Calls Try.prog 108 #[.slice p l.length c, .int .i64 k0] w fun e w' => e = .returned (.int .i64 (k0 + ((cntL yReqReq l : Nat) : Int))) ∧ Kept (fun b => b ∈ yReqReqS.foot ⟨p, c, l⟩) w w' ∧ ∃ a', yReqReqS.val a' = yReqReqS.val ⟨p, c, l⟩ ∧ yReqReqS.cells a' = yReqReqS.cells ⟨p, c, l⟩ ∧ yReqReqS.foot a' = yReqReqS.foot ⟨p, c, l⟩ ∧ yReqReqS.vcnt a' = yReqReqS.vcnt ⟨p, c, l⟩ ∧ yReqReqS.ow w' a' ∧ yReqReqS.vmkd a' k0
  go_enter Try.func108, Try.ntmps108
  go_wp2
  go_loopw [5, 1] (fun i kk wr => ∃ (j : Nat) (y : Int) (ys : List (Int × Int × Int × Int × Bool × (Lst Int) × (Lst Int))), j ≤ l.length ∧ i = .int .i64 j ∧ kk = .int .i64 y ∧ 0 ≤ y ∧ Hid (y = k0 + ((cntL yReqReq (l.take j) : Nat) : Int)) ∧ Hid (MarkSt yReqReq 107 l p c k0 w wr j ys)) (fun i _ _ => l.length - (intOf i).toNat)
  case atStart => exact ⟨0, k0, l, Nat.zero_le _, rfl, rfl, h0, Hid.intro (by simp [cntL]), HS⟩
  case round =>
    clear HS
    obtain ⟨j, y, ys, hj, rfl, rfl, hy0, HY, HM⟩ := hrel
    by_cases hlt : j < l.length
    · have hj0 : (0 : Int) ≤ (j : Int) := by omega
      have hj1 : (j : Int) < (l.length : Int) := by omega
      obtain ⟨hy, b, hpb, hO, hqo, hqn, hqb, hqc⟩ := HM.out.elem HN.out hlt
      subst hpb
      have hc : ∀ (i : Nat) (v : Value), (yReqReq.cells ys[j])[i]? = some v → wr.cell? ⟨b, j * 7 + i, none⟩ = some v := fun i v hv => hO.rowcell yReqReq_law.len hy i v hv
      have hfz : ∀ o, wr.frozen? ⟨b, o, none⟩ = false := hO.frz
      obtain ⟨cur, hcur⟩ : ∃ cur, wr.heap[b]? = some (.cells cur 107 (0, 0)) := by obtain ⟨cur, h, _⟩ := hO; exact ⟨cur, h⟩
      have hstep := cntL_take yReqReq hlt
      have hpart := cntL_part yReqReq l (j + 1)
      rw [← hqc] at hstep
      have hSTP := fun (q : (Int × Int × Int × Int × Bool × (Lst Int) × (Lst Int))) (vs : List (Nat × Value)) (W : World) => HM.out.step yReqReq_law (W := W) HN.out hlt hy q vs
      have hwb := hO.lt
      clear hO HM hqc
      have hB : y + ((yReqReq.cnt ys[j] : Nat) : Int) ≤ 1000000000000000 := by have h1 := HC.out; have h2 := HY.out; omega
      have hYe : k0 + ((cntL yReqReq (l.take j) : Nat) : Int) = y := HY.out.symm
      simp only [hYe] at hSTP
      clear hYe
      clear hpart
      have HYS := Hid.intro (⟨ys, rfl⟩ : ∃ zs, zs = ys)
      generalize hqe : ys[j] = q at hqo hqn hqb hc hB hSTP hstep
      have HQE := Hid.intro hqe
      clear hqe
      obtain ⟨q_0, q_1, q_2, q_3, q_4, q_5, q_6⟩ := q
      have c0 : wr.cell? ⟨b, j * 7, none⟩ = some (.int .i64 q_0) := hc 0 _ rfl
      have f0 := hfz (j * 7)
      have c1 : wr.cell? ⟨b, j * 7 + 1, none⟩ = some (.int .i64 q_1) := hc 1 _ rfl
      have f1 := hfz (j * 7 + 1)
      have c2 : wr.cell? ⟨b, j * 7 + 2, none⟩ = some (.int .i64 q_2) := hc 2 _ rfl
      have f2 := hfz (j * 7 + 2)
      have c3 : wr.cell? ⟨b, j * 7 + 3, none⟩ = some (.int .i64 q_3) := hc 3 _ rfl
      have f3 := hfz (j * 7 + 3)
      have c4 : wr.cell? ⟨b, j * 7 + 4, none⟩ = some (.bool q_4) := hc 4 _ rfl
      have f4 := hfz (j * 7 + 4)
      have c5 : wr.cell? ⟨b, j * 7 + 5, none⟩ = some (.slice q_5.p q_5.l.length q_5.c) := hc 5 _ rfl
      have f5 := hfz (j * 7 + 5)
      have c6 : wr.cell? ⟨b, j * 7 + 6, none⟩ = some (.slice q_6.p q_6.l.length q_6.c) := hc 6 _ rfl
      have f6 := hfz (j * 7 + 6)
      have hbd : y + ((1 + (1 + (1 + (1 + (1 + (yI.cnt q_5 + (yI.cnt q_6)))))) : Nat) : Int) ≤ 1000000000000000 := hB
      have HSC : Hid (cntL yReqReq (l.take (j + 1)) = cntL yReqReq (l.take j) + (1 + (1 + (1 + (1 + (1 + (yI.cnt q_5 + (yI.cnt q_6)))))))) := Hid.intro hstep
      have HSTP := Hid.intro hSTP
      clear hc hB hstep hSTP hfz
      have hqb : ∀ x ∈ [] ++ ([] ++ ([] ++ ([] ++ ([] ++ (yI.foot q_5 ++ (yI.foot q_6)))))), x ≠ b := hqb
      have m0 : ([] ++ ([] ++ ([] ++ ([] ++ ([] ++ (yI.foot q_5 ++ (yI.foot q_6))))))).Nodup := hqn
      have hnd : (yI.foot q_5).Nodup ∧ (yI.foot q_6).Nodup ∧ ∀ x ∈ yI.foot q_6, x ∉ yI.foot q_5 := by
        have m1 := m0
        simp only [List.nil_append, List.append_nil] at m1
        exact nd2 m1
      have HQ := Hid.intro (And.intro hqo (And.intro hqb hnd))
      clear hqo hqb m0 hqn hnd
      have K6 := Hid.intro c6
      have ho0 : Hid (yI.ow (putC wr b [(j * 7, .int .i64 (y)), (j * 7 + 1, .int .i64 (y + 1)), (j * 7 + 2, .int .i64 (y + 1 + 1)), (j * 7 + 3, .int .i64 (y + 1 + 1 + 1)), (j * 7 + 4, .bool ((y + 1 + 1 + 1 + 1) % 3 == 0))]) q_5) := Hid.intro (yI_law.ow_of HQ.out.1.2.2.2.2.2.1 (fun x hx => putC_ne _ _ _ (HQ.out.2.1 x (List.mem_append.2 (.inr (List.mem_append.2 (.inr (List.mem_append.2 (.inr (List.mem_append.2 (.inr (List.mem_append.2 (.inr (List.mem_append.2 (.inl (hx))))))))))))))))
      have hbb0 : (y + 1 + 1 + 1 + 1 + 1) + ((yI.vcnt q_5 : Nat) : Int) ≤ 1000000000000000 ∧ 0 ≤ (y + 1 + 1 + 1 + 1 + 1) := by have g0 : ((yI.vcnt q_5 : Nat) : Int) = ((yI.cnt q_5 : Nat) : Int) := rfl; have g1 : ((yI.vcnt q_6 : Nat) : Int) = ((yI.cnt q_6 : Nat) : Int) := rfl; omega
      have HBB0 := Hid.intro hbb0
      clear hbb0
      go_wp2_with fail
      refine (yI_mark q_5 _ (putC wr b [(j * 7, .int .i64 (y)), (j * 7 + 1, .int .i64 (y + 1)), (j * 7 + 2, .int .i64 (y + 1 + 1)), (j * 7 + 3, .int .i64 (y + 1 + 1 + 1)), (j * 7 + 4, .bool ((y + 1 + 1 + 1 + 1) % 3 == 0))]) ho0.out HQ.out.2.2.1 HBB0.out.2 HBB0.out.1).mono ?_
      rintro e w1 ⟨rfl, hk, x5, hv0, hx0, hf0, hn0, hw0, hm0⟩
      have HX0 := Hid.intro (And.intro hx0 (And.intro hf0 (And.intro hn0 (And.intro hw0 hm0))))
      clear hv0 hx0 hf0 hn0 hw0 hm0
      have HB0 : Hid (w1.heap[b]? = (putC wr b [(j * 7, .int .i64 (y)), (j * 7 + 1, .int .i64 (y + 1)), (j * 7 + 2, .int .i64 (y + 1 + 1)), (j * 7 + 3, .int .i64 (y + 1 + 1 + 1)), (j * 7 + 4, .bool ((y + 1 + 1 + 1 + 1) % 3 == 0))]).heap[b]?) := Hid.intro ((hk.block b (by rw [putC_size]; exact hwb) (fun hd => HQ.out.2.1 b (List.mem_append.2 (.inr (List.mem_append.2 (.inr (List.mem_append.2 (.inr (List.mem_append.2 (.inr (List.mem_append.2 (.inr (List.mem_append.2 (.inl (hd))))))))))))) rfl)))
      have HK0 : Hid (Kept (fun x => x = b ∨ x ∈ yI.foot q_5) wr w1) := Hid.intro (((putC_kept (b := b) _ wr).mono (fun x e => .inl e)).trans (hk.mono (fun x e => .inr e)))
      replace c6 : w1.cell? ⟨b, j * 7 + 6, none⟩ = some (.slice q_6.p q_6.l.length q_6.c) := (World.cell?_of_block (w := putC wr b [(j * 7, .int .i64 (y)), (j * 7 + 1, .int .i64 (y + 1)), (j * 7 + 2, .int .i64 (y + 1 + 1)), (j * 7 + 3, .int .i64 (y + 1 + 1 + 1)), (j * 7 + 4, .bool ((y + 1 + 1 + 1 + 1) % 3 == 0))]) (a := ⟨b, j * 7 + 6, none⟩) HB0.out).trans ((putC_cell _ _ (by simp)).trans c6)
      replace f6 : w1.frozen? ⟨b, j * 7 + 6, none⟩ = false := (World.frozen?_of_block (w := putC wr b [(j * 7, .int .i64 (y)), (j * 7 + 1, .int .i64 (y + 1)), (j * 7 + 2, .int .i64 (y + 1 + 1)), (j * 7 + 3, .int .i64 (y + 1 + 1 + 1)), (j * 7 + 4, .bool ((y + 1 + 1 + 1 + 1) % 3 == 0))]) (a := ⟨b, j * 7 + 6, none⟩) HB0.out).trans (putC_frz hcur _)
      clear hk ho0 HBB0
      have ho1 : Hid (yI.ow (putC w1 b []) q_6) := Hid.intro (yI_law.ow_of HQ.out.1.2.2.2.2.2.2 (fun x hx => (putC_ne _ _ _ (HQ.out.2.1 x (List.mem_append.2 (.inr (List.mem_append.2 (.inr (List.mem_append.2 (.inr (List.mem_append.2 (.inr (List.mem_append.2 (.inr (List.mem_append.2 (.inr (hx))))))))))))))).trans (HK0.out.block x (yI_law.ow_lt HQ.out.1.2.2.2.2.2.2 x hx) (fun hd => hd.elim (fun e => HQ.out.2.1 x (List.mem_append.2 (.inr (List.mem_append.2 (.inr (List.mem_append.2 (.inr (List.mem_append.2 (.inr (List.mem_append.2 (.inr (List.mem_append.2 (.inr (hx))))))))))))) e) (fun hd => HQ.out.2.2.2.2 x hx hd)))))
      have hcb1 : (putC w1 b []).heap[b]? = (putC wr b [(j * 7, .int .i64 (y)), (j * 7 + 1, .int .i64 (y + 1)), (j * 7 + 2, .int .i64 (y + 1 + 1)), (j * 7 + 3, .int .i64 (y + 1 + 1 + 1)), (j * 7 + 4, .bool ((y + 1 + 1 + 1 + 1) % 3 == 0))]).heap[b]? := (putC_cong _ HB0.out).trans (by rw [putC_app]; rfl)
      have HCB1 := Hid.intro hcb1
      clear hcb1
      have hbb1 : (y + 1 + 1 + 1 + 1 + 1 + ((yI.vcnt q_5 : Nat) : Int)) + ((yI.vcnt q_6 : Nat) : Int) ≤ 1000000000000000 ∧ 0 ≤ (y + 1 + 1 + 1 + 1 + 1 + ((yI.vcnt q_5 : Nat) : Int)) := by have g0 : ((yI.vcnt q_5 : Nat) : Int) = ((yI.cnt q_5 : Nat) : Int) := rfl; have g1 : ((yI.vcnt q_6 : Nat) : Int) = ((yI.cnt q_6 : Nat) : Int) := rfl; omega
      have HBB1 := Hid.intro hbb1
      clear hbb1
      go_wp2_with fail
      refine (yI_mark q_6 _ (putC w1 b []) ho1.out HQ.out.2.2.2.1 HBB1.out.2 HBB1.out.1).mono ?_
      rintro e w2 ⟨rfl, hk, x6, hv1, hx1, hf1, hn1, hw1, hm1⟩
      have HX1 := Hid.intro (And.intro hx1 (And.intro hf1 (And.intro hn1 (And.intro hw1 hm1))))
      clear hv1 hx1 hf1 hn1 hw1 hm1
      have HB1 : Hid (w2.heap[b]? = (putC wr b [(j * 7, .int .i64 (y)), (j * 7 + 1, .int .i64 (y + 1)), (j * 7 + 2, .int .i64 (y + 1 + 1)), (j * 7 + 3, .int .i64 (y + 1 + 1 + 1)), (j * 7 + 4, .bool ((y + 1 + 1 + 1 + 1) % 3 == 0))]).heap[b]?) := Hid.intro ((hk.block b (by rw [putC_size]; exact Nat.lt_of_lt_of_le hwb HK0.out.size) (fun hd => HQ.out.2.1 b (List.mem_append.2 (.inr (List.mem_append.2 (.inr (List.mem_append.2 (.inr (List.mem_append.2 (.inr (List.mem_append.2 (.inr (List.mem_append.2 (.inr (hd))))))))))))) rfl)).trans HCB1.out)
      have HK1 : Hid (Kept (fun x => (x = b ∨ x ∈ yI.foot q_5) ∨ x ∈ yI.foot q_6) wr w2) := Hid.intro (((HK0.out.trans ((putC_kept (b := b) _ w1).mono (fun x e => .inl e))).mono (fun x e => .inl e)).trans (hk.mono (fun x e => .inr e)))
      have HW0 : Hid (yI.ow w2 x5) := Hid.intro (yI_law.ow_of HX0.out.2.2.2.1 (fun x hx => (hk.block x (by rw [putC_size]; exact yI_law.ow_lt HX0.out.2.2.2.1 x hx) (fun hd => HQ.out.2.2.2.2 x hd (by rw [← HX0.out.2.1]; exact hx))).trans (putC_ne _ _ _ (HQ.out.2.1 x (by have hx := hx; rw [HX0.out.2.1] at hx; exact List.mem_append.2 (.inr (List.mem_append.2 (.inr (List.mem_append.2 (.inr (List.mem_append.2 (.inr (List.mem_append.2 (.inr (List.mem_append.2 (.inl (hx)))))))))))))))))
      clear hk ho1 HCB1 HBB1
      have HEND := Hid.intro (HSTP.out ((y), (y + 1), (y + 1 + 1), (y + 1 + 1 + 1), ((y + 1 + 1 + 1 + 1) % 3 == 0), x5, x6) [(j * 7, .int .i64 (y)), (j * 7 + 1, .int .i64 (y + 1)), (j * 7 + 2, .int .i64 (y + 1 + 1)), (j * 7 + 3, .int .i64 (y + 1 + 1 + 1)), (j * 7 + 4, .bool ((y + 1 + 1 + 1 + 1) % 3 == 0))] w2 (by show [] ++ ([] ++ ([] ++ ([] ++ ([] ++ (yI.foot x5 ++ (yI.foot x6)))))) = [] ++ ([] ++ ([] ++ ([] ++ ([] ++ (yI.foot q_5 ++ (yI.foot q_6)))))); rw [HX0.out.2.1, HX1.out.2.1]) (by show 1 + (1 + (1 + (1 + (1 + (yI.cnt x5 + (yI.cnt x6)))))) = 1 + (1 + (1 + (1 + (1 + (yI.cnt q_5 + (yI.cnt q_6)))))); rw [(show yI.cnt x5 = yI.cnt q_5 from HX0.out.2.2.1), (show yI.cnt x6 = yI.cnt q_6 from HX1.out.2.2.1)]) ⟨(show (y) = y from by omega), (show (y + 1) = y + ((1 : Nat) : Int) from by omega), (show (y + 1 + 1) = y + ((1 : Nat) : Int) + ((1 : Nat) : Int) from by omega), (show (y + 1 + 1 + 1) = y + ((1 : Nat) : Int) + ((1 : Nat) : Int) + ((1 : Nat) : Int) from by omega), (show ((y + 1 + 1 + 1 + 1) % 3 == 0) = ((y + ((1 : Nat) : Int) + ((1 : Nat) : Int) + ((1 : Nat) : Int) + ((1 : Nat) : Int)) % 3 == 0) from by congr 2), (show yI.mkd x5 (y + ((1 : Nat) : Int) + ((1 : Nat) : Int) + ((1 : Nat) : Int) + ((1 : Nat) : Int) + ((1 : Nat) : Int)) from cast (congrArg (yI.vmkd x5) (by omega)) HX0.out.2.2.2.2), (show yI.mkd x6 (y + ((1 : Nat) : Int) + ((1 : Nat) : Int) + ((1 : Nat) : Int) + ((1 : Nat) : Int) + ((1 : Nat) : Int) + ((yI.cnt x5 : Nat) : Int)) from cast (congrArg (yI.vmkd x6) (by have g0 : ((yI.cnt x5 : Nat) : Int) = ((yI.vcnt q_5 : Nat) : Int) := (by rw [show yI.cnt x5 = yI.vcnt q_5 from HX0.out.2.2.1]); omega)) HX1.out.2.2.2.2)⟩ ⟨trivial, trivial, trivial, trivial, trivial, HW0.out, HX1.out.2.2.2.1⟩ (HB1.out) (HK1.out.mono (by
          intro x
          rintro ((e | h) | h)
          · exact .inl e
          · exact .inr (show x ∈ [] ++ ([] ++ ([] ++ ([] ++ ([] ++ (yI.foot q_5 ++ (yI.foot q_6)))))) from List.mem_append.2 (.inr (List.mem_append.2 (.inr (List.mem_append.2 (.inr (List.mem_append.2 (.inr (List.mem_append.2 (.inr (List.mem_append.2 (.inl (h)))))))))))))
          · exact .inr (show x ∈ [] ++ ([] ++ ([] ++ ([] ++ ([] ++ (yI.foot q_5 ++ (yI.foot q_6)))))) from List.mem_append.2 (.inr (List.mem_append.2 (.inr (List.mem_append.2 (.inr (List.mem_append.2 (.inr (List.mem_append.2 (.inr (List.mem_append.2 (.inr (h)))))))))))))))
        (by
          intro x hx
          show j * 7 ≤ x.1 ∧ x.1 < j * 7 + 7 ∧ (yReqReq.cells ((y), (y + 1), (y + 1 + 1), (y + 1 + 1 + 1), ((y + 1 + 1 + 1 + 1) % 3 == 0), x5, x6))[x.1 - j * 7]? = some x.2
          simp only [List.mem_cons, List.not_mem_nil, or_false] at hx
          rcases hx with rfl | rfl | rfl | rfl | rfl
          · exact ⟨by simp only; omega, by simp only; omega, by simp only [Nat.sub_self]; rfl⟩
          · exact ⟨by simp only; omega, by simp only; omega, by simp only [Nat.add_sub_cancel_left]; rfl⟩
          · exact ⟨by simp only; omega, by simp only; omega, by simp only [Nat.add_sub_cancel_left]; rfl⟩
          · exact ⟨by simp only; omega, by simp only; omega, by simp only [Nat.add_sub_cancel_left]; rfl⟩
          · exact ⟨by simp only; omega, by simp only; omega, by simp only [Nat.add_sub_cancel_left]; rfl⟩)
        (by
          intro i hi
          have hi : i < 7 := hi
          have hd : i = 0 ∨ i = 1 ∨ i = 2 ∨ i = 3 ∨ i = 4 ∨ i = 5 ∨ i = 6 := by omega
          rcases hd with rfl | rfl | rfl | rfl | rfl | rfl | rfl
          · exact .inl ⟨(j * 7, .int .i64 (y)), by simp, rfl⟩
          · exact .inl ⟨(j * 7 + 1, .int .i64 (y + 1)), by simp, rfl⟩
          · exact .inl ⟨(j * 7 + 2, .int .i64 (y + 1 + 1)), by simp, rfl⟩
          · exact .inl ⟨(j * 7 + 3, .int .i64 (y + 1 + 1 + 1)), by simp, rfl⟩
          · exact .inl ⟨(j * 7 + 4, .bool ((y + 1 + 1 + 1 + 1) % 3 == 0)), by simp, rfl⟩
          · exact .inr (congrArg some (List.cons.inj (show [Value.slice x5.p x5.l.length x5.c] = [Value.slice q_5.p q_5.l.length q_5.c] from HX0.out.1)).1)
          · exact .inr (congrArg some (List.cons.inj (show [Value.slice x6.p x6.l.length x6.c] = [Value.slice q_6.p q_6.l.length q_6.c] from HX1.out.1)).1)))
      have HY2 : Hid (y + 1 + 1 + 1 + 1 + 1 + ((yI.vcnt q_5 : Nat) : Int) + ((yI.vcnt q_6 : Nat) : Int) = k0 + ((cntL yReqReq (l.take (j + 1)) : Nat) : Int)) := Hid.intro (by have h1 := HSC.out; have h2 := HY.out; have g5 : ((yI.vcnt q_5 : Nat) : Int) = ((yI.cnt q_5 : Nat) : Int) := rfl; have g6 : ((yI.vcnt q_6 : Nat) : Int) = ((yI.cnt q_6 : Nat) : Int) := rfl; omega)
      have hYN : (y + 1 + 1 + 1 + 1 + 1 + ((yI.vcnt q_5 : Nat) : Int) + ((yI.vcnt q_6 : Nat) : Int)) ≤ 1000000000000000 ∧ 0 ≤ (y + 1 + 1 + 1 + 1 + 1 + ((yI.vcnt q_5 : Nat) : Int) + ((yI.vcnt q_6 : Nat) : Int)) := by have g5 : ((yI.vcnt q_5 : Nat) : Int) = ((yI.cnt q_5 : Nat) : Int) := rfl; have g6 : ((yI.vcnt q_6 : Nat) : Int) = ((yI.cnt q_6 : Nat) : Int) := rfl; omega
      have hYN1 := hYN.1
      have hYN2 := hYN.2
      clear hYN
      clear HSTP HSC HY HQ HQE HYS hcur HX0 HB0 HK0 HX1 HB1 HK1 HW0
      go_wp2
      go_roundw
      case rel => exact ⟨j + 1, _, ys.set j ((y), (y + 1), (y + 1 + 1), (y + 1 + 1 + 1), ((y + 1 + 1 + 1 + 1) % 3 == 0), x5, x6), by omega, by go_num, rfl, by omega, HY2, HEND⟩
      case measure => simp [intOf]; omega
    · have hk3 : ¬ (j : Int) < (l.length : Int) := by omega
      have HE : Hid (y = k0 + ((cntL yReqReq l : Nat) : Int)) := Hid.intro (by have := HY.out; rwa [show j = l.length by omega, List.take_length] at this)
      clear HY
      go_wp2
      go_ret
      exact ⟨congrArg (fun z => Ending.returned (Value.int .i64 z)) HE.out, HM.out.kept, HM.out.done yReqReq_law (by omega) hl1 hl2⟩

set_option maxRecDepth 100000 in
set_option maxHeartbeats 2000000 in
theorem yReqReqS_held : HeldC yReqReqS 109 := by
  rintro ⟨p, c, l⟩ k0 w hr hm h0 h1
  have hl1 : l.length ≤ c := hr.1
  have hl2 : c ≤ 9223372036854775807 := hr.2.1
  have HC : Hid (k0 + ((cntL yReqReq l : Nat) : Int) ≤ 1000000000000000) := Hid.intro h1
  have HM : Hid (mkdL yReqReq l k0) := Hid.intro hm
  have HR := Hid.intro hr
  clear hr hm h1
  show Calls Try.prog 109 #[.slice p l.length c, .int .i64 k0] w fun e w' => e = .returned (.int .i64 (k0 + ((cntL yReqReq l : Nat) : Int))) ∧ Below w.heap.size w w'
  go_enter Try.func109, Try.ntmps109
  go_wp2
  go_loopw [5, 1] (fun i kk wr => ∃ (j : Nat) (y : Int), j ≤ l.length ∧ i = .int .i64 j ∧ kk = .int .i64 y ∧ 0 ≤ y ∧ Hid (y = k0 + ((cntL yReqReq (l.take j) : Nat) : Int)) ∧ Below w.heap.size w wr) (fun i _ _ => l.length - (intOf i).toNat)
  case atStart => exact ⟨0, k0, Nat.zero_le _, rfl, rfl, h0, Hid.intro (by simp [cntL]), Below.refl _ _⟩
  case round =>
    obtain ⟨j, y, hj, rfl, rfl, hy0, HY, hbl⟩ := hrel
    by_cases hlt : j < l.length
    · have hp := yReqReqS_law.rd_blw HR.out hbl
      have hq := hp.2.2.2 _ (List.getElem_mem hlt)
      have hj0 : (0 : Int) ≤ (j : Int) := by omega
      have hj1 : (j : Int) < (l.length : Int) := by omega
      have hst := cntL_take yReqReq hlt
      have hpt := cntL_part yReqReq l (j + 1)
      have hm := mkdL_at HM.out hlt
      rw [← HY.out] at hm
      have hbd : y + ((yReqReq.cnt l[j] : Nat) : Int) ≤ 1000000000000000 := by have h1 := HC.out; have h2 := HY.out; omega
      have hc : ∃ b off, p = some ⟨b, off, none⟩ ∧ b < wr.heap.size ∧ ∀ (i : Nat) (v : Value), (yReqReq.cells l[j])[i]? = some v → wr.cell? ⟨b, off + j * 7 + i, none⟩ = some v := by
        rcases hp.2.2.1 with h0 | ⟨b, off, e, hb, hc⟩
        · have h0 : l = [] := h0
          subst h0; simp at hlt
        · exact ⟨b, off, e, hb, fun i v hv => hc j hlt i v hv⟩
      obtain ⟨b, off, rfl, hb, hc⟩ := hc
      clear hp hpt
      generalize l[j] = q at hq hst hc hm hbd
      obtain ⟨q_0, q_1, q_2, q_3, q_4, q_5, q_6⟩ := q
      have hbd : y + ((1 + (1 + (1 + (1 + (1 + (yI.cnt q_5 + (yI.cnt q_6)))))) : Nat) : Int) ≤ 1000000000000000 := hbd
      have HST : Hid (cntL yReqReq (l.take (j + 1)) = cntL yReqReq (l.take j) + (1 + (1 + (1 + (1 + (1 + (yI.cnt q_5 + (yI.cnt q_6)))))))) := Hid.intro hst
      have c0 : wr.cell? ⟨b, off + j * 7, none⟩ = some (.int .i64 q_0) := hc 0 _ rfl
      have c1 : wr.cell? ⟨b, off + j * 7 + 1, none⟩ = some (.int .i64 q_1) := hc 1 _ rfl
      have c2 : wr.cell? ⟨b, off + j * 7 + 2, none⟩ = some (.int .i64 q_2) := hc 2 _ rfl
      have c3 : wr.cell? ⟨b, off + j * 7 + 3, none⟩ = some (.int .i64 q_3) := hc 3 _ rfl
      have c4 : wr.cell? ⟨b, off + j * 7 + 4, none⟩ = some (.bool q_4) := hc 4 _ rfl
      have c5 : wr.cell? ⟨b, off + j * 7 + 5, none⟩ = some (.slice q_5.p q_5.l.length q_5.c) := hc 5 _ rfl
      have c6 : wr.cell? ⟨b, off + j * 7 + 6, none⟩ = some (.slice q_6.p q_6.l.length q_6.c) := hc 6 _ rfl
      have e0 : q_0 = y := (show q_0 = y from hm.1).trans (by have g0 : ((yI.vcnt q_5 : Nat) : Int) = ((yI.cnt q_5 : Nat) : Int) := rfl; have g1 : ((yI.vcnt q_6 : Nat) : Int) = ((yI.cnt q_6 : Nat) : Int) := rfl; omega)
      rw [e0] at c0
      have e1 : q_1 = y + 1 := (show q_1 = y + ((1 : Nat) : Int) from hm.2.1).trans (by have g0 : ((yI.vcnt q_5 : Nat) : Int) = ((yI.cnt q_5 : Nat) : Int) := rfl; have g1 : ((yI.vcnt q_6 : Nat) : Int) = ((yI.cnt q_6 : Nat) : Int) := rfl; omega)
      rw [e1] at c1
      have e2 : q_2 = y + 1 + 1 := (show q_2 = y + ((1 : Nat) : Int) + ((1 : Nat) : Int) from hm.2.2.1).trans (by have g0 : ((yI.vcnt q_5 : Nat) : Int) = ((yI.cnt q_5 : Nat) : Int) := rfl; have g1 : ((yI.vcnt q_6 : Nat) : Int) = ((yI.cnt q_6 : Nat) : Int) := rfl; omega)
      rw [e2] at c2
      have e3 : q_3 = y + 1 + 1 + 1 := (show q_3 = y + ((1 : Nat) : Int) + ((1 : Nat) : Int) + ((1 : Nat) : Int) from hm.2.2.2.1).trans (by have g0 : ((yI.vcnt q_5 : Nat) : Int) = ((yI.cnt q_5 : Nat) : Int) := rfl; have g1 : ((yI.vcnt q_6 : Nat) : Int) = ((yI.cnt q_6 : Nat) : Int) := rfl; omega)
      rw [e3] at c3
      have e4 : q_4 = ((y + 1 + 1 + 1 + 1) % 3 == 0) := (show q_4 = ((y + ((1 : Nat) : Int) + ((1 : Nat) : Int) + ((1 : Nat) : Int) + ((1 : Nat) : Int)) % 3 == 0) from hm.2.2.2.2.1).trans (by congr 2)
      rw [e4] at c4
      have HQ := Hid.intro (And.intro hq hm)
      clear hq hm hc hst e0 e1 e2 e3 e4
      have hmk0 : yI.vmkd q_5 (y + 1 + 1 + 1 + 1 + 1) := cast (congrArg (yI.vmkd q_5) (by have g0 : ((yI.vcnt q_5 : Nat) : Int) = ((yI.cnt q_5 : Nat) : Int) := rfl; have g1 : ((yI.vcnt q_6 : Nat) : Int) = ((yI.cnt q_6 : Nat) : Int) := rfl; omega)) (show yI.mkd q_5 (y + ((1 : Nat) : Int) + ((1 : Nat) : Int) + ((1 : Nat) : Int) + ((1 : Nat) : Int) + ((1 : Nat) : Int)) from HQ.out.2.2.2.2.2.2.1)
      have hbb0 : (y + 1 + 1 + 1 + 1 + 1) + ((yI.vcnt q_5 : Nat) : Int) ≤ 1000000000000000 ∧ 0 ≤ (y + 1 + 1 + 1 + 1 + 1) := by have g0 : ((yI.vcnt q_5 : Nat) : Int) = ((yI.cnt q_5 : Nat) : Int) := rfl; have g1 : ((yI.vcnt q_6 : Nat) : Int) = ((yI.cnt q_6 : Nat) : Int) := rfl; omega
      have HC0 := Hid.intro (And.intro hmk0 hbb0)
      clear hmk0
      go_wp2_with fail
      refine (yI_held q_5 _ _ (yI_law.rd_blw HQ.out.1.2.2.2.2.2.1 (Below.refl _ wr)) HC0.out.1 HC0.out.2.2 HC0.out.2.1).mono ?_
      rintro e w1 ⟨rfl, hb1⟩
      have bw0 : Below wr.heap.size wr w1 := hb1
      have hI0 : ¬ (y + 1 + 1 + 1 + 1 + 1 + ((yI.vcnt q_5 : Nat) : Int) < 0) := by have := HC0.out.2; omega
      replace c6 : w1.cell? ⟨b, off + j * 7 + 6, none⟩ = some (.slice q_6.p q_6.l.length q_6.c) := (hb1.cell (p := ⟨b, off + j * 7 + 6, none⟩) hb).trans c6
      clear hb1 HC0
      have hmk1 : yI.vmkd q_6 (y + 1 + 1 + 1 + 1 + 1 + ((yI.vcnt q_5 : Nat) : Int)) := cast (congrArg (yI.vmkd q_6) (by have g0 : ((yI.vcnt q_5 : Nat) : Int) = ((yI.cnt q_5 : Nat) : Int) := rfl; have g1 : ((yI.vcnt q_6 : Nat) : Int) = ((yI.cnt q_6 : Nat) : Int) := rfl; omega)) (show yI.mkd q_6 (y + ((1 : Nat) : Int) + ((1 : Nat) : Int) + ((1 : Nat) : Int) + ((1 : Nat) : Int) + ((1 : Nat) : Int) + ((yI.cnt q_5 : Nat) : Int)) from HQ.out.2.2.2.2.2.2.2)
      have hbb1 : (y + 1 + 1 + 1 + 1 + 1 + ((yI.vcnt q_5 : Nat) : Int)) + ((yI.vcnt q_6 : Nat) : Int) ≤ 1000000000000000 ∧ 0 ≤ (y + 1 + 1 + 1 + 1 + 1 + ((yI.vcnt q_5 : Nat) : Int)) := by have g0 : ((yI.vcnt q_5 : Nat) : Int) = ((yI.cnt q_5 : Nat) : Int) := rfl; have g1 : ((yI.vcnt q_6 : Nat) : Int) = ((yI.cnt q_6 : Nat) : Int) := rfl; omega
      have HC1 := Hid.intro (And.intro hmk1 hbb1)
      clear hmk1
      go_wp2_with fail
      refine (yI_held q_6 _ _ (yI_law.rd_blw HQ.out.1.2.2.2.2.2.2 bw0) HC1.out.1 HC1.out.2.2 HC1.out.2.1).mono ?_
      rintro e w2 ⟨rfl, hb1⟩
      have bw1 : Below wr.heap.size wr w2 := bw0.trans (hb1.mono bw0.size)
      have hI1 : ¬ (y + 1 + 1 + 1 + 1 + 1 + ((yI.vcnt q_5 : Nat) : Int) + ((yI.vcnt q_6 : Nat) : Int) < 0) := by have := HC1.out.2; omega
      clear hb1 HC1
      have HY2 : Hid (y + 1 + 1 + 1 + 1 + 1 + ((yI.vcnt q_5 : Nat) : Int) + ((yI.vcnt q_6 : Nat) : Int) = k0 + ((cntL yReqReq (l.take (j + 1)) : Nat) : Int)) := Hid.intro (by have h1 := HST.out; have h2 := HY.out; have g5 : ((yI.vcnt q_5 : Nat) : Int) = ((yI.cnt q_5 : Nat) : Int) := rfl; have g6 : ((yI.vcnt q_6 : Nat) : Int) = ((yI.cnt q_6 : Nat) : Int) := rfl; omega)
      have hYN : (y + 1 + 1 + 1 + 1 + 1 + ((yI.vcnt q_5 : Nat) : Int) + ((yI.vcnt q_6 : Nat) : Int)) ≤ 1000000000000000 ∧ 0 ≤ (y + 1 + 1 + 1 + 1 + 1 + ((yI.vcnt q_5 : Nat) : Int) + ((yI.vcnt q_6 : Nat) : Int)) := by have g5 : ((yI.vcnt q_5 : Nat) : Int) = ((yI.cnt q_5 : Nat) : Int) := rfl; have g6 : ((yI.vcnt q_6 : Nat) : Int) = ((yI.cnt q_6 : Nat) : Int) := rfl; omega
      have hYN1 := hYN.1
      have hYN2 := hYN.2
      clear hYN
      have HBL := Hid.intro (hbl.trans (bw1.mono hbl.size))
      clear HQ HST HY
      go_wp2
      go_roundw
      case rel => exact ⟨j + 1, _, by omega, by go_num, rfl, by omega, HY2, HBL.out⟩
      case measure => simp [intOf]; omega
    · have hk3 : ¬ (j : Int) < (l.length : Int) := by omega
      have HE : Hid (y = k0 + ((cntL yReqReq l : Nat) : Int)) := Hid.intro (by have := HY.out; rwa [show j = l.length by omega, List.take_length] at this)
      clear HY
      go_wp2
      go_ret
      exact ⟨congrArg (fun z => Ending.returned (Value.int .i64 z)) HE.out, hbl⟩

def yReqReqSS : Knd (Lst (Lst (Int × Int × Int × Int × Bool × (Lst Int) × (Lst Int)))) (List (List (Int × Int × Int × Int × Bool × (List Int) × (List Int)))) := gLst 77 yReqReqS
theorem yReqReqSS_law : KLaw yReqReqSS := gLst_law yReqReqS_law (by decide)

set_option maxRecDepth 100000 in
set_option maxHeartbeats 2000000 in
theorem yReqReqSS_sz : SzC yReqReqSS 37 := by
  rintro ⟨p, c, l⟩ left w hr h0 h1
  have hl1 : l.length ≤ c := hr.1
  have hl2 : c ≤ 9223372036854775807 := hr.2.1
  have HR := Hid.intro hr
  clear hr
  show Calls Try.prog 37 #[.slice p l.length c, .int .i64 left] w _
  by_cases hn : left - (l.length : Int) < 0
  · go_enter Try.func37, Try.ntmps37
    go_wp2
    go_ret
    exact ⟨⟨_, rfl, .inl rfl⟩, Below.refl _ _⟩
  go_enter Try.func37, Try.ntmps37
  go_wp2
  go_loopw [5, 1] (fun i z wr => ∃ (k : Nat) (y : Int), k ≤ l.length ∧ i = .int .i64 k ∧ z = .int .i64 y ∧ 0 ≤ y ∧ y ≤ 1048576 ∧ Hid (y = left - (l.length : Int) - ((((l.take k).map yReqReqS.size).sum : Nat) : Int)) ∧ Below w.heap.size w wr) (fun i _ _ => l.length - (intOf i).toNat)
  case atStart => exact ⟨0, _, Nat.zero_le _, rfl, rfl, by omega, by omega, Hid.intro (by simp), Below.refl _ _⟩
  case round =>
    obtain ⟨k, y, hk, rfl, rfl, hz, hz1, HY, hbl⟩ := hrel
    by_cases hlt : k < l.length
    · have hp := yReqReqSS_law.rd_blw HR.out hbl
      have hq := hp.2.2.2 _ (List.getElem_mem hlt)
      have hk0 : (0 : Int) ≤ (k : Int) := by omega
      have hk1 : (k : Int) < (l.length : Int) := by omega
      have hst := size_take yReqReqS hlt
      have hc : ∃ b off, p = some ⟨b, off, none⟩ ∧ b < wr.heap.size ∧ ∀ (j : Nat) (v : Value), (yReqReqS.cells l[k])[j]? = some v → wr.cell? ⟨b, off + k * 1 + j, none⟩ = some v := by
        rcases hp.2.2.1 with h0 | ⟨b, off, e, hb, hc⟩
        · have h0 : l = [] := h0
          subst h0; simp at hlt
        · exact ⟨b, off, e, hb, fun j v hv => hc k hlt j v hv⟩
      obtain ⟨b, off, rfl, hb, hc⟩ := hc
      clear hp
      generalize l[k] = q at hq hst hc
      have c0 : wr.cell? ⟨b, off + k, none⟩ = some (.slice q.p q.l.length q.c) := by simpa using hc 0 _ rfl
      have HCE : Hid (∀ (left : Int) (w : World), yReqReqS.rd w q → 0 ≤ left → left ≤ 1048576 → Calls Try.prog 83 #[.slice q.p q.l.length q.c, .int .i64 left] w fun e w' => (∃ z : Int, e = .returned (.int .i64 z) ∧ (z = -1 ∨ (0 ≤ z ∧ z = left - (yReqReqS.size q : Int)))) ∧ Below w.heap.size w w') := Hid.intro (yReqReqS_sz q)
      have HST := Hid.intro hst
      have HQ := Hid.intro hq
      clear hst hq hc
      go_wp2_with fail
      refine (HCE.out _ _ HQ.out hz hz1).mono ?_
      clear HCE
      rintro e w1 ⟨⟨z, rfl, hzz⟩, hb1⟩
      have hbl1 := hbl.trans (hb1.mono hbl.size)
      clear hb1 HQ hbl c0
      rcases hzz with rfl | ⟨g0, g1⟩
      · go_wp2
        go_ret
        exact ⟨⟨_, rfl, .inl rfl⟩, hbl1⟩
      have hg : ¬ (z < 0) := by omega
      have hz2 : z ≤ 1048576 := by omega
      have HY2 : Hid (z = left - (l.length : Int) - ((((l.take (k + 1)).map yReqReqS.size).sum : Nat) : Int)) := Hid.intro (by have h1 := HST.out; have h2 := HY.out; omega)
      clear g1 HY HST
      go_wp2
      go_roundw
      case rel => exact ⟨k + 1, z, by omega, by go_num, rfl, g0, hz2, HY2, hbl1⟩
      case measure => simp [intOf]; omega
    · have hk3 : ¬ (k : Int) < (l.length : Int) := by omega
      have HE : Hid ((yReqReqSS.size ⟨p, c, l⟩ : Nat) = l.length + ((l.take k).map yReqReqS.size).sum) := Hid.intro (by rw [show k = l.length by omega, List.take_length]; rfl)
      go_wp2
      go_ret
      exact ⟨⟨_, rfl, .inr ⟨hz, by have h1 := HE.out; have h2 := HY.out; omega⟩⟩, hbl⟩

set_option maxRecDepth 100000 in
set_option maxHeartbeats 2000000 in
theorem yReqReqSS_eq : EqC yReqReqSS 50 := by
  rintro ⟨p, c, l⟩ ⟨p', c', m⟩ w hr hr' hpl
  have hl1 : l.length ≤ c := hr.1
  have hl2 : c ≤ 9223372036854775807 := hr.2.1
  have hl3 : m.length ≤ c' := hr'.1
  have hl4 : c' ≤ 9223372036854775807 := hr'.2.1
  have hpl' : l.map yReqReqS.pl = m.map yReqReqS.pl := hpl
  have hlm : l.length = m.length := by have := congrArg List.length hpl'; simpa using this
  have HP := Hid.intro hr
  have HQ := Hid.intro hr'
  have HE := Hid.intro hpl'
  clear hr hr' hpl hpl'
  obtain ⟨n, hn⟩ : ∃ n, n = l.length := ⟨_, rfl⟩
  have HN := Hid.intro (And.intro hn (hn.trans hlm))
  show Calls Try.prog 50 #[.slice p l.length c, .slice p' m.length c'] w _
  rw [← hlm, ← hn]
  have hn1 : n ≤ 9223372036854775807 := by omega
  clear hn hlm hl1 hl2 hl3 hl4
  go_enter Try.func50, Try.ntmps50
  go_wp2
  go_loopw [5] (fun i wr => ∃ k : Nat, k ≤ n ∧ i = .int .i64 k ∧ Below w.heap.size w wr) (fun i _ => n - (intOf i).toNat)
  case atStart => exact ⟨0, Nat.zero_le _, rfl, Below.refl _ _⟩
  case round =>
    obtain ⟨k, hk, rfl, hbl⟩ := hrel
    by_cases hlt : k < n
    · have hk0 : (0 : Int) ≤ (k : Int) := by omega
      have hk1 : (k : Int) < (n : Int) := by omega
      have hp := yReqReqSS_law.rd_blw HP.out hbl
      have hq := yReqReqSS_law.rd_blw HQ.out hbl
      have ly : k < l.length := by have := HN.out.1; omega
      have lz : k < m.length := by have := HN.out.2; omega
      have hxx : yReqReqS.pl l[k] = yReqReqS.pl m[k] := by
        have e1 : (l.map yReqReqS.pl)[k]? = (m.map yReqReqS.pl)[k]? := by rw [HE.out]
        simpa [ly, lz] using e1
      have hpa := hp.2.2.2 _ (List.getElem_mem ly)
      have hqa := hq.2.2.2 _ (List.getElem_mem lz)
      have hcp : ∃ b off, p = some ⟨b, off, none⟩ ∧ b < wr.heap.size ∧ ∀ (j : Nat) (v : Value), (yReqReqS.cells l[k])[j]? = some v → wr.cell? ⟨b, off + k * 1 + j, none⟩ = some v := by
        rcases hp.2.2.1 with h0 | ⟨b, off, e, hb, hc⟩
        · have h0 : l = [] := h0
          rw [h0] at ly; simp at ly
        · exact ⟨b, off, e, hb, fun j v hv => hc k ly j v hv⟩
      obtain ⟨b, off, rfl, hb, hcp⟩ := hcp
      have hcq : ∃ b off, p' = some ⟨b, off, none⟩ ∧ b < wr.heap.size ∧ ∀ (j : Nat) (v : Value), (yReqReqS.cells m[k])[j]? = some v → wr.cell? ⟨b, off + k * 1 + j, none⟩ = some v := by
        rcases hq.2.2.1 with h0 | ⟨b, off, e, hb, hc⟩
        · have h0 : m = [] := h0
          rw [h0] at lz; simp at lz
        · exact ⟨b, off, e, hb, fun j v hv => hc k lz j v hv⟩
      obtain ⟨b', off', rfl, hb', hcq⟩ := hcq
      clear hp hq
      generalize l[k] = x at hxx hpa hcp
      generalize m[k] = z at hxx hqa hcq
      have u0 : wr.cell? ⟨b, off + k, none⟩ = some (.slice x.p x.l.length x.c) := by simpa using hcp 0 _ rfl
      have y0 : wr.cell? ⟨b', off' + k, none⟩ = some (.slice z.p z.l.length z.c) := by simpa using hcq 0 _ rfl
      have HP1 := Hid.intro (And.intro hpa u0)
      have HQ1 := Hid.intro (And.intro hqa y0)
      have HXX := Hid.intro hxx
      clear hpa hqa hxx hcp hcq ly lz u0 y0
      go_wp2_with fail
      refine wp_region_typed (by kernel_rfl) Gr (fun _ W => Below wr.heap.size wr W)
        (tab [(17, kIs (.slice (some ⟨b, off, none⟩) n c)), (18, kIs (.int .i64 k)), (19, kIs (.pointer (some ⟨b, off + k, none⟩))), (20, kIs (.slice x.p x.l.length x.c)), (21, kIs (.slice (some ⟨b', off', none⟩) n c')), (22, kIs (.int .i64 k)), (23, kIs (.pointer (some ⟨b', off' + k, none⟩))), (24, kIs (.slice z.p z.l.length z.c)), (25, kIs (.bool true)), (26, kIs (.bool false))])
        [17, 18, 19, 20, 21, 22, 23, 24, 25, 26] (by kernel_rfl) (by kernel_rfl) ?_ ?_ ?_ ?_
      · refine tabR_stable ?_
        intro y hy
        simp only [List.mem_cons, List.not_mem_nil, or_false] at hy
        rcases hy with rfl | rfl | rfl | rfl | rfl | rfl | rfl | rfl | rfl | rfl
        all_goals intro w w' v hr hv
        all_goals exact hv
      · exact (Below.refl _ _).drew
      · refine ops_cons (gd rfl <| ty_move_out (.inl rfl) rfl (by kernel_rfl) rfl (fun _ _ h => h) Gr.refl) ?_
        refine ops_cons (gd rfl <| ty_move_out (.inl rfl) rfl (by kernel_rfl) rfl (fun _ _ h => h) Gr.refl) ?_
        refine ops_cons (gd rfl <| tx_pure rfl rfl (fun _ _ h => h) Gr.refl (fun _ ρ W hat hW => ?_)) ?_
        · have e1 : ρ (.tmp 17) = _ := hat.dep 17 (by kernel_rfl)
          have e2 : ρ (.tmp 18) = _ := hat.dep 18 (by kernel_rfl)
          simp only [execOp, e1, e2]; go_simp
        refine ops_cons (gd rfl <| tx_pure rfl rfl (fun _ _ h => h) Gr.refl (fun _ ρ W hat hW => ?_)) ?_
        · have e1 : ρ (.tmp 19) = _ := hat.dep 19 (by kernel_rfl)
          obtain u0 := HP1.out.2
          have v0 := (hW.cell (p := ⟨b, off + k, none⟩) hb).trans u0
          clear u0
          simp only [execOp, e1]; go_simp
        refine ops_cons (gd rfl <| ty_move_out (.inl rfl) rfl (by kernel_rfl) rfl (fun _ _ h => h) Gr.refl) ?_
        refine ops_cons (gd rfl <| ty_move_out (.inl rfl) rfl (by kernel_rfl) rfl (fun _ _ h => h) Gr.refl) ?_
        refine ops_cons (gd rfl <| tx_pure rfl rfl (fun _ _ h => h) Gr.refl (fun _ ρ W hat hW => ?_)) ?_
        · have e1 : ρ (.tmp 21) = _ := hat.dep 21 (by kernel_rfl)
          have e2 : ρ (.tmp 22) = _ := hat.dep 22 (by kernel_rfl)
          simp only [execOp, e1, e2]; go_simp
        refine ops_cons (gd rfl <| tx_pure rfl rfl (fun _ _ h => h) Gr.refl (fun _ ρ W hat hW => ?_)) ?_
        · have e1 : ρ (.tmp 23) = _ := hat.dep 23 (by kernel_rfl)
          obtain y0 := HQ1.out.2
          have v0 := (hW.cell (p := ⟨b', off' + k, none⟩) hb').trans y0
          clear y0
          simp only [execOp, e1]; go_simp
        refine ops_cons (gd rfl <| tx_call rfl (fun _ ρ W _ hat hW => ?_)) ?_
        · have e1 : ρ (.tmp 20) = _ := hat.dep 20 (by kernel_rfl)
          have e2 : ρ (.tmp 24) = _ := hat.dep 24 (by kernel_rfl)
          have hf := hat.fn
          refine ⟨91, #[.slice x.p x.l.length x.c, .slice z.p z.l.length z.c], by simp only [execOp]; go_simp, ?_⟩
          have hcl := yReqReqS_eq x z W (yReqReqS_law.rd_blw HP1.out.1 hW) (yReqReqS_law.rd_blw HQ1.out.1 hW) HXX.out
          refine Calls.mono (show Calls Try.prog 91 #[.slice x.p x.l.length x.c, .slice z.p z.l.length z.c] W _ from hcl) ?_
          rintro e W' ⟨rfl, hb⟩
          exact ⟨_, rfl, hW.trans (hb.mono hW.size), hb, rfl⟩
        refine ops_cons (gd rfl <| tx_pure rfl rfl (fun _ _ h => h) Gr.refl (fun _ ρ W hat hW => ?_)) ?_
        · have e1 : ρ (.tmp 25) = _ := hat.dep 25 (by kernel_rfl)
          simp only [execOp, e1]; go_simp
        exact ops_nil
      · intro f W hW hf
        have e26 : f 26 = .bool false := hf 26 (by simp)
        clear hf
        have hbW := hbl.trans (hW.mono hbl.size)
        simp only [fill, e26]
        go_simp
        go_wp2
        go_roundw
        case rel => exact ⟨k + 1, by omega, by go_num, hbW⟩
        case measure => simp [intOf]; omega
    · have hk3 : ¬ (k : Int) < (n : Int) := by omega
      go_wp2
      go_ret
      exact ⟨rfl, hbl⟩

theorem Try.infoReqReqSS : (Try.prog.info? 77).map (fun i => (i.zero, i.size, i.bytes)) = some (some (.slice none 0 0), 1, 24) := by kernel_rfl

set_option maxRecDepth 100000 in
set_option maxHeartbeats 2000000 in
theorem yReqReqSS_to : ToC yReqReqSS 43 := by
  rintro ⟨p, c, l⟩ w hr hs
  have hl1 : l.length ≤ c := hr.1
  have hl2 : c ≤ 9223372036854775807 := hr.2.1
  have hs' : l.length + (l.map yReqReqS.size).sum ≤ 1048576 := hs
  have hl3 : l.length ≤ 1048576 := by omega
  have HR := Hid.intro hr
  have HSZ := Hid.intro hs'
  clear hr hs hs'
  obtain ⟨i0, hi, hz0, hz1, hz2⟩ := info_parts Try.infoReqReqSS
  have hmk : ∀ W : World, (Instr.makeSlice 30 (.int .i64 (l.length : Int)) (.int .i64 (l.length : Int))).run Try.prog W =
      .ok (.slice (some ⟨W.heap.size, 0, none⟩) l.length l.length) (W.alloc (.cells (madeCells #[Value.slice none 0 0] l.length) 77)) := fun W => by
    have := run_make (P := Try.prog) W 30 77 i0 _ Try.underlying30 hi hz0 .i64 .i64 (l.length : Int) (l.length : Int) (by omega) (by omega) (by rw [hz2]; omega) (by omega)
    rw [hz1] at this
    simpa [Value.cells] using this
  have HM0 : Hid (MakeSt yReqReqS 77 l w.heap.size (w.alloc (.cells (madeCells #[Value.slice none 0 0] l.length) 77)) 0 []) := Hid.intro (by have h := MakeSt.start (K := yReqReqS) (E := 77) (l := l) (w := w) (z := #[Value.slice none 0 0]) yReqReqS_law (by rfl); rw [show l.length * yReqReqS.sz = l.length from Nat.mul_one _] at h; exact h)
  have hbl0 : Below w.heap.size w (w.alloc (.cells (madeCells #[Value.slice none 0 0] l.length) 77)) := (Below.refl _ w).alloc (Nat.le_refl _) _
  have hsz0 : w.heap.size < (w.alloc (.cells (madeCells #[Value.slice none 0 0] l.length) 77)).heap.size := by simp
  show Calls Try.prog 43 #[.slice p l.length c] w _
  go_enter Try.func43, Try.ntmps43
  go_wp2
  clear hmk
  go_loopw [4] (fun i wr => ∃ (k : Nat) (zs : List (Lst (Int × Int × Int × Int × Bool × (Lst Int) × (Lst Int)))), k ≤ l.length ∧ i = .int .i64 k ∧ Below w.heap.size w wr ∧ w.heap.size < wr.heap.size ∧ Hid (MakeSt yReqReqS 77 l w.heap.size wr k zs)) (fun i _ => l.length - (intOf i).toNat)
  case atStart => exact ⟨0, [], Nat.zero_le _, rfl, hbl0, hsz0, HM0⟩
  case round =>
    clear HM0 hbl0 hsz0
    obtain ⟨k, zs, hk, rfl, hbl, hsz, HM⟩ := hrel
    by_cases hlt : k < l.length
    · have hp := yReqReqSS_law.rd_blw HR.out hbl
      have hq := hp.2.2.2 _ (List.getElem_mem hlt)
      have hk0 : (0 : Int) ≤ (k : Int) := by omega
      have hk1 : (k : Int) < (l.length : Int) := by omega
      have hqs : yReqReqS.size l[k] ≤ 1048576 := by have := size_le yReqReqS hlt; have := HSZ.out; omega
      obtain ⟨q, hqe⟩ : ∃ q, q = l[k] := ⟨_, rfl⟩
      rw [← hqe] at hq hqs
      have hc : ∃ b off, p = some ⟨b, off, none⟩ ∧ b < wr.heap.size ∧ ∀ (j : Nat) (v : Value), (yReqReqS.cells q)[j]? = some v → wr.cell? ⟨b, off + k * 1 + j, none⟩ = some v := by
        rcases hp.2.2.1 with h0 | ⟨b, off, e, hb, hc⟩
        · have h0 : l = [] := h0
          subst h0; simp at hlt
        · exact ⟨b, off, e, hb, fun j v hv => hc k hlt j v (by rw [← hqe]; exact hv)⟩
      obtain ⟨b, off, rfl, hb, hc⟩ := hc
      clear hp
      have HQE := Hid.intro hqe
      clear hqe
      have c0 : wr.cell? ⟨b, off + k, none⟩ = some (.slice q.p q.l.length q.c) := by simpa using hc 0 _ rfl
      have HCE : Hid (∀ (w : World), yReqReqS.rd w q → yReqReqS.size q ≤ 1048576 → Calls Try.prog 86 #[.slice q.p q.l.length q.c] w fun e w' => ∃ a', e = .returned (yReqReqS.val a') ∧ yReqReqS.pl a' = yReqReqS.pl q ∧ yReqReqS.size a' = yReqReqS.size q ∧ Fresh yReqReqS w.heap.size w' a' ∧ Below w.heap.size w w') := Hid.intro (yReqReqS_to q)
      have HQ := Hid.intro (And.intro hq hqs)
      clear hq hqs hc
      go_wp2_with fail
      refine (HCE.out _ HQ.out.1 HQ.out.2).mono ?_
      clear HCE
      rintro e w1 ⟨x, he, hpl, hss, hf, hb1⟩
      replace he : e = .returned (.slice x.p x.l.length x.c) := he
      subst he
      have hsz1 : w.heap.size < w1.heap.size := Nat.lt_of_lt_of_le hsz hb1.size
      have hm1 := HM.out.below yReqReqS_law hb1
      have hlt1 : ∀ b ∈ zs.flatMap yReqReqS.foot, b < wr.heap.size := HM.out.fr.lt yReqReqS_law
      obtain ⟨u0, t0⟩ := hm1.row.there k (show _ < l.length * 1 by omega)
      have f0 := hm1.row.frz k
      have HM2 := Hid.intro (by have h := hm1.step yReqReqS_law (q := x) hlt (by rw [← HQE.out]; exact hpl) (by rw [← HQE.out]; exact hss) hf hlt1 hsz; rw [show k * yReqReqS.sz = k from Nat.mul_one k] at h; exact h)
      have HB2 := Hid.intro (putC_below (Nat.le_refl _) (rowVs k (yReqReqS.cells x)) (hbl.trans (hb1.mono (by omega))))
      clear hm1 HM HQ hbl hb1 hf hpl hss hlt1 HQE c0
      go_wp2
      go_roundw
      case rel => exact ⟨k + 1, zs ++ [x], by omega, by go_num, HB2.out, by simpa using hsz1, HM2.out⟩
      case measure => simp [intOf]; omega
    · have hd := HM.out.done (show k = l.length by omega) (by omega)
      have HD := Hid.intro hd
      clear hd HM
      go_wp2
      go_ret
      exact ⟨⟨some ⟨w.heap.size, 0, none⟩, l.length, zs⟩, by show _ = Ending.returned (Value.slice _ zs.length _); rw [HD.out.2.2.2]; rfl, HD.out.2.1, by show zs.length + (zs.map yReqReqS.size).sum = l.length + (l.map yReqReqS.size).sum; rw [HD.out.2.2.2, HD.out.2.2.1], HD.out.1, hbl⟩

set_option maxRecDepth 100000 in
set_option maxHeartbeats 2000000 in
theorem yReqReqSS_mark : MarkC yReqReqSS 71 := by
  rintro ⟨p, c, l⟩ k0 w ho hn h0 h1
  have hl1 : l.length ≤ c := ho.1
  have hl2 : c ≤ 9223372036854775807 := ho.2.1
  have HC : Hid (k0 + ((cntL yReqReqS l : Nat) : Int) ≤ 1000000000000000) := Hid.intro h1
  have HN := Hid.intro hn
  have HS : Hid (MarkSt yReqReqS 77 l p c k0 w w 0 l) := Hid.intro (MarkSt.start ho k0)
  clear ho hn h1
  show Calls Try.prog 71 #[.slice p l.length c, .int .i64 k0] w fun e w' => e = .returned (.int .i64 (k0 + ((cntL yReqReqS l : Nat) : Int))) ∧ Kept (fun b => b ∈ yReqReqSS.foot ⟨p, c, l⟩) w w' ∧ ∃ a', yReqReqSS.val a' = yReqReqSS.val ⟨p, c, l⟩ ∧ yReqReqSS.cells a' = yReqReqSS.cells ⟨p, c, l⟩ ∧ yReqReqSS.foot a' = yReqReqSS.foot ⟨p, c, l⟩ ∧ yReqReqSS.vcnt a' = yReqReqSS.vcnt ⟨p, c, l⟩ ∧ yReqReqSS.ow w' a' ∧ yReqReqSS.vmkd a' k0
  go_enter Try.func71, Try.ntmps71
  go_wp2
  go_loopw [5, 1] (fun i kk wr => ∃ (j : Nat) (y : Int) (ys : List (Lst (Int × Int × Int × Int × Bool × (Lst Int) × (Lst Int)))), j ≤ l.length ∧ i = .int .i64 j ∧ kk = .int .i64 y ∧ 0 ≤ y ∧ Hid (y = k0 + ((cntL yReqReqS (l.take j) : Nat) : Int)) ∧ Hid (MarkSt yReqReqS 77 l p c k0 w wr j ys)) (fun i _ _ => l.length - (intOf i).toNat)
  case atStart => exact ⟨0, k0, l, Nat.zero_le _, rfl, rfl, h0, Hid.intro (by simp [cntL]), HS⟩
  case round =>
    clear HS
    obtain ⟨j, y, ys, hj, rfl, rfl, hy0, HY, HM⟩ := hrel
    by_cases hlt : j < l.length
    · have hj0 : (0 : Int) ≤ (j : Int) := by omega
      have hj1 : (j : Int) < (l.length : Int) := by omega
      obtain ⟨hy, b, hpb, hO, hqo, hqn, hqb, hqc⟩ := HM.out.elem HN.out hlt
      subst hpb
      have hc : ∀ (i : Nat) (v : Value), (yReqReqS.cells ys[j])[i]? = some v → wr.cell? ⟨b, j * 1 + i, none⟩ = some v := fun i v hv => hO.rowcell yReqReqS_law.len hy i v hv
      have hfz : ∀ o, wr.frozen? ⟨b, o, none⟩ = false := hO.frz
      obtain ⟨cur, hcur⟩ : ∃ cur, wr.heap[b]? = some (.cells cur 77 (0, 0)) := by obtain ⟨cur, h, _⟩ := hO; exact ⟨cur, h⟩
      have hstep := cntL_take yReqReqS hlt
      have hpart := cntL_part yReqReqS l (j + 1)
      rw [← hqc] at hstep
      have hSTP := fun (q : (Lst (Int × Int × Int × Int × Bool × (Lst Int) × (Lst Int)))) (vs : List (Nat × Value)) (W : World) => HM.out.step yReqReqS_law (W := W) HN.out hlt hy q vs
      have hwb := hO.lt
      clear hO HM hqc
      have hB : y + ((yReqReqS.cnt ys[j] : Nat) : Int) ≤ 1000000000000000 := by have h1 := HC.out; have h2 := HY.out; omega
      have hYe : k0 + ((cntL yReqReqS (l.take j) : Nat) : Int) = y := HY.out.symm
      simp only [hYe] at hSTP
      clear hYe
      clear hpart
      have HYS := Hid.intro (⟨ys, rfl⟩ : ∃ zs, zs = ys)
      generalize hqe : ys[j] = q at hqo hqn hqb hc hB hSTP hstep
      have HQE := Hid.intro hqe
      clear hqe
      have c0 : wr.cell? ⟨b, j, none⟩ = some (.slice q.p q.l.length q.c) := by simpa using hc 0 _ rfl
      have f0 := hfz j
      have hbd : y + ((yReqReqS.cnt q : Nat) : Int) ≤ 1000000000000000 := hB
      have HSC : Hid (cntL yReqReqS (l.take (j + 1)) = cntL yReqReqS (l.take j) + (yReqReqS.cnt q)) := Hid.intro hstep
      have HSTP := Hid.intro hSTP
      clear hc hB hstep hSTP hfz
      have hqb : ∀ x ∈ yReqReqS.foot q, x ≠ b := hqb
      have m0 : (yReqReqS.foot q).Nodup := hqn
      have hnd : (yReqReqS.foot q).Nodup := by simpa only [List.nil_append, List.append_nil] using m0
      have HQ := Hid.intro (And.intro hqo (And.intro hqb hnd))
      clear hqo hqb m0 hqn hnd
      have ho0 : Hid (yReqReqS.ow (putC wr b []) q) := Hid.intro (yReqReqS_law.ow_of HQ.out.1 (fun x hx => putC_ne _ _ _ (HQ.out.2.1 x (hx))))
      have hbb0 : (y) + ((yReqReqS.vcnt q : Nat) : Int) ≤ 1000000000000000 ∧ 0 ≤ (y) := by have g0 : ((yReqReqS.vcnt q : Nat) : Int) = ((yReqReqS.cnt q : Nat) : Int) := rfl; omega
      have HBB0 := Hid.intro hbb0
      clear hbb0
      go_wp2_with fail
      refine (yReqReqS_mark q _ (putC wr b []) ho0.out HQ.out.2.2 HBB0.out.2 HBB0.out.1).mono ?_
      rintro e w1 ⟨rfl, hk, x0, hv0, hx0, hf0, hn0, hw0, hm0⟩
      have HX0 := Hid.intro (And.intro hx0 (And.intro hf0 (And.intro hn0 (And.intro hw0 hm0))))
      clear hv0 hx0 hf0 hn0 hw0 hm0
      have HB0 : Hid (w1.heap[b]? = (putC wr b []).heap[b]?) := Hid.intro ((hk.block b (by rw [putC_size]; exact hwb) (fun hd => HQ.out.2.1 b (hd) rfl)))
      have HK0 : Hid (Kept (fun x => x = b ∨ x ∈ yReqReqS.foot q) wr w1) := Hid.intro (((putC_kept (b := b) _ wr).mono (fun x e => .inl e)).trans (hk.mono (fun x e => .inr e)))
      clear hk ho0 HBB0
      have HEND := Hid.intro (HSTP.out x0 [] w1 (by show yReqReqS.foot x0 = yReqReqS.foot q; rw [HX0.out.2.1]) (by show yReqReqS.cnt x0 = yReqReqS.cnt q; rw [(show yReqReqS.cnt x0 = yReqReqS.cnt q from HX0.out.2.2.1)]) (show yReqReqS.mkd x0 (y) from cast (congrArg (yReqReqS.vmkd x0) (by omega)) HX0.out.2.2.2.2) HX0.out.2.2.2.1 (HB0.out) (HK0.out.mono (by
          intro x
          rintro (e | h)
          · exact .inl e
          · exact .inr (show x ∈ yReqReqS.foot q from h)))
        (by intro x hx; simp at hx)
        (by
          intro i hi
          have hi : i < 1 := hi
          have hd : i = 0 := by omega
          subst hd
          · exact .inr (congrArg some (List.cons.inj (show [Value.slice x0.p x0.l.length x0.c] = [Value.slice q.p q.l.length q.c] from HX0.out.1)).1)))
      have HY2 : Hid (y + ((yReqReqS.vcnt q : Nat) : Int) = k0 + ((cntL yReqReqS (l.take (j + 1)) : Nat) : Int)) := Hid.intro (by have h1 := HSC.out; have h2 := HY.out; have g0 : ((yReqReqS.vcnt q : Nat) : Int) = ((yReqReqS.cnt q : Nat) : Int) := rfl; omega)
      have hYN : (y + ((yReqReqS.vcnt q : Nat) : Int)) ≤ 1000000000000000 ∧ 0 ≤ (y + ((yReqReqS.vcnt q : Nat) : Int)) := by have g0 : ((yReqReqS.vcnt q : Nat) : Int) = ((yReqReqS.cnt q : Nat) : Int) := rfl; omega
      have hYN1 := hYN.1
      have hYN2 := hYN.2
      clear hYN
      clear HSTP HSC HY HQ HQE HYS hcur HX0 HB0 HK0
      go_wp2
      go_roundw
      case rel => exact ⟨j + 1, _, ys.set j x0, by omega, by go_num, rfl, by omega, HY2, HEND⟩
      case measure => simp [intOf]; omega
    · have hk3 : ¬ (j : Int) < (l.length : Int) := by omega
      have HE : Hid (y = k0 + ((cntL yReqReqS l : Nat) : Int)) := Hid.intro (by have := HY.out; rwa [show j = l.length by omega, List.take_length] at this)
      clear HY
      go_wp2
      go_ret
      exact ⟨congrArg (fun z => Ending.returned (Value.int .i64 z)) HE.out, HM.out.kept, HM.out.done yReqReqS_law (by omega) hl1 hl2⟩

set_option maxRecDepth 100000 in
set_option maxHeartbeats 2000000 in
theorem yReqReqSS_held : HeldC yReqReqSS 74 := by
  rintro ⟨p, c, l⟩ k0 w hr hm h0 h1
  have hl1 : l.length ≤ c := hr.1
  have hl2 : c ≤ 9223372036854775807 := hr.2.1
  have HC : Hid (k0 + ((cntL yReqReqS l : Nat) : Int) ≤ 1000000000000000) := Hid.intro h1
  have HM : Hid (mkdL yReqReqS l k0) := Hid.intro hm
  have HR := Hid.intro hr
  clear hr hm h1
  show Calls Try.prog 74 #[.slice p l.length c, .int .i64 k0] w fun e w' => e = .returned (.int .i64 (k0 + ((cntL yReqReqS l : Nat) : Int))) ∧ Below w.heap.size w w'
  go_enter Try.func74, Try.ntmps74
  go_wp2
  go_loopw [5, 1] (fun i kk wr => ∃ (j : Nat) (y : Int), j ≤ l.length ∧ i = .int .i64 j ∧ kk = .int .i64 y ∧ 0 ≤ y ∧ Hid (y = k0 + ((cntL yReqReqS (l.take j) : Nat) : Int)) ∧ Below w.heap.size w wr) (fun i _ _ => l.length - (intOf i).toNat)
  case atStart => exact ⟨0, k0, Nat.zero_le _, rfl, rfl, h0, Hid.intro (by simp [cntL]), Below.refl _ _⟩
  case round =>
    obtain ⟨j, y, hj, rfl, rfl, hy0, HY, hbl⟩ := hrel
    by_cases hlt : j < l.length
    · have hp := yReqReqSS_law.rd_blw HR.out hbl
      have hq := hp.2.2.2 _ (List.getElem_mem hlt)
      have hj0 : (0 : Int) ≤ (j : Int) := by omega
      have hj1 : (j : Int) < (l.length : Int) := by omega
      have hst := cntL_take yReqReqS hlt
      have hpt := cntL_part yReqReqS l (j + 1)
      have hm := mkdL_at HM.out hlt
      rw [← HY.out] at hm
      have hbd : y + ((yReqReqS.cnt l[j] : Nat) : Int) ≤ 1000000000000000 := by have h1 := HC.out; have h2 := HY.out; omega
      have hc : ∃ b off, p = some ⟨b, off, none⟩ ∧ b < wr.heap.size ∧ ∀ (i : Nat) (v : Value), (yReqReqS.cells l[j])[i]? = some v → wr.cell? ⟨b, off + j * 1 + i, none⟩ = some v := by
        rcases hp.2.2.1 with h0 | ⟨b, off, e, hb, hc⟩
        · have h0 : l = [] := h0
          subst h0; simp at hlt
        · exact ⟨b, off, e, hb, fun i v hv => hc j hlt i v hv⟩
      obtain ⟨b, off, rfl, hb, hc⟩ := hc
      clear hp hpt
      generalize l[j] = q at hq hst hc hm hbd
      have hbd : y + ((yReqReqS.cnt q : Nat) : Int) ≤ 1000000000000000 := hbd
      have HST : Hid (cntL yReqReqS (l.take (j + 1)) = cntL yReqReqS (l.take j) + (yReqReqS.cnt q)) := Hid.intro hst
      have c0 : wr.cell? ⟨b, off + j, none⟩ = some (.slice q.p q.l.length q.c) := by simpa using hc 0 _ rfl
      have HQ := Hid.intro (And.intro hq hm)
      clear hq hm hc hst 
      have hmk0 : yReqReqS.vmkd q (y) := cast (congrArg (yReqReqS.vmkd q) (by have g0 : ((yReqReqS.vcnt q : Nat) : Int) = ((yReqReqS.cnt q : Nat) : Int) := rfl; omega)) (show yReqReqS.mkd q (y) from HQ.out.2)
      have hbb0 : (y) + ((yReqReqS.vcnt q : Nat) : Int) ≤ 1000000000000000 ∧ 0 ≤ (y) := by have g0 : ((yReqReqS.vcnt q : Nat) : Int) = ((yReqReqS.cnt q : Nat) : Int) := rfl; omega
      have HC0 := Hid.intro (And.intro hmk0 hbb0)
      clear hmk0
      go_wp2_with fail
      refine (yReqReqS_held q _ _ (yReqReqS_law.rd_blw HQ.out.1 (Below.refl _ wr)) HC0.out.1 HC0.out.2.2 HC0.out.2.1).mono ?_
      rintro e w1 ⟨rfl, hb1⟩
      have bw0 : Below wr.heap.size wr w1 := hb1
      have hI0 : ¬ (y + ((yReqReqS.vcnt q : Nat) : Int) < 0) := by have := HC0.out.2; omega
      clear hb1 HC0
      have HY2 : Hid (y + ((yReqReqS.vcnt q : Nat) : Int) = k0 + ((cntL yReqReqS (l.take (j + 1)) : Nat) : Int)) := Hid.intro (by have h1 := HST.out; have h2 := HY.out; have g0 : ((yReqReqS.vcnt q : Nat) : Int) = ((yReqReqS.cnt q : Nat) : Int) := rfl; omega)
      have hYN : (y + ((yReqReqS.vcnt q : Nat) : Int)) ≤ 1000000000000000 ∧ 0 ≤ (y + ((yReqReqS.vcnt q : Nat) : Int)) := by have g0 : ((yReqReqS.vcnt q : Nat) : Int) = ((yReqReqS.cnt q : Nat) : Int) := rfl; omega
      have hYN1 := hYN.1
      have hYN2 := hYN.2
      clear hYN
      have HBL := Hid.intro (hbl.trans (bw0.mono hbl.size))
      clear HQ HST HY
      go_wp2
      go_roundw
      case rel => exact ⟨j + 1, _, by omega, by go_num, rfl, by omega, HY2, HBL.out⟩
      case measure => simp [intOf]; omega
    · have hk3 : ¬ (j : Int) < (l.length : Int) := by omega
      have HE : Hid (y = k0 + ((cntL yReqReqS l : Nat) : Int)) := Hid.intro (by have := HY.out; rwa [show j = l.length by omega, List.take_length] at this)
      clear HY
      go_wp2
      go_ret
      exact ⟨congrArg (fun z => Ending.returned (Value.int .i64 z)) HE.out, hbl⟩

end Go.Proofs.Ytgjlkmhbaimjpaa
