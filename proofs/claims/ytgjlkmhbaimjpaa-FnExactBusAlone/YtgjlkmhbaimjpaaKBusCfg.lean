/-
  BusCfg: the laws' functions, by contract of kinds.
-/
import Derived.Test.YtgjlkmhbaimjpaaKMapRange
import Derived.Test.YtgjlkmhbaimjpaaKReqReq
import Derived.Test.YtgjlkmhbaimjpaaKndI
import Derived.Test.YtgjlkmhbaimjpaaKndLM
import Derived.Test.YtgjlkmhbaimjpaaOpsXM
namespace Go.Proofs.Ytgjlkmhbaimjpaa
open Go.RowKit
set_option linter.unusedSimpArgs false
set_option linter.unusedVariables false

def yBusCfg : Knd ((Lst (Int × Int × Int × Bool)) × (Lst Int) × (Lst (Lst (Int × Int × Int × Int × Bool × (Lst Int) × (Lst Int))))) ((List (Int × Int × Int × Bool)) × (List Int) × (List (List (Int × Int × Int × Int × Bool × (List Int) × (List Int))))) := gRec (gPair yMapRangeS (gPair yI yReqReqSS))
theorem yBusCfg_law : KLaw yBusCfg := gRec_law (gPair_law yMapRangeS_law (gPair_law yI_law yReqReqSS_law))
theorem yBusCfg_val (f : ((Lst (Int × Int × Int × Bool)) × (Lst Int) × (Lst (Lst (Int × Int × Int × Int × Bool × (Lst Int) × (Lst Int)))))) : yBusCfg.val f = .agg #[.slice f.1.p f.1.l.length f.1.c, .slice f.2.1.p f.2.1.l.length f.2.1.c, .slice f.2.2.p f.2.2.l.length f.2.2.c] := rfl
theorem yBusCfg_cells (f : ((Lst (Int × Int × Int × Bool)) × (Lst Int) × (Lst (Lst (Int × Int × Int × Int × Bool × (Lst Int) × (Lst Int)))))) : yBusCfg.cells f = [.slice f.1.p f.1.l.length f.1.c, .slice f.2.1.p f.2.1.l.length f.2.1.c, .slice f.2.2.p f.2.2.l.length f.2.2.c] := rfl

set_option maxRecDepth 100000 in
set_option maxHeartbeats 2000000 in
theorem yBusCfg_sz : SzC yBusCfg 9 := by
  rintro ⟨f_0, f_1, f_2⟩ left w hr h0 h1
  have HR := Hid.intro hr
  clear hr
  have hbl : ∀ o, Below w.heap.size w (w.alloc o) := fun o => (Below.refl _ w).alloc (Nat.le_refl _) o
  show Calls Try.prog 9 #[.agg #[.slice f_0.p f_0.l.length f_0.c, .slice f_1.p f_1.l.length f_1.c, .slice f_2.p f_2.l.length f_2.c], .int .i64 left] w _
  go_enter Try.func9, Try.ntmps9
  have HC0 : Hid (∀ (left : Int) (w : World), yMapRangeS.rd w f_0 → 0 ≤ left → left ≤ 1048576 → Calls Try.prog 35 #[.slice f_0.p f_0.l.length f_0.c, .int .i64 left] w fun e w' => (∃ z : Int, e = .returned (.int .i64 z) ∧ (z = -1 ∨ (0 ≤ z ∧ z = left - (yMapRangeS.size f_0 : Int)))) ∧ Below w.heap.size w w') := Hid.intro (yMapRangeS_sz f_0)
  go_wp2_with fail
  refine (HC0.out left _ (yMapRangeS_law.rd_blw HR.out.1 (hbl _)) h0 (by omega)).mono ?_
  clear HC0
  rintro e w1 ⟨⟨z0, rfl, hz0⟩, hb⟩
  have bel0 : Below w.heap.size w w1 := (hbl _).trans (hb.mono (hbl _).size)
  have bA0 : w1.heap[w.heap.size]? = some (.cells #[.slice f_0.p f_0.l.length f_0.c, .slice f_1.p f_1.l.length f_1.c, .slice f_2.p f_2.l.length f_2.c] 26 (0, 0)) := (hb.block _ (by simp)).trans (nw_k _ rfl)
  clear hb
  rcases hz0 with rfl | ⟨g0, q0⟩
  · clear HR
    go_wp2
    go_ret
    exact ⟨⟨_, rfl, .inl rfl⟩, bel0⟩
  have n0 : ¬ (z0 < 0) := by omega
  have Q0 := Hid.intro q0
  have l0 : z0 ≤ 1048576 := by omega
  clear q0
  have c0 : w1.cell? ⟨w.heap.size, 0, none⟩ = some (.slice f_0.p f_0.l.length f_0.c) := heap_cell bA0 0
  have c1 : w1.cell? ⟨w.heap.size, 1, none⟩ = some (.slice f_1.p f_1.l.length f_1.c) := heap_cell bA0 1
  have c2 : w1.cell? ⟨w.heap.size, 2, none⟩ = some (.slice f_2.p f_2.l.length f_2.c) := heap_cell bA0 2
  have HC1 : Hid (∀ (left : Int) (w : World), yI.rd w f_1 → 0 ≤ left → left ≤ 1048576 → Calls Try.prog 36 #[.slice f_1.p f_1.l.length f_1.c, .int .i64 left] w fun e w' => (∃ z : Int, e = .returned (.int .i64 z) ∧ (z = -1 ∨ (0 ≤ z ∧ z = left - (yI.size f_1 : Int)))) ∧ Below w.heap.size w w') := Hid.intro (yI_sz f_1)
  go_wp2_with fail
  refine (HC1.out z0 w1 (yI_law.rd_blw HR.out.2.1 bel0) g0 (by omega)).mono ?_
  clear HC1
  rintro e w2 ⟨⟨z1, rfl, hz1⟩, hb⟩
  have bel1 : Below w.heap.size w w2 := bel0.trans (hb.mono bel0.size)
  have bA1 : w2.heap[w.heap.size]? = some (.cells #[.slice f_0.p f_0.l.length f_0.c, .slice f_1.p f_1.l.length f_1.c, .slice f_2.p f_2.l.length f_2.c] 26 (0, 0)) := (hb.block _ (heap_lt bA0)).trans bA0
  clear bel0 bA0 c0 c1 c2
  clear hb
  rcases hz1 with rfl | ⟨g1, q1⟩
  · clear HR
    go_wp2
    go_ret
    exact ⟨⟨_, rfl, .inl rfl⟩, bel1⟩
  have n1 : ¬ (z1 < 0) := by omega
  have Q1 := Hid.intro q1
  have l1 : z1 ≤ 1048576 := by omega
  clear q1
  have c0 : w2.cell? ⟨w.heap.size, 0, none⟩ = some (.slice f_0.p f_0.l.length f_0.c) := heap_cell bA1 0
  have c1 : w2.cell? ⟨w.heap.size, 1, none⟩ = some (.slice f_1.p f_1.l.length f_1.c) := heap_cell bA1 1
  have c2 : w2.cell? ⟨w.heap.size, 2, none⟩ = some (.slice f_2.p f_2.l.length f_2.c) := heap_cell bA1 2
  have HC2 : Hid (∀ (left : Int) (w : World), yReqReqSS.rd w f_2 → 0 ≤ left → left ≤ 1048576 → Calls Try.prog 37 #[.slice f_2.p f_2.l.length f_2.c, .int .i64 left] w fun e w' => (∃ z : Int, e = .returned (.int .i64 z) ∧ (z = -1 ∨ (0 ≤ z ∧ z = left - (yReqReqSS.size f_2 : Int)))) ∧ Below w.heap.size w w') := Hid.intro (yReqReqSS_sz f_2)
  go_wp2_with fail
  refine (HC2.out z1 w2 (yReqReqSS_law.rd_blw HR.out.2.2 bel1) g1 (by omega)).mono ?_
  clear HC2
  rintro e w3 ⟨⟨z2, rfl, hz2⟩, hb⟩
  have bel2 : Below w.heap.size w w3 := bel1.trans (hb.mono bel1.size)
  have bA2 : w3.heap[w.heap.size]? = some (.cells #[.slice f_0.p f_0.l.length f_0.c, .slice f_1.p f_1.l.length f_1.c, .slice f_2.p f_2.l.length f_2.c] 26 (0, 0)) := (hb.block _ (heap_lt bA1)).trans bA1
  clear bel1 bA1 c0 c1 c2
  clear hb
  rcases hz2 with rfl | ⟨g2, q2⟩
  · clear HR
    go_wp2
    go_ret
    exact ⟨⟨_, rfl, .inl rfl⟩, bel2⟩
  have n2 : ¬ (z2 < 0) := by omega
  have Q2 := Hid.intro q2
  have l2 : z2 ≤ 1048576 := by omega
  clear q2
  have c0 : w3.cell? ⟨w.heap.size, 0, none⟩ = some (.slice f_0.p f_0.l.length f_0.c) := heap_cell bA2 0
  have c1 : w3.cell? ⟨w.heap.size, 1, none⟩ = some (.slice f_1.p f_1.l.length f_1.c) := heap_cell bA2 1
  have c2 : w3.cell? ⟨w.heap.size, 2, none⟩ = some (.slice f_2.p f_2.l.length f_2.c) := heap_cell bA2 2
  have HS : Hid ((yBusCfg.size (f_0, f_1, f_2) : Nat) = yMapRangeS.size f_0 + (yI.size f_1 + (yReqReqSS.size f_2))) := Hid.intro rfl
  clear HR
  go_wp2
  go_ret
  exact ⟨⟨_, rfl, .inr ⟨g2, by have := HS.out; have := Q0.out; have := Q1.out; have := Q2.out; omega⟩⟩, bel2⟩

set_option maxRecDepth 100000 in
set_option maxHeartbeats 2000000 in
theorem yBusCfg_eq : EqC yBusCfg 13 := by
  rintro ⟨f_0, f_1, f_2⟩ ⟨g_0, g_1, g_2⟩ w hr hr' hp
  have hp' : ((yMapRangeS.pl f_0, yI.pl f_1, yReqReqSS.pl f_2) : ((List (Int × Int × Int × Bool)) × (List Int) × (List (List (Int × Int × Int × Int × Bool × (List Int) × (List Int)))))) = (yMapRangeS.pl g_0, yI.pl g_1, yReqReqSS.pl g_2) := hp
  clear hp
  simp only [Prod.mk.injEq] at hp'
  obtain ⟨p0, p1, p2⟩ := hp'
  have HR := Hid.intro hr
  have HQ := Hid.intro hr'
  clear hr hr'
  have hbl : ∀ o o', Below w.heap.size w ((w.alloc o).alloc o') := fun o o' => ((Below.refl _ w).alloc (Nat.le_refl _) o).alloc (by simp) o'
  show Calls Try.prog 13 #[.agg #[.slice f_0.p f_0.l.length f_0.c, .slice f_1.p f_1.l.length f_1.c, .slice f_2.p f_2.l.length f_2.c], .agg #[.slice g_0.p g_0.l.length g_0.c, .slice g_1.p g_1.l.length g_1.c, .slice g_2.p g_2.l.length g_2.c]] w _
  go_enter Try.func13, Try.ntmps13
  have HC0 : Hid (∀ (w : World), yMapRangeS.rd w f_0 → yMapRangeS.rd w g_0 → yMapRangeS.pl f_0 = yMapRangeS.pl g_0 → Calls Try.prog 48 #[.slice f_0.p f_0.l.length f_0.c, .slice g_0.p g_0.l.length g_0.c] w fun e w' => e = .returned (.bool true) ∧ Below w.heap.size w w') := Hid.intro (yMapRangeS_eq f_0 g_0)
  go_wp2_with fail
  refine (HC0.out _ (yMapRangeS_law.rd_blw HR.out.1 (hbl _ _)) (yMapRangeS_law.rd_blw HQ.out.1 (hbl _ _)) p0).mono ?_
  clear HC0
  rintro e w1 ⟨rfl, hb⟩
  have bel0 : Below w.heap.size w w1 := (hbl _ _).trans (hb.mono (hbl _ _).size)
  have bA0 : w1.heap[w.heap.size]? = some (.cells #[.slice f_0.p f_0.l.length f_0.c, .slice f_1.p f_1.l.length f_1.c, .slice f_2.p f_2.l.length f_2.c] 32 (0, 0)) := (hb.block _ (by simp <;> omega)).trans ((Below.heap_alloc _ _ _ (by simp)).trans (nw_k _ rfl))
  have bB0 : w1.heap[w.heap.size + 1]? = some (.cells #[.slice g_0.p g_0.l.length g_0.c, .slice g_1.p g_1.l.length g_1.c, .slice g_2.p g_2.l.length g_2.c] 32 (0, 0)) := (hb.block _ (by simp)).trans (nw_k _ (by simp))
  clear hb
  have c0 : w1.cell? ⟨w.heap.size, 0, none⟩ = some (.slice f_0.p f_0.l.length f_0.c) := heap_cell bA0 0
  have c1 : w1.cell? ⟨w.heap.size, 1, none⟩ = some (.slice f_1.p f_1.l.length f_1.c) := heap_cell bA0 1
  have c2 : w1.cell? ⟨w.heap.size, 2, none⟩ = some (.slice f_2.p f_2.l.length f_2.c) := heap_cell bA0 2
  have d0 : w1.cell? ⟨w.heap.size + 1, 0, none⟩ = some (.slice g_0.p g_0.l.length g_0.c) := heap_cell bB0 0
  have d1 : w1.cell? ⟨w.heap.size + 1, 1, none⟩ = some (.slice g_1.p g_1.l.length g_1.c) := heap_cell bB0 1
  have d2 : w1.cell? ⟨w.heap.size + 1, 2, none⟩ = some (.slice g_2.p g_2.l.length g_2.c) := heap_cell bB0 2
  have HC1 : Hid (∀ (w : World), yI.rd w f_1 → yI.rd w g_1 → yI.pl f_1 = yI.pl g_1 → Calls Try.prog 49 #[.slice f_1.p f_1.l.length f_1.c, .slice g_1.p g_1.l.length g_1.c] w fun e w' => e = .returned (.bool true) ∧ Below w.heap.size w w') := Hid.intro (yI_eq f_1 g_1)
  go_wp2_with fail
  refine (HC1.out w1 (yI_law.rd_blw HR.out.2.1 bel0) (yI_law.rd_blw HQ.out.2.1 bel0) p1).mono ?_
  clear HC1
  rintro e w2 ⟨rfl, hb⟩
  have bel1 : Below w.heap.size w w2 := bel0.trans (hb.mono bel0.size)
  have bA1 : w2.heap[w.heap.size]? = some (.cells #[.slice f_0.p f_0.l.length f_0.c, .slice f_1.p f_1.l.length f_1.c, .slice f_2.p f_2.l.length f_2.c] 32 (0, 0)) := (hb.block _ (heap_lt bA0)).trans bA0
  have bB1 : w2.heap[w.heap.size + 1]? = some (.cells #[.slice g_0.p g_0.l.length g_0.c, .slice g_1.p g_1.l.length g_1.c, .slice g_2.p g_2.l.length g_2.c] 32 (0, 0)) := (hb.block _ (heap_lt bB0)).trans bB0
  clear bel0 bA0 bB0 c0 c1 c2 d0 d1 d2
  clear hb
  have c0 : w2.cell? ⟨w.heap.size, 0, none⟩ = some (.slice f_0.p f_0.l.length f_0.c) := heap_cell bA1 0
  have c1 : w2.cell? ⟨w.heap.size, 1, none⟩ = some (.slice f_1.p f_1.l.length f_1.c) := heap_cell bA1 1
  have c2 : w2.cell? ⟨w.heap.size, 2, none⟩ = some (.slice f_2.p f_2.l.length f_2.c) := heap_cell bA1 2
  have d0 : w2.cell? ⟨w.heap.size + 1, 0, none⟩ = some (.slice g_0.p g_0.l.length g_0.c) := heap_cell bB1 0
  have d1 : w2.cell? ⟨w.heap.size + 1, 1, none⟩ = some (.slice g_1.p g_1.l.length g_1.c) := heap_cell bB1 1
  have d2 : w2.cell? ⟨w.heap.size + 1, 2, none⟩ = some (.slice g_2.p g_2.l.length g_2.c) := heap_cell bB1 2
  have HC2 : Hid (∀ (w : World), yReqReqSS.rd w f_2 → yReqReqSS.rd w g_2 → yReqReqSS.pl f_2 = yReqReqSS.pl g_2 → Calls Try.prog 50 #[.slice f_2.p f_2.l.length f_2.c, .slice g_2.p g_2.l.length g_2.c] w fun e w' => e = .returned (.bool true) ∧ Below w.heap.size w w') := Hid.intro (yReqReqSS_eq f_2 g_2)
  go_wp2_with fail
  refine (HC2.out w2 (yReqReqSS_law.rd_blw HR.out.2.2 bel1) (yReqReqSS_law.rd_blw HQ.out.2.2 bel1) p2).mono ?_
  clear HC2
  rintro e w3 ⟨rfl, hb⟩
  have bel2 : Below w.heap.size w w3 := bel1.trans (hb.mono bel1.size)
  have bA2 : w3.heap[w.heap.size]? = some (.cells #[.slice f_0.p f_0.l.length f_0.c, .slice f_1.p f_1.l.length f_1.c, .slice f_2.p f_2.l.length f_2.c] 32 (0, 0)) := (hb.block _ (heap_lt bA1)).trans bA1
  have bB2 : w3.heap[w.heap.size + 1]? = some (.cells #[.slice g_0.p g_0.l.length g_0.c, .slice g_1.p g_1.l.length g_1.c, .slice g_2.p g_2.l.length g_2.c] 32 (0, 0)) := (hb.block _ (heap_lt bB1)).trans bB1
  clear bel1 bA1 bB1 c0 c1 c2 d0 d1 d2
  clear hb
  have c0 : w3.cell? ⟨w.heap.size, 0, none⟩ = some (.slice f_0.p f_0.l.length f_0.c) := heap_cell bA2 0
  have c1 : w3.cell? ⟨w.heap.size, 1, none⟩ = some (.slice f_1.p f_1.l.length f_1.c) := heap_cell bA2 1
  have c2 : w3.cell? ⟨w.heap.size, 2, none⟩ = some (.slice f_2.p f_2.l.length f_2.c) := heap_cell bA2 2
  have d0 : w3.cell? ⟨w.heap.size + 1, 0, none⟩ = some (.slice g_0.p g_0.l.length g_0.c) := heap_cell bB2 0
  have d1 : w3.cell? ⟨w.heap.size + 1, 1, none⟩ = some (.slice g_1.p g_1.l.length g_1.c) := heap_cell bB2 1
  have d2 : w3.cell? ⟨w.heap.size + 1, 2, none⟩ = some (.slice g_2.p g_2.l.length g_2.c) := heap_cell bB2 2
  clear HR HQ
  go_wp2
  go_ret
  exact ⟨rfl, bel2⟩

set_option maxRecDepth 100000 in
set_option maxHeartbeats 2000000 in
theorem yBusCfg_to : ToC yBusCfg 11 := by
  rintro ⟨f_0, f_1, f_2⟩ w hr hs
  have HR := Hid.intro hr
  clear hr
  have hbl : ∀ o o' o'', Below w.heap.size w (((w.alloc o).alloc o').alloc o'') := fun o o' o'' => (((Below.refl _ w).alloc (Nat.le_refl _) o).alloc (by simp) o').alloc (by simp <;> omega) o''
  have HS : Hid (yMapRangeS.size f_0 + (yI.size f_1 + (yReqReqSS.size f_2)) ≤ 1048576) := Hid.intro hs
  clear hs
  show Calls Try.prog 11 #[.agg #[.slice f_0.p f_0.l.length f_0.c, .slice f_1.p f_1.l.length f_1.c, .slice f_2.p f_2.l.length f_2.c]] w _
  go_enter Try.func11, Try.ntmps11
  have HC0 : Hid (∀ (w : World), yMapRangeS.rd w f_0 → yMapRangeS.size f_0 ≤ 1048576 → Calls Try.prog 41 #[.slice f_0.p f_0.l.length f_0.c] w fun e w' => ∃ a', e = .returned (yMapRangeS.val a') ∧ yMapRangeS.pl a' = yMapRangeS.pl f_0 ∧ yMapRangeS.size a' = yMapRangeS.size f_0 ∧ Fresh yMapRangeS w.heap.size w' a' ∧ Below w.heap.size w w') := Hid.intro (yMapRangeS_to f_0)
  go_wp2_with fail
  refine (HC0.out _ (yMapRangeS_law.rd_blw HR.out.1 (hbl _ _ _)) (by have := HS.out; omega)).mono ?_
  clear HC0
  rintro e w1 ⟨x0, he, hpl0, hsz0, hf0, hb⟩
  replace he : e = .returned (.slice x0.p x0.l.length x0.c) := he
  subst he
  have hzz0 := hb.size
  simp only [World.size_alloc, Nat.add_assoc, Nat.reduceAdd] at hzz0
  have bA0 : w1.heap[w.heap.size]? = some (.cells #[.slice f_0.p f_0.l.length f_0.c, .slice f_1.p f_1.l.length f_1.c, .slice f_2.p f_2.l.length f_2.c] 26 (0, 0)) := (hb.block _ (by simp <;> omega)).trans ((Below.heap_alloc _ _ _ (by simp <;> omega)).trans ((Below.heap_alloc _ _ _ (by simp)).trans (nw_k _ rfl)))
  have bR0 : w1.heap[w.heap.size + 1]? = some (.cells #[.slice none 0 0, .slice none 0 0, .slice none 0 0] 32 (0, 0)) := (hb.block _ (by simp <;> omega)).trans ((Below.heap_alloc _ _ _ (by simp)).trans (nw_k _ (by simp)))
  have bO0 : w1.heap[w.heap.size + 2]? = some (.cells #[.slice none 0 0, .slice none 0 0, .slice none 0 0] 32 (0, 0)) := (hb.block _ (by simp)).trans (nw_k _ (by simp))
  have bel0 : Below w.heap.size w w1 := (hbl _ _ _).trans (hb.mono (hbl _ _ _).size)
  replace hf0 := hf0.mono (M' := w.heap.size + 3) (by simp <;> omega)
  have c0 : w1.cell? ⟨w.heap.size, 0, none⟩ = some (.slice f_0.p f_0.l.length f_0.c) := heap_cell bA0 0
  have c1 : w1.cell? ⟨w.heap.size, 1, none⟩ = some (.slice f_1.p f_1.l.length f_1.c) := heap_cell bA0 1
  have c2 : w1.cell? ⟨w.heap.size, 2, none⟩ = some (.slice f_2.p f_2.l.length f_2.c) := heap_cell bA0 2
  have o0 : w1.cell? ⟨w.heap.size + 2, 0, none⟩ = some (.slice none 0 0) := heap_cell bO0 0
  have o1 : w1.cell? ⟨w.heap.size + 2, 1, none⟩ = some (.slice none 0 0) := heap_cell bO0 1
  have o2 : w1.cell? ⟨w.heap.size + 2, 2, none⟩ = some (.slice none 0 0) := heap_cell bO0 2
  have fo0 : w1.frozen? ⟨w.heap.size + 2, 0, none⟩ = false := heap_free bO0 0
  have fo1 : w1.frozen? ⟨w.heap.size + 2, 1, none⟩ = false := heap_free bO0 1
  have fo2 : w1.frozen? ⟨w.heap.size + 2, 2, none⟩ = false := heap_free bO0 2
  have lt0 : ∀ x ∈ yMapRangeS.foot x0, x < w1.heap.size := yMapRangeS_law.ow_lt hf0.ow
  clear hb
  have belc1 : Below w.heap.size w (w1.setCell ⟨w.heap.size + 2, 0, none⟩ (.slice x0.p x0.l.length x0.c)) := (bel0.setCell (p := ⟨w.heap.size + 2, 0, none⟩) (by simp) (.slice x0.p x0.l.length x0.c))
  have HC1 : Hid (∀ (w : World), yI.rd w f_1 → yI.size f_1 ≤ 1048576 → Calls Try.prog 42 #[.slice f_1.p f_1.l.length f_1.c] w fun e w' => ∃ a', e = .returned (yI.val a') ∧ yI.pl a' = yI.pl f_1 ∧ yI.size a' = yI.size f_1 ∧ Fresh yI w.heap.size w' a' ∧ Below w.heap.size w w') := Hid.intro (yI_to f_1)
  go_wp2_with fail
  refine (HC1.out (w1.setCell ⟨w.heap.size + 2, 0, none⟩ (.slice x0.p x0.l.length x0.c)) (yI_law.rd_blw HR.out.2.1 belc1) (by have := HS.out; omega)).mono ?_
  clear HC1
  rintro e w2 ⟨x1, he, hpl1, hsz1, hf1, hb⟩
  replace he : e = .returned (.slice x1.p x1.l.length x1.c) := he
  subst he
  have hzz1 := hb.size
  simp only [World.size_setCell] at hzz1
  have bA1 : w2.heap[w.heap.size]? = some (.cells #[.slice f_0.p f_0.l.length f_0.c, .slice f_1.p f_1.l.length f_1.c, .slice f_2.p f_2.l.length f_2.c] 26 (0, 0)) := (hb.block _ (by simp only [World.size_setCell]; omega)).trans ((heap_set_ne (by omega)).trans (bA0))
  have bR1 : w2.heap[w.heap.size + 1]? = some (.cells #[.slice none 0 0, .slice none 0 0, .slice none 0 0] 32 (0, 0)) := (hb.block _ (by simp only [World.size_setCell]; omega)).trans ((heap_set_ne (by omega)).trans (bR0))
  have bO1 : w2.heap[w.heap.size + 2]? = some (.cells #[.slice x0.p x0.l.length x0.c, .slice none 0 0, .slice none 0 0] 32 (0, 0)) := (hb.block _ (by simp only [World.size_setCell]; omega)).trans (by simpa using (heap_set bO0 0 (.slice x0.p x0.l.length x0.c)))
  have bel1 : Below w.heap.size w w2 := belc1.trans (hb.mono belc1.size)
  replace hf0 : Fresh yMapRangeS (w.heap.size + 3) w2 x0 := (hf0.of yMapRangeS_law (fun x hx => by have := hf0.ge x hx; exact (heap_set_ne (by omega)).trans (rfl))).below yMapRangeS_law hb
  replace hf1 := hf1.mono (M' := w1.heap.size) (by simp only [World.size_setCell]; omega)
  clear bA0 bR0 bO0 bel0 belc1 c0 c1 c2 o0 o1 o2 fo0 fo1 fo2
  have c0 : w2.cell? ⟨w.heap.size, 0, none⟩ = some (.slice f_0.p f_0.l.length f_0.c) := heap_cell bA1 0
  have c1 : w2.cell? ⟨w.heap.size, 1, none⟩ = some (.slice f_1.p f_1.l.length f_1.c) := heap_cell bA1 1
  have c2 : w2.cell? ⟨w.heap.size, 2, none⟩ = some (.slice f_2.p f_2.l.length f_2.c) := heap_cell bA1 2
  have o0 : w2.cell? ⟨w.heap.size + 2, 0, none⟩ = some (.slice x0.p x0.l.length x0.c) := heap_cell bO1 0
  have o1 : w2.cell? ⟨w.heap.size + 2, 1, none⟩ = some (.slice none 0 0) := heap_cell bO1 1
  have o2 : w2.cell? ⟨w.heap.size + 2, 2, none⟩ = some (.slice none 0 0) := heap_cell bO1 2
  have fo0 : w2.frozen? ⟨w.heap.size + 2, 0, none⟩ = false := heap_free bO1 0
  have fo1 : w2.frozen? ⟨w.heap.size + 2, 1, none⟩ = false := heap_free bO1 1
  have fo2 : w2.frozen? ⟨w.heap.size + 2, 2, none⟩ = false := heap_free bO1 2
  have lt1 : ∀ x ∈ yI.foot x1, x < w2.heap.size := yI_law.ow_lt hf1.ow
  clear hb
  have belc2 : Below w.heap.size w (w2.setCell ⟨w.heap.size + 2, 1, none⟩ (.slice x1.p x1.l.length x1.c)) := (bel1.setCell (p := ⟨w.heap.size + 2, 1, none⟩) (by simp) (.slice x1.p x1.l.length x1.c))
  have HC2 : Hid (∀ (w : World), yReqReqSS.rd w f_2 → yReqReqSS.size f_2 ≤ 1048576 → Calls Try.prog 43 #[.slice f_2.p f_2.l.length f_2.c] w fun e w' => ∃ a', e = .returned (yReqReqSS.val a') ∧ yReqReqSS.pl a' = yReqReqSS.pl f_2 ∧ yReqReqSS.size a' = yReqReqSS.size f_2 ∧ Fresh yReqReqSS w.heap.size w' a' ∧ Below w.heap.size w w') := Hid.intro (yReqReqSS_to f_2)
  go_wp2_with fail
  refine (HC2.out (w2.setCell ⟨w.heap.size + 2, 1, none⟩ (.slice x1.p x1.l.length x1.c)) (yReqReqSS_law.rd_blw HR.out.2.2 belc2) (by have := HS.out; omega)).mono ?_
  clear HC2
  rintro e w3 ⟨x2, he, hpl2, hsz2, hf2, hb⟩
  replace he : e = .returned (.slice x2.p x2.l.length x2.c) := he
  subst he
  have hzz2 := hb.size
  simp only [World.size_setCell] at hzz2
  have bA2 : w3.heap[w.heap.size]? = some (.cells #[.slice f_0.p f_0.l.length f_0.c, .slice f_1.p f_1.l.length f_1.c, .slice f_2.p f_2.l.length f_2.c] 26 (0, 0)) := (hb.block _ (by simp only [World.size_setCell]; omega)).trans ((heap_set_ne (by omega)).trans (bA1))
  have bR2 : w3.heap[w.heap.size + 1]? = some (.cells #[.slice none 0 0, .slice none 0 0, .slice none 0 0] 32 (0, 0)) := (hb.block _ (by simp only [World.size_setCell]; omega)).trans ((heap_set_ne (by omega)).trans (bR1))
  have bO2 : w3.heap[w.heap.size + 2]? = some (.cells #[.slice x0.p x0.l.length x0.c, .slice x1.p x1.l.length x1.c, .slice none 0 0] 32 (0, 0)) := (hb.block _ (by simp only [World.size_setCell]; omega)).trans (by simpa using (heap_set bO1 1 (.slice x1.p x1.l.length x1.c)))
  have bel2 : Below w.heap.size w w3 := belc2.trans (hb.mono belc2.size)
  replace hf0 : Fresh yMapRangeS (w.heap.size + 3) w3 x0 := (hf0.of yMapRangeS_law (fun x hx => by have := hf0.ge x hx; exact (heap_set_ne (by omega)).trans (rfl))).below yMapRangeS_law hb
  replace hf1 : Fresh yI w1.heap.size w3 x1 := (hf1.of yI_law (fun x hx => by have := hf1.ge x hx; exact (heap_set_ne (by omega)).trans (rfl))).below yI_law hb
  replace hf2 := hf2.mono (M' := w2.heap.size) (by simp only [World.size_setCell]; omega)
  clear bA1 bR1 bO1 bel1 belc2 c0 c1 c2 o0 o1 o2 fo0 fo1 fo2
  have c0 : w3.cell? ⟨w.heap.size, 0, none⟩ = some (.slice f_0.p f_0.l.length f_0.c) := heap_cell bA2 0
  have c1 : w3.cell? ⟨w.heap.size, 1, none⟩ = some (.slice f_1.p f_1.l.length f_1.c) := heap_cell bA2 1
  have c2 : w3.cell? ⟨w.heap.size, 2, none⟩ = some (.slice f_2.p f_2.l.length f_2.c) := heap_cell bA2 2
  have o0 : w3.cell? ⟨w.heap.size + 2, 0, none⟩ = some (.slice x0.p x0.l.length x0.c) := heap_cell bO2 0
  have o1 : w3.cell? ⟨w.heap.size + 2, 1, none⟩ = some (.slice x1.p x1.l.length x1.c) := heap_cell bO2 1
  have o2 : w3.cell? ⟨w.heap.size + 2, 2, none⟩ = some (.slice none 0 0) := heap_cell bO2 2
  have fo0 : w3.frozen? ⟨w.heap.size + 2, 0, none⟩ = false := heap_free bO2 0
  have fo1 : w3.frozen? ⟨w.heap.size + 2, 1, none⟩ = false := heap_free bO2 1
  have fo2 : w3.frozen? ⟨w.heap.size + 2, 2, none⟩ = false := heap_free bO2 2
  have lt2 : ∀ x ∈ yReqReqSS.foot x2, x < w3.heap.size := yReqReqSS_law.ow_lt hf2.ow
  clear hb
  have bR'' : (w3.setCell ⟨w.heap.size + 2, 2, none⟩ (.slice x2.p x2.l.length x2.c)).heap[w.heap.size + 1]? = some (.cells #[.slice none 0 0, .slice none 0 0, .slice none 0 0] 32 (0, 0)) := (heap_set_ne (by omega)).trans (bR2)
  have q0 : w3.cell? ⟨w.heap.size + 1, 0, none⟩ = some (.slice none 0 0) := heap_cell bR2 0
  have q1 : w3.cell? ⟨w.heap.size + 1, 1, none⟩ = some (.slice none 0 0) := heap_cell bR2 1
  have q2 : w3.cell? ⟨w.heap.size + 1, 2, none⟩ = some (.slice none 0 0) := heap_cell bR2 2
  have fq0 : w3.frozen? ⟨w.heap.size + 1, 0, none⟩ = false := heap_free bR2 0
  have fq1 : w3.frozen? ⟨w.heap.size + 1, 1, none⟩ = false := heap_free bR2 1
  have fq2 : w3.frozen? ⟨w.heap.size + 1, 2, none⟩ = false := heap_free bR2 2
  have hf := (heap_set (heap_set (heap_set bR'' 0 (.slice x0.p x0.l.length x0.c)) 1 (.slice x1.p x1.l.length x1.c)) 2 (.slice x2.p x2.l.length x2.c))
  have r0 := heap_cell hf 0
  have r1 := heap_cell hf 1
  have r2 := heap_cell hf 2
  simp at r0 r1 r2
  have hne : ∀ x, x ≠ w.heap.size + 1 → x ≠ w.heap.size + 2 → ((((w3.setCell ⟨w.heap.size + 2, 2, none⟩ (.slice x2.p x2.l.length x2.c)).setCell ⟨w.heap.size + 1, 0, none⟩ (.slice x0.p x0.l.length x0.c)).setCell ⟨w.heap.size + 1, 1, none⟩ (.slice x1.p x1.l.length x1.c)).setCell ⟨w.heap.size + 1, 2, none⟩ (.slice x2.p x2.l.length x2.c)).heap[x]? = w3.heap[x]? := fun x h1 h2 => (heap_set_ne h1).trans ((heap_set_ne h1).trans ((heap_set_ne h1).trans ((heap_set_ne h2).trans (rfl))))
  have HB : Hid (Below w.heap.size w ((((w3.setCell ⟨w.heap.size + 2, 2, none⟩ (.slice x2.p x2.l.length x2.c)).setCell ⟨w.heap.size + 1, 0, none⟩ (.slice x0.p x0.l.length x0.c)).setCell ⟨w.heap.size + 1, 1, none⟩ (.slice x1.p x1.l.length x1.c)).setCell ⟨w.heap.size + 1, 2, none⟩ (.slice x2.p x2.l.length x2.c))) := Hid.intro (((((bel2.setCell (p := ⟨w.heap.size + 2, 2, none⟩) (by simp) (.slice x2.p x2.l.length x2.c)).setCell (p := ⟨w.heap.size + 1, 0, none⟩) (by simp) (.slice x0.p x0.l.length x0.c)).setCell (p := ⟨w.heap.size + 1, 1, none⟩) (by simp) (.slice x1.p x1.l.length x1.c)).setCell (p := ⟨w.heap.size + 1, 2, none⟩) (by simp) (.slice x2.p x2.l.length x2.c)))
  have HX : Hid (Fresh yMapRangeS (w.heap.size + 3) ((((w3.setCell ⟨w.heap.size + 2, 2, none⟩ (.slice x2.p x2.l.length x2.c)).setCell ⟨w.heap.size + 1, 0, none⟩ (.slice x0.p x0.l.length x0.c)).setCell ⟨w.heap.size + 1, 1, none⟩ (.slice x1.p x1.l.length x1.c)).setCell ⟨w.heap.size + 1, 2, none⟩ (.slice x2.p x2.l.length x2.c)) x0 ∧ Fresh yI w1.heap.size ((((w3.setCell ⟨w.heap.size + 2, 2, none⟩ (.slice x2.p x2.l.length x2.c)).setCell ⟨w.heap.size + 1, 0, none⟩ (.slice x0.p x0.l.length x0.c)).setCell ⟨w.heap.size + 1, 1, none⟩ (.slice x1.p x1.l.length x1.c)).setCell ⟨w.heap.size + 1, 2, none⟩ (.slice x2.p x2.l.length x2.c)) x1 ∧ Fresh yReqReqSS w2.heap.size ((((w3.setCell ⟨w.heap.size + 2, 2, none⟩ (.slice x2.p x2.l.length x2.c)).setCell ⟨w.heap.size + 1, 0, none⟩ (.slice x0.p x0.l.length x0.c)).setCell ⟨w.heap.size + 1, 1, none⟩ (.slice x1.p x1.l.length x1.c)).setCell ⟨w.heap.size + 1, 2, none⟩ (.slice x2.p x2.l.length x2.c)) x2) := Hid.intro ⟨(hf0.of yMapRangeS_law (fun x hx => hne x (by have := hf0.ge x hx; omega) (by have := hf0.ge x hx; omega))), (hf1.of yI_law (fun x hx => hne x (by have := hf1.ge x hx; omega) (by have := hf1.ge x hx; omega))), (hf2.of yReqReqSS_law (fun x hx => hne x (by have := hf2.ge x hx; omega) (by have := hf2.ge x hx; omega)))⟩
  have HL : Hid ((∀ x ∈ yMapRangeS.foot x0, x < w1.heap.size) ∧ (∀ x ∈ yI.foot x1, x < w2.heap.size) ∧ (∀ x ∈ yReqReqSS.foot x2, x < w3.heap.size)) := Hid.intro ⟨(fun x hx => lt0 x hx), (fun x hx => lt1 x hx), (fun x hx => lt2 x hx)⟩
  have HPL : Hid ((yMapRangeS.pl x0 = yMapRangeS.pl f_0 ∧ yMapRangeS.size x0 = yMapRangeS.size f_0) ∧ (yI.pl x1 = yI.pl f_1 ∧ yI.size x1 = yI.size f_1) ∧ (yReqReqSS.pl x2 = yReqReqSS.pl f_2 ∧ yReqReqSS.size x2 = yReqReqSS.size f_2)) := Hid.intro ⟨⟨hpl0, hsz0⟩, ⟨hpl1, hsz1⟩, ⟨hpl2, hsz2⟩⟩
  clear hne hf bA2 bR2 bO2 bel2 bR'' HR HS hf0 hf1 hf2 lt0 lt1 lt2 hpl0 hpl1 hpl2 hsz0 hsz1 hsz2
  go_wp2
  refine bodyPost_ret (v := .agg #[.slice x0.p x0.l.length x0.c, .slice x1.p x1.l.length x1.c, .slice x2.p x2.l.length x2.c]) (by simp [results, Try.results11, go_sem, r0, r1, r2]) rfl ⟨(x0, x1, x2), rfl, ?_, ?_, Fresh.recd (Fresh.pair (M' := w1.heap.size) ((HX.out.1).mono (by omega)) (by omega) (HL.out.1) (Fresh.pair (M' := w2.heap.size) ((HX.out.2.1).mono (by omega)) (by omega) (HL.out.2.1) ((HX.out.2.2).mono (by omega)))), HB.out⟩
  · show ((yMapRangeS.pl x0, yI.pl x1, yReqReqSS.pl x2) : ((List (Int × Int × Int × Bool)) × (List Int) × (List (List (Int × Int × Int × Int × Bool × (List Int) × (List Int)))))) = (yMapRangeS.pl f_0, yI.pl f_1, yReqReqSS.pl f_2)
    rw [(HPL.out.1).1, (HPL.out.2.1).1, (HPL.out.2.2).1]
  · show yMapRangeS.size x0 + (yI.size x1 + (yReqReqSS.size x2)) = yMapRangeS.size f_0 + (yI.size f_1 + (yReqReqSS.size f_2))
    have hh := HPL.out
    omega

set_option maxRecDepth 100000 in
set_option maxHeartbeats 2000000 in
theorem yBusCfg_mark : MarkC yBusCfg 21 := by
  rintro ⟨f_0, f_1, f_2⟩ k w ho hn h0 h1
  have hbl : ∀ o, Below w.heap.size w (w.alloc o) := fun o => (Below.refl _ w).alloc (Nat.le_refl _) o
  have HK : Hid (k + ((yMapRangeS.vcnt f_0 + (yI.vcnt f_1 + (yReqReqSS.vcnt f_2)) : Nat) : Int) ≤ 1000000000000000) := Hid.intro h1
  have HL := Hid.intro (yBusCfg_law.ow_lt ho)
  have r0 : (yMapRangeS.foot f_0 ++ (yI.foot f_1 ++ (yReqReqSS.foot f_2))).Nodup := hn
  obtain ⟨n0, r1, d0⟩ := nd2 r0
  obtain ⟨n1, r2, d1⟩ := nd2 r1
  have n2 := r2
  have HN := Hid.intro (And.intro n0 trivial)
  have HN0 := Hid.intro n0
  have HN1 := Hid.intro n1
  have HN2 := Hid.intro n2
  have HD0 := Hid.intro d0
  have HD1 := Hid.intro d1
  have HO := Hid.intro ho
  clear ho hn h1 HN n0 n1 n2 r0 r1 r2 d0 d1
  show Calls Try.prog 21 #[.agg #[.slice f_0.p f_0.l.length f_0.c, .slice f_1.p f_1.l.length f_1.c, .slice f_2.p f_2.l.length f_2.c], .int .i64 k] w _
  go_enter Try.func21, Try.ntmps21
  have HC0 : Hid (∀ (k : Int) (w : World), yMapRangeS.ow w f_0 → (yMapRangeS.foot f_0).Nodup → 0 ≤ k → k + (yMapRangeS.vcnt f_0 : Int) ≤ 1000000000000000 → Calls Try.prog 69 #[.slice f_0.p f_0.l.length f_0.c, .int .i64 k] w fun e w' => e = .returned (.int .i64 (k + (yMapRangeS.vcnt f_0 : Int))) ∧ Kept (fun b => b ∈ yMapRangeS.foot f_0) w w' ∧ ∃ a', yMapRangeS.val a' = yMapRangeS.val f_0 ∧ yMapRangeS.cells a' = yMapRangeS.cells f_0 ∧ yMapRangeS.foot a' = yMapRangeS.foot f_0 ∧ yMapRangeS.vcnt a' = yMapRangeS.vcnt f_0 ∧ yMapRangeS.ow w' a' ∧ yMapRangeS.vmkd a' k) := Hid.intro (yMapRangeS_mark f_0)
  go_wp2_with fail
  refine (HC0.out _ _ (yMapRangeS_law.ow_of HO.out.1 (fun b hb => (hbl _).block b (HL.out b (show _ ∈ yMapRangeS.foot f_0 ++ (yI.foot f_1 ++ (yReqReqSS.foot f_2)) from List.mem_append.2 (.inl hb))))) HN0.out (by omega) (by have := HK.out; omega)).mono ?_
  clear HC0
  rintro e w1 ⟨rfl, hk, x0, hv0, hc0, hf0, hn0, hw0, hm0⟩
  have bA0 : w1.heap[w.heap.size]? = some (.cells #[.slice f_0.p f_0.l.length f_0.c, .slice f_1.p f_1.l.length f_1.c, .slice f_2.p f_2.l.length f_2.c] 32 (0, 0)) := (hk.block _ (by simp) (fun hb => by have := HL.out _ (show _ ∈ yMapRangeS.foot f_0 ++ (yI.foot f_1 ++ (yReqReqSS.foot f_2)) from List.mem_append.2 (.inl hb)); omega)).trans (nw_k _ rfl)
  have hk0 : Kept (fun b => b ∈ yMapRangeS.foot f_0) w w1 := (Kept.of_below (hbl _)).trans hk
  clear hk
  have c0 : w1.cell? ⟨w.heap.size, 0, none⟩ = some (.slice f_0.p f_0.l.length f_0.c) := heap_cell bA0 0
  have c1 : w1.cell? ⟨w.heap.size, 1, none⟩ = some (.slice f_1.p f_1.l.length f_1.c) := heap_cell bA0 1
  have c2 : w1.cell? ⟨w.heap.size, 2, none⟩ = some (.slice f_2.p f_2.l.length f_2.c) := heap_cell bA0 2
  have ho1 : yI.ow w1 f_1 := yI_law.ow_of HO.out.2.1 (fun b hb => hk0.block b (HL.out b (show _ ∈ yMapRangeS.foot f_0 ++ (yI.foot f_1 ++ (yReqReqSS.foot f_2)) from List.mem_append.2 (.inr (List.mem_append.2 (.inl hb))))) (by
      rintro hd
      · exact HD0.out b (List.mem_append.2 (.inl hb)) hd))
  have HC1 : Hid (∀ (k : Int) (w : World), yI.ow w f_1 → (yI.foot f_1).Nodup → 0 ≤ k → k + (yI.vcnt f_1 : Int) ≤ 1000000000000000 → Calls Try.prog 70 #[.slice f_1.p f_1.l.length f_1.c, .int .i64 k] w fun e w' => e = .returned (.int .i64 (k + (yI.vcnt f_1 : Int))) ∧ Kept (fun b => b ∈ yI.foot f_1) w w' ∧ ∃ a', yI.val a' = yI.val f_1 ∧ yI.cells a' = yI.cells f_1 ∧ yI.foot a' = yI.foot f_1 ∧ yI.vcnt a' = yI.vcnt f_1 ∧ yI.ow w' a' ∧ yI.vmkd a' k) := Hid.intro (yI_mark f_1)
  go_wp2_with fail
  refine (HC1.out _ _ ho1 HN1.out (by omega) (by have := HK.out; omega)).mono ?_
  clear HC1
  rintro e w2 ⟨rfl, hk, x1, hv1, hc1, hf1, hn1, hw1, hm1⟩
  have bA1 : w2.heap[w.heap.size]? = some (.cells #[.slice f_0.p f_0.l.length f_0.c, .slice f_1.p f_1.l.length f_1.c, .slice f_2.p f_2.l.length f_2.c] 32 (0, 0)) := (hk.block _ (heap_lt bA0) (fun hb => by have := HL.out _ (show _ ∈ yMapRangeS.foot f_0 ++ (yI.foot f_1 ++ (yReqReqSS.foot f_2)) from List.mem_append.2 (.inr (List.mem_append.2 (.inl hb)))); omega)).trans bA0
  replace hw0 : yMapRangeS.ow w2 x0 := yMapRangeS_law.ow_of hw0 (fun b hb => hk.block b (yMapRangeS_law.ow_lt hw0 b hb) (fun hd => by rw [hf0] at hb; exact HD0.out b (List.mem_append.2 (.inl hd)) hb))
  have hk1 : Kept (fun b => (b ∈ yMapRangeS.foot f_0) ∨ b ∈ yI.foot f_1) w w2 := (hk0.mono (fun b h => Or.inl h)).trans (hk.mono (fun b h => Or.inr h))
  clear bA0 hk0 ho1 c0 c1 c2
  clear hk
  have c0 : w2.cell? ⟨w.heap.size, 0, none⟩ = some (.slice f_0.p f_0.l.length f_0.c) := heap_cell bA1 0
  have c1 : w2.cell? ⟨w.heap.size, 1, none⟩ = some (.slice f_1.p f_1.l.length f_1.c) := heap_cell bA1 1
  have c2 : w2.cell? ⟨w.heap.size, 2, none⟩ = some (.slice f_2.p f_2.l.length f_2.c) := heap_cell bA1 2
  have ho2 : yReqReqSS.ow w2 f_2 := yReqReqSS_law.ow_of HO.out.2.2 (fun b hb => hk1.block b (HL.out b (show _ ∈ yMapRangeS.foot f_0 ++ (yI.foot f_1 ++ (yReqReqSS.foot f_2)) from List.mem_append.2 (.inr (List.mem_append.2 (.inr (hb)))))) (by
      rintro (hd | hd)
      · exact HD0.out b (List.mem_append.2 (.inr (hb))) hd
      · exact HD1.out b (hb) hd))
  have HC2 : Hid (∀ (k : Int) (w : World), yReqReqSS.ow w f_2 → (yReqReqSS.foot f_2).Nodup → 0 ≤ k → k + (yReqReqSS.vcnt f_2 : Int) ≤ 1000000000000000 → Calls Try.prog 71 #[.slice f_2.p f_2.l.length f_2.c, .int .i64 k] w fun e w' => e = .returned (.int .i64 (k + (yReqReqSS.vcnt f_2 : Int))) ∧ Kept (fun b => b ∈ yReqReqSS.foot f_2) w w' ∧ ∃ a', yReqReqSS.val a' = yReqReqSS.val f_2 ∧ yReqReqSS.cells a' = yReqReqSS.cells f_2 ∧ yReqReqSS.foot a' = yReqReqSS.foot f_2 ∧ yReqReqSS.vcnt a' = yReqReqSS.vcnt f_2 ∧ yReqReqSS.ow w' a' ∧ yReqReqSS.vmkd a' k) := Hid.intro (yReqReqSS_mark f_2)
  go_wp2_with fail
  refine (HC2.out _ _ ho2 HN2.out (by omega) (by have := HK.out; omega)).mono ?_
  clear HC2
  rintro e w3 ⟨rfl, hk, x2, hv2, hc2, hf2, hn2, hw2, hm2⟩
  have bA2 : w3.heap[w.heap.size]? = some (.cells #[.slice f_0.p f_0.l.length f_0.c, .slice f_1.p f_1.l.length f_1.c, .slice f_2.p f_2.l.length f_2.c] 32 (0, 0)) := (hk.block _ (heap_lt bA1) (fun hb => by have := HL.out _ (show _ ∈ yMapRangeS.foot f_0 ++ (yI.foot f_1 ++ (yReqReqSS.foot f_2)) from List.mem_append.2 (.inr (List.mem_append.2 (.inr (hb))))); omega)).trans bA1
  replace hw0 : yMapRangeS.ow w3 x0 := yMapRangeS_law.ow_of hw0 (fun b hb => hk.block b (yMapRangeS_law.ow_lt hw0 b hb) (fun hd => by rw [hf0] at hb; exact HD0.out b (List.mem_append.2 (.inr (hd))) hb))
  replace hw1 : yI.ow w3 x1 := yI_law.ow_of hw1 (fun b hb => hk.block b (yI_law.ow_lt hw1 b hb) (fun hd => by rw [hf1] at hb; exact HD1.out b (hd) hb))
  have hk2 : Kept (fun b => ((b ∈ yMapRangeS.foot f_0) ∨ b ∈ yI.foot f_1) ∨ b ∈ yReqReqSS.foot f_2) w w3 := (hk1.mono (fun b h => Or.inl h)).trans (hk.mono (fun b h => Or.inr h))
  clear bA1 hk1 ho2 c0 c1 c2
  clear hk
  have c0 : w3.cell? ⟨w.heap.size, 0, none⟩ = some (.slice f_0.p f_0.l.length f_0.c) := heap_cell bA2 0
  have c1 : w3.cell? ⟨w.heap.size, 1, none⟩ = some (.slice f_1.p f_1.l.length f_1.c) := heap_cell bA2 1
  have c2 : w3.cell? ⟨w.heap.size, 2, none⟩ = some (.slice f_2.p f_2.l.length f_2.c) := heap_cell bA2 2
  have HF : Hid (Kept (fun b => b ∈ yBusCfg.foot (f_0, f_1, f_2)) w w3) := Hid.intro (hk2.mono (by
      intro b
      rintro ((hd | hd) | hd)
      · exact (show _ ∈ yMapRangeS.foot f_0 ++ (yI.foot f_1 ++ (yReqReqSS.foot f_2)) from List.mem_append.2 (.inl hd))
      · exact (show _ ∈ yMapRangeS.foot f_0 ++ (yI.foot f_1 ++ (yReqReqSS.foot f_2)) from List.mem_append.2 (.inr (List.mem_append.2 (.inl hd))))
      · exact (show _ ∈ yMapRangeS.foot f_0 ++ (yI.foot f_1 ++ (yReqReqSS.foot f_2)) from List.mem_append.2 (.inr (List.mem_append.2 (.inr (hd)))))))
  have HA : Hid ((yMapRangeS.cells x0 = yMapRangeS.cells f_0 ∧ yMapRangeS.foot x0 = yMapRangeS.foot f_0 ∧ yMapRangeS.vcnt x0 = yMapRangeS.vcnt f_0 ∧ yMapRangeS.ow w3 x0) ∧ (yI.cells x1 = yI.cells f_1 ∧ yI.foot x1 = yI.foot f_1 ∧ yI.vcnt x1 = yI.vcnt f_1 ∧ yI.ow w3 x1) ∧ (yReqReqSS.cells x2 = yReqReqSS.cells f_2 ∧ yReqReqSS.foot x2 = yReqReqSS.foot f_2 ∧ yReqReqSS.vcnt x2 = yReqReqSS.vcnt f_2 ∧ yReqReqSS.ow w3 x2)) := Hid.intro ⟨⟨hc0, hf0, hn0, hw0⟩, ⟨hc1, hf1, hn1, hw1⟩, ⟨hc2, hf2, hn2, hw2⟩⟩
  clear hk2 hv0 hc0 hf0 hw0 hv1 hc1 hf1 hw1 hv2 hc2 hf2 hw2
  have HM0 := Hid.intro hm0
  have HM1 := Hid.intro hm1
  have HM2 := Hid.intro hm2
  clear hm0 hm1 hm2
  go_wp2
  go_ret
  have hcc : yBusCfg.cells (x0, x1, x2) = yBusCfg.cells (f_0, f_1, f_2) := by
    show yMapRangeS.cells x0 ++ (yI.cells x1 ++ (yReqReqSS.cells x2)) = yMapRangeS.cells f_0 ++ (yI.cells f_1 ++ (yReqReqSS.cells f_2))
    rw [(HA.out.1).1, (HA.out.2.1).1, (HA.out.2.2).1]
  refine ⟨?_, HF.out, (x0, x1, x2), ?_, hcc, ?_, ?_, ⟨(HA.out.1).2.2.2, (HA.out.2.1).2.2.2, (HA.out.2.2).2.2.2⟩, ?_⟩
  · show _ = Ending.returned (Value.int .i64 (k + ((yMapRangeS.vcnt f_0 + (yI.vcnt f_1 + (yReqReqSS.vcnt f_2)) : Nat) : Int)))
    exact congrArg (fun z => Ending.returned (Value.int .i64 z)) (by omega)
  · show Value.agg (yBusCfg.cells (x0, x1, x2)).toArray = Value.agg (yBusCfg.cells (f_0, f_1, f_2)).toArray
    rw [hcc]
  · show yMapRangeS.foot x0 ++ (yI.foot x1 ++ (yReqReqSS.foot x2)) = yMapRangeS.foot f_0 ++ (yI.foot f_1 ++ (yReqReqSS.foot f_2))
    rw [(HA.out.1).2.1, (HA.out.2.1).2.1, (HA.out.2.2).2.1]
  · show yMapRangeS.vcnt x0 + (yI.vcnt x1 + (yReqReqSS.vcnt x2)) = yMapRangeS.vcnt f_0 + (yI.vcnt f_1 + (yReqReqSS.vcnt f_2))
    rw [(HA.out.1).2.2.1, (HA.out.2.1).2.2.1, (HA.out.2.2).2.2.1]
  · exact ⟨(show yMapRangeS.vmkd x0 (k) from cast (congrArg (yMapRangeS.vmkd x0) (by have hh := HA.out; omega)) HM0.out), (show yI.vmkd x1 (k + ((yMapRangeS.vcnt x0 : Nat) : Int)) from cast (congrArg (yI.vmkd x1) (by have hh := HA.out; omega)) HM1.out), (show yReqReqSS.vmkd x2 (k + ((yMapRangeS.vcnt x0 : Nat) : Int) + ((yI.vcnt x1 : Nat) : Int)) from cast (congrArg (yReqReqSS.vmkd x2) (by have hh := HA.out; omega)) HM2.out)⟩

set_option maxRecDepth 100000 in
set_option maxHeartbeats 2000000 in
theorem yBusCfg_held : HeldC yBusCfg 22 := by
  rintro ⟨f_0, f_1, f_2⟩ k w hr hm h0 h1
  have hbl : ∀ o, Below w.heap.size w (w.alloc o) := fun o => (Below.refl _ w).alloc (Nat.le_refl _) o
  have HK : Hid (k + ((yMapRangeS.vcnt f_0 + (yI.vcnt f_1 + (yReqReqSS.vcnt f_2)) : Nat) : Int) ≤ 1000000000000000) := Hid.intro h1
  have HR := Hid.intro hr
  have HM := Hid.intro hm
  clear hr hm h1
  show Calls Try.prog 22 #[.agg #[.slice f_0.p f_0.l.length f_0.c, .slice f_1.p f_1.l.length f_1.c, .slice f_2.p f_2.l.length f_2.c], .int .i64 k] w _
  go_enter Try.func22, Try.ntmps22
  have HC0 : Hid (∀ (k : Int) (w : World), yMapRangeS.rd w f_0 → yMapRangeS.vmkd f_0 k → 0 ≤ k → k + (yMapRangeS.vcnt f_0 : Int) ≤ 1000000000000000 → Calls Try.prog 72 #[.slice f_0.p f_0.l.length f_0.c, .int .i64 k] w fun e w' => e = .returned (.int .i64 (k + (yMapRangeS.vcnt f_0 : Int))) ∧ Below w.heap.size w w') := Hid.intro (yMapRangeS_held f_0)
  go_wp2_with fail
  refine (HC0.out _ _ (yMapRangeS_law.rd_blw HR.out.1 (hbl _)) (cast (congrArg (yMapRangeS.vmkd f_0) (by omega)) (show yMapRangeS.vmkd f_0 (k) from HM.out.1)) (by omega) (by have := HK.out; omega)).mono ?_
  rintro e w1 ⟨rfl, hb⟩
  have bel0 : Below w.heap.size w w1 := (hbl _).trans (hb.mono (hbl _).size)
  have bA0 : w1.heap[w.heap.size]? = some (.cells #[.slice f_0.p f_0.l.length f_0.c, .slice f_1.p f_1.l.length f_1.c, .slice f_2.p f_2.l.length f_2.c] 32 (0, 0)) := (hb.block _ (by simp)).trans (nw_k _ rfl)
  clear hb
  have hI0 : ¬ (k + ((yMapRangeS.vcnt f_0 : Nat) : Int) < 0) := by omega
  have c0 : w1.cell? ⟨w.heap.size, 0, none⟩ = some (.slice f_0.p f_0.l.length f_0.c) := heap_cell bA0 0
  have c1 : w1.cell? ⟨w.heap.size, 1, none⟩ = some (.slice f_1.p f_1.l.length f_1.c) := heap_cell bA0 1
  have c2 : w1.cell? ⟨w.heap.size, 2, none⟩ = some (.slice f_2.p f_2.l.length f_2.c) := heap_cell bA0 2
  have HC1 : Hid (∀ (k : Int) (w : World), yI.rd w f_1 → yI.vmkd f_1 k → 0 ≤ k → k + (yI.vcnt f_1 : Int) ≤ 1000000000000000 → Calls Try.prog 73 #[.slice f_1.p f_1.l.length f_1.c, .int .i64 k] w fun e w' => e = .returned (.int .i64 (k + (yI.vcnt f_1 : Int))) ∧ Below w.heap.size w w') := Hid.intro (yI_held f_1)
  go_wp2_with fail
  refine (HC1.out _ _ (yI_law.rd_blw HR.out.2.1 bel0) (cast (congrArg (yI.vmkd f_1) (by omega)) (show yI.vmkd f_1 (k + ((yMapRangeS.vcnt f_0 : Nat) : Int)) from HM.out.2.1)) (by omega) (by have := HK.out; omega)).mono ?_
  rintro e w2 ⟨rfl, hb⟩
  have bel1 : Below w.heap.size w w2 := bel0.trans (hb.mono bel0.size)
  have bA1 : w2.heap[w.heap.size]? = some (.cells #[.slice f_0.p f_0.l.length f_0.c, .slice f_1.p f_1.l.length f_1.c, .slice f_2.p f_2.l.length f_2.c] 32 (0, 0)) := (hb.block _ (heap_lt bA0)).trans bA0
  clear bel0 bA0 hI0 c0 c1 c2
  clear hb
  have hI1 : ¬ (k + ((yMapRangeS.vcnt f_0 : Nat) : Int) + ((yI.vcnt f_1 : Nat) : Int) < 0) := by omega
  have c0 : w2.cell? ⟨w.heap.size, 0, none⟩ = some (.slice f_0.p f_0.l.length f_0.c) := heap_cell bA1 0
  have c1 : w2.cell? ⟨w.heap.size, 1, none⟩ = some (.slice f_1.p f_1.l.length f_1.c) := heap_cell bA1 1
  have c2 : w2.cell? ⟨w.heap.size, 2, none⟩ = some (.slice f_2.p f_2.l.length f_2.c) := heap_cell bA1 2
  have HC2 : Hid (∀ (k : Int) (w : World), yReqReqSS.rd w f_2 → yReqReqSS.vmkd f_2 k → 0 ≤ k → k + (yReqReqSS.vcnt f_2 : Int) ≤ 1000000000000000 → Calls Try.prog 74 #[.slice f_2.p f_2.l.length f_2.c, .int .i64 k] w fun e w' => e = .returned (.int .i64 (k + (yReqReqSS.vcnt f_2 : Int))) ∧ Below w.heap.size w w') := Hid.intro (yReqReqSS_held f_2)
  go_wp2_with fail
  refine (HC2.out _ _ (yReqReqSS_law.rd_blw HR.out.2.2 bel1) (cast (congrArg (yReqReqSS.vmkd f_2) (by omega)) (show yReqReqSS.vmkd f_2 (k + ((yMapRangeS.vcnt f_0 : Nat) : Int) + ((yI.vcnt f_1 : Nat) : Int)) from HM.out.2.2)) (by omega) (by have := HK.out; omega)).mono ?_
  rintro e w3 ⟨rfl, hb⟩
  have bel2 : Below w.heap.size w w3 := bel1.trans (hb.mono bel1.size)
  have bA2 : w3.heap[w.heap.size]? = some (.cells #[.slice f_0.p f_0.l.length f_0.c, .slice f_1.p f_1.l.length f_1.c, .slice f_2.p f_2.l.length f_2.c] 32 (0, 0)) := (hb.block _ (heap_lt bA1)).trans bA1
  clear bel1 bA1 hI1 c0 c1 c2
  clear hb
  have hI2 : ¬ (k + ((yMapRangeS.vcnt f_0 : Nat) : Int) + ((yI.vcnt f_1 : Nat) : Int) + ((yReqReqSS.vcnt f_2 : Nat) : Int) < 0) := by omega
  have c0 : w3.cell? ⟨w.heap.size, 0, none⟩ = some (.slice f_0.p f_0.l.length f_0.c) := heap_cell bA2 0
  have c1 : w3.cell? ⟨w.heap.size, 1, none⟩ = some (.slice f_1.p f_1.l.length f_1.c) := heap_cell bA2 1
  have c2 : w3.cell? ⟨w.heap.size, 2, none⟩ = some (.slice f_2.p f_2.l.length f_2.c) := heap_cell bA2 2
  clear HR HM
  go_wp2
  go_ret
  refine ⟨?_, bel2⟩
  show _ = Ending.returned (Value.int .i64 (k + ((yMapRangeS.vcnt f_0 + (yI.vcnt f_1 + (yReqReqSS.vcnt f_2)) : Nat) : Int)))
  exact congrArg (fun z => Ending.returned (Value.int .i64 z)) (by omega)

end Go.Proofs.Ytgjlkmhbaimjpaa
