/-
  CycState: the laws' functions, by contract of kinds.
-/
import Derived.Test.YtpjfkimgienkbabKAtmStateM
import Derived.Test.YtpjfkimgienkbabKCycPort
import Derived.Test.YtpjfkimgienkbabKCycSlave
import Derived.Test.YtpjfkimgienkbabKTlmJob
import Derived.Test.YtpjfkimgienkbabKndI
import Derived.Test.YtpjfkimgienkbabKndLM
import Derived.Test.YtpjfkimgienkbabOpsXM
namespace Go.Proofs.Ytpjfkimgienkbab
open Go.RowKit
set_option linter.unusedSimpArgs false
set_option linter.unusedVariables false

def yCycState : Knd ((((Lst Int)) × (Lst Int)) × (Lst (Int × (Lst Int) × (Lst (Int × Int × Int)) × Int)) × (Lst ((Lst (Int × Int × Int)) × (Lst (Int × Int × (Int × Int × (Lst Int)))) × Int)) × (Lst (Int × Int × (Int × Int × (Lst Int))))) ((((List Int)) × (List Int)) × (List (Int × (List Int) × (List (Int × Int × Int)) × Int)) × (List ((List (Int × Int × Int)) × (List (Int × Int × (Int × Int × (List Int)))) × Int)) × (List (Int × Int × (Int × Int × (List Int))))) := gRec (gPair yAtmState (gPair yCycPortS (gPair yCycSlaveS yTlmJobS)))
theorem yCycState_law : KLaw yCycState := gRec_law (gPair_law yAtmState_law (gPair_law yCycPortS_law (gPair_law yCycSlaveS_law yTlmJobS_law)))
theorem yCycState_val (f : ((((Lst Int)) × (Lst Int)) × (Lst (Int × (Lst Int) × (Lst (Int × Int × Int)) × Int)) × (Lst ((Lst (Int × Int × Int)) × (Lst (Int × Int × (Int × Int × (Lst Int)))) × Int)) × (Lst (Int × Int × (Int × Int × (Lst Int)))))) : yCycState.val f = .agg #[.slice f.1.1.p f.1.1.l.length f.1.1.c, .slice f.1.2.p f.1.2.l.length f.1.2.c, .slice f.2.1.p f.2.1.l.length f.2.1.c, .slice f.2.2.1.p f.2.2.1.l.length f.2.2.1.c, .slice f.2.2.2.p f.2.2.2.l.length f.2.2.2.c] := rfl
theorem yCycState_cells (f : ((((Lst Int)) × (Lst Int)) × (Lst (Int × (Lst Int) × (Lst (Int × Int × Int)) × Int)) × (Lst ((Lst (Int × Int × Int)) × (Lst (Int × Int × (Int × Int × (Lst Int)))) × Int)) × (Lst (Int × Int × (Int × Int × (Lst Int)))))) : yCycState.cells f = [.slice f.1.1.p f.1.1.l.length f.1.1.c, .slice f.1.2.p f.1.2.l.length f.1.2.c, .slice f.2.1.p f.2.1.l.length f.2.1.c, .slice f.2.2.1.p f.2.2.1.l.length f.2.2.1.c, .slice f.2.2.2.p f.2.2.2.l.length f.2.2.2.c] := rfl

set_option maxRecDepth 100000 in
set_option maxHeartbeats 2000000 in
theorem yCycState_eq : EqC yCycState 7 := by
  rintro ⟨⟨f_0_0_0, f_0_1⟩, f_1, f_2, f_3⟩ ⟨⟨g_0_0_0, g_0_1⟩, g_1, g_2, g_3⟩ w hr hr' hp
  have hp' : ((yAtmState.pl (f_0_0_0, f_0_1), yCycPortS.pl f_1, yCycSlaveS.pl f_2, yTlmJobS.pl f_3) : ((((List Int)) × (List Int)) × (List (Int × (List Int) × (List (Int × Int × Int)) × Int)) × (List ((List (Int × Int × Int)) × (List (Int × Int × (Int × Int × (List Int)))) × Int)) × (List (Int × Int × (Int × Int × (List Int)))))) = (yAtmState.pl (g_0_0_0, g_0_1), yCycPortS.pl g_1, yCycSlaveS.pl g_2, yTlmJobS.pl g_3) := hp
  clear hp
  simp only [Prod.mk.injEq] at hp'
  obtain ⟨p0, p1, p2, p3⟩ := hp'
  have HR := Hid.intro hr
  have HQ := Hid.intro hr'
  clear hr hr'
  have hbl : ∀ o o', Below w.heap.size w ((w.alloc o).alloc o') := fun o o' => ((Below.refl _ w).alloc (Nat.le_refl _) o).alloc (by simp) o'
  show Calls Try.prog 7 #[.agg #[.slice f_0_0_0.p f_0_0_0.l.length f_0_0_0.c, .slice f_0_1.p f_0_1.l.length f_0_1.c, .slice f_1.p f_1.l.length f_1.c, .slice f_2.p f_2.l.length f_2.c, .slice f_3.p f_3.l.length f_3.c], .agg #[.slice g_0_0_0.p g_0_0_0.l.length g_0_0_0.c, .slice g_0_1.p g_0_1.l.length g_0_1.c, .slice g_1.p g_1.l.length g_1.c, .slice g_2.p g_2.l.length g_2.c, .slice g_3.p g_3.l.length g_3.c]] w _
  go_enter Try.func7, Try.ntmps7
  have HC0 : Hid (∀ (w : World), yAtmState.rd w (f_0_0_0, f_0_1) → yAtmState.rd w (g_0_0_0, g_0_1) → yAtmState.pl (f_0_0_0, f_0_1) = yAtmState.pl (g_0_0_0, g_0_1) → Calls Try.prog 19 #[.agg #[.slice f_0_0_0.p f_0_0_0.l.length f_0_0_0.c, .slice f_0_1.p f_0_1.l.length f_0_1.c], .agg #[.slice g_0_0_0.p g_0_0_0.l.length g_0_0_0.c, .slice g_0_1.p g_0_1.l.length g_0_1.c]] w fun e w' => e = .returned (.bool true) ∧ Below w.heap.size w w') := Hid.intro (yAtmState_eq (f_0_0_0, f_0_1) (g_0_0_0, g_0_1))
  go_wp2_with fail
  refine (HC0.out _ (yAtmState_law.rd_blw HR.out.1 (hbl _ _)) (yAtmState_law.rd_blw HQ.out.1 (hbl _ _)) p0).mono ?_
  clear HC0
  rintro e w1 ⟨rfl, hb⟩
  have bel0 : Below w.heap.size w w1 := (hbl _ _).trans (hb.mono (hbl _ _).size)
  have bA0 : w1.heap[w.heap.size]? = some (.cells #[.slice f_0_0_0.p f_0_0_0.l.length f_0_0_0.c, .slice f_0_1.p f_0_1.l.length f_0_1.c, .slice f_1.p f_1.l.length f_1.c, .slice f_2.p f_2.l.length f_2.c, .slice f_3.p f_3.l.length f_3.c] 31 (0, 0)) := (hb.block _ (by simp <;> omega)).trans ((Below.heap_alloc _ _ _ (by simp)).trans (nw_k _ rfl))
  have bB0 : w1.heap[w.heap.size + 1]? = some (.cells #[.slice g_0_0_0.p g_0_0_0.l.length g_0_0_0.c, .slice g_0_1.p g_0_1.l.length g_0_1.c, .slice g_1.p g_1.l.length g_1.c, .slice g_2.p g_2.l.length g_2.c, .slice g_3.p g_3.l.length g_3.c] 31 (0, 0)) := (hb.block _ (by simp)).trans (nw_k _ (by simp))
  clear hb
  have c0 : w1.cell? ⟨w.heap.size, 0, none⟩ = some (.slice f_0_0_0.p f_0_0_0.l.length f_0_0_0.c) := heap_cell bA0 0
  have c1 : w1.cell? ⟨w.heap.size, 1, none⟩ = some (.slice f_0_1.p f_0_1.l.length f_0_1.c) := heap_cell bA0 1
  have c2 : w1.cell? ⟨w.heap.size, 2, none⟩ = some (.slice f_1.p f_1.l.length f_1.c) := heap_cell bA0 2
  have c3 : w1.cell? ⟨w.heap.size, 3, none⟩ = some (.slice f_2.p f_2.l.length f_2.c) := heap_cell bA0 3
  have c4 : w1.cell? ⟨w.heap.size, 4, none⟩ = some (.slice f_3.p f_3.l.length f_3.c) := heap_cell bA0 4
  have d0 : w1.cell? ⟨w.heap.size + 1, 0, none⟩ = some (.slice g_0_0_0.p g_0_0_0.l.length g_0_0_0.c) := heap_cell bB0 0
  have d1 : w1.cell? ⟨w.heap.size + 1, 1, none⟩ = some (.slice g_0_1.p g_0_1.l.length g_0_1.c) := heap_cell bB0 1
  have d2 : w1.cell? ⟨w.heap.size + 1, 2, none⟩ = some (.slice g_1.p g_1.l.length g_1.c) := heap_cell bB0 2
  have d3 : w1.cell? ⟨w.heap.size + 1, 3, none⟩ = some (.slice g_2.p g_2.l.length g_2.c) := heap_cell bB0 3
  have d4 : w1.cell? ⟨w.heap.size + 1, 4, none⟩ = some (.slice g_3.p g_3.l.length g_3.c) := heap_cell bB0 4
  have HC1 : Hid (∀ (w : World), yCycPortS.rd w f_1 → yCycPortS.rd w g_1 → yCycPortS.pl f_1 = yCycPortS.pl g_1 → Calls Try.prog 20 #[.slice f_1.p f_1.l.length f_1.c, .slice g_1.p g_1.l.length g_1.c] w fun e w' => e = .returned (.bool true) ∧ Below w.heap.size w w') := Hid.intro (yCycPortS_eq f_1 g_1)
  go_wp2_with fail
  refine (HC1.out w1 (yCycPortS_law.rd_blw HR.out.2.1 bel0) (yCycPortS_law.rd_blw HQ.out.2.1 bel0) p1).mono ?_
  clear HC1
  rintro e w2 ⟨rfl, hb⟩
  have bel1 : Below w.heap.size w w2 := bel0.trans (hb.mono bel0.size)
  have bA1 : w2.heap[w.heap.size]? = some (.cells #[.slice f_0_0_0.p f_0_0_0.l.length f_0_0_0.c, .slice f_0_1.p f_0_1.l.length f_0_1.c, .slice f_1.p f_1.l.length f_1.c, .slice f_2.p f_2.l.length f_2.c, .slice f_3.p f_3.l.length f_3.c] 31 (0, 0)) := (hb.block _ (heap_lt bA0)).trans bA0
  have bB1 : w2.heap[w.heap.size + 1]? = some (.cells #[.slice g_0_0_0.p g_0_0_0.l.length g_0_0_0.c, .slice g_0_1.p g_0_1.l.length g_0_1.c, .slice g_1.p g_1.l.length g_1.c, .slice g_2.p g_2.l.length g_2.c, .slice g_3.p g_3.l.length g_3.c] 31 (0, 0)) := (hb.block _ (heap_lt bB0)).trans bB0
  clear bel0 bA0 bB0 c0 c1 c2 c3 c4 d0 d1 d2 d3 d4
  clear hb
  have c0 : w2.cell? ⟨w.heap.size, 0, none⟩ = some (.slice f_0_0_0.p f_0_0_0.l.length f_0_0_0.c) := heap_cell bA1 0
  have c1 : w2.cell? ⟨w.heap.size, 1, none⟩ = some (.slice f_0_1.p f_0_1.l.length f_0_1.c) := heap_cell bA1 1
  have c2 : w2.cell? ⟨w.heap.size, 2, none⟩ = some (.slice f_1.p f_1.l.length f_1.c) := heap_cell bA1 2
  have c3 : w2.cell? ⟨w.heap.size, 3, none⟩ = some (.slice f_2.p f_2.l.length f_2.c) := heap_cell bA1 3
  have c4 : w2.cell? ⟨w.heap.size, 4, none⟩ = some (.slice f_3.p f_3.l.length f_3.c) := heap_cell bA1 4
  have d0 : w2.cell? ⟨w.heap.size + 1, 0, none⟩ = some (.slice g_0_0_0.p g_0_0_0.l.length g_0_0_0.c) := heap_cell bB1 0
  have d1 : w2.cell? ⟨w.heap.size + 1, 1, none⟩ = some (.slice g_0_1.p g_0_1.l.length g_0_1.c) := heap_cell bB1 1
  have d2 : w2.cell? ⟨w.heap.size + 1, 2, none⟩ = some (.slice g_1.p g_1.l.length g_1.c) := heap_cell bB1 2
  have d3 : w2.cell? ⟨w.heap.size + 1, 3, none⟩ = some (.slice g_2.p g_2.l.length g_2.c) := heap_cell bB1 3
  have d4 : w2.cell? ⟨w.heap.size + 1, 4, none⟩ = some (.slice g_3.p g_3.l.length g_3.c) := heap_cell bB1 4
  have HC2 : Hid (∀ (w : World), yCycSlaveS.rd w f_2 → yCycSlaveS.rd w g_2 → yCycSlaveS.pl f_2 = yCycSlaveS.pl g_2 → Calls Try.prog 21 #[.slice f_2.p f_2.l.length f_2.c, .slice g_2.p g_2.l.length g_2.c] w fun e w' => e = .returned (.bool true) ∧ Below w.heap.size w w') := Hid.intro (yCycSlaveS_eq f_2 g_2)
  go_wp2_with fail
  refine (HC2.out w2 (yCycSlaveS_law.rd_blw HR.out.2.2.1 bel1) (yCycSlaveS_law.rd_blw HQ.out.2.2.1 bel1) p2).mono ?_
  clear HC2
  rintro e w3 ⟨rfl, hb⟩
  have bel2 : Below w.heap.size w w3 := bel1.trans (hb.mono bel1.size)
  have bA2 : w3.heap[w.heap.size]? = some (.cells #[.slice f_0_0_0.p f_0_0_0.l.length f_0_0_0.c, .slice f_0_1.p f_0_1.l.length f_0_1.c, .slice f_1.p f_1.l.length f_1.c, .slice f_2.p f_2.l.length f_2.c, .slice f_3.p f_3.l.length f_3.c] 31 (0, 0)) := (hb.block _ (heap_lt bA1)).trans bA1
  have bB2 : w3.heap[w.heap.size + 1]? = some (.cells #[.slice g_0_0_0.p g_0_0_0.l.length g_0_0_0.c, .slice g_0_1.p g_0_1.l.length g_0_1.c, .slice g_1.p g_1.l.length g_1.c, .slice g_2.p g_2.l.length g_2.c, .slice g_3.p g_3.l.length g_3.c] 31 (0, 0)) := (hb.block _ (heap_lt bB1)).trans bB1
  clear bel1 bA1 bB1 c0 c1 c2 c3 c4 d0 d1 d2 d3 d4
  clear hb
  have c0 : w3.cell? ⟨w.heap.size, 0, none⟩ = some (.slice f_0_0_0.p f_0_0_0.l.length f_0_0_0.c) := heap_cell bA2 0
  have c1 : w3.cell? ⟨w.heap.size, 1, none⟩ = some (.slice f_0_1.p f_0_1.l.length f_0_1.c) := heap_cell bA2 1
  have c2 : w3.cell? ⟨w.heap.size, 2, none⟩ = some (.slice f_1.p f_1.l.length f_1.c) := heap_cell bA2 2
  have c3 : w3.cell? ⟨w.heap.size, 3, none⟩ = some (.slice f_2.p f_2.l.length f_2.c) := heap_cell bA2 3
  have c4 : w3.cell? ⟨w.heap.size, 4, none⟩ = some (.slice f_3.p f_3.l.length f_3.c) := heap_cell bA2 4
  have d0 : w3.cell? ⟨w.heap.size + 1, 0, none⟩ = some (.slice g_0_0_0.p g_0_0_0.l.length g_0_0_0.c) := heap_cell bB2 0
  have d1 : w3.cell? ⟨w.heap.size + 1, 1, none⟩ = some (.slice g_0_1.p g_0_1.l.length g_0_1.c) := heap_cell bB2 1
  have d2 : w3.cell? ⟨w.heap.size + 1, 2, none⟩ = some (.slice g_1.p g_1.l.length g_1.c) := heap_cell bB2 2
  have d3 : w3.cell? ⟨w.heap.size + 1, 3, none⟩ = some (.slice g_2.p g_2.l.length g_2.c) := heap_cell bB2 3
  have d4 : w3.cell? ⟨w.heap.size + 1, 4, none⟩ = some (.slice g_3.p g_3.l.length g_3.c) := heap_cell bB2 4
  have HC3 : Hid (∀ (w : World), yTlmJobS.rd w f_3 → yTlmJobS.rd w g_3 → yTlmJobS.pl f_3 = yTlmJobS.pl g_3 → Calls Try.prog 14 #[.slice f_3.p f_3.l.length f_3.c, .slice g_3.p g_3.l.length g_3.c] w fun e w' => e = .returned (.bool true) ∧ Below w.heap.size w w') := Hid.intro (yTlmJobS_eq f_3 g_3)
  go_wp2_with fail
  refine (HC3.out w3 (yTlmJobS_law.rd_blw HR.out.2.2.2 bel2) (yTlmJobS_law.rd_blw HQ.out.2.2.2 bel2) p3).mono ?_
  clear HC3
  rintro e w4 ⟨rfl, hb⟩
  have bel3 : Below w.heap.size w w4 := bel2.trans (hb.mono bel2.size)
  have bA3 : w4.heap[w.heap.size]? = some (.cells #[.slice f_0_0_0.p f_0_0_0.l.length f_0_0_0.c, .slice f_0_1.p f_0_1.l.length f_0_1.c, .slice f_1.p f_1.l.length f_1.c, .slice f_2.p f_2.l.length f_2.c, .slice f_3.p f_3.l.length f_3.c] 31 (0, 0)) := (hb.block _ (heap_lt bA2)).trans bA2
  have bB3 : w4.heap[w.heap.size + 1]? = some (.cells #[.slice g_0_0_0.p g_0_0_0.l.length g_0_0_0.c, .slice g_0_1.p g_0_1.l.length g_0_1.c, .slice g_1.p g_1.l.length g_1.c, .slice g_2.p g_2.l.length g_2.c, .slice g_3.p g_3.l.length g_3.c] 31 (0, 0)) := (hb.block _ (heap_lt bB2)).trans bB2
  clear bel2 bA2 bB2 c0 c1 c2 c3 c4 d0 d1 d2 d3 d4
  clear hb
  have c0 : w4.cell? ⟨w.heap.size, 0, none⟩ = some (.slice f_0_0_0.p f_0_0_0.l.length f_0_0_0.c) := heap_cell bA3 0
  have c1 : w4.cell? ⟨w.heap.size, 1, none⟩ = some (.slice f_0_1.p f_0_1.l.length f_0_1.c) := heap_cell bA3 1
  have c2 : w4.cell? ⟨w.heap.size, 2, none⟩ = some (.slice f_1.p f_1.l.length f_1.c) := heap_cell bA3 2
  have c3 : w4.cell? ⟨w.heap.size, 3, none⟩ = some (.slice f_2.p f_2.l.length f_2.c) := heap_cell bA3 3
  have c4 : w4.cell? ⟨w.heap.size, 4, none⟩ = some (.slice f_3.p f_3.l.length f_3.c) := heap_cell bA3 4
  have d0 : w4.cell? ⟨w.heap.size + 1, 0, none⟩ = some (.slice g_0_0_0.p g_0_0_0.l.length g_0_0_0.c) := heap_cell bB3 0
  have d1 : w4.cell? ⟨w.heap.size + 1, 1, none⟩ = some (.slice g_0_1.p g_0_1.l.length g_0_1.c) := heap_cell bB3 1
  have d2 : w4.cell? ⟨w.heap.size + 1, 2, none⟩ = some (.slice g_1.p g_1.l.length g_1.c) := heap_cell bB3 2
  have d3 : w4.cell? ⟨w.heap.size + 1, 3, none⟩ = some (.slice g_2.p g_2.l.length g_2.c) := heap_cell bB3 3
  have d4 : w4.cell? ⟨w.heap.size + 1, 4, none⟩ = some (.slice g_3.p g_3.l.length g_3.c) := heap_cell bB3 4
  clear HR HQ
  go_wp2
  go_ret
  exact ⟨rfl, bel3⟩

set_option maxRecDepth 100000 in
set_option maxHeartbeats 2000000 in
theorem yCycState_mark : MarkC yCycState 8 := by
  rintro ⟨⟨f_0_0_0, f_0_1⟩, f_1, f_2, f_3⟩ k w ho hn h0 h1
  have hbl : ∀ o, Below w.heap.size w (w.alloc o) := fun o => (Below.refl _ w).alloc (Nat.le_refl _) o
  have HK : Hid (k + ((yAtmState.vcnt (f_0_0_0, f_0_1) + (yCycPortS.vcnt f_1 + (yCycSlaveS.vcnt f_2 + (yTlmJobS.vcnt f_3))) : Nat) : Int) ≤ 1000000000000000) := Hid.intro h1
  have HL := Hid.intro (yCycState_law.ow_lt ho)
  have r0 : (yAtmState.foot (f_0_0_0, f_0_1) ++ (yCycPortS.foot f_1 ++ (yCycSlaveS.foot f_2 ++ (yTlmJobS.foot f_3)))).Nodup := hn
  obtain ⟨n0, r1, d0⟩ := nd2 r0
  obtain ⟨n1, r2, d1⟩ := nd2 r1
  obtain ⟨n2, r3, d2⟩ := nd2 r2
  have n3 := r3
  have HN := Hid.intro (And.intro n0 trivial)
  have HN0 := Hid.intro n0
  have HN1 := Hid.intro n1
  have HN2 := Hid.intro n2
  have HN3 := Hid.intro n3
  have HD0 := Hid.intro d0
  have HD1 := Hid.intro d1
  have HD2 := Hid.intro d2
  have HO := Hid.intro ho
  clear ho hn h1 HN n0 n1 n2 n3 r0 r1 r2 r3 d0 d1 d2
  show Calls Try.prog 8 #[.agg #[.slice f_0_0_0.p f_0_0_0.l.length f_0_0_0.c, .slice f_0_1.p f_0_1.l.length f_0_1.c, .slice f_1.p f_1.l.length f_1.c, .slice f_2.p f_2.l.length f_2.c, .slice f_3.p f_3.l.length f_3.c], .int .i64 k] w _
  go_enter Try.func8, Try.ntmps8
  have HC0 : Hid (∀ (k : Int) (w : World), yAtmState.ow w (f_0_0_0, f_0_1) → (yAtmState.foot (f_0_0_0, f_0_1)).Nodup → 0 ≤ k → k + (yAtmState.vcnt (f_0_0_0, f_0_1) : Int) ≤ 1000000000000000 → Calls Try.prog 22 #[.agg #[.slice f_0_0_0.p f_0_0_0.l.length f_0_0_0.c, .slice f_0_1.p f_0_1.l.length f_0_1.c], .int .i64 k] w fun e w' => e = .returned (.int .i64 (k + (yAtmState.vcnt (f_0_0_0, f_0_1) : Int))) ∧ Kept (fun b => b ∈ yAtmState.foot (f_0_0_0, f_0_1)) w w' ∧ ∃ a', yAtmState.val a' = yAtmState.val (f_0_0_0, f_0_1) ∧ yAtmState.cells a' = yAtmState.cells (f_0_0_0, f_0_1) ∧ yAtmState.foot a' = yAtmState.foot (f_0_0_0, f_0_1) ∧ yAtmState.vcnt a' = yAtmState.vcnt (f_0_0_0, f_0_1) ∧ yAtmState.ow w' a' ∧ yAtmState.vmkd a' k) := Hid.intro (yAtmState_mark (f_0_0_0, f_0_1))
  go_wp2_with fail
  refine (HC0.out _ _ (yAtmState_law.ow_of HO.out.1 (fun b hb => (hbl _).block b (HL.out b (show _ ∈ yAtmState.foot (f_0_0_0, f_0_1) ++ (yCycPortS.foot f_1 ++ (yCycSlaveS.foot f_2 ++ (yTlmJobS.foot f_3))) from List.mem_append.2 (.inl hb))))) HN0.out (by omega) (by have := HK.out; omega)).mono ?_
  clear HC0
  rintro e w1 ⟨rfl, hk, ⟨x0_0_0, x0_1⟩, hv0, hc0, hf0, hn0, hw0, hm0⟩
  have bA0 : w1.heap[w.heap.size]? = some (.cells #[.slice f_0_0_0.p f_0_0_0.l.length f_0_0_0.c, .slice f_0_1.p f_0_1.l.length f_0_1.c, .slice f_1.p f_1.l.length f_1.c, .slice f_2.p f_2.l.length f_2.c, .slice f_3.p f_3.l.length f_3.c] 31 (0, 0)) := (hk.block _ (by simp) (fun hb => by have := HL.out _ (show _ ∈ yAtmState.foot (f_0_0_0, f_0_1) ++ (yCycPortS.foot f_1 ++ (yCycSlaveS.foot f_2 ++ (yTlmJobS.foot f_3))) from List.mem_append.2 (.inl hb)); omega)).trans (nw_k _ rfl)
  have hk0 : Kept (fun b => b ∈ yAtmState.foot (f_0_0_0, f_0_1)) w w1 := (Kept.of_below (hbl _)).trans hk
  clear hk
  have c0 : w1.cell? ⟨w.heap.size, 0, none⟩ = some (.slice f_0_0_0.p f_0_0_0.l.length f_0_0_0.c) := heap_cell bA0 0
  have c1 : w1.cell? ⟨w.heap.size, 1, none⟩ = some (.slice f_0_1.p f_0_1.l.length f_0_1.c) := heap_cell bA0 1
  have c2 : w1.cell? ⟨w.heap.size, 2, none⟩ = some (.slice f_1.p f_1.l.length f_1.c) := heap_cell bA0 2
  have c3 : w1.cell? ⟨w.heap.size, 3, none⟩ = some (.slice f_2.p f_2.l.length f_2.c) := heap_cell bA0 3
  have c4 : w1.cell? ⟨w.heap.size, 4, none⟩ = some (.slice f_3.p f_3.l.length f_3.c) := heap_cell bA0 4
  have ho1 : yCycPortS.ow w1 f_1 := yCycPortS_law.ow_of HO.out.2.1 (fun b hb => hk0.block b (HL.out b (show _ ∈ yAtmState.foot (f_0_0_0, f_0_1) ++ (yCycPortS.foot f_1 ++ (yCycSlaveS.foot f_2 ++ (yTlmJobS.foot f_3))) from List.mem_append.2 (.inr (List.mem_append.2 (.inl hb))))) (by
      rintro hd
      · exact HD0.out b (List.mem_append.2 (.inl hb)) hd))
  have HC1 : Hid (∀ (k : Int) (w : World), yCycPortS.ow w f_1 → (yCycPortS.foot f_1).Nodup → 0 ≤ k → k + (yCycPortS.vcnt f_1 : Int) ≤ 1000000000000000 → Calls Try.prog 23 #[.slice f_1.p f_1.l.length f_1.c, .int .i64 k] w fun e w' => e = .returned (.int .i64 (k + (yCycPortS.vcnt f_1 : Int))) ∧ Kept (fun b => b ∈ yCycPortS.foot f_1) w w' ∧ ∃ a', yCycPortS.val a' = yCycPortS.val f_1 ∧ yCycPortS.cells a' = yCycPortS.cells f_1 ∧ yCycPortS.foot a' = yCycPortS.foot f_1 ∧ yCycPortS.vcnt a' = yCycPortS.vcnt f_1 ∧ yCycPortS.ow w' a' ∧ yCycPortS.vmkd a' k) := Hid.intro (yCycPortS_mark f_1)
  go_wp2_with fail
  refine (HC1.out _ _ ho1 HN1.out (by omega) (by have := HK.out; omega)).mono ?_
  clear HC1
  rintro e w2 ⟨rfl, hk, x1, hv1, hc1, hf1, hn1, hw1, hm1⟩
  have bA1 : w2.heap[w.heap.size]? = some (.cells #[.slice f_0_0_0.p f_0_0_0.l.length f_0_0_0.c, .slice f_0_1.p f_0_1.l.length f_0_1.c, .slice f_1.p f_1.l.length f_1.c, .slice f_2.p f_2.l.length f_2.c, .slice f_3.p f_3.l.length f_3.c] 31 (0, 0)) := (hk.block _ (heap_lt bA0) (fun hb => by have := HL.out _ (show _ ∈ yAtmState.foot (f_0_0_0, f_0_1) ++ (yCycPortS.foot f_1 ++ (yCycSlaveS.foot f_2 ++ (yTlmJobS.foot f_3))) from List.mem_append.2 (.inr (List.mem_append.2 (.inl hb)))); omega)).trans bA0
  replace hw0 : yAtmState.ow w2 (x0_0_0, x0_1) := yAtmState_law.ow_of hw0 (fun b hb => hk.block b (yAtmState_law.ow_lt hw0 b hb) (fun hd => by rw [hf0] at hb; exact HD0.out b (List.mem_append.2 (.inl hd)) hb))
  have hk1 : Kept (fun b => (b ∈ yAtmState.foot (f_0_0_0, f_0_1)) ∨ b ∈ yCycPortS.foot f_1) w w2 := (hk0.mono (fun b h => Or.inl h)).trans (hk.mono (fun b h => Or.inr h))
  clear bA0 hk0 ho1 c0 c1 c2 c3 c4
  clear hk
  have c0 : w2.cell? ⟨w.heap.size, 0, none⟩ = some (.slice f_0_0_0.p f_0_0_0.l.length f_0_0_0.c) := heap_cell bA1 0
  have c1 : w2.cell? ⟨w.heap.size, 1, none⟩ = some (.slice f_0_1.p f_0_1.l.length f_0_1.c) := heap_cell bA1 1
  have c2 : w2.cell? ⟨w.heap.size, 2, none⟩ = some (.slice f_1.p f_1.l.length f_1.c) := heap_cell bA1 2
  have c3 : w2.cell? ⟨w.heap.size, 3, none⟩ = some (.slice f_2.p f_2.l.length f_2.c) := heap_cell bA1 3
  have c4 : w2.cell? ⟨w.heap.size, 4, none⟩ = some (.slice f_3.p f_3.l.length f_3.c) := heap_cell bA1 4
  have ho2 : yCycSlaveS.ow w2 f_2 := yCycSlaveS_law.ow_of HO.out.2.2.1 (fun b hb => hk1.block b (HL.out b (show _ ∈ yAtmState.foot (f_0_0_0, f_0_1) ++ (yCycPortS.foot f_1 ++ (yCycSlaveS.foot f_2 ++ (yTlmJobS.foot f_3))) from List.mem_append.2 (.inr (List.mem_append.2 (.inr (List.mem_append.2 (.inl hb))))))) (by
      rintro (hd | hd)
      · exact HD0.out b (List.mem_append.2 (.inr (List.mem_append.2 (.inl hb)))) hd
      · exact HD1.out b (List.mem_append.2 (.inl hb)) hd))
  have HC2 : Hid (∀ (k : Int) (w : World), yCycSlaveS.ow w f_2 → (yCycSlaveS.foot f_2).Nodup → 0 ≤ k → k + (yCycSlaveS.vcnt f_2 : Int) ≤ 1000000000000000 → Calls Try.prog 24 #[.slice f_2.p f_2.l.length f_2.c, .int .i64 k] w fun e w' => e = .returned (.int .i64 (k + (yCycSlaveS.vcnt f_2 : Int))) ∧ Kept (fun b => b ∈ yCycSlaveS.foot f_2) w w' ∧ ∃ a', yCycSlaveS.val a' = yCycSlaveS.val f_2 ∧ yCycSlaveS.cells a' = yCycSlaveS.cells f_2 ∧ yCycSlaveS.foot a' = yCycSlaveS.foot f_2 ∧ yCycSlaveS.vcnt a' = yCycSlaveS.vcnt f_2 ∧ yCycSlaveS.ow w' a' ∧ yCycSlaveS.vmkd a' k) := Hid.intro (yCycSlaveS_mark f_2)
  go_wp2_with fail
  refine (HC2.out _ _ ho2 HN2.out (by omega) (by have := HK.out; omega)).mono ?_
  clear HC2
  rintro e w3 ⟨rfl, hk, x2, hv2, hc2, hf2, hn2, hw2, hm2⟩
  have bA2 : w3.heap[w.heap.size]? = some (.cells #[.slice f_0_0_0.p f_0_0_0.l.length f_0_0_0.c, .slice f_0_1.p f_0_1.l.length f_0_1.c, .slice f_1.p f_1.l.length f_1.c, .slice f_2.p f_2.l.length f_2.c, .slice f_3.p f_3.l.length f_3.c] 31 (0, 0)) := (hk.block _ (heap_lt bA1) (fun hb => by have := HL.out _ (show _ ∈ yAtmState.foot (f_0_0_0, f_0_1) ++ (yCycPortS.foot f_1 ++ (yCycSlaveS.foot f_2 ++ (yTlmJobS.foot f_3))) from List.mem_append.2 (.inr (List.mem_append.2 (.inr (List.mem_append.2 (.inl hb)))))); omega)).trans bA1
  replace hw0 : yAtmState.ow w3 (x0_0_0, x0_1) := yAtmState_law.ow_of hw0 (fun b hb => hk.block b (yAtmState_law.ow_lt hw0 b hb) (fun hd => by rw [hf0] at hb; exact HD0.out b (List.mem_append.2 (.inr (List.mem_append.2 (.inl hd)))) hb))
  replace hw1 : yCycPortS.ow w3 x1 := yCycPortS_law.ow_of hw1 (fun b hb => hk.block b (yCycPortS_law.ow_lt hw1 b hb) (fun hd => by rw [hf1] at hb; exact HD1.out b (List.mem_append.2 (.inl hd)) hb))
  have hk2 : Kept (fun b => ((b ∈ yAtmState.foot (f_0_0_0, f_0_1)) ∨ b ∈ yCycPortS.foot f_1) ∨ b ∈ yCycSlaveS.foot f_2) w w3 := (hk1.mono (fun b h => Or.inl h)).trans (hk.mono (fun b h => Or.inr h))
  clear bA1 hk1 ho2 c0 c1 c2 c3 c4
  clear hk
  have c0 : w3.cell? ⟨w.heap.size, 0, none⟩ = some (.slice f_0_0_0.p f_0_0_0.l.length f_0_0_0.c) := heap_cell bA2 0
  have c1 : w3.cell? ⟨w.heap.size, 1, none⟩ = some (.slice f_0_1.p f_0_1.l.length f_0_1.c) := heap_cell bA2 1
  have c2 : w3.cell? ⟨w.heap.size, 2, none⟩ = some (.slice f_1.p f_1.l.length f_1.c) := heap_cell bA2 2
  have c3 : w3.cell? ⟨w.heap.size, 3, none⟩ = some (.slice f_2.p f_2.l.length f_2.c) := heap_cell bA2 3
  have c4 : w3.cell? ⟨w.heap.size, 4, none⟩ = some (.slice f_3.p f_3.l.length f_3.c) := heap_cell bA2 4
  have ho3 : yTlmJobS.ow w3 f_3 := yTlmJobS_law.ow_of HO.out.2.2.2 (fun b hb => hk2.block b (HL.out b (show _ ∈ yAtmState.foot (f_0_0_0, f_0_1) ++ (yCycPortS.foot f_1 ++ (yCycSlaveS.foot f_2 ++ (yTlmJobS.foot f_3))) from List.mem_append.2 (.inr (List.mem_append.2 (.inr (List.mem_append.2 (.inr (hb)))))))) (by
      rintro ((hd | hd) | hd)
      · exact HD0.out b (List.mem_append.2 (.inr (List.mem_append.2 (.inr (hb))))) hd
      · exact HD1.out b (List.mem_append.2 (.inr (hb))) hd
      · exact HD2.out b (hb) hd))
  have HC3 : Hid (∀ (k : Int) (w : World), yTlmJobS.ow w f_3 → (yTlmJobS.foot f_3).Nodup → 0 ≤ k → k + (yTlmJobS.vcnt f_3 : Int) ≤ 1000000000000000 → Calls Try.prog 15 #[.slice f_3.p f_3.l.length f_3.c, .int .i64 k] w fun e w' => e = .returned (.int .i64 (k + (yTlmJobS.vcnt f_3 : Int))) ∧ Kept (fun b => b ∈ yTlmJobS.foot f_3) w w' ∧ ∃ a', yTlmJobS.val a' = yTlmJobS.val f_3 ∧ yTlmJobS.cells a' = yTlmJobS.cells f_3 ∧ yTlmJobS.foot a' = yTlmJobS.foot f_3 ∧ yTlmJobS.vcnt a' = yTlmJobS.vcnt f_3 ∧ yTlmJobS.ow w' a' ∧ yTlmJobS.vmkd a' k) := Hid.intro (yTlmJobS_mark f_3)
  go_wp2_with fail
  refine (HC3.out _ _ ho3 HN3.out (by omega) (by have := HK.out; omega)).mono ?_
  clear HC3
  rintro e w4 ⟨rfl, hk, x3, hv3, hc3, hf3, hn3, hw3, hm3⟩
  have bA3 : w4.heap[w.heap.size]? = some (.cells #[.slice f_0_0_0.p f_0_0_0.l.length f_0_0_0.c, .slice f_0_1.p f_0_1.l.length f_0_1.c, .slice f_1.p f_1.l.length f_1.c, .slice f_2.p f_2.l.length f_2.c, .slice f_3.p f_3.l.length f_3.c] 31 (0, 0)) := (hk.block _ (heap_lt bA2) (fun hb => by have := HL.out _ (show _ ∈ yAtmState.foot (f_0_0_0, f_0_1) ++ (yCycPortS.foot f_1 ++ (yCycSlaveS.foot f_2 ++ (yTlmJobS.foot f_3))) from List.mem_append.2 (.inr (List.mem_append.2 (.inr (List.mem_append.2 (.inr (hb))))))); omega)).trans bA2
  replace hw0 : yAtmState.ow w4 (x0_0_0, x0_1) := yAtmState_law.ow_of hw0 (fun b hb => hk.block b (yAtmState_law.ow_lt hw0 b hb) (fun hd => by rw [hf0] at hb; exact HD0.out b (List.mem_append.2 (.inr (List.mem_append.2 (.inr (hd))))) hb))
  replace hw1 : yCycPortS.ow w4 x1 := yCycPortS_law.ow_of hw1 (fun b hb => hk.block b (yCycPortS_law.ow_lt hw1 b hb) (fun hd => by rw [hf1] at hb; exact HD1.out b (List.mem_append.2 (.inr (hd))) hb))
  replace hw2 : yCycSlaveS.ow w4 x2 := yCycSlaveS_law.ow_of hw2 (fun b hb => hk.block b (yCycSlaveS_law.ow_lt hw2 b hb) (fun hd => by rw [hf2] at hb; exact HD2.out b (hd) hb))
  have hk3 : Kept (fun b => (((b ∈ yAtmState.foot (f_0_0_0, f_0_1)) ∨ b ∈ yCycPortS.foot f_1) ∨ b ∈ yCycSlaveS.foot f_2) ∨ b ∈ yTlmJobS.foot f_3) w w4 := (hk2.mono (fun b h => Or.inl h)).trans (hk.mono (fun b h => Or.inr h))
  clear bA2 hk2 ho3 c0 c1 c2 c3 c4
  clear hk
  have c0 : w4.cell? ⟨w.heap.size, 0, none⟩ = some (.slice f_0_0_0.p f_0_0_0.l.length f_0_0_0.c) := heap_cell bA3 0
  have c1 : w4.cell? ⟨w.heap.size, 1, none⟩ = some (.slice f_0_1.p f_0_1.l.length f_0_1.c) := heap_cell bA3 1
  have c2 : w4.cell? ⟨w.heap.size, 2, none⟩ = some (.slice f_1.p f_1.l.length f_1.c) := heap_cell bA3 2
  have c3 : w4.cell? ⟨w.heap.size, 3, none⟩ = some (.slice f_2.p f_2.l.length f_2.c) := heap_cell bA3 3
  have c4 : w4.cell? ⟨w.heap.size, 4, none⟩ = some (.slice f_3.p f_3.l.length f_3.c) := heap_cell bA3 4
  have HF : Hid (Kept (fun b => b ∈ yCycState.foot ((f_0_0_0, f_0_1), f_1, f_2, f_3)) w w4) := Hid.intro (hk3.mono (by
      intro b
      rintro (((hd | hd) | hd) | hd)
      · exact (show _ ∈ yAtmState.foot (f_0_0_0, f_0_1) ++ (yCycPortS.foot f_1 ++ (yCycSlaveS.foot f_2 ++ (yTlmJobS.foot f_3))) from List.mem_append.2 (.inl hd))
      · exact (show _ ∈ yAtmState.foot (f_0_0_0, f_0_1) ++ (yCycPortS.foot f_1 ++ (yCycSlaveS.foot f_2 ++ (yTlmJobS.foot f_3))) from List.mem_append.2 (.inr (List.mem_append.2 (.inl hd))))
      · exact (show _ ∈ yAtmState.foot (f_0_0_0, f_0_1) ++ (yCycPortS.foot f_1 ++ (yCycSlaveS.foot f_2 ++ (yTlmJobS.foot f_3))) from List.mem_append.2 (.inr (List.mem_append.2 (.inr (List.mem_append.2 (.inl hd))))))
      · exact (show _ ∈ yAtmState.foot (f_0_0_0, f_0_1) ++ (yCycPortS.foot f_1 ++ (yCycSlaveS.foot f_2 ++ (yTlmJobS.foot f_3))) from List.mem_append.2 (.inr (List.mem_append.2 (.inr (List.mem_append.2 (.inr (hd)))))))))
  have HA : Hid ((yAtmState.cells (x0_0_0, x0_1) = yAtmState.cells (f_0_0_0, f_0_1) ∧ yAtmState.foot (x0_0_0, x0_1) = yAtmState.foot (f_0_0_0, f_0_1) ∧ yAtmState.vcnt (x0_0_0, x0_1) = yAtmState.vcnt (f_0_0_0, f_0_1) ∧ yAtmState.ow w4 (x0_0_0, x0_1)) ∧ (yCycPortS.cells x1 = yCycPortS.cells f_1 ∧ yCycPortS.foot x1 = yCycPortS.foot f_1 ∧ yCycPortS.vcnt x1 = yCycPortS.vcnt f_1 ∧ yCycPortS.ow w4 x1) ∧ (yCycSlaveS.cells x2 = yCycSlaveS.cells f_2 ∧ yCycSlaveS.foot x2 = yCycSlaveS.foot f_2 ∧ yCycSlaveS.vcnt x2 = yCycSlaveS.vcnt f_2 ∧ yCycSlaveS.ow w4 x2) ∧ (yTlmJobS.cells x3 = yTlmJobS.cells f_3 ∧ yTlmJobS.foot x3 = yTlmJobS.foot f_3 ∧ yTlmJobS.vcnt x3 = yTlmJobS.vcnt f_3 ∧ yTlmJobS.ow w4 x3)) := Hid.intro ⟨⟨hc0, hf0, hn0, hw0⟩, ⟨hc1, hf1, hn1, hw1⟩, ⟨hc2, hf2, hn2, hw2⟩, ⟨hc3, hf3, hn3, hw3⟩⟩
  clear hk3 hv0 hc0 hf0 hw0 hv1 hc1 hf1 hw1 hv2 hc2 hf2 hw2 hv3 hc3 hf3 hw3
  have HM0 := Hid.intro hm0
  have HM1 := Hid.intro hm1
  have HM2 := Hid.intro hm2
  have HM3 := Hid.intro hm3
  clear hm0 hm1 hm2 hm3
  go_wp2
  go_ret
  have hcc : yCycState.cells ((x0_0_0, x0_1), x1, x2, x3) = yCycState.cells ((f_0_0_0, f_0_1), f_1, f_2, f_3) := by
    show yAtmState.cells (x0_0_0, x0_1) ++ (yCycPortS.cells x1 ++ (yCycSlaveS.cells x2 ++ (yTlmJobS.cells x3))) = yAtmState.cells (f_0_0_0, f_0_1) ++ (yCycPortS.cells f_1 ++ (yCycSlaveS.cells f_2 ++ (yTlmJobS.cells f_3)))
    rw [(HA.out.1).1, (HA.out.2.1).1, (HA.out.2.2.1).1, (HA.out.2.2.2).1]
  refine ⟨?_, HF.out, ((x0_0_0, x0_1), x1, x2, x3), ?_, hcc, ?_, ?_, ⟨(HA.out.1).2.2.2, (HA.out.2.1).2.2.2, (HA.out.2.2.1).2.2.2, (HA.out.2.2.2).2.2.2⟩, ?_⟩
  · show _ = Ending.returned (Value.int .i64 (k + ((yAtmState.vcnt (f_0_0_0, f_0_1) + (yCycPortS.vcnt f_1 + (yCycSlaveS.vcnt f_2 + (yTlmJobS.vcnt f_3))) : Nat) : Int)))
    exact congrArg (fun z => Ending.returned (Value.int .i64 z)) (by omega)
  · show Value.agg (yCycState.cells ((x0_0_0, x0_1), x1, x2, x3)).toArray = Value.agg (yCycState.cells ((f_0_0_0, f_0_1), f_1, f_2, f_3)).toArray
    rw [hcc]
  · show yAtmState.foot (x0_0_0, x0_1) ++ (yCycPortS.foot x1 ++ (yCycSlaveS.foot x2 ++ (yTlmJobS.foot x3))) = yAtmState.foot (f_0_0_0, f_0_1) ++ (yCycPortS.foot f_1 ++ (yCycSlaveS.foot f_2 ++ (yTlmJobS.foot f_3)))
    rw [(HA.out.1).2.1, (HA.out.2.1).2.1, (HA.out.2.2.1).2.1, (HA.out.2.2.2).2.1]
  · show yAtmState.vcnt (x0_0_0, x0_1) + (yCycPortS.vcnt x1 + (yCycSlaveS.vcnt x2 + (yTlmJobS.vcnt x3))) = yAtmState.vcnt (f_0_0_0, f_0_1) + (yCycPortS.vcnt f_1 + (yCycSlaveS.vcnt f_2 + (yTlmJobS.vcnt f_3)))
    rw [(HA.out.1).2.2.1, (HA.out.2.1).2.2.1, (HA.out.2.2.1).2.2.1, (HA.out.2.2.2).2.2.1]
  · exact ⟨(show yAtmState.vmkd (x0_0_0, x0_1) (k) from cast (congrArg (yAtmState.vmkd (x0_0_0, x0_1)) (by have hh := HA.out; omega)) HM0.out), (show yCycPortS.vmkd x1 (k + ((yAtmState.vcnt (x0_0_0, x0_1) : Nat) : Int)) from cast (congrArg (yCycPortS.vmkd x1) (by have hh := HA.out; omega)) HM1.out), (show yCycSlaveS.vmkd x2 (k + ((yAtmState.vcnt (x0_0_0, x0_1) : Nat) : Int) + ((yCycPortS.vcnt x1 : Nat) : Int)) from cast (congrArg (yCycSlaveS.vmkd x2) (by have hh := HA.out; omega)) HM2.out), (show yTlmJobS.vmkd x3 (k + ((yAtmState.vcnt (x0_0_0, x0_1) : Nat) : Int) + ((yCycPortS.vcnt x1 : Nat) : Int) + ((yCycSlaveS.vcnt x2 : Nat) : Int)) from cast (congrArg (yTlmJobS.vmkd x3) (by have hh := HA.out; omega)) HM3.out)⟩

set_option maxRecDepth 100000 in
set_option maxHeartbeats 2000000 in
theorem yCycState_held : HeldC yCycState 9 := by
  rintro ⟨⟨f_0_0_0, f_0_1⟩, f_1, f_2, f_3⟩ k w hr hm h0 h1
  have hbl : ∀ o, Below w.heap.size w (w.alloc o) := fun o => (Below.refl _ w).alloc (Nat.le_refl _) o
  have HK : Hid (k + ((yAtmState.vcnt (f_0_0_0, f_0_1) + (yCycPortS.vcnt f_1 + (yCycSlaveS.vcnt f_2 + (yTlmJobS.vcnt f_3))) : Nat) : Int) ≤ 1000000000000000) := Hid.intro h1
  have HR := Hid.intro hr
  have HM := Hid.intro hm
  clear hr hm h1
  show Calls Try.prog 9 #[.agg #[.slice f_0_0_0.p f_0_0_0.l.length f_0_0_0.c, .slice f_0_1.p f_0_1.l.length f_0_1.c, .slice f_1.p f_1.l.length f_1.c, .slice f_2.p f_2.l.length f_2.c, .slice f_3.p f_3.l.length f_3.c], .int .i64 k] w _
  go_enter Try.func9, Try.ntmps9
  have HC0 : Hid (∀ (k : Int) (w : World), yAtmState.rd w (f_0_0_0, f_0_1) → yAtmState.vmkd (f_0_0_0, f_0_1) k → 0 ≤ k → k + (yAtmState.vcnt (f_0_0_0, f_0_1) : Int) ≤ 1000000000000000 → Calls Try.prog 25 #[.agg #[.slice f_0_0_0.p f_0_0_0.l.length f_0_0_0.c, .slice f_0_1.p f_0_1.l.length f_0_1.c], .int .i64 k] w fun e w' => e = .returned (.int .i64 (k + (yAtmState.vcnt (f_0_0_0, f_0_1) : Int))) ∧ Below w.heap.size w w') := Hid.intro (yAtmState_held (f_0_0_0, f_0_1))
  go_wp2_with fail
  refine (HC0.out _ _ (yAtmState_law.rd_blw HR.out.1 (hbl _)) (cast (congrArg (yAtmState.vmkd (f_0_0_0, f_0_1)) (by omega)) (show yAtmState.vmkd (f_0_0_0, f_0_1) (k) from HM.out.1)) (by omega) (by have := HK.out; omega)).mono ?_
  rintro e w1 ⟨rfl, hb⟩
  have bel0 : Below w.heap.size w w1 := (hbl _).trans (hb.mono (hbl _).size)
  have bA0 : w1.heap[w.heap.size]? = some (.cells #[.slice f_0_0_0.p f_0_0_0.l.length f_0_0_0.c, .slice f_0_1.p f_0_1.l.length f_0_1.c, .slice f_1.p f_1.l.length f_1.c, .slice f_2.p f_2.l.length f_2.c, .slice f_3.p f_3.l.length f_3.c] 31 (0, 0)) := (hb.block _ (by simp)).trans (nw_k _ rfl)
  clear hb
  have hI0 : ¬ (k + ((yAtmState.vcnt (f_0_0_0, f_0_1) : Nat) : Int) < 0) := by omega
  have c0 : w1.cell? ⟨w.heap.size, 0, none⟩ = some (.slice f_0_0_0.p f_0_0_0.l.length f_0_0_0.c) := heap_cell bA0 0
  have c1 : w1.cell? ⟨w.heap.size, 1, none⟩ = some (.slice f_0_1.p f_0_1.l.length f_0_1.c) := heap_cell bA0 1
  have c2 : w1.cell? ⟨w.heap.size, 2, none⟩ = some (.slice f_1.p f_1.l.length f_1.c) := heap_cell bA0 2
  have c3 : w1.cell? ⟨w.heap.size, 3, none⟩ = some (.slice f_2.p f_2.l.length f_2.c) := heap_cell bA0 3
  have c4 : w1.cell? ⟨w.heap.size, 4, none⟩ = some (.slice f_3.p f_3.l.length f_3.c) := heap_cell bA0 4
  have HC1 : Hid (∀ (k : Int) (w : World), yCycPortS.rd w f_1 → yCycPortS.vmkd f_1 k → 0 ≤ k → k + (yCycPortS.vcnt f_1 : Int) ≤ 1000000000000000 → Calls Try.prog 26 #[.slice f_1.p f_1.l.length f_1.c, .int .i64 k] w fun e w' => e = .returned (.int .i64 (k + (yCycPortS.vcnt f_1 : Int))) ∧ Below w.heap.size w w') := Hid.intro (yCycPortS_held f_1)
  go_wp2_with fail
  refine (HC1.out _ _ (yCycPortS_law.rd_blw HR.out.2.1 bel0) (cast (congrArg (yCycPortS.vmkd f_1) (by omega)) (show yCycPortS.vmkd f_1 (k + ((yAtmState.vcnt (f_0_0_0, f_0_1) : Nat) : Int)) from HM.out.2.1)) (by omega) (by have := HK.out; omega)).mono ?_
  rintro e w2 ⟨rfl, hb⟩
  have bel1 : Below w.heap.size w w2 := bel0.trans (hb.mono bel0.size)
  have bA1 : w2.heap[w.heap.size]? = some (.cells #[.slice f_0_0_0.p f_0_0_0.l.length f_0_0_0.c, .slice f_0_1.p f_0_1.l.length f_0_1.c, .slice f_1.p f_1.l.length f_1.c, .slice f_2.p f_2.l.length f_2.c, .slice f_3.p f_3.l.length f_3.c] 31 (0, 0)) := (hb.block _ (heap_lt bA0)).trans bA0
  clear bel0 bA0 hI0 c0 c1 c2 c3 c4
  clear hb
  have hI1 : ¬ (k + ((yAtmState.vcnt (f_0_0_0, f_0_1) : Nat) : Int) + ((yCycPortS.vcnt f_1 : Nat) : Int) < 0) := by omega
  have c0 : w2.cell? ⟨w.heap.size, 0, none⟩ = some (.slice f_0_0_0.p f_0_0_0.l.length f_0_0_0.c) := heap_cell bA1 0
  have c1 : w2.cell? ⟨w.heap.size, 1, none⟩ = some (.slice f_0_1.p f_0_1.l.length f_0_1.c) := heap_cell bA1 1
  have c2 : w2.cell? ⟨w.heap.size, 2, none⟩ = some (.slice f_1.p f_1.l.length f_1.c) := heap_cell bA1 2
  have c3 : w2.cell? ⟨w.heap.size, 3, none⟩ = some (.slice f_2.p f_2.l.length f_2.c) := heap_cell bA1 3
  have c4 : w2.cell? ⟨w.heap.size, 4, none⟩ = some (.slice f_3.p f_3.l.length f_3.c) := heap_cell bA1 4
  have HC2 : Hid (∀ (k : Int) (w : World), yCycSlaveS.rd w f_2 → yCycSlaveS.vmkd f_2 k → 0 ≤ k → k + (yCycSlaveS.vcnt f_2 : Int) ≤ 1000000000000000 → Calls Try.prog 27 #[.slice f_2.p f_2.l.length f_2.c, .int .i64 k] w fun e w' => e = .returned (.int .i64 (k + (yCycSlaveS.vcnt f_2 : Int))) ∧ Below w.heap.size w w') := Hid.intro (yCycSlaveS_held f_2)
  go_wp2_with fail
  refine (HC2.out _ _ (yCycSlaveS_law.rd_blw HR.out.2.2.1 bel1) (cast (congrArg (yCycSlaveS.vmkd f_2) (by omega)) (show yCycSlaveS.vmkd f_2 (k + ((yAtmState.vcnt (f_0_0_0, f_0_1) : Nat) : Int) + ((yCycPortS.vcnt f_1 : Nat) : Int)) from HM.out.2.2.1)) (by omega) (by have := HK.out; omega)).mono ?_
  rintro e w3 ⟨rfl, hb⟩
  have bel2 : Below w.heap.size w w3 := bel1.trans (hb.mono bel1.size)
  have bA2 : w3.heap[w.heap.size]? = some (.cells #[.slice f_0_0_0.p f_0_0_0.l.length f_0_0_0.c, .slice f_0_1.p f_0_1.l.length f_0_1.c, .slice f_1.p f_1.l.length f_1.c, .slice f_2.p f_2.l.length f_2.c, .slice f_3.p f_3.l.length f_3.c] 31 (0, 0)) := (hb.block _ (heap_lt bA1)).trans bA1
  clear bel1 bA1 hI1 c0 c1 c2 c3 c4
  clear hb
  have hI2 : ¬ (k + ((yAtmState.vcnt (f_0_0_0, f_0_1) : Nat) : Int) + ((yCycPortS.vcnt f_1 : Nat) : Int) + ((yCycSlaveS.vcnt f_2 : Nat) : Int) < 0) := by omega
  have c0 : w3.cell? ⟨w.heap.size, 0, none⟩ = some (.slice f_0_0_0.p f_0_0_0.l.length f_0_0_0.c) := heap_cell bA2 0
  have c1 : w3.cell? ⟨w.heap.size, 1, none⟩ = some (.slice f_0_1.p f_0_1.l.length f_0_1.c) := heap_cell bA2 1
  have c2 : w3.cell? ⟨w.heap.size, 2, none⟩ = some (.slice f_1.p f_1.l.length f_1.c) := heap_cell bA2 2
  have c3 : w3.cell? ⟨w.heap.size, 3, none⟩ = some (.slice f_2.p f_2.l.length f_2.c) := heap_cell bA2 3
  have c4 : w3.cell? ⟨w.heap.size, 4, none⟩ = some (.slice f_3.p f_3.l.length f_3.c) := heap_cell bA2 4
  have HC3 : Hid (∀ (k : Int) (w : World), yTlmJobS.rd w f_3 → yTlmJobS.vmkd f_3 k → 0 ≤ k → k + (yTlmJobS.vcnt f_3 : Int) ≤ 1000000000000000 → Calls Try.prog 16 #[.slice f_3.p f_3.l.length f_3.c, .int .i64 k] w fun e w' => e = .returned (.int .i64 (k + (yTlmJobS.vcnt f_3 : Int))) ∧ Below w.heap.size w w') := Hid.intro (yTlmJobS_held f_3)
  go_wp2_with fail
  refine (HC3.out _ _ (yTlmJobS_law.rd_blw HR.out.2.2.2 bel2) (cast (congrArg (yTlmJobS.vmkd f_3) (by omega)) (show yTlmJobS.vmkd f_3 (k + ((yAtmState.vcnt (f_0_0_0, f_0_1) : Nat) : Int) + ((yCycPortS.vcnt f_1 : Nat) : Int) + ((yCycSlaveS.vcnt f_2 : Nat) : Int)) from HM.out.2.2.2)) (by omega) (by have := HK.out; omega)).mono ?_
  rintro e w4 ⟨rfl, hb⟩
  have bel3 : Below w.heap.size w w4 := bel2.trans (hb.mono bel2.size)
  have bA3 : w4.heap[w.heap.size]? = some (.cells #[.slice f_0_0_0.p f_0_0_0.l.length f_0_0_0.c, .slice f_0_1.p f_0_1.l.length f_0_1.c, .slice f_1.p f_1.l.length f_1.c, .slice f_2.p f_2.l.length f_2.c, .slice f_3.p f_3.l.length f_3.c] 31 (0, 0)) := (hb.block _ (heap_lt bA2)).trans bA2
  clear bel2 bA2 hI2 c0 c1 c2 c3 c4
  clear hb
  have hI3 : ¬ (k + ((yAtmState.vcnt (f_0_0_0, f_0_1) : Nat) : Int) + ((yCycPortS.vcnt f_1 : Nat) : Int) + ((yCycSlaveS.vcnt f_2 : Nat) : Int) + ((yTlmJobS.vcnt f_3 : Nat) : Int) < 0) := by omega
  have c0 : w4.cell? ⟨w.heap.size, 0, none⟩ = some (.slice f_0_0_0.p f_0_0_0.l.length f_0_0_0.c) := heap_cell bA3 0
  have c1 : w4.cell? ⟨w.heap.size, 1, none⟩ = some (.slice f_0_1.p f_0_1.l.length f_0_1.c) := heap_cell bA3 1
  have c2 : w4.cell? ⟨w.heap.size, 2, none⟩ = some (.slice f_1.p f_1.l.length f_1.c) := heap_cell bA3 2
  have c3 : w4.cell? ⟨w.heap.size, 3, none⟩ = some (.slice f_2.p f_2.l.length f_2.c) := heap_cell bA3 3
  have c4 : w4.cell? ⟨w.heap.size, 4, none⟩ = some (.slice f_3.p f_3.l.length f_3.c) := heap_cell bA3 4
  clear HR HM
  go_wp2
  go_ret
  refine ⟨?_, bel3⟩
  show _ = Ending.returned (Value.int .i64 (k + ((yAtmState.vcnt (f_0_0_0, f_0_1) + (yCycPortS.vcnt f_1 + (yCycSlaveS.vcnt f_2 + (yTlmJobS.vcnt f_3))) : Nat) : Int)))
  exact congrArg (fun z => Ending.returned (Value.int .i64 z)) (by omega)

end Go.Proofs.Ytpjfkimgienkbab
