/-
  RspRsp: the laws' functions, by contract of kinds.
-/
import Derived.Test.YtgjlkmhbaimjpaaKndI
import Derived.Test.YtgjlkmhbaimjpaaKndLM
import Derived.Test.YtgjlkmhbaimjpaaOpsXM
namespace Go.Proofs.Ytgjlkmhbaimjpaa
open Go.RowKit
set_option linter.unusedSimpArgs false
set_option linter.unusedVariables false

def yRspRsp : Knd (Int × Int × (Lst Int)) (Int × Int × (List Int)) := gRec (gPair gInt (gPair gInt yI))
theorem yRspRsp_law : KLaw yRspRsp := gRec_law (gPair_law gInt_law (gPair_law gInt_law yI_law))
theorem yRspRsp_val (f : (Int × Int × (Lst Int))) : yRspRsp.val f = .agg #[.int .i64 f.1, .int .i64 f.2.1, .slice f.2.2.p f.2.2.l.length f.2.2.c] := rfl
theorem yRspRsp_cells (f : (Int × Int × (Lst Int))) : yRspRsp.cells f = [.int .i64 f.1, .int .i64 f.2.1, .slice f.2.2.p f.2.2.l.length f.2.2.c] := rfl

set_option maxRecDepth 100000 in
set_option maxHeartbeats 2000000 in
theorem yRspRsp_sz : SzC yRspRsp 123 := by
  rintro ⟨f_0, f_1, f_2⟩ left w hr h0 h1
  have HR := Hid.intro hr
  clear hr
  have hbl : ∀ o, Below w.heap.size w (w.alloc o) := fun o => (Below.refl _ w).alloc (Nat.le_refl _) o
  show Calls Try.prog 123 #[.agg #[.int .i64 f_0, .int .i64 f_1, .slice f_2.p f_2.l.length f_2.c], .int .i64 left] w _
  go_enter Try.func123, Try.ntmps123
  have HC2 : Hid (∀ (left : Int) (w : World), yI.rd w f_2 → 0 ≤ left → left ≤ 1048576 → Calls Try.prog 36 #[.slice f_2.p f_2.l.length f_2.c, .int .i64 left] w fun e w' => (∃ z : Int, e = .returned (.int .i64 z) ∧ (z = -1 ∨ (0 ≤ z ∧ z = left - (yI.size f_2 : Int)))) ∧ Below w.heap.size w w') := Hid.intro (yI_sz f_2)
  go_wp2_with fail
  refine (HC2.out left _ (yI_law.rd_blw HR.out.2.2 (hbl _)) h0 (by omega)).mono ?_
  clear HC2
  rintro e w1 ⟨⟨z0, rfl, hz0⟩, hb⟩
  have bel0 : Below w.heap.size w w1 := (hbl _).trans (hb.mono (hbl _).size)
  have bA0 : w1.heap[w.heap.size]? = some (.cells #[.int .i64 f_0, .int .i64 f_1, .slice f_2.p f_2.l.length f_2.c] 130 (0, 0)) := (hb.block _ (by simp)).trans (nw_k _ rfl)
  clear hb
  rcases hz0 with rfl | ⟨g0, q0⟩
  · clear HR
    go_wp2
    go_ret
    exact ⟨⟨_, rfl, .inl rfl⟩, bel0⟩
  have n0 : ¬ (z0 < 0) := by omega
  have Q0 := Hid.intro q0
  have l0 : z0 ≤ 1048576 := by omega
  clear q0
  have c0 : w1.cell? ⟨w.heap.size, 0, none⟩ = some (.int .i64 f_0) := heap_cell bA0 0
  have c1 : w1.cell? ⟨w.heap.size, 1, none⟩ = some (.int .i64 f_1) := heap_cell bA0 1
  have c2 : w1.cell? ⟨w.heap.size, 2, none⟩ = some (.slice f_2.p f_2.l.length f_2.c) := heap_cell bA0 2
  have HS : Hid ((yRspRsp.size (f_0, f_1, f_2) : Nat) = 0 + (0 + (yI.size f_2))) := Hid.intro rfl
  clear HR
  go_wp2
  go_ret
  exact ⟨⟨_, rfl, .inr ⟨g0, by have := HS.out; have := Q0.out; omega⟩⟩, bel0⟩

set_option maxRecDepth 100000 in
set_option maxHeartbeats 2000000 in
theorem yRspRsp_eq : EqC yRspRsp 129 := by
  rintro ⟨f_0, f_1, f_2⟩ ⟨g_0, g_1, g_2⟩ w hr hr' hp
  have hp' : ((f_0, f_1, yI.pl f_2) : (Int × Int × (List Int))) = (g_0, g_1, yI.pl g_2) := hp
  clear hp
  simp only [Prod.mk.injEq] at hp'
  obtain ⟨rfl, rfl, p2⟩ := hp'
  have HR := Hid.intro hr
  have HQ := Hid.intro hr'
  clear hr hr'
  have hbl : ∀ o o', Below w.heap.size w ((w.alloc o).alloc o') := fun o o' => ((Below.refl _ w).alloc (Nat.le_refl _) o).alloc (by simp) o'
  show Calls Try.prog 129 #[.agg #[.int .i64 f_0, .int .i64 f_1, .slice f_2.p f_2.l.length f_2.c], .agg #[.int .i64 f_0, .int .i64 f_1, .slice g_2.p g_2.l.length g_2.c]] w _
  go_enter Try.func129, Try.ntmps129
  have HC2 : Hid (∀ (w : World), yI.rd w f_2 → yI.rd w g_2 → yI.pl f_2 = yI.pl g_2 → Calls Try.prog 49 #[.slice f_2.p f_2.l.length f_2.c, .slice g_2.p g_2.l.length g_2.c] w fun e w' => e = .returned (.bool true) ∧ Below w.heap.size w w') := Hid.intro (yI_eq f_2 g_2)
  go_wp2_with fail
  refine (HC2.out _ (yI_law.rd_blw HR.out.2.2 (hbl _ _)) (yI_law.rd_blw HQ.out.2.2 (hbl _ _)) p2).mono ?_
  clear HC2
  rintro e w1 ⟨rfl, hb⟩
  have bel0 : Below w.heap.size w w1 := (hbl _ _).trans (hb.mono (hbl _ _).size)
  have bA0 : w1.heap[w.heap.size]? = some (.cells #[.int .i64 f_0, .int .i64 f_1, .slice f_2.p f_2.l.length f_2.c] 95 (0, 0)) := (hb.block _ (by simp <;> omega)).trans ((Below.heap_alloc _ _ _ (by simp)).trans (nw_k _ rfl))
  have bB0 : w1.heap[w.heap.size + 1]? = some (.cells #[.int .i64 f_0, .int .i64 f_1, .slice g_2.p g_2.l.length g_2.c] 95 (0, 0)) := (hb.block _ (by simp)).trans (nw_k _ (by simp))
  clear hb
  have c0 : w1.cell? ⟨w.heap.size, 0, none⟩ = some (.int .i64 f_0) := heap_cell bA0 0
  have c1 : w1.cell? ⟨w.heap.size, 1, none⟩ = some (.int .i64 f_1) := heap_cell bA0 1
  have c2 : w1.cell? ⟨w.heap.size, 2, none⟩ = some (.slice f_2.p f_2.l.length f_2.c) := heap_cell bA0 2
  have d0 : w1.cell? ⟨w.heap.size + 1, 0, none⟩ = some (.int .i64 f_0) := heap_cell bB0 0
  have d1 : w1.cell? ⟨w.heap.size + 1, 1, none⟩ = some (.int .i64 f_1) := heap_cell bB0 1
  have d2 : w1.cell? ⟨w.heap.size + 1, 2, none⟩ = some (.slice g_2.p g_2.l.length g_2.c) := heap_cell bB0 2
  clear HR HQ
  go_wp2
  go_ret
  exact ⟨rfl, bel0⟩

set_option maxRecDepth 100000 in
set_option maxHeartbeats 2000000 in
theorem yRspRsp_to : ToC yRspRsp 124 := by
  rintro ⟨f_0, f_1, f_2⟩ w hr hs
  have HR := Hid.intro hr
  clear hr
  have hbl : ∀ o o' o'', Below w.heap.size w (((w.alloc o).alloc o').alloc o'') := fun o o' o'' => (((Below.refl _ w).alloc (Nat.le_refl _) o).alloc (by simp) o').alloc (by simp <;> omega) o''
  have HS : Hid (0 + (0 + (yI.size f_2)) ≤ 1048576) := Hid.intro hs
  clear hs
  show Calls Try.prog 124 #[.agg #[.int .i64 f_0, .int .i64 f_1, .slice f_2.p f_2.l.length f_2.c]] w _
  go_enter Try.func124, Try.ntmps124
  have HC2 : Hid (∀ (w : World), yI.rd w f_2 → yI.size f_2 ≤ 1048576 → Calls Try.prog 42 #[.slice f_2.p f_2.l.length f_2.c] w fun e w' => ∃ a', e = .returned (yI.val a') ∧ yI.pl a' = yI.pl f_2 ∧ yI.size a' = yI.size f_2 ∧ Fresh yI w.heap.size w' a' ∧ Below w.heap.size w w') := Hid.intro (yI_to f_2)
  go_wp2_with fail
  refine (HC2.out _ (yI_law.rd_blw HR.out.2.2 (hbl _ _ _)) (by have := HS.out; omega)).mono ?_
  clear HC2
  rintro e w1 ⟨x2, he, hpl2, hsz2, hf2, hb⟩
  replace he : e = .returned (.slice x2.p x2.l.length x2.c) := he
  subst he
  have hzz0 := hb.size
  simp only [World.size_alloc, Nat.add_assoc, Nat.reduceAdd] at hzz0
  have bA0 : w1.heap[w.heap.size]? = some (.cells #[.int .i64 f_0, .int .i64 f_1, .slice f_2.p f_2.l.length f_2.c] 130 (0, 0)) := (hb.block _ (by simp <;> omega)).trans ((Below.heap_alloc _ _ _ (by simp <;> omega)).trans ((Below.heap_alloc _ _ _ (by simp)).trans (nw_k _ rfl)))
  have bR0 : w1.heap[w.heap.size + 1]? = some (.cells #[.int .i64 0, .int .i64 0, .slice none 0 0] 95 (0, 0)) := (hb.block _ (by simp <;> omega)).trans ((Below.heap_alloc _ _ _ (by simp)).trans (nw_k _ (by simp)))
  have bO0 : w1.heap[w.heap.size + 2]? = some (.cells #[.int .i64 f_0, .int .i64 f_1, .slice none 0 0] 95 (0, 0)) := (hb.block _ (by simp)).trans (nw_k _ (by simp))
  have bel0 : Below w.heap.size w w1 := (hbl _ _ _).trans (hb.mono (hbl _ _ _).size)
  replace hf2 := hf2.mono (M' := w.heap.size + 3) (by simp <;> omega)
  have c0 : w1.cell? ⟨w.heap.size, 0, none⟩ = some (.int .i64 f_0) := heap_cell bA0 0
  have c1 : w1.cell? ⟨w.heap.size, 1, none⟩ = some (.int .i64 f_1) := heap_cell bA0 1
  have c2 : w1.cell? ⟨w.heap.size, 2, none⟩ = some (.slice f_2.p f_2.l.length f_2.c) := heap_cell bA0 2
  have o0 : w1.cell? ⟨w.heap.size + 2, 0, none⟩ = some (.int .i64 f_0) := heap_cell bO0 0
  have o1 : w1.cell? ⟨w.heap.size + 2, 1, none⟩ = some (.int .i64 f_1) := heap_cell bO0 1
  have o2 : w1.cell? ⟨w.heap.size + 2, 2, none⟩ = some (.slice none 0 0) := heap_cell bO0 2
  have fo0 : w1.frozen? ⟨w.heap.size + 2, 0, none⟩ = false := heap_free bO0 0
  have fo1 : w1.frozen? ⟨w.heap.size + 2, 1, none⟩ = false := heap_free bO0 1
  have fo2 : w1.frozen? ⟨w.heap.size + 2, 2, none⟩ = false := heap_free bO0 2
  have lt2 : ∀ x ∈ yI.foot x2, x < w1.heap.size := yI_law.ow_lt hf2.ow
  clear hb
  have bR'' : (w1.setCell ⟨w.heap.size + 2, 2, none⟩ (.slice x2.p x2.l.length x2.c)).heap[w.heap.size + 1]? = some (.cells #[.int .i64 0, .int .i64 0, .slice none 0 0] 95 (0, 0)) := (heap_set_ne (by omega)).trans (bR0)
  have q0 : w1.cell? ⟨w.heap.size + 1, 0, none⟩ = some (.int .i64 0) := heap_cell bR0 0
  have q1 : w1.cell? ⟨w.heap.size + 1, 1, none⟩ = some (.int .i64 0) := heap_cell bR0 1
  have q2 : w1.cell? ⟨w.heap.size + 1, 2, none⟩ = some (.slice none 0 0) := heap_cell bR0 2
  have fq0 : w1.frozen? ⟨w.heap.size + 1, 0, none⟩ = false := heap_free bR0 0
  have fq1 : w1.frozen? ⟨w.heap.size + 1, 1, none⟩ = false := heap_free bR0 1
  have fq2 : w1.frozen? ⟨w.heap.size + 1, 2, none⟩ = false := heap_free bR0 2
  have hf := (heap_set (heap_set (heap_set bR'' 0 (.int .i64 f_0)) 1 (.int .i64 f_1)) 2 (.slice x2.p x2.l.length x2.c))
  have r0 := heap_cell hf 0
  have r1 := heap_cell hf 1
  have r2 := heap_cell hf 2
  simp at r0 r1 r2
  have hne : ∀ x, x ≠ w.heap.size + 1 → x ≠ w.heap.size + 2 → ((((w1.setCell ⟨w.heap.size + 2, 2, none⟩ (.slice x2.p x2.l.length x2.c)).setCell ⟨w.heap.size + 1, 0, none⟩ (.int .i64 f_0)).setCell ⟨w.heap.size + 1, 1, none⟩ (.int .i64 f_1)).setCell ⟨w.heap.size + 1, 2, none⟩ (.slice x2.p x2.l.length x2.c)).heap[x]? = w1.heap[x]? := fun x h1 h2 => (heap_set_ne h1).trans ((heap_set_ne h1).trans ((heap_set_ne h1).trans ((heap_set_ne h2).trans (rfl))))
  have HB : Hid (Below w.heap.size w ((((w1.setCell ⟨w.heap.size + 2, 2, none⟩ (.slice x2.p x2.l.length x2.c)).setCell ⟨w.heap.size + 1, 0, none⟩ (.int .i64 f_0)).setCell ⟨w.heap.size + 1, 1, none⟩ (.int .i64 f_1)).setCell ⟨w.heap.size + 1, 2, none⟩ (.slice x2.p x2.l.length x2.c))) := Hid.intro (((((bel0.setCell (p := ⟨w.heap.size + 2, 2, none⟩) (by simp) (.slice x2.p x2.l.length x2.c)).setCell (p := ⟨w.heap.size + 1, 0, none⟩) (by simp) (.int .i64 f_0)).setCell (p := ⟨w.heap.size + 1, 1, none⟩) (by simp) (.int .i64 f_1)).setCell (p := ⟨w.heap.size + 1, 2, none⟩) (by simp) (.slice x2.p x2.l.length x2.c)))
  have HX : Hid (Fresh yI (w.heap.size + 3) ((((w1.setCell ⟨w.heap.size + 2, 2, none⟩ (.slice x2.p x2.l.length x2.c)).setCell ⟨w.heap.size + 1, 0, none⟩ (.int .i64 f_0)).setCell ⟨w.heap.size + 1, 1, none⟩ (.int .i64 f_1)).setCell ⟨w.heap.size + 1, 2, none⟩ (.slice x2.p x2.l.length x2.c)) x2) := Hid.intro (hf2.of yI_law (fun x hx => hne x (by have := hf2.ge x hx; omega) (by have := hf2.ge x hx; omega)))
  have HL : Hid ((∀ x ∈ yI.foot x2, x < w1.heap.size)) := Hid.intro (fun x hx => lt2 x hx)
  have HPL : Hid ((yI.pl x2 = yI.pl f_2 ∧ yI.size x2 = yI.size f_2)) := Hid.intro ⟨hpl2, hsz2⟩
  clear hne hf bA0 bR0 bO0 bel0 bR'' HR HS hf2 lt2 hpl2 hsz2
  go_wp2
  refine bodyPost_ret (v := .agg #[.int .i64 f_0, .int .i64 f_1, .slice x2.p x2.l.length x2.c]) (by simp [results, Try.results124, go_sem, r0, r1, r2]) rfl ⟨(f_0, f_1, x2), rfl, ?_, ?_, Fresh.recd (Fresh.pair (Fresh.int _ _ _) (Nat.le_refl _) (lt_int _ _) (Fresh.pair (Fresh.int _ _ _) (Nat.le_refl _) (lt_int _ _) ((HX.out).mono (by omega)))), HB.out⟩
  · show ((f_0, f_1, yI.pl x2) : (Int × Int × (List Int))) = (f_0, f_1, yI.pl f_2)
    rw [(HPL.out).1]
  · show 0 + (0 + (yI.size x2)) = 0 + (0 + (yI.size f_2))
    have hh := HPL.out
    omega

def yRspRspS : Knd (Lst (Int × Int × (Lst Int))) (List (Int × Int × (List Int))) := gLst 95 yRspRsp
theorem yRspRspS_law : KLaw yRspRspS := gLst_law yRspRsp_law (by decide)

theorem Try.infoRspRspS : (Try.prog.info? 95).map (fun i => (i.zero, i.size, i.bytes)) = some (some (.agg #[.int .i64 0, .int .i64 0, .slice none 0 0]), 3, 40) := by kernel_rfl

end Go.Proofs.Ytgjlkmhbaimjpaa
