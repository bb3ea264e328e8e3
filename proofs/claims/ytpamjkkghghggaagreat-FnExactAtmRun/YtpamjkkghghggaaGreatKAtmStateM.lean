/-
  AtmState: the laws' functions, by contract of kinds.
-/
import Derived.Test.YtpamjkkghghggaaGreatKndI
import Derived.Test.YtpamjkkghghggaaGreatKndLM
import Derived.Test.YtpamjkkghghggaaGreatOpsXM
/-
  MemMem: the laws' functions, by contract of kinds.
-/
namespace Go.Proofs.YtpamjkkghghggaaGreat
open Go.RowKit
set_option linter.unusedSimpArgs false
set_option linter.unusedVariables false

def yMemMem : Knd ((Lst Int)) ((List Int)) := gRec yI
theorem yMemMem_law : KLaw yMemMem := gRec_law yI_law
theorem yMemMem_val (f : ((Lst Int))) : yMemMem.val f = .agg #[.slice f.p f.l.length f.c] := rfl
theorem yMemMem_cells (f : ((Lst Int))) : yMemMem.cells f = [.slice f.p f.l.length f.c] := rfl

set_option maxRecDepth 100000 in
set_option maxHeartbeats 2000000 in
theorem yMemMem_sz : SzC yMemMem 22 := by
  rintro f_0 left w hr h0 h1
  have HR := Hid.intro hr
  clear hr
  have hbl : ∀ o, Below w.heap.size w (w.alloc o) := fun o => (Below.refl _ w).alloc (Nat.le_refl _) o
  show Calls Tryz.prog 22 #[.agg #[.slice f_0.p f_0.l.length f_0.c], .int .i64 left] w _
  go_enter Tryz.func22, Tryz.ntmps22
  have HC0 : Hid (∀ (left : Int) (w : World), yI.rd w f_0 → 0 ≤ left → left ≤ 1048576 → Calls Tryz.prog 23 #[.slice f_0.p f_0.l.length f_0.c, .int .i64 left] w fun e w' => (∃ z : Int, e = .returned (.int .i64 z) ∧ (z = -1 ∨ (0 ≤ z ∧ z = left - (yI.size f_0 : Int)))) ∧ Below w.heap.size w w') := Hid.intro (yI_sz f_0)
  go_wp2_with fail
  refine (HC0.out left _ (yI_law.rd_blw HR.out (hbl _)) h0 (by omega)).mono ?_
  clear HC0
  rintro e w1 ⟨⟨z0, rfl, hz0⟩, hb⟩
  have bel0 : Below w.heap.size w w1 := (hbl _).trans (hb.mono (hbl _).size)
  have bA0 : w1.heap[w.heap.size]? = some (.cells #[.slice f_0.p f_0.l.length f_0.c] 25 (0, 0)) := (hb.block _ (by simp)).trans (nw_k _ rfl)
  clear hb
  rcases hz0 with rfl | ⟨g0, q0⟩
  · clear HR
    go_wp2
    go_ret
    exact ⟨⟨_, rfl, .inl rfl⟩, bel0⟩
  have n0 : ¬ (z0 < 0) := by omega
  have Q0 := Hid.intro q0
  have l0 : z0 ≤ 1048576 := by omega
  clear q0
  have c0 : w1.cell? ⟨w.heap.size, 0, none⟩ = some (.slice f_0.p f_0.l.length f_0.c) := heap_cell bA0 0
  have HS : Hid ((yMemMem.size f_0 : Nat) = yI.size f_0) := Hid.intro rfl
  clear HR
  go_wp2
  go_ret
  exact ⟨⟨_, rfl, .inr ⟨g0, by have := HS.out; have := Q0.out; omega⟩⟩, bel0⟩

set_option maxRecDepth 100000 in
set_option maxHeartbeats 2000000 in
theorem yMemMem_eq : EqC yMemMem 40 := by
  rintro f_0 g_0 w hr hr' hp
  have hp' : ((yI.pl f_0) : ((List Int))) = (yI.pl g_0) := hp
  clear hp
  have p0 := hp'
  have HR := Hid.intro hr
  have HQ := Hid.intro hr'
  clear hr hr'
  have hbl : ∀ o o', Below w.heap.size w ((w.alloc o).alloc o') := fun o o' => ((Below.refl _ w).alloc (Nat.le_refl _) o).alloc (by simp) o'
  show Calls Tryz.prog 40 #[.agg #[.slice f_0.p f_0.l.length f_0.c], .agg #[.slice g_0.p g_0.l.length g_0.c]] w _
  go_enter Tryz.func40, Tryz.ntmps40
  have HC0 : Hid (∀ (w : World), yI.rd w f_0 → yI.rd w g_0 → yI.pl f_0 = yI.pl g_0 → Calls Tryz.prog 41 #[.slice f_0.p f_0.l.length f_0.c, .slice g_0.p g_0.l.length g_0.c] w fun e w' => e = .returned (.bool true) ∧ Below w.heap.size w w') := Hid.intro (yI_eq f_0 g_0)
  go_wp2_with fail
  refine (HC0.out _ (yI_law.rd_blw HR.out (hbl _ _)) (yI_law.rd_blw HQ.out (hbl _ _)) p0).mono ?_
  clear HC0
  rintro e w1 ⟨rfl, hb⟩
  have bel0 : Below w.heap.size w w1 := (hbl _ _).trans (hb.mono (hbl _ _).size)
  have bA0 : w1.heap[w.heap.size]? = some (.cells #[.slice f_0.p f_0.l.length f_0.c] 32 (0, 0)) := (hb.block _ (by simp <;> omega)).trans ((Below.heap_alloc _ _ _ (by simp)).trans (nw_k _ rfl))
  have bB0 : w1.heap[w.heap.size + 1]? = some (.cells #[.slice g_0.p g_0.l.length g_0.c] 32 (0, 0)) := (hb.block _ (by simp)).trans (nw_k _ (by simp))
  clear hb
  have c0 : w1.cell? ⟨w.heap.size, 0, none⟩ = some (.slice f_0.p f_0.l.length f_0.c) := heap_cell bA0 0
  have d0 : w1.cell? ⟨w.heap.size + 1, 0, none⟩ = some (.slice g_0.p g_0.l.length g_0.c) := heap_cell bB0 0
  clear HR HQ
  go_wp2
  go_ret
  exact ⟨rfl, bel0⟩

set_option maxRecDepth 100000 in
set_option maxHeartbeats 2000000 in
theorem yMemMem_to : ToC yMemMem 32 := by
  rintro f_0 w hr hs
  have HR := Hid.intro hr
  clear hr
  have hbl : ∀ o o' o'', Below w.heap.size w (((w.alloc o).alloc o').alloc o'') := fun o o' o'' => (((Below.refl _ w).alloc (Nat.le_refl _) o).alloc (by simp) o').alloc (by simp <;> omega) o''
  have HS : Hid (yI.size f_0 ≤ 1048576) := Hid.intro hs
  clear hs
  show Calls Tryz.prog 32 #[.agg #[.slice f_0.p f_0.l.length f_0.c]] w _
  go_enter Tryz.func32, Tryz.ntmps32
  have HC0 : Hid (∀ (w : World), yI.rd w f_0 → yI.size f_0 ≤ 1048576 → Calls Tryz.prog 33 #[.slice f_0.p f_0.l.length f_0.c] w fun e w' => ∃ a', e = .returned (yI.val a') ∧ yI.pl a' = yI.pl f_0 ∧ yI.size a' = yI.size f_0 ∧ Fresh yI w.heap.size w' a' ∧ Below w.heap.size w w') := Hid.intro (yI_to f_0)
  go_wp2_with fail
  refine (HC0.out _ (yI_law.rd_blw HR.out (hbl _ _ _)) (by have := HS.out; omega)).mono ?_
  clear HC0
  rintro e w1 ⟨x0, he, hpl0, hsz0, hf0, hb⟩
  replace he : e = .returned (.slice x0.p x0.l.length x0.c) := he
  subst he
  have hzz0 := hb.size
  simp only [World.size_alloc, Nat.add_assoc, Nat.reduceAdd] at hzz0
  have bA0 : w1.heap[w.heap.size]? = some (.cells #[.slice f_0.p f_0.l.length f_0.c] 25 (0, 0)) := (hb.block _ (by simp <;> omega)).trans ((Below.heap_alloc _ _ _ (by simp <;> omega)).trans ((Below.heap_alloc _ _ _ (by simp)).trans (nw_k _ rfl)))
  have bR0 : w1.heap[w.heap.size + 1]? = some (.cells #[.slice none 0 0] 32 (0, 0)) := (hb.block _ (by simp <;> omega)).trans ((Below.heap_alloc _ _ _ (by simp)).trans (nw_k _ (by simp)))
  have bO0 : w1.heap[w.heap.size + 2]? = some (.cells #[.slice none 0 0] 32 (0, 0)) := (hb.block _ (by simp)).trans (nw_k _ (by simp))
  have bel0 : Below w.heap.size w w1 := (hbl _ _ _).trans (hb.mono (hbl _ _ _).size)
  replace hf0 := hf0.mono (M' := w.heap.size + 3) (by simp <;> omega)
  have c0 : w1.cell? ⟨w.heap.size, 0, none⟩ = some (.slice f_0.p f_0.l.length f_0.c) := heap_cell bA0 0
  have o0 : w1.cell? ⟨w.heap.size + 2, 0, none⟩ = some (.slice none 0 0) := heap_cell bO0 0
  have fo0 : w1.frozen? ⟨w.heap.size + 2, 0, none⟩ = false := heap_free bO0 0
  have lt0 : ∀ x ∈ yI.foot x0, x < w1.heap.size := yI_law.ow_lt hf0.ow
  clear hb
  have bR'' : (w1.setCell ⟨w.heap.size + 2, 0, none⟩ (.slice x0.p x0.l.length x0.c)).heap[w.heap.size + 1]? = some (.cells #[.slice none 0 0] 32 (0, 0)) := (heap_set_ne (by omega)).trans (bR0)
  have q0 : w1.cell? ⟨w.heap.size + 1, 0, none⟩ = some (.slice none 0 0) := heap_cell bR0 0
  have fq0 : w1.frozen? ⟨w.heap.size + 1, 0, none⟩ = false := heap_free bR0 0
  have hf := (heap_set bR'' 0 (.slice x0.p x0.l.length x0.c))
  have r0 := heap_cell hf 0
  simp at r0
  have hne : ∀ x, x ≠ w.heap.size + 1 → x ≠ w.heap.size + 2 → ((w1.setCell ⟨w.heap.size + 2, 0, none⟩ (.slice x0.p x0.l.length x0.c)).setCell ⟨w.heap.size + 1, 0, none⟩ (.slice x0.p x0.l.length x0.c)).heap[x]? = w1.heap[x]? := fun x h1 h2 => (heap_set_ne h1).trans ((heap_set_ne h2).trans (rfl))
  have HB : Hid (Below w.heap.size w ((w1.setCell ⟨w.heap.size + 2, 0, none⟩ (.slice x0.p x0.l.length x0.c)).setCell ⟨w.heap.size + 1, 0, none⟩ (.slice x0.p x0.l.length x0.c))) := Hid.intro (((bel0.setCell (p := ⟨w.heap.size + 2, 0, none⟩) (by simp) (.slice x0.p x0.l.length x0.c)).setCell (p := ⟨w.heap.size + 1, 0, none⟩) (by simp) (.slice x0.p x0.l.length x0.c)))
  have HX : Hid (Fresh yI (w.heap.size + 3) ((w1.setCell ⟨w.heap.size + 2, 0, none⟩ (.slice x0.p x0.l.length x0.c)).setCell ⟨w.heap.size + 1, 0, none⟩ (.slice x0.p x0.l.length x0.c)) x0) := Hid.intro (hf0.of yI_law (fun x hx => hne x (by have := hf0.ge x hx; omega) (by have := hf0.ge x hx; omega)))
  have HL : Hid ((∀ x ∈ yI.foot x0, x < w1.heap.size)) := Hid.intro (fun x hx => lt0 x hx)
  have HPL : Hid ((yI.pl x0 = yI.pl f_0 ∧ yI.size x0 = yI.size f_0)) := Hid.intro ⟨hpl0, hsz0⟩
  clear hne hf bA0 bR0 bO0 bel0 bR'' HR HS hf0 lt0 hpl0 hsz0
  go_wp2
  refine bodyPost_ret (v := .agg #[.slice x0.p x0.l.length x0.c]) (by simp [results, Tryz.results32, go_sem, r0]) rfl ⟨x0, rfl, ?_, ?_, Fresh.recd ((HX.out).mono (by omega)), HB.out⟩
  · show ((yI.pl x0) : ((List Int))) = (yI.pl f_0)
    rw [(HPL.out).1]
  · show yI.size x0 = yI.size f_0
    have hh := HPL.out
    omega

set_option maxRecDepth 100000 in
set_option maxHeartbeats 2000000 in
theorem yMemMem_mark : MarkC yMemMem 45 := by
  rintro f_0 k w ho hn h0 h1
  have hbl : ∀ o, Below w.heap.size w (w.alloc o) := fun o => (Below.refl _ w).alloc (Nat.le_refl _) o
  have HK : Hid (k + ((yI.vcnt f_0 : Nat) : Int) ≤ 1000000000000000) := Hid.intro h1
  have HL := Hid.intro (yMemMem_law.ow_lt ho)
  have r0 : (yI.foot f_0).Nodup := hn
  have n0 := r0
  have HN := Hid.intro (And.intro n0 trivial)
  have HN0 := Hid.intro n0
  have HO := Hid.intro ho
  clear ho hn h1 HN n0 r0 
  show Calls Tryz.prog 45 #[.agg #[.slice f_0.p f_0.l.length f_0.c], .int .i64 k] w _
  go_enter Tryz.func45, Tryz.ntmps45
  have HC0 : Hid (∀ (k : Int) (w : World), yI.ow w f_0 → (yI.foot f_0).Nodup → 0 ≤ k → k + (yI.vcnt f_0 : Int) ≤ 1000000000000000 → Calls Tryz.prog 46 #[.slice f_0.p f_0.l.length f_0.c, .int .i64 k] w fun e w' => e = .returned (.int .i64 (k + (yI.vcnt f_0 : Int))) ∧ Kept (fun b => b ∈ yI.foot f_0) w w' ∧ ∃ a', yI.val a' = yI.val f_0 ∧ yI.cells a' = yI.cells f_0 ∧ yI.foot a' = yI.foot f_0 ∧ yI.vcnt a' = yI.vcnt f_0 ∧ yI.ow w' a' ∧ yI.vmkd a' k) := Hid.intro (yI_mark f_0)
  go_wp2_with fail
  refine (HC0.out _ _ (yI_law.ow_of HO.out (fun b hb => (hbl _).block b (HL.out b (show _ ∈ yI.foot f_0 from hb)))) HN0.out (by omega) (by have := HK.out; omega)).mono ?_
  clear HC0
  rintro e w1 ⟨rfl, hk, x0, hv0, hc0, hf0, hn0, hw0, hm0⟩
  have bA0 : w1.heap[w.heap.size]? = some (.cells #[.slice f_0.p f_0.l.length f_0.c] 32 (0, 0)) := (hk.block _ (by simp) (fun hb => by have := HL.out _ (show _ ∈ yI.foot f_0 from hb); omega)).trans (nw_k _ rfl)
  have hk0 : Kept (fun b => b ∈ yI.foot f_0) w w1 := (Kept.of_below (hbl _)).trans hk
  clear hk
  have c0 : w1.cell? ⟨w.heap.size, 0, none⟩ = some (.slice f_0.p f_0.l.length f_0.c) := heap_cell bA0 0
  have HF : Hid (Kept (fun b => b ∈ yMemMem.foot f_0) w w1) := Hid.intro (hk0.mono (by
      intro b
      rintro hd
      · exact (show _ ∈ yI.foot f_0 from hd)))
  have HA : Hid ((yI.cells x0 = yI.cells f_0 ∧ yI.foot x0 = yI.foot f_0 ∧ yI.vcnt x0 = yI.vcnt f_0 ∧ yI.ow w1 x0)) := Hid.intro ⟨hc0, hf0, hn0, hw0⟩
  clear hk0 hv0 hc0 hf0 hw0
  have HM0 := Hid.intro hm0
  clear hm0
  go_wp2
  go_ret
  have hcc : yMemMem.cells x0 = yMemMem.cells f_0 := by
    show yI.cells x0 = yI.cells f_0
    rw [(HA.out).1]
  refine ⟨?_, HF.out, x0, ?_, hcc, ?_, ?_, (HA.out).2.2.2, ?_⟩
  · show _ = Ending.returned (Value.int .i64 (k + ((yI.vcnt f_0 : Nat) : Int)))
    exact congrArg (fun z => Ending.returned (Value.int .i64 z)) (by omega)
  · show Value.agg (yMemMem.cells x0).toArray = Value.agg (yMemMem.cells f_0).toArray
    rw [hcc]
  · show yI.foot x0 = yI.foot f_0
    rw [(HA.out).2.1]
  · show yI.vcnt x0 = yI.vcnt f_0
    rw [(HA.out).2.2.1]
  · exact (show yI.vmkd x0 (k) from cast (congrArg (yI.vmkd x0) (by have hh := HA.out; omega)) HM0.out)

set_option maxRecDepth 100000 in
set_option maxHeartbeats 2000000 in
theorem yMemMem_held : HeldC yMemMem 47 := by
  rintro f_0 k w hr hm h0 h1
  have hbl : ∀ o, Below w.heap.size w (w.alloc o) := fun o => (Below.refl _ w).alloc (Nat.le_refl _) o
  have HK : Hid (k + ((yI.vcnt f_0 : Nat) : Int) ≤ 1000000000000000) := Hid.intro h1
  have HR := Hid.intro hr
  have HM := Hid.intro hm
  clear hr hm h1
  show Calls Tryz.prog 47 #[.agg #[.slice f_0.p f_0.l.length f_0.c], .int .i64 k] w _
  go_enter Tryz.func47, Tryz.ntmps47
  have HC0 : Hid (∀ (k : Int) (w : World), yI.rd w f_0 → yI.vmkd f_0 k → 0 ≤ k → k + (yI.vcnt f_0 : Int) ≤ 1000000000000000 → Calls Tryz.prog 48 #[.slice f_0.p f_0.l.length f_0.c, .int .i64 k] w fun e w' => e = .returned (.int .i64 (k + (yI.vcnt f_0 : Int))) ∧ Below w.heap.size w w') := Hid.intro (yI_held f_0)
  go_wp2_with fail
  refine (HC0.out _ _ (yI_law.rd_blw HR.out (hbl _)) (cast (congrArg (yI.vmkd f_0) (by omega)) (show yI.vmkd f_0 (k) from HM.out)) (by omega) (by have := HK.out; omega)).mono ?_
  rintro e w1 ⟨rfl, hb⟩
  have bel0 : Below w.heap.size w w1 := (hbl _).trans (hb.mono (hbl _).size)
  have bA0 : w1.heap[w.heap.size]? = some (.cells #[.slice f_0.p f_0.l.length f_0.c] 32 (0, 0)) := (hb.block _ (by simp)).trans (nw_k _ rfl)
  clear hb
  have hI0 : ¬ (k + ((yI.vcnt f_0 : Nat) : Int) < 0) := by omega
  have c0 : w1.cell? ⟨w.heap.size, 0, none⟩ = some (.slice f_0.p f_0.l.length f_0.c) := heap_cell bA0 0
  clear HR HM
  go_wp2
  go_ret
  refine ⟨?_, bel0⟩
  show _ = Ending.returned (Value.int .i64 (k + ((yI.vcnt f_0 : Nat) : Int)))
  exact congrArg (fun z => Ending.returned (Value.int .i64 z)) (by omega)

end Go.Proofs.YtpamjkkghghggaaGreat

namespace Go.Proofs.YtpamjkkghghggaaGreat
open Go.RowKit
set_option linter.unusedSimpArgs false
set_option linter.unusedVariables false

def yAtmState : Knd (((Lst Int)) × (Lst Int)) (((List Int)) × (List Int)) := gRec (gPair yMemMem yI)
theorem yAtmState_law : KLaw yAtmState := gRec_law (gPair_law yMemMem_law yI_law)
theorem yAtmState_val (f : (((Lst Int)) × (Lst Int))) : yAtmState.val f = .agg #[.slice f.1.p f.1.l.length f.1.c, .slice f.2.p f.2.l.length f.2.c] := rfl
theorem yAtmState_cells (f : (((Lst Int)) × (Lst Int))) : yAtmState.cells f = [.slice f.1.p f.1.l.length f.1.c, .slice f.2.p f.2.l.length f.2.c] := rfl

set_option maxRecDepth 100000 in
set_option maxHeartbeats 2000000 in
theorem yAtmState_sz : SzC yAtmState 5 := by
  rintro ⟨f_0_0, f_1⟩ left w hr h0 h1
  have HR := Hid.intro hr
  clear hr
  have hbl : ∀ o, Below w.heap.size w (w.alloc o) := fun o => (Below.refl _ w).alloc (Nat.le_refl _) o
  show Calls Tryz.prog 5 #[.agg #[.slice f_0_0.p f_0_0.l.length f_0_0.c, .slice f_1.p f_1.l.length f_1.c], .int .i64 left] w _
  go_enter Tryz.func5, Tryz.ntmps5
  have HC0 : Hid (∀ (left : Int) (w : World), yMemMem.rd w f_0_0 → 0 ≤ left → left ≤ 1048576 → Calls Tryz.prog 22 #[.agg #[.slice f_0_0.p f_0_0.l.length f_0_0.c], .int .i64 left] w fun e w' => (∃ z : Int, e = .returned (.int .i64 z) ∧ (z = -1 ∨ (0 ≤ z ∧ z = left - (yMemMem.size f_0_0 : Int)))) ∧ Below w.heap.size w w') := Hid.intro (yMemMem_sz f_0_0)
  go_wp2_with fail
  refine (HC0.out left _ (yMemMem_law.rd_blw HR.out.1 (hbl _)) h0 (by omega)).mono ?_
  clear HC0
  rintro e w1 ⟨⟨z0, rfl, hz0⟩, hb⟩
  have bel0 : Below w.heap.size w w1 := (hbl _).trans (hb.mono (hbl _).size)
  have bA0 : w1.heap[w.heap.size]? = some (.cells #[.slice f_0_0.p f_0_0.l.length f_0_0.c, .slice f_1.p f_1.l.length f_1.c] 27 (0, 0)) := (hb.block _ (by simp)).trans (nw_k _ rfl)
  clear hb
  rcases hz0 with rfl | ⟨g0, q0⟩
  · clear HR
    go_wp2
    go_ret
    exact ⟨⟨_, rfl, .inl rfl⟩, bel0⟩
  have n0 : ¬ (z0 < 0) := by omega
  have Q0 := Hid.intro q0
  have l0 : z0 ≤ 1048576 := by omega
  clear q0
  have c0 : w1.cell? ⟨w.heap.size, 0, none⟩ = some (.slice f_0_0.p f_0_0.l.length f_0_0.c) := heap_cell bA0 0
  have c1 : w1.cell? ⟨w.heap.size, 1, none⟩ = some (.slice f_1.p f_1.l.length f_1.c) := heap_cell bA0 1
  have HC1 : Hid (∀ (left : Int) (w : World), yI.rd w f_1 → 0 ≤ left → left ≤ 1048576 → Calls Tryz.prog 23 #[.slice f_1.p f_1.l.length f_1.c, .int .i64 left] w fun e w' => (∃ z : Int, e = .returned (.int .i64 z) ∧ (z = -1 ∨ (0 ≤ z ∧ z = left - (yI.size f_1 : Int)))) ∧ Below w.heap.size w w') := Hid.intro (yI_sz f_1)
  go_wp2_with fail
  refine (HC1.out z0 w1 (yI_law.rd_blw HR.out.2 bel0) g0 (by omega)).mono ?_
  clear HC1
  rintro e w2 ⟨⟨z1, rfl, hz1⟩, hb⟩
  have bel1 : Below w.heap.size w w2 := bel0.trans (hb.mono bel0.size)
  have bA1 : w2.heap[w.heap.size]? = some (.cells #[.slice f_0_0.p f_0_0.l.length f_0_0.c, .slice f_1.p f_1.l.length f_1.c] 27 (0, 0)) := (hb.block _ (heap_lt bA0)).trans bA0
  clear bel0 bA0 c0 c1
  clear hb
  rcases hz1 with rfl | ⟨g1, q1⟩
  · clear HR
    go_wp2
    go_ret
    exact ⟨⟨_, rfl, .inl rfl⟩, bel1⟩
  have n1 : ¬ (z1 < 0) := by omega
  have Q1 := Hid.intro q1
  have l1 : z1 ≤ 1048576 := by omega
  clear q1
  have c0 : w2.cell? ⟨w.heap.size, 0, none⟩ = some (.slice f_0_0.p f_0_0.l.length f_0_0.c) := heap_cell bA1 0
  have c1 : w2.cell? ⟨w.heap.size, 1, none⟩ = some (.slice f_1.p f_1.l.length f_1.c) := heap_cell bA1 1
  have HS : Hid ((yAtmState.size (f_0_0, f_1) : Nat) = yMemMem.size f_0_0 + (yI.size f_1)) := Hid.intro rfl
  clear HR
  go_wp2
  go_ret
  exact ⟨⟨_, rfl, .inr ⟨g1, by have := HS.out; have := Q0.out; have := Q1.out; omega⟩⟩, bel1⟩

set_option maxRecDepth 100000 in
set_option maxHeartbeats 2000000 in
theorem yAtmState_eq : EqC yAtmState 12 := by
  rintro ⟨f_0_0, f_1⟩ ⟨g_0_0, g_1⟩ w hr hr' hp
  have hp' : ((yMemMem.pl f_0_0, yI.pl f_1) : (((List Int)) × (List Int))) = (yMemMem.pl g_0_0, yI.pl g_1) := hp
  clear hp
  simp only [Prod.mk.injEq] at hp'
  obtain ⟨p0, p1⟩ := hp'
  have HR := Hid.intro hr
  have HQ := Hid.intro hr'
  clear hr hr'
  have hbl : ∀ o o', Below w.heap.size w ((w.alloc o).alloc o') := fun o o' => ((Below.refl _ w).alloc (Nat.le_refl _) o).alloc (by simp) o'
  show Calls Tryz.prog 12 #[.agg #[.slice f_0_0.p f_0_0.l.length f_0_0.c, .slice f_1.p f_1.l.length f_1.c], .agg #[.slice g_0_0.p g_0_0.l.length g_0_0.c, .slice g_1.p g_1.l.length g_1.c]] w _
  go_enter Tryz.func12, Tryz.ntmps12
  have HC0 : Hid (∀ (w : World), yMemMem.rd w f_0_0 → yMemMem.rd w g_0_0 → yMemMem.pl f_0_0 = yMemMem.pl g_0_0 → Calls Tryz.prog 40 #[.agg #[.slice f_0_0.p f_0_0.l.length f_0_0.c], .agg #[.slice g_0_0.p g_0_0.l.length g_0_0.c]] w fun e w' => e = .returned (.bool true) ∧ Below w.heap.size w w') := Hid.intro (yMemMem_eq f_0_0 g_0_0)
  go_wp2_with fail
  refine (HC0.out _ (yMemMem_law.rd_blw HR.out.1 (hbl _ _)) (yMemMem_law.rd_blw HQ.out.1 (hbl _ _)) p0).mono ?_
  clear HC0
  rintro e w1 ⟨rfl, hb⟩
  have bel0 : Below w.heap.size w w1 := (hbl _ _).trans (hb.mono (hbl _ _).size)
  have bA0 : w1.heap[w.heap.size]? = some (.cells #[.slice f_0_0.p f_0_0.l.length f_0_0.c, .slice f_1.p f_1.l.length f_1.c] 34 (0, 0)) := (hb.block _ (by simp <;> omega)).trans ((Below.heap_alloc _ _ _ (by simp)).trans (nw_k _ rfl))
  have bB0 : w1.heap[w.heap.size + 1]? = some (.cells #[.slice g_0_0.p g_0_0.l.length g_0_0.c, .slice g_1.p g_1.l.length g_1.c] 34 (0, 0)) := (hb.block _ (by simp)).trans (nw_k _ (by simp))
  clear hb
  have c0 : w1.cell? ⟨w.heap.size, 0, none⟩ = some (.slice f_0_0.p f_0_0.l.length f_0_0.c) := heap_cell bA0 0
  have c1 : w1.cell? ⟨w.heap.size, 1, none⟩ = some (.slice f_1.p f_1.l.length f_1.c) := heap_cell bA0 1
  have d0 : w1.cell? ⟨w.heap.size + 1, 0, none⟩ = some (.slice g_0_0.p g_0_0.l.length g_0_0.c) := heap_cell bB0 0
  have d1 : w1.cell? ⟨w.heap.size + 1, 1, none⟩ = some (.slice g_1.p g_1.l.length g_1.c) := heap_cell bB0 1
  have HC1 : Hid (∀ (w : World), yI.rd w f_1 → yI.rd w g_1 → yI.pl f_1 = yI.pl g_1 → Calls Tryz.prog 41 #[.slice f_1.p f_1.l.length f_1.c, .slice g_1.p g_1.l.length g_1.c] w fun e w' => e = .returned (.bool true) ∧ Below w.heap.size w w') := Hid.intro (yI_eq f_1 g_1)
  go_wp2_with fail
  refine (HC1.out w1 (yI_law.rd_blw HR.out.2 bel0) (yI_law.rd_blw HQ.out.2 bel0) p1).mono ?_
  clear HC1
  rintro e w2 ⟨rfl, hb⟩
  have bel1 : Below w.heap.size w w2 := bel0.trans (hb.mono bel0.size)
  have bA1 : w2.heap[w.heap.size]? = some (.cells #[.slice f_0_0.p f_0_0.l.length f_0_0.c, .slice f_1.p f_1.l.length f_1.c] 34 (0, 0)) := (hb.block _ (heap_lt bA0)).trans bA0
  have bB1 : w2.heap[w.heap.size + 1]? = some (.cells #[.slice g_0_0.p g_0_0.l.length g_0_0.c, .slice g_1.p g_1.l.length g_1.c] 34 (0, 0)) := (hb.block _ (heap_lt bB0)).trans bB0
  clear bel0 bA0 bB0 c0 c1 d0 d1
  clear hb
  have c0 : w2.cell? ⟨w.heap.size, 0, none⟩ = some (.slice f_0_0.p f_0_0.l.length f_0_0.c) := heap_cell bA1 0
  have c1 : w2.cell? ⟨w.heap.size, 1, none⟩ = some (.slice f_1.p f_1.l.length f_1.c) := heap_cell bA1 1
  have d0 : w2.cell? ⟨w.heap.size + 1, 0, none⟩ = some (.slice g_0_0.p g_0_0.l.length g_0_0.c) := heap_cell bB1 0
  have d1 : w2.cell? ⟨w.heap.size + 1, 1, none⟩ = some (.slice g_1.p g_1.l.length g_1.c) := heap_cell bB1 1
  clear HR HQ
  go_wp2
  go_ret
  exact ⟨rfl, bel1⟩

set_option maxRecDepth 100000 in
set_option maxHeartbeats 2000000 in
theorem yAtmState_to : ToC yAtmState 9 := by
  rintro ⟨f_0_0, f_1⟩ w hr hs
  have HR := Hid.intro hr
  clear hr
  have hbl : ∀ o o' o'', Below w.heap.size w (((w.alloc o).alloc o').alloc o'') := fun o o' o'' => (((Below.refl _ w).alloc (Nat.le_refl _) o).alloc (by simp) o').alloc (by simp <;> omega) o''
  have HS : Hid (yMemMem.size f_0_0 + (yI.size f_1) ≤ 1048576) := Hid.intro hs
  clear hs
  show Calls Tryz.prog 9 #[.agg #[.slice f_0_0.p f_0_0.l.length f_0_0.c, .slice f_1.p f_1.l.length f_1.c]] w _
  go_enter Tryz.func9, Tryz.ntmps9
  have HC0 : Hid (∀ (w : World), yMemMem.rd w f_0_0 → yMemMem.size f_0_0 ≤ 1048576 → Calls Tryz.prog 32 #[.agg #[.slice f_0_0.p f_0_0.l.length f_0_0.c]] w fun e w' => ∃ a', e = .returned (yMemMem.val a') ∧ yMemMem.pl a' = yMemMem.pl f_0_0 ∧ yMemMem.size a' = yMemMem.size f_0_0 ∧ Fresh yMemMem w.heap.size w' a' ∧ Below w.heap.size w w') := Hid.intro (yMemMem_to f_0_0)
  go_wp2_with fail
  refine (HC0.out _ (yMemMem_law.rd_blw HR.out.1 (hbl _ _ _)) (by have := HS.out; omega)).mono ?_
  clear HC0
  rintro e w1 ⟨x0_0, he, hpl0, hsz0, hf0, hb⟩
  rw [yMemMem_val] at he
  subst he
  have hzz0 := hb.size
  simp only [World.size_alloc, Nat.add_assoc, Nat.reduceAdd] at hzz0
  have bA0 : w1.heap[w.heap.size]? = some (.cells #[.slice f_0_0.p f_0_0.l.length f_0_0.c, .slice f_1.p f_1.l.length f_1.c] 27 (0, 0)) := (hb.block _ (by simp <;> omega)).trans ((Below.heap_alloc _ _ _ (by simp <;> omega)).trans ((Below.heap_alloc _ _ _ (by simp)).trans (nw_k _ rfl)))
  have bR0 : w1.heap[w.heap.size + 1]? = some (.cells #[.slice none 0 0, .slice none 0 0] 34 (0, 0)) := (hb.block _ (by simp <;> omega)).trans ((Below.heap_alloc _ _ _ (by simp)).trans (nw_k _ (by simp)))
  have bO0 : w1.heap[w.heap.size + 2]? = some (.cells #[.slice none 0 0, .slice none 0 0] 34 (0, 0)) := (hb.block _ (by simp)).trans (nw_k _ (by simp))
  have bel0 : Below w.heap.size w w1 := (hbl _ _ _).trans (hb.mono (hbl _ _ _).size)
  replace hf0 := hf0.mono (M' := w.heap.size + 3) (by simp <;> omega)
  have c0 : w1.cell? ⟨w.heap.size, 0, none⟩ = some (.slice f_0_0.p f_0_0.l.length f_0_0.c) := heap_cell bA0 0
  have c1 : w1.cell? ⟨w.heap.size, 1, none⟩ = some (.slice f_1.p f_1.l.length f_1.c) := heap_cell bA0 1
  have o0 : w1.cell? ⟨w.heap.size + 2, 0, none⟩ = some (.slice none 0 0) := heap_cell bO0 0
  have o1 : w1.cell? ⟨w.heap.size + 2, 1, none⟩ = some (.slice none 0 0) := heap_cell bO0 1
  have fo0 : w1.frozen? ⟨w.heap.size + 2, 0, none⟩ = false := heap_free bO0 0
  have fo1 : w1.frozen? ⟨w.heap.size + 2, 1, none⟩ = false := heap_free bO0 1
  have lt0 : ∀ x ∈ yMemMem.foot x0_0, x < w1.heap.size := yMemMem_law.ow_lt hf0.ow
  clear hb
  have belc1 : Below w.heap.size w (w1.setCell ⟨w.heap.size + 2, 0, none⟩ (.slice x0_0.p x0_0.l.length x0_0.c)) := (bel0.setCell (p := ⟨w.heap.size + 2, 0, none⟩) (by simp) (.slice x0_0.p x0_0.l.length x0_0.c))
  have HC1 : Hid (∀ (w : World), yI.rd w f_1 → yI.size f_1 ≤ 1048576 → Calls Tryz.prog 33 #[.slice f_1.p f_1.l.length f_1.c] w fun e w' => ∃ a', e = .returned (yI.val a') ∧ yI.pl a' = yI.pl f_1 ∧ yI.size a' = yI.size f_1 ∧ Fresh yI w.heap.size w' a' ∧ Below w.heap.size w w') := Hid.intro (yI_to f_1)
  go_wp2_with fail
  refine (HC1.out (w1.setCell ⟨w.heap.size + 2, 0, none⟩ (.slice x0_0.p x0_0.l.length x0_0.c)) (yI_law.rd_blw HR.out.2 belc1) (by have := HS.out; omega)).mono ?_
  clear HC1
  rintro e w2 ⟨x1, he, hpl1, hsz1, hf1, hb⟩
  replace he : e = .returned (.slice x1.p x1.l.length x1.c) := he
  subst he
  have hzz1 := hb.size
  simp only [World.size_setCell] at hzz1
  have bA1 : w2.heap[w.heap.size]? = some (.cells #[.slice f_0_0.p f_0_0.l.length f_0_0.c, .slice f_1.p f_1.l.length f_1.c] 27 (0, 0)) := (hb.block _ (by simp only [World.size_setCell]; omega)).trans ((heap_set_ne (by omega)).trans (bA0))
  have bR1 : w2.heap[w.heap.size + 1]? = some (.cells #[.slice none 0 0, .slice none 0 0] 34 (0, 0)) := (hb.block _ (by simp only [World.size_setCell]; omega)).trans ((heap_set_ne (by omega)).trans (bR0))
  have bO1 : w2.heap[w.heap.size + 2]? = some (.cells #[.slice x0_0.p x0_0.l.length x0_0.c, .slice none 0 0] 34 (0, 0)) := (hb.block _ (by simp only [World.size_setCell]; omega)).trans (by simpa using (heap_set bO0 0 (.slice x0_0.p x0_0.l.length x0_0.c)))
  have bel1 : Below w.heap.size w w2 := belc1.trans (hb.mono belc1.size)
  replace hf0 : Fresh yMemMem (w.heap.size + 3) w2 x0_0 := (hf0.of yMemMem_law (fun x hx => by have := hf0.ge x hx; exact (heap_set_ne (by omega)).trans (rfl))).below yMemMem_law hb
  replace hf1 := hf1.mono (M' := w1.heap.size) (by simp only [World.size_setCell]; omega)
  clear bA0 bR0 bO0 bel0 belc1 c0 c1 o0 o1 fo0 fo1
  have c0 : w2.cell? ⟨w.heap.size, 0, none⟩ = some (.slice f_0_0.p f_0_0.l.length f_0_0.c) := heap_cell bA1 0
  have c1 : w2.cell? ⟨w.heap.size, 1, none⟩ = some (.slice f_1.p f_1.l.length f_1.c) := heap_cell bA1 1
  have o0 : w2.cell? ⟨w.heap.size + 2, 0, none⟩ = some (.slice x0_0.p x0_0.l.length x0_0.c) := heap_cell bO1 0
  have o1 : w2.cell? ⟨w.heap.size + 2, 1, none⟩ = some (.slice none 0 0) := heap_cell bO1 1
  have fo0 : w2.frozen? ⟨w.heap.size + 2, 0, none⟩ = false := heap_free bO1 0
  have fo1 : w2.frozen? ⟨w.heap.size + 2, 1, none⟩ = false := heap_free bO1 1
  have lt1 : ∀ x ∈ yI.foot x1, x < w2.heap.size := yI_law.ow_lt hf1.ow
  clear hb
  have bR'' : (w2.setCell ⟨w.heap.size + 2, 1, none⟩ (.slice x1.p x1.l.length x1.c)).heap[w.heap.size + 1]? = some (.cells #[.slice none 0 0, .slice none 0 0] 34 (0, 0)) := (heap_set_ne (by omega)).trans (bR1)
  have q0 : w2.cell? ⟨w.heap.size + 1, 0, none⟩ = some (.slice none 0 0) := heap_cell bR1 0
  have q1 : w2.cell? ⟨w.heap.size + 1, 1, none⟩ = some (.slice none 0 0) := heap_cell bR1 1
  have fq0 : w2.frozen? ⟨w.heap.size + 1, 0, none⟩ = false := heap_free bR1 0
  have fq1 : w2.frozen? ⟨w.heap.size + 1, 1, none⟩ = false := heap_free bR1 1
  have hf := (heap_set (heap_set bR'' 0 (.slice x0_0.p x0_0.l.length x0_0.c)) 1 (.slice x1.p x1.l.length x1.c))
  have r0 := heap_cell hf 0
  have r1 := heap_cell hf 1
  simp at r0 r1
  have hne : ∀ x, x ≠ w.heap.size + 1 → x ≠ w.heap.size + 2 → (((w2.setCell ⟨w.heap.size + 2, 1, none⟩ (.slice x1.p x1.l.length x1.c)).setCell ⟨w.heap.size + 1, 0, none⟩ (.slice x0_0.p x0_0.l.length x0_0.c)).setCell ⟨w.heap.size + 1, 1, none⟩ (.slice x1.p x1.l.length x1.c)).heap[x]? = w2.heap[x]? := fun x h1 h2 => (heap_set_ne h1).trans ((heap_set_ne h1).trans ((heap_set_ne h2).trans (rfl)))
  have HB : Hid (Below w.heap.size w (((w2.setCell ⟨w.heap.size + 2, 1, none⟩ (.slice x1.p x1.l.length x1.c)).setCell ⟨w.heap.size + 1, 0, none⟩ (.slice x0_0.p x0_0.l.length x0_0.c)).setCell ⟨w.heap.size + 1, 1, none⟩ (.slice x1.p x1.l.length x1.c))) := Hid.intro ((((bel1.setCell (p := ⟨w.heap.size + 2, 1, none⟩) (by simp) (.slice x1.p x1.l.length x1.c)).setCell (p := ⟨w.heap.size + 1, 0, none⟩) (by simp) (.slice x0_0.p x0_0.l.length x0_0.c)).setCell (p := ⟨w.heap.size + 1, 1, none⟩) (by simp) (.slice x1.p x1.l.length x1.c)))
  have HX : Hid (Fresh yMemMem (w.heap.size + 3) (((w2.setCell ⟨w.heap.size + 2, 1, none⟩ (.slice x1.p x1.l.length x1.c)).setCell ⟨w.heap.size + 1, 0, none⟩ (.slice x0_0.p x0_0.l.length x0_0.c)).setCell ⟨w.heap.size + 1, 1, none⟩ (.slice x1.p x1.l.length x1.c)) x0_0 ∧ Fresh yI w1.heap.size (((w2.setCell ⟨w.heap.size + 2, 1, none⟩ (.slice x1.p x1.l.length x1.c)).setCell ⟨w.heap.size + 1, 0, none⟩ (.slice x0_0.p x0_0.l.length x0_0.c)).setCell ⟨w.heap.size + 1, 1, none⟩ (.slice x1.p x1.l.length x1.c)) x1) := Hid.intro ⟨(hf0.of yMemMem_law (fun x hx => hne x (by have := hf0.ge x hx; omega) (by have := hf0.ge x hx; omega))), (hf1.of yI_law (fun x hx => hne x (by have := hf1.ge x hx; omega) (by have := hf1.ge x hx; omega)))⟩
  have HL : Hid ((∀ x ∈ yMemMem.foot x0_0, x < w1.heap.size) ∧ (∀ x ∈ yI.foot x1, x < w2.heap.size)) := Hid.intro ⟨(fun x hx => lt0 x hx), (fun x hx => lt1 x hx)⟩
  have HPL : Hid ((yMemMem.pl x0_0 = yMemMem.pl f_0_0 ∧ yMemMem.size x0_0 = yMemMem.size f_0_0) ∧ (yI.pl x1 = yI.pl f_1 ∧ yI.size x1 = yI.size f_1)) := Hid.intro ⟨⟨hpl0, hsz0⟩, ⟨hpl1, hsz1⟩⟩
  clear hne hf bA1 bR1 bO1 bel1 bR'' HR HS hf0 hf1 lt0 lt1 hpl0 hpl1 hsz0 hsz1
  go_wp2
  refine bodyPost_ret (v := .agg #[.slice x0_0.p x0_0.l.length x0_0.c, .slice x1.p x1.l.length x1.c]) (by simp [results, Tryz.results9, go_sem, r0, r1]) rfl ⟨(x0_0, x1), rfl, ?_, ?_, Fresh.recd (Fresh.pair (M' := w1.heap.size) ((HX.out.1).mono (by omega)) (by omega) (HL.out.1) ((HX.out.2).mono (by omega))), HB.out⟩
  · show ((yMemMem.pl x0_0, yI.pl x1) : (((List Int)) × (List Int))) = (yMemMem.pl f_0_0, yI.pl f_1)
    rw [(HPL.out.1).1, (HPL.out.2).1]
  · show yMemMem.size x0_0 + (yI.size x1) = yMemMem.size f_0_0 + (yI.size f_1)
    have hh := HPL.out
    omega

set_option maxRecDepth 100000 in
set_option maxHeartbeats 2000000 in
theorem yAtmState_mark : MarkC yAtmState 17 := by
  rintro ⟨f_0_0, f_1⟩ k w ho hn h0 h1
  have hbl : ∀ o, Below w.heap.size w (w.alloc o) := fun o => (Below.refl _ w).alloc (Nat.le_refl _) o
  have HK : Hid (k + ((yMemMem.vcnt f_0_0 + (yI.vcnt f_1) : Nat) : Int) ≤ 1000000000000000) := Hid.intro h1
  have HL := Hid.intro (yAtmState_law.ow_lt ho)
  have r0 : (yMemMem.foot f_0_0 ++ (yI.foot f_1)).Nodup := hn
  obtain ⟨n0, r1, d0⟩ := nd2 r0
  have n1 := r1
  have HN := Hid.intro (And.intro n0 trivial)
  have HN0 := Hid.intro n0
  have HN1 := Hid.intro n1
  have HD0 := Hid.intro d0
  have HO := Hid.intro ho
  clear ho hn h1 HN n0 n1 r0 r1 d0
  show Calls Tryz.prog 17 #[.agg #[.slice f_0_0.p f_0_0.l.length f_0_0.c, .slice f_1.p f_1.l.length f_1.c], .int .i64 k] w _
  go_enter Tryz.func17, Tryz.ntmps17
  have HC0 : Hid (∀ (k : Int) (w : World), yMemMem.ow w f_0_0 → (yMemMem.foot f_0_0).Nodup → 0 ≤ k → k + (yMemMem.vcnt f_0_0 : Int) ≤ 1000000000000000 → Calls Tryz.prog 45 #[.agg #[.slice f_0_0.p f_0_0.l.length f_0_0.c], .int .i64 k] w fun e w' => e = .returned (.int .i64 (k + (yMemMem.vcnt f_0_0 : Int))) ∧ Kept (fun b => b ∈ yMemMem.foot f_0_0) w w' ∧ ∃ a', yMemMem.val a' = yMemMem.val f_0_0 ∧ yMemMem.cells a' = yMemMem.cells f_0_0 ∧ yMemMem.foot a' = yMemMem.foot f_0_0 ∧ yMemMem.vcnt a' = yMemMem.vcnt f_0_0 ∧ yMemMem.ow w' a' ∧ yMemMem.vmkd a' k) := Hid.intro (yMemMem_mark f_0_0)
  go_wp2_with fail
  refine (HC0.out _ _ (yMemMem_law.ow_of HO.out.1 (fun b hb => (hbl _).block b (HL.out b (show _ ∈ yMemMem.foot f_0_0 ++ (yI.foot f_1) from List.mem_append.2 (.inl hb))))) HN0.out (by omega) (by have := HK.out; omega)).mono ?_
  clear HC0
  rintro e w1 ⟨rfl, hk, x0_0, hv0, hc0, hf0, hn0, hw0, hm0⟩
  have bA0 : w1.heap[w.heap.size]? = some (.cells #[.slice f_0_0.p f_0_0.l.length f_0_0.c, .slice f_1.p f_1.l.length f_1.c] 34 (0, 0)) := (hk.block _ (by simp) (fun hb => by have := HL.out _ (show _ ∈ yMemMem.foot f_0_0 ++ (yI.foot f_1) from List.mem_append.2 (.inl hb)); omega)).trans (nw_k _ rfl)
  have hk0 : Kept (fun b => b ∈ yMemMem.foot f_0_0) w w1 := (Kept.of_below (hbl _)).trans hk
  clear hk
  have c0 : w1.cell? ⟨w.heap.size, 0, none⟩ = some (.slice f_0_0.p f_0_0.l.length f_0_0.c) := heap_cell bA0 0
  have c1 : w1.cell? ⟨w.heap.size, 1, none⟩ = some (.slice f_1.p f_1.l.length f_1.c) := heap_cell bA0 1
  have ho1 : yI.ow w1 f_1 := yI_law.ow_of HO.out.2 (fun b hb => hk0.block b (HL.out b (show _ ∈ yMemMem.foot f_0_0 ++ (yI.foot f_1) from List.mem_append.2 (.inr (hb)))) (by
      rintro hd
      · exact HD0.out b (hb) hd))
  have HC1 : Hid (∀ (k : Int) (w : World), yI.ow w f_1 → (yI.foot f_1).Nodup → 0 ≤ k → k + (yI.vcnt f_1 : Int) ≤ 1000000000000000 → Calls Tryz.prog 46 #[.slice f_1.p f_1.l.length f_1.c, .int .i64 k] w fun e w' => e = .returned (.int .i64 (k + (yI.vcnt f_1 : Int))) ∧ Kept (fun b => b ∈ yI.foot f_1) w w' ∧ ∃ a', yI.val a' = yI.val f_1 ∧ yI.cells a' = yI.cells f_1 ∧ yI.foot a' = yI.foot f_1 ∧ yI.vcnt a' = yI.vcnt f_1 ∧ yI.ow w' a' ∧ yI.vmkd a' k) := Hid.intro (yI_mark f_1)
  go_wp2_with fail
  refine (HC1.out _ _ ho1 HN1.out (by omega) (by have := HK.out; omega)).mono ?_
  clear HC1
  rintro e w2 ⟨rfl, hk, x1, hv1, hc1, hf1, hn1, hw1, hm1⟩
  have bA1 : w2.heap[w.heap.size]? = some (.cells #[.slice f_0_0.p f_0_0.l.length f_0_0.c, .slice f_1.p f_1.l.length f_1.c] 34 (0, 0)) := (hk.block _ (heap_lt bA0) (fun hb => by have := HL.out _ (show _ ∈ yMemMem.foot f_0_0 ++ (yI.foot f_1) from List.mem_append.2 (.inr (hb))); omega)).trans bA0
  replace hw0 : yMemMem.ow w2 x0_0 := yMemMem_law.ow_of hw0 (fun b hb => hk.block b (yMemMem_law.ow_lt hw0 b hb) (fun hd => by rw [hf0] at hb; exact HD0.out b (hd) hb))
  have hk1 : Kept (fun b => (b ∈ yMemMem.foot f_0_0) ∨ b ∈ yI.foot f_1) w w2 := (hk0.mono (fun b h => Or.inl h)).trans (hk.mono (fun b h => Or.inr h))
  clear bA0 hk0 ho1 c0 c1
  clear hk
  have c0 : w2.cell? ⟨w.heap.size, 0, none⟩ = some (.slice f_0_0.p f_0_0.l.length f_0_0.c) := heap_cell bA1 0
  have c1 : w2.cell? ⟨w.heap.size, 1, none⟩ = some (.slice f_1.p f_1.l.length f_1.c) := heap_cell bA1 1
  have HF : Hid (Kept (fun b => b ∈ yAtmState.foot (f_0_0, f_1)) w w2) := Hid.intro (hk1.mono (by
      intro b
      rintro (hd | hd)
      · exact (show _ ∈ yMemMem.foot f_0_0 ++ (yI.foot f_1) from List.mem_append.2 (.inl hd))
      · exact (show _ ∈ yMemMem.foot f_0_0 ++ (yI.foot f_1) from List.mem_append.2 (.inr (hd)))))
  have HA : Hid ((yMemMem.cells x0_0 = yMemMem.cells f_0_0 ∧ yMemMem.foot x0_0 = yMemMem.foot f_0_0 ∧ yMemMem.vcnt x0_0 = yMemMem.vcnt f_0_0 ∧ yMemMem.ow w2 x0_0) ∧ (yI.cells x1 = yI.cells f_1 ∧ yI.foot x1 = yI.foot f_1 ∧ yI.vcnt x1 = yI.vcnt f_1 ∧ yI.ow w2 x1)) := Hid.intro ⟨⟨hc0, hf0, hn0, hw0⟩, ⟨hc1, hf1, hn1, hw1⟩⟩
  clear hk1 hv0 hc0 hf0 hw0 hv1 hc1 hf1 hw1
  have HM0 := Hid.intro hm0
  have HM1 := Hid.intro hm1
  clear hm0 hm1
  go_wp2
  go_ret
  have hcc : yAtmState.cells (x0_0, x1) = yAtmState.cells (f_0_0, f_1) := by
    show yMemMem.cells x0_0 ++ (yI.cells x1) = yMemMem.cells f_0_0 ++ (yI.cells f_1)
    rw [(HA.out.1).1, (HA.out.2).1]
  refine ⟨?_, HF.out, (x0_0, x1), ?_, hcc, ?_, ?_, ⟨(HA.out.1).2.2.2, (HA.out.2).2.2.2⟩, ?_⟩
  · show _ = Ending.returned (Value.int .i64 (k + ((yMemMem.vcnt f_0_0 + (yI.vcnt f_1) : Nat) : Int)))
    exact congrArg (fun z => Ending.returned (Value.int .i64 z)) (by omega)
  · show Value.agg (yAtmState.cells (x0_0, x1)).toArray = Value.agg (yAtmState.cells (f_0_0, f_1)).toArray
    rw [hcc]
  · show yMemMem.foot x0_0 ++ (yI.foot x1) = yMemMem.foot f_0_0 ++ (yI.foot f_1)
    rw [(HA.out.1).2.1, (HA.out.2).2.1]
  · show yMemMem.vcnt x0_0 + (yI.vcnt x1) = yMemMem.vcnt f_0_0 + (yI.vcnt f_1)
    rw [(HA.out.1).2.2.1, (HA.out.2).2.2.1]
  · exact ⟨(show yMemMem.vmkd x0_0 (k) from cast (congrArg (yMemMem.vmkd x0_0) (by have hh := HA.out; omega)) HM0.out), (show yI.vmkd x1 (k + ((yMemMem.vcnt x0_0 : Nat) : Int)) from cast (congrArg (yI.vmkd x1) (by have hh := HA.out; omega)) HM1.out)⟩

set_option maxRecDepth 100000 in
set_option maxHeartbeats 2000000 in
theorem yAtmState_held : HeldC yAtmState 20 := by
  rintro ⟨f_0_0, f_1⟩ k w hr hm h0 h1
  have hbl : ∀ o, Below w.heap.size w (w.alloc o) := fun o => (Below.refl _ w).alloc (Nat.le_refl _) o
  have HK : Hid (k + ((yMemMem.vcnt f_0_0 + (yI.vcnt f_1) : Nat) : Int) ≤ 1000000000000000) := Hid.intro h1
  have HR := Hid.intro hr
  have HM := Hid.intro hm
  clear hr hm h1
  show Calls Tryz.prog 20 #[.agg #[.slice f_0_0.p f_0_0.l.length f_0_0.c, .slice f_1.p f_1.l.length f_1.c], .int .i64 k] w _
  go_enter Tryz.func20, Tryz.ntmps20
  have HC0 : Hid (∀ (k : Int) (w : World), yMemMem.rd w f_0_0 → yMemMem.vmkd f_0_0 k → 0 ≤ k → k + (yMemMem.vcnt f_0_0 : Int) ≤ 1000000000000000 → Calls Tryz.prog 47 #[.agg #[.slice f_0_0.p f_0_0.l.length f_0_0.c], .int .i64 k] w fun e w' => e = .returned (.int .i64 (k + (yMemMem.vcnt f_0_0 : Int))) ∧ Below w.heap.size w w') := Hid.intro (yMemMem_held f_0_0)
  go_wp2_with fail
  refine (HC0.out _ _ (yMemMem_law.rd_blw HR.out.1 (hbl _)) (cast (congrArg (yMemMem.vmkd f_0_0) (by omega)) (show yMemMem.vmkd f_0_0 (k) from HM.out.1)) (by omega) (by have := HK.out; omega)).mono ?_
  rintro e w1 ⟨rfl, hb⟩
  have bel0 : Below w.heap.size w w1 := (hbl _).trans (hb.mono (hbl _).size)
  have bA0 : w1.heap[w.heap.size]? = some (.cells #[.slice f_0_0.p f_0_0.l.length f_0_0.c, .slice f_1.p f_1.l.length f_1.c] 34 (0, 0)) := (hb.block _ (by simp)).trans (nw_k _ rfl)
  clear hb
  have hI0 : ¬ (k + ((yMemMem.vcnt f_0_0 : Nat) : Int) < 0) := by omega
  have c0 : w1.cell? ⟨w.heap.size, 0, none⟩ = some (.slice f_0_0.p f_0_0.l.length f_0_0.c) := heap_cell bA0 0
  have c1 : w1.cell? ⟨w.heap.size, 1, none⟩ = some (.slice f_1.p f_1.l.length f_1.c) := heap_cell bA0 1
  have HC1 : Hid (∀ (k : Int) (w : World), yI.rd w f_1 → yI.vmkd f_1 k → 0 ≤ k → k + (yI.vcnt f_1 : Int) ≤ 1000000000000000 → Calls Tryz.prog 48 #[.slice f_1.p f_1.l.length f_1.c, .int .i64 k] w fun e w' => e = .returned (.int .i64 (k + (yI.vcnt f_1 : Int))) ∧ Below w.heap.size w w') := Hid.intro (yI_held f_1)
  go_wp2_with fail
  refine (HC1.out _ _ (yI_law.rd_blw HR.out.2 bel0) (cast (congrArg (yI.vmkd f_1) (by omega)) (show yI.vmkd f_1 (k + ((yMemMem.vcnt f_0_0 : Nat) : Int)) from HM.out.2)) (by omega) (by have := HK.out; omega)).mono ?_
  rintro e w2 ⟨rfl, hb⟩
  have bel1 : Below w.heap.size w w2 := bel0.trans (hb.mono bel0.size)
  have bA1 : w2.heap[w.heap.size]? = some (.cells #[.slice f_0_0.p f_0_0.l.length f_0_0.c, .slice f_1.p f_1.l.length f_1.c] 34 (0, 0)) := (hb.block _ (heap_lt bA0)).trans bA0
  clear bel0 bA0 hI0 c0 c1
  clear hb
  have hI1 : ¬ (k + ((yMemMem.vcnt f_0_0 : Nat) : Int) + ((yI.vcnt f_1 : Nat) : Int) < 0) := by omega
  have c0 : w2.cell? ⟨w.heap.size, 0, none⟩ = some (.slice f_0_0.p f_0_0.l.length f_0_0.c) := heap_cell bA1 0
  have c1 : w2.cell? ⟨w.heap.size, 1, none⟩ = some (.slice f_1.p f_1.l.length f_1.c) := heap_cell bA1 1
  clear HR HM
  go_wp2
  go_ret
  refine ⟨?_, bel1⟩
  show _ = Ending.returned (Value.int .i64 (k + ((yMemMem.vcnt f_0_0 + (yI.vcnt f_1) : Nat) : Int)))
  exact congrArg (fun z => Ending.returned (Value.int .i64 z)) (by omega)

end Go.Proofs.YtpamjkkghghggaaGreat
