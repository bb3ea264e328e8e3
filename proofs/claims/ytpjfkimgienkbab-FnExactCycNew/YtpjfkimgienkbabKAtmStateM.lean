/-
  AtmState: the laws' functions, by contract of kinds.
-/
import Derived.Test.YtpjfkimgienkbabKndI
import Derived.Test.YtpjfkimgienkbabKndLM
import Derived.Test.YtpjfkimgienkbabOpsXM
/-
  MemMem: the laws' functions, by contract of kinds.
-/
namespace Go.Proofs.Ytpjfkimgienkbab
open Go.RowKit
set_option linter.unusedSimpArgs false
set_option linter.unusedVariables false

def yMemMem : Knd ((Lst Int)) ((List Int)) := gRec yI
theorem yMemMem_law : KLaw yMemMem := gRec_law yI_law
theorem yMemMem_val (f : ((Lst Int))) : yMemMem.val f = .agg #[.slice f.p f.l.length f.c] := rfl
theorem yMemMem_cells (f : ((Lst Int))) : yMemMem.cells f = [.slice f.p f.l.length f.c] := rfl

set_option maxRecDepth 100000 in
set_option maxHeartbeats 2000000 in
theorem yMemMem_eq : EqC yMemMem 37 := by
  rintro f_0 g_0 w hr hr' hp
  have hp' : ((yI.pl f_0) : ((List Int))) = (yI.pl g_0) := hp
  clear hp
  have p0 := hp'
  have HR := Hid.intro hr
  have HQ := Hid.intro hr'
  clear hr hr'
  have hbl : ∀ o o', Below w.heap.size w ((w.alloc o).alloc o') := fun o o' => ((Below.refl _ w).alloc (Nat.le_refl _) o).alloc (by simp) o'
  show Calls Try.prog 37 #[.agg #[.slice f_0.p f_0.l.length f_0.c], .agg #[.slice g_0.p g_0.l.length g_0.c]] w _
  go_enter Try.func37, Try.ntmps37
  have HC0 : Hid (∀ (w : World), yI.rd w f_0 → yI.rd w g_0 → yI.pl f_0 = yI.pl g_0 → Calls Try.prog 38 #[.slice f_0.p f_0.l.length f_0.c, .slice g_0.p g_0.l.length g_0.c] w fun e w' => e = .returned (.bool true) ∧ Below w.heap.size w w') := Hid.intro (yI_eq f_0 g_0)
  go_wp2_with fail
  refine (HC0.out _ (yI_law.rd_blw HR.out (hbl _ _)) (yI_law.rd_blw HQ.out (hbl _ _)) p0).mono ?_
  clear HC0
  rintro e w1 ⟨rfl, hb⟩
  have bel0 : Below w.heap.size w w1 := (hbl _ _).trans (hb.mono (hbl _ _).size)
  have bA0 : w1.heap[w.heap.size]? = some (.cells #[.slice f_0.p f_0.l.length f_0.c] 24 (0, 0)) := (hb.block _ (by simp <;> omega)).trans ((Below.heap_alloc _ _ _ (by simp)).trans (nw_k _ rfl))
  have bB0 : w1.heap[w.heap.size + 1]? = some (.cells #[.slice g_0.p g_0.l.length g_0.c] 24 (0, 0)) := (hb.block _ (by simp)).trans (nw_k _ (by simp))
  clear hb
  have c0 : w1.cell? ⟨w.heap.size, 0, none⟩ = some (.slice f_0.p f_0.l.length f_0.c) := heap_cell bA0 0
  have d0 : w1.cell? ⟨w.heap.size + 1, 0, none⟩ = some (.slice g_0.p g_0.l.length g_0.c) := heap_cell bB0 0
  clear HR HQ
  go_wp2
  go_ret
  exact ⟨rfl, bel0⟩

set_option maxRecDepth 100000 in
set_option maxHeartbeats 2000000 in
theorem yMemMem_mark : MarkC yMemMem 41 := by
  rintro f_0 k w ho hn h0 h1
  have hbl : ∀ o, Below w.heap.size w (w.alloc o) := fun o => (Below.refl _ w).alloc (Nat.le_refl _) o
  have HK : Hid (k + ((yI.vcnt f_0 : Nat) : Int) ≤ 1000000000000000) := Hid.intro h1
  have HL := Hid.intro (yMemMem_law.ow_lt ho)
  have r0 : (yI.foot f_0).Nodup := hn
  have n0 := r0
  have HN := Hid.intro (And.intro n0 trivial)
  have HN0 := Hid.intro n0
  have HO := Hid.intro ho
  clear ho hn h1 HN n0 r0 
  show Calls Try.prog 41 #[.agg #[.slice f_0.p f_0.l.length f_0.c], .int .i64 k] w _
  go_enter Try.func41, Try.ntmps41
  have HC0 : Hid (∀ (k : Int) (w : World), yI.ow w f_0 → (yI.foot f_0).Nodup → 0 ≤ k → k + (yI.vcnt f_0 : Int) ≤ 1000000000000000 → Calls Try.prog 33 #[.slice f_0.p f_0.l.length f_0.c, .int .i64 k] w fun e w' => e = .returned (.int .i64 (k + (yI.vcnt f_0 : Int))) ∧ Kept (fun b => b ∈ yI.foot f_0) w w' ∧ ∃ a', yI.val a' = yI.val f_0 ∧ yI.cells a' = yI.cells f_0 ∧ yI.foot a' = yI.foot f_0 ∧ yI.vcnt a' = yI.vcnt f_0 ∧ yI.ow w' a' ∧ yI.vmkd a' k) := Hid.intro (yI_mark f_0)
  go_wp2_with fail
  refine (HC0.out _ _ (yI_law.ow_of HO.out (fun b hb => (hbl _).block b (HL.out b (show _ ∈ yI.foot f_0 from hb)))) HN0.out (by omega) (by have := HK.out; omega)).mono ?_
  clear HC0
  rintro e w1 ⟨rfl, hk, x0, hv0, hc0, hf0, hn0, hw0, hm0⟩
  have bA0 : w1.heap[w.heap.size]? = some (.cells #[.slice f_0.p f_0.l.length f_0.c] 24 (0, 0)) := (hk.block _ (by simp) (fun hb => by have := HL.out _ (show _ ∈ yI.foot f_0 from hb); omega)).trans (nw_k _ rfl)
  have hk0 : Kept (fun b => b ∈ yI.foot f_0) w w1 := (Kept.of_below (hbl _)).trans hk
  clear hk
  have c0 : w1.cell? ⟨w.heap.size, 0, none⟩ = some (.slice f_0.p f_0.l.length f_0.c) := heap_cell bA0 0
  have HF : Hid (Kept (fun b => b ∈ yMemMem.foot f_0) w w1) := Hid.intro (hk0.mono (by
      intro b
      rintro hd
      · exact (show _ ∈ yI.foot f_0 from hd)))
  have HA : Hid ((yI.cells x0 = yI.cells f_0 ∧ yI.foot x0 = yI.foot f_0 ∧ yI.vcnt x0 = yI.vcnt f_0 ∧ yI.ow w1 x0)) := Hid.intro ⟨hc0, hf0, hn0, hw0⟩
  clear hk0 hv0 hc0 hf0 hw0
  have HM0 := Hid.intro hm0
  clear hm0
  go_wp2
  go_ret
  have hcc : yMemMem.cells x0 = yMemMem.cells f_0 := by
    show yI.cells x0 = yI.cells f_0
    rw [(HA.out).1]
  refine ⟨?_, HF.out, x0, ?_, hcc, ?_, ?_, (HA.out).2.2.2, ?_⟩
  · show _ = Ending.returned (Value.int .i64 (k + ((yI.vcnt f_0 : Nat) : Int)))
    exact congrArg (fun z => Ending.returned (Value.int .i64 z)) (by omega)
  · show Value.agg (yMemMem.cells x0).toArray = Value.agg (yMemMem.cells f_0).toArray
    rw [hcc]
  · show yI.foot x0 = yI.foot f_0
    rw [(HA.out).2.1]
  · show yI.vcnt x0 = yI.vcnt f_0
    rw [(HA.out).2.2.1]
  · exact (show yI.vmkd x0 (k) from cast (congrArg (yI.vmkd x0) (by have hh := HA.out; omega)) HM0.out)

set_option maxRecDepth 100000 in
set_option maxHeartbeats 2000000 in
theorem yMemMem_held : HeldC yMemMem 43 := by
  rintro f_0 k w hr hm h0 h1
  have hbl : ∀ o, Below w.heap.size w (w.alloc o) := fun o => (Below.refl _ w).alloc (Nat.le_refl _) o
  have HK : Hid (k + ((yI.vcnt f_0 : Nat) : Int) ≤ 1000000000000000) := Hid.intro h1
  have HR := Hid.intro hr
  have HM := Hid.intro hm
  clear hr hm h1
  show Calls Try.prog 43 #[.agg #[.slice f_0.p f_0.l.length f_0.c], .int .i64 k] w _
  go_enter Try.func43, Try.ntmps43
  have HC0 : Hid (∀ (k : Int) (w : World), yI.rd w f_0 → yI.vmkd f_0 k → 0 ≤ k → k + (yI.vcnt f_0 : Int) ≤ 1000000000000000 → Calls Try.prog 34 #[.slice f_0.p f_0.l.length f_0.c, .int .i64 k] w fun e w' => e = .returned (.int .i64 (k + (yI.vcnt f_0 : Int))) ∧ Below w.heap.size w w') := Hid.intro (yI_held f_0)
  go_wp2_with fail
  refine (HC0.out _ _ (yI_law.rd_blw HR.out (hbl _)) (cast (congrArg (yI.vmkd f_0) (by omega)) (show yI.vmkd f_0 (k) from HM.out)) (by omega) (by have := HK.out; omega)).mono ?_
  rintro e w1 ⟨rfl, hb⟩
  have bel0 : Below w.heap.size w w1 := (hbl _).trans (hb.mono (hbl _).size)
  have bA0 : w1.heap[w.heap.size]? = some (.cells #[.slice f_0.p f_0.l.length f_0.c] 24 (0, 0)) := (hb.block _ (by simp)).trans (nw_k _ rfl)
  clear hb
  have hI0 : ¬ (k + ((yI.vcnt f_0 : Nat) : Int) < 0) := by omega
  have c0 : w1.cell? ⟨w.heap.size, 0, none⟩ = some (.slice f_0.p f_0.l.length f_0.c) := heap_cell bA0 0
  clear HR HM
  go_wp2
  go_ret
  refine ⟨?_, bel0⟩
  show _ = Ending.returned (Value.int .i64 (k + ((yI.vcnt f_0 : Nat) : Int)))
  exact congrArg (fun z => Ending.returned (Value.int .i64 z)) (by omega)

end Go.Proofs.Ytpjfkimgienkbab

namespace Go.Proofs.Ytpjfkimgienkbab
open Go.RowKit
set_option linter.unusedSimpArgs false
set_option linter.unusedVariables false

def yAtmState : Knd (((Lst Int)) × (Lst Int)) (((List Int)) × (List Int)) := gRec (gPair yMemMem yI)
theorem yAtmState_law : KLaw yAtmState := gRec_law (gPair_law yMemMem_law yI_law)
theorem yAtmState_val (f : (((Lst Int)) × (Lst Int))) : yAtmState.val f = .agg #[.slice f.1.p f.1.l.length f.1.c, .slice f.2.p f.2.l.length f.2.c] := rfl
theorem yAtmState_cells (f : (((Lst Int)) × (Lst Int))) : yAtmState.cells f = [.slice f.1.p f.1.l.length f.1.c, .slice f.2.p f.2.l.length f.2.c] := rfl

set_option maxRecDepth 100000 in
set_option maxHeartbeats 2000000 in
theorem yAtmState_eq : EqC yAtmState 19 := by
  rintro ⟨f_0_0, f_1⟩ ⟨g_0_0, g_1⟩ w hr hr' hp
  have hp' : ((yMemMem.pl f_0_0, yI.pl f_1) : (((List Int)) × (List Int))) = (yMemMem.pl g_0_0, yI.pl g_1) := hp
  clear hp
  simp only [Prod.mk.injEq] at hp'
  obtain ⟨p0, p1⟩ := hp'
  have HR := Hid.intro hr
  have HQ := Hid.intro hr'
  clear hr hr'
  have hbl : ∀ o o', Below w.heap.size w ((w.alloc o).alloc o') := fun o o' => ((Below.refl _ w).alloc (Nat.le_refl _) o).alloc (by simp) o'
  show Calls Try.prog 19 #[.agg #[.slice f_0_0.p f_0_0.l.length f_0_0.c, .slice f_1.p f_1.l.length f_1.c], .agg #[.slice g_0_0.p g_0_0.l.length g_0_0.c, .slice g_1.p g_1.l.length g_1.c]] w _
  go_enter Try.func19, Try.ntmps19
  have HC0 : Hid (∀ (w : World), yMemMem.rd w f_0_0 → yMemMem.rd w g_0_0 → yMemMem.pl f_0_0 = yMemMem.pl g_0_0 → Calls Try.prog 37 #[.agg #[.slice f_0_0.p f_0_0.l.length f_0_0.c], .agg #[.slice g_0_0.p g_0_0.l.length g_0_0.c]] w fun e w' => e = .returned (.bool true) ∧ Below w.heap.size w w') := Hid.intro (yMemMem_eq f_0_0 g_0_0)
  go_wp2_with fail
  refine (HC0.out _ (yMemMem_law.rd_blw HR.out.1 (hbl _ _)) (yMemMem_law.rd_blw HQ.out.1 (hbl _ _)) p0).mono ?_
  clear HC0
  rintro e w1 ⟨rfl, hb⟩
  have bel0 : Below w.heap.size w w1 := (hbl _ _).trans (hb.mono (hbl _ _).size)
  have bA0 : w1.heap[w.heap.size]? = some (.cells #[.slice f_0_0.p f_0_0.l.length f_0_0.c, .slice f_1.p f_1.l.length f_1.c] 26 (0, 0)) := (hb.block _ (by simp <;> omega)).trans ((Below.heap_alloc _ _ _ (by simp)).trans (nw_k _ rfl))
  have bB0 : w1.heap[w.heap.size + 1]? = some (.cells #[.slice g_0_0.p g_0_0.l.length g_0_0.c, .slice g_1.p g_1.l.length g_1.c] 26 (0, 0)) := (hb.block _ (by simp)).trans (nw_k _ (by simp))
  clear hb
  have c0 : w1.cell? ⟨w.heap.size, 0, none⟩ = some (.slice f_0_0.p f_0_0.l.length f_0_0.c) := heap_cell bA0 0
  have c1 : w1.cell? ⟨w.heap.size, 1, none⟩ = some (.slice f_1.p f_1.l.length f_1.c) := heap_cell bA0 1
  have d0 : w1.cell? ⟨w.heap.size + 1, 0, none⟩ = some (.slice g_0_0.p g_0_0.l.length g_0_0.c) := heap_cell bB0 0
  have d1 : w1.cell? ⟨w.heap.size + 1, 1, none⟩ = some (.slice g_1.p g_1.l.length g_1.c) := heap_cell bB0 1
  have HC1 : Hid (∀ (w : World), yI.rd w f_1 → yI.rd w g_1 → yI.pl f_1 = yI.pl g_1 → Calls Try.prog 38 #[.slice f_1.p f_1.l.length f_1.c, .slice g_1.p g_1.l.length g_1.c] w fun e w' => e = .returned (.bool true) ∧ Below w.heap.size w w') := Hid.intro (yI_eq f_1 g_1)
  go_wp2_with fail
  refine (HC1.out w1 (yI_law.rd_blw HR.out.2 bel0) (yI_law.rd_blw HQ.out.2 bel0) p1).mono ?_
  clear HC1
  rintro e w2 ⟨rfl, hb⟩
  have bel1 : Below w.heap.size w w2 := bel0.trans (hb.mono bel0.size)
  have bA1 : w2.heap[w.heap.size]? = some (.cells #[.slice f_0_0.p f_0_0.l.length f_0_0.c, .slice f_1.p f_1.l.length f_1.c] 26 (0, 0)) := (hb.block _ (heap_lt bA0)).trans bA0
  have bB1 : w2.heap[w.heap.size + 1]? = some (.cells #[.slice g_0_0.p g_0_0.l.length g_0_0.c, .slice g_1.p g_1.l.length g_1.c] 26 (0, 0)) := (hb.block _ (heap_lt bB0)).trans bB0
  clear bel0 bA0 bB0 c0 c1 d0 d1
  clear hb
  have c0 : w2.cell? ⟨w.heap.size, 0, none⟩ = some (.slice f_0_0.p f_0_0.l.length f_0_0.c) := heap_cell bA1 0
  have c1 : w2.cell? ⟨w.heap.size, 1, none⟩ = some (.slice f_1.p f_1.l.length f_1.c) := heap_cell bA1 1
  have d0 : w2.cell? ⟨w.heap.size + 1, 0, none⟩ = some (.slice g_0_0.p g_0_0.l.length g_0_0.c) := heap_cell bB1 0
  have d1 : w2.cell? ⟨w.heap.size + 1, 1, none⟩ = some (.slice g_1.p g_1.l.length g_1.c) := heap_cell bB1 1
  clear HR HQ
  go_wp2
  go_ret
  exact ⟨rfl, bel1⟩

set_option maxRecDepth 100000 in
set_option maxHeartbeats 2000000 in
theorem yAtmState_mark : MarkC yAtmState 22 := by
  rintro ⟨f_0_0, f_1⟩ k w ho hn h0 h1
  have hbl : ∀ o, Below w.heap.size w (w.alloc o) := fun o => (Below.refl _ w).alloc (Nat.le_refl _) o
  have HK : Hid (k + ((yMemMem.vcnt f_0_0 + (yI.vcnt f_1) : Nat) : Int) ≤ 1000000000000000) := Hid.intro h1
  have HL := Hid.intro (yAtmState_law.ow_lt ho)
  have r0 : (yMemMem.foot f_0_0 ++ (yI.foot f_1)).Nodup := hn
  obtain ⟨n0, r1, d0⟩ := nd2 r0
  have n1 := r1
  have HN := Hid.intro (And.intro n0 trivial)
  have HN0 := Hid.intro n0
  have HN1 := Hid.intro n1
  have HD0 := Hid.intro d0
  have HO := Hid.intro ho
  clear ho hn h1 HN n0 n1 r0 r1 d0
  show Calls Try.prog 22 #[.agg #[.slice f_0_0.p f_0_0.l.length f_0_0.c, .slice f_1.p f_1.l.length f_1.c], .int .i64 k] w _
  go_enter Try.func22, Try.ntmps22
  have HC0 : Hid (∀ (k : Int) (w : World), yMemMem.ow w f_0_0 → (yMemMem.foot f_0_0).Nodup → 0 ≤ k → k + (yMemMem.vcnt f_0_0 : Int) ≤ 1000000000000000 → Calls Try.prog 41 #[.agg #[.slice f_0_0.p f_0_0.l.length f_0_0.c], .int .i64 k] w fun e w' => e = .returned (.int .i64 (k + (yMemMem.vcnt f_0_0 : Int))) ∧ Kept (fun b => b ∈ yMemMem.foot f_0_0) w w' ∧ ∃ a', yMemMem.val a' = yMemMem.val f_0_0 ∧ yMemMem.cells a' = yMemMem.cells f_0_0 ∧ yMemMem.foot a' = yMemMem.foot f_0_0 ∧ yMemMem.vcnt a' = yMemMem.vcnt f_0_0 ∧ yMemMem.ow w' a' ∧ yMemMem.vmkd a' k) := Hid.intro (yMemMem_mark f_0_0)
  go_wp2_with fail
  refine (HC0.out _ _ (yMemMem_law.ow_of HO.out.1 (fun b hb => (hbl _).block b (HL.out b (show _ ∈ yMemMem.foot f_0_0 ++ (yI.foot f_1) from List.mem_append.2 (.inl hb))))) HN0.out (by omega) (by have := HK.out; omega)).mono ?_
  clear HC0
  rintro e w1 ⟨rfl, hk, x0_0, hv0, hc0, hf0, hn0, hw0, hm0⟩
  have bA0 : w1.heap[w.heap.size]? = some (.cells #[.slice f_0_0.p f_0_0.l.length f_0_0.c, .slice f_1.p f_1.l.length f_1.c] 26 (0, 0)) := (hk.block _ (by simp) (fun hb => by have := HL.out _ (show _ ∈ yMemMem.foot f_0_0 ++ (yI.foot f_1) from List.mem_append.2 (.inl hb)); omega)).trans (nw_k _ rfl)
  have hk0 : Kept (fun b => b ∈ yMemMem.foot f_0_0) w w1 := (Kept.of_below (hbl _)).trans hk
  clear hk
  have c0 : w1.cell? ⟨w.heap.size, 0, none⟩ = some (.slice f_0_0.p f_0_0.l.length f_0_0.c) := heap_cell bA0 0
  have c1 : w1.cell? ⟨w.heap.size, 1, none⟩ = some (.slice f_1.p f_1.l.length f_1.c) := heap_cell bA0 1
  have ho1 : yI.ow w1 f_1 := yI_law.ow_of HO.out.2 (fun b hb => hk0.block b (HL.out b (show _ ∈ yMemMem.foot f_0_0 ++ (yI.foot f_1) from List.mem_append.2 (.inr (hb)))) (by
      rintro hd
      · exact HD0.out b (hb) hd))
  have HC1 : Hid (∀ (k : Int) (w : World), yI.ow w f_1 → (yI.foot f_1).Nodup → 0 ≤ k → k + (yI.vcnt f_1 : Int) ≤ 1000000000000000 → Calls Try.prog 33 #[.slice f_1.p f_1.l.length f_1.c, .int .i64 k] w fun e w' => e = .returned (.int .i64 (k + (yI.vcnt f_1 : Int))) ∧ Kept (fun b => b ∈ yI.foot f_1) w w' ∧ ∃ a', yI.val a' = yI.val f_1 ∧ yI.cells a' = yI.cells f_1 ∧ yI.foot a' = yI.foot f_1 ∧ yI.vcnt a' = yI.vcnt f_1 ∧ yI.ow w' a' ∧ yI.vmkd a' k) := Hid.intro (yI_mark f_1)
  go_wp2_with fail
  refine (HC1.out _ _ ho1 HN1.out (by omega) (by have := HK.out; omega)).mono ?_
  clear HC1
  rintro e w2 ⟨rfl, hk, x1, hv1, hc1, hf1, hn1, hw1, hm1⟩
  have bA1 : w2.heap[w.heap.size]? = some (.cells #[.slice f_0_0.p f_0_0.l.length f_0_0.c, .slice f_1.p f_1.l.length f_1.c] 26 (0, 0)) := (hk.block _ (heap_lt bA0) (fun hb => by have := HL.out _ (show _ ∈ yMemMem.foot f_0_0 ++ (yI.foot f_1) from List.mem_append.2 (.inr (hb))); omega)).trans bA0
  replace hw0 : yMemMem.ow w2 x0_0 := yMemMem_law.ow_of hw0 (fun b hb => hk.block b (yMemMem_law.ow_lt hw0 b hb) (fun hd => by rw [hf0] at hb; exact HD0.out b (hd) hb))
  have hk1 : Kept (fun b => (b ∈ yMemMem.foot f_0_0) ∨ b ∈ yI.foot f_1) w w2 := (hk0.mono (fun b h => Or.inl h)).trans (hk.mono (fun b h => Or.inr h))
  clear bA0 hk0 ho1 c0 c1
  clear hk
  have c0 : w2.cell? ⟨w.heap.size, 0, none⟩ = some (.slice f_0_0.p f_0_0.l.length f_0_0.c) := heap_cell bA1 0
  have c1 : w2.cell? ⟨w.heap.size, 1, none⟩ = some (.slice f_1.p f_1.l.length f_1.c) := heap_cell bA1 1
  have HF : Hid (Kept (fun b => b ∈ yAtmState.foot (f_0_0, f_1)) w w2) := Hid.intro (hk1.mono (by
      intro b
      rintro (hd | hd)
      · exact (show _ ∈ yMemMem.foot f_0_0 ++ (yI.foot f_1) from List.mem_append.2 (.inl hd))
      · exact (show _ ∈ yMemMem.foot f_0_0 ++ (yI.foot f_1) from List.mem_append.2 (.inr (hd)))))
  have HA : Hid ((yMemMem.cells x0_0 = yMemMem.cells f_0_0 ∧ yMemMem.foot x0_0 = yMemMem.foot f_0_0 ∧ yMemMem.vcnt x0_0 = yMemMem.vcnt f_0_0 ∧ yMemMem.ow w2 x0_0) ∧ (yI.cells x1 = yI.cells f_1 ∧ yI.foot x1 = yI.foot f_1 ∧ yI.vcnt x1 = yI.vcnt f_1 ∧ yI.ow w2 x1)) := Hid.intro ⟨⟨hc0, hf0, hn0, hw0⟩, ⟨hc1, hf1, hn1, hw1⟩⟩
  clear hk1 hv0 hc0 hf0 hw0 hv1 hc1 hf1 hw1
  have HM0 := Hid.intro hm0
  have HM1 := Hid.intro hm1
  clear hm0 hm1
  go_wp2
  go_ret
  have hcc : yAtmState.cells (x0_0, x1) = yAtmState.cells (f_0_0, f_1) := by
    show yMemMem.cells x0_0 ++ (yI.cells x1) = yMemMem.cells f_0_0 ++ (yI.cells f_1)
    rw [(HA.out.1).1, (HA.out.2).1]
  refine ⟨?_, HF.out, (x0_0, x1), ?_, hcc, ?_, ?_, ⟨(HA.out.1).2.2.2, (HA.out.2).2.2.2⟩, ?_⟩
  · show _ = Ending.returned (Value.int .i64 (k + ((yMemMem.vcnt f_0_0 + (yI.vcnt f_1) : Nat) : Int)))
    exact congrArg (fun z => Ending.returned (Value.int .i64 z)) (by omega)
  · show Value.agg (yAtmState.cells (x0_0, x1)).toArray = Value.agg (yAtmState.cells (f_0_0, f_1)).toArray
    rw [hcc]
  · show yMemMem.foot x0_0 ++ (yI.foot x1) = yMemMem.foot f_0_0 ++ (yI.foot f_1)
    rw [(HA.out.1).2.1, (HA.out.2).2.1]
  · show yMemMem.vcnt x0_0 + (yI.vcnt x1) = yMemMem.vcnt f_0_0 + (yI.vcnt f_1)
    rw [(HA.out.1).2.2.1, (HA.out.2).2.2.1]
  · exact ⟨(show yMemMem.vmkd x0_0 (k) from cast (congrArg (yMemMem.vmkd x0_0) (by have hh := HA.out; omega)) HM0.out), (show yI.vmkd x1 (k + ((yMemMem.vcnt x0_0 : Nat) : Int)) from cast (congrArg (yI.vmkd x1) (by have hh := HA.out; omega)) HM1.out)⟩

set_option maxRecDepth 100000 in
set_option maxHeartbeats 2000000 in
theorem yAtmState_held : HeldC yAtmState 25 := by
  rintro ⟨f_0_0, f_1⟩ k w hr hm h0 h1
  have hbl : ∀ o, Below w.heap.size w (w.alloc o) := fun o => (Below.refl _ w).alloc (Nat.le_refl _) o
  have HK : Hid (k + ((yMemMem.vcnt f_0_0 + (yI.vcnt f_1) : Nat) : Int) ≤ 1000000000000000) := Hid.intro h1
  have HR := Hid.intro hr
  have HM := Hid.intro hm
  clear hr hm h1
  show Calls Try.prog 25 #[.agg #[.slice f_0_0.p f_0_0.l.length f_0_0.c, .slice f_1.p f_1.l.length f_1.c], .int .i64 k] w _
  go_enter Try.func25, Try.ntmps25
  have HC0 : Hid (∀ (k : Int) (w : World), yMemMem.rd w f_0_0 → yMemMem.vmkd f_0_0 k → 0 ≤ k → k + (yMemMem.vcnt f_0_0 : Int) ≤ 1000000000000000 → Calls Try.prog 43 #[.agg #[.slice f_0_0.p f_0_0.l.length f_0_0.c], .int .i64 k] w fun e w' => e = .returned (.int .i64 (k + (yMemMem.vcnt f_0_0 : Int))) ∧ Below w.heap.size w w') := Hid.intro (yMemMem_held f_0_0)
  go_wp2_with fail
  refine (HC0.out _ _ (yMemMem_law.rd_blw HR.out.1 (hbl _)) (cast (congrArg (yMemMem.vmkd f_0_0) (by omega)) (show yMemMem.vmkd f_0_0 (k) from HM.out.1)) (by omega) (by have := HK.out; omega)).mono ?_
  rintro e w1 ⟨rfl, hb⟩
  have bel0 : Below w.heap.size w w1 := (hbl _).trans (hb.mono (hbl _).size)
  have bA0 : w1.heap[w.heap.size]? = some (.cells #[.slice f_0_0.p f_0_0.l.length f_0_0.c, .slice f_1.p f_1.l.length f_1.c] 26 (0, 0)) := (hb.block _ (by simp)).trans (nw_k _ rfl)
  clear hb
  have hI0 : ¬ (k + ((yMemMem.vcnt f_0_0 : Nat) : Int) < 0) := by omega
  have c0 : w1.cell? ⟨w.heap.size, 0, none⟩ = some (.slice f_0_0.p f_0_0.l.length f_0_0.c) := heap_cell bA0 0
  have c1 : w1.cell? ⟨w.heap.size, 1, none⟩ = some (.slice f_1.p f_1.l.length f_1.c) := heap_cell bA0 1
  have HC1 : Hid (∀ (k : Int) (w : World), yI.rd w f_1 → yI.vmkd f_1 k → 0 ≤ k → k + (yI.vcnt f_1 : Int) ≤ 1000000000000000 → Calls Try.prog 34 #[.slice f_1.p f_1.l.length f_1.c, .int .i64 k] w fun e w' => e = .returned (.int .i64 (k + (yI.vcnt f_1 : Int))) ∧ Below w.heap.size w w') := Hid.intro (yI_held f_1)
  go_wp2_with fail
  refine (HC1.out _ _ (yI_law.rd_blw HR.out.2 bel0) (cast (congrArg (yI.vmkd f_1) (by omega)) (show yI.vmkd f_1 (k + ((yMemMem.vcnt f_0_0 : Nat) : Int)) from HM.out.2)) (by omega) (by have := HK.out; omega)).mono ?_
  rintro e w2 ⟨rfl, hb⟩
  have bel1 : Below w.heap.size w w2 := bel0.trans (hb.mono bel0.size)
  have bA1 : w2.heap[w.heap.size]? = some (.cells #[.slice f_0_0.p f_0_0.l.length f_0_0.c, .slice f_1.p f_1.l.length f_1.c] 26 (0, 0)) := (hb.block _ (heap_lt bA0)).trans bA0
  clear bel0 bA0 hI0 c0 c1
  clear hb
  have hI1 : ¬ (k + ((yMemMem.vcnt f_0_0 : Nat) : Int) + ((yI.vcnt f_1 : Nat) : Int) < 0) := by omega
  have c0 : w2.cell? ⟨w.heap.size, 0, none⟩ = some (.slice f_0_0.p f_0_0.l.length f_0_0.c) := heap_cell bA1 0
  have c1 : w2.cell? ⟨w.heap.size, 1, none⟩ = some (.slice f_1.p f_1.l.length f_1.c) := heap_cell bA1 1
  clear HR HM
  go_wp2
  go_ret
  refine ⟨?_, bel1⟩
  show _ = Ending.returned (Value.int .i64 (k + ((yMemMem.vcnt f_0_0 + (yI.vcnt f_1) : Nat) : Int)))
  exact congrArg (fun z => Ending.returned (Value.int .i64 z)) (by omega)

end Go.Proofs.Ytpjfkimgienkbab
