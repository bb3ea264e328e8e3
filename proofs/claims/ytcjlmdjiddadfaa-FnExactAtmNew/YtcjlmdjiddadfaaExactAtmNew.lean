/-
  Proved: AtmNew of the program answers as AtmNew of the model; its answer owns its memory, behind another call too. No condition.
-/
import Derived.Test.YtcjlmdjiddadfaaRows
import Derived.Test.YtcjlmdjiddadfaaAtmM
import Derived.Test.YtcjlmdjiddadfaaAtmN
import Derived.WalkKit
import Derived.ProofKit
import Derived.OpenShut
namespace Go.Proofs.Ytcjlmdjiddadfaa.fnExactAtmNew
open Go.ChangeShapes Go.WideShapes Go.ChangeAt Go.RowKit
set_option linter.unusedVariables false
set_option linter.unusedSimpArgs false

theorem own : ownKnob Try.prog.godebug = none := by kernel_rfl

set_option maxRecDepth 100000 in
set_option maxHeartbeats 1000000 in
theorem walk (w : World) :
    Calls Try.prog 16 #[] w fun e w' => e = .returned (.bool true) ∧ Below w.heap.size w w' := by
  have hl64 : (noughts 64).length = 64 := by simp [noughts]
  have hl6 : (freeH 6).length = 6 := by simp [freeH]
  obtain ⟨Z, hZ⟩ : ∃ Z, Z = noughts 64 := ⟨_, rfl⟩
  obtain ⟨Y, hY⟩ : ∃ Y, Y = freeH 6 := ⟨_, rfl⟩
  have hS := fun W => spec_AtmNew W
  have hI := fun W => impl_AtmNew W
  rw [← hZ] at hS hI hl64
  rw [← hY] at hS hI hl6
  clear hZ hY
  have hSA : ∀ {W : World} {g h c : Nat}, ORow 3 1 W g 64 64 (Z.map (Value.int .i64)) → ORow 3 1 W h c 6 (Y.map (Value.int .i64)) → 6 ≤ c → c ≤ 9223372036854775807 → StAt W ⟨Z, Y⟩ (some ⟨g, 0, none⟩) 64 (some ⟨h, 0, none⟩) c := by
    intro W g h c o1 o2 h1 h2
    exact ⟨by rw [← hl64] at o1; exact o1.ints, by rw [← hl6] at o2; exact o2.ints, by simp only; omega, by omega, by simp only; omega, h2⟩
  have hEQ : ∀ (W : World) (g h g' h' c c' : Nat), StAt W ⟨Z, Y⟩ (some ⟨g, 0, none⟩) 64 (some ⟨h, 0, none⟩) c → StAt W ⟨Z, Y⟩ (some ⟨g', 0, none⟩) 64 (some ⟨h', 0, none⟩) c' → Calls Try.prog 42 #[.agg #[.slice (some ⟨g, 0, none⟩) 64 64, .slice (some ⟨h, 0, none⟩) 6 c], .agg #[.slice (some ⟨g', 0, none⟩) 64 64, .slice (some ⟨h', 0, none⟩) 6 c']] W fun e w' => e = .returned (.bool true) ∧ Below W.heap.size W w' := by
    intro W g h g' h' c c' a1 a2
    have := eqAtm_same ⟨Z, Y⟩ _ _ _ _ _ _ _ _ W a1 a2
    unfold stV at this
    simp only [hl64, hl6] at this
    exact this
  go_enter Try.func16, Try.ntmps16
  go_wp2_with fail
  refine (hS w).mono ?_
  rintro e w1 ⟨g1, k1, c1, rfl, hO1, hP1, hc1, hc1', hg1, hk1, hn1, hb1⟩
  have hs1 := hb1.size
  have hl1 := hO1.lt
  have hm1 := hP1.lt
  go_wp2_with fail
  refine (hI _).mono ?_
  rintro e w2 ⟨g2, k2, rfl, hO2, hP2, hg2, hk2, hn2, hb2⟩
  have hs2 := hb2.size
  have hl2 := hO2.lt
  have hm2 := hP2.lt
  simp at hs2 hg2 hk2
  have hA2 : w2.heap[w1.heap.size]? = some (.cells #[.slice (some ⟨g1, 0, none⟩) 64 64, .slice (some ⟨k1, 0, none⟩) 6 c1] 28 (0, 0)) := (hb2.block _ (by simp)).trans (nw_at _ rfl)
  have hx1 := below_nw w1 (.cells #[.slice (some ⟨g1, 0, none⟩) 64 64, .slice (some ⟨k1, 0, none⟩) 6 c1] 28)
  have hO1' := (hO1.gr hx1).gr hb2
  have hP1' := (hP1.gr hx1).gr hb2
  have hbW : Below w.heap.size w w2 := (hb1.trans (hx1.mono hs1)).trans (hb2.mono (by simp; omega))
  clear hb1 hb2 hO1 hP1 hx1
  obtain ⟨A, hA⟩ : ∃ A, A = w1.heap.size := ⟨_, rfl⟩
  rw [← hA] at hA2 hs2 hg2 hk2 hl1 hm1 hs1 ⊢
  clear hA
  have cA0 : w2.cell? ⟨A, 0, none⟩ = some (.slice (some ⟨g1, 0, none⟩) 64 64) := heap_cell hA2 0
  have cA1 : w2.cell? ⟨A, 1, none⟩ = some (.slice (some ⟨k1, 0, none⟩) 6 c1) := heap_cell hA2 1
  have hAlt : A < w2.heap.size := heap_lt hA2
  go_wp2_with fail
  clear cA0 cA1
  obtain ⟨B, hB⟩ : ∃ B, B = w2.heap.size := ⟨_, rfl⟩
  obtain ⟨w3, hw3⟩ : ∃ w3, w2.alloc (.cells #[.slice (some ⟨g2, 0, none⟩) 64 64, .slice (some ⟨k2, 0, none⟩) 6 6] 28) = w3 := ⟨_, rfl⟩
  have hx2 : Gr w2 w3 := by rw [← hw3]; exact below_nw _ _
  have hB3 : w3.heap[B]? = some (.cells #[.slice (some ⟨g2, 0, none⟩) 64 64, .slice (some ⟨k2, 0, none⟩) 6 6] 28 (0, 0)) := by rw [← hw3, hB]; exact nw_at _ rfl
  have hA3 := hx2.cells hA2
  have hO13 := hO1'.gr hx2
  have hP13 := hP1'.gr hx2
  have hO23 := hO2.gr hx2
  have hP23 := hP2.gr hx2
  have hb3 := hbW.trans (hx2.mono hbW.size)
  rw [hw3]
  rw [← hB] at hl2 hm2 ⊢
  have hAB : A < B := by omega
  clear hB hw3 hx2 hA2 hO1' hP1' hO2 hP2 hbW hs2
  refine (hEQ w3 _ _ _ _ _ _ (hSA hO23 hP23 (by omega) (by omega)) (hSA hO13 hP13 hc1 hc1')).mono ?_
  rintro e w4 ⟨rfl, hb4⟩
  have hA4 := (hb4.block A (heap_lt hA3)).trans hA3
  have hB4 := (hb4.block B (heap_lt hB3)).trans hB3
  have hO14 := hO13.gr hb4
  have hP14 := hP13.gr hb4
  have hO24 := hO23.gr hb4
  have hP24 := hP23.gr hb4
  have hb4' := hb3.trans (hb4.mono hb3.size)
  clear hb4 hb3 hA3 hB3 hO13 hP13 hO23 hP23
  have cB0 : w4.cell? ⟨B, 0, none⟩ = some (.slice (some ⟨g2, 0, none⟩) 64 64) := heap_cell hB4 0
  have cB1 : w4.cell? ⟨B, 1, none⟩ = some (.slice (some ⟨k2, 0, none⟩) 6 6) := heap_cell hB4 1
  go_wp2_with fail
  have hM := markAtm_any (some ⟨g2, 0, none⟩) (some ⟨k2, 0, none⟩) 64 6 Z Y 1 w4 (.inr ⟨g2, rfl, by rw [hl64]; exact hO24⟩) (.inr ⟨k2, rfl, by rw [hl6]; exact hP24⟩) (.inr (.inr (fun e => hn2 (by cases e; rfl)))) (by omega) (by omega) (by omega) (by omega) (by omega) (by omega) (by omega) (by omega)
  rw [hl64, hl6] at hM
  refine hM.mono ?_
  rintro e w5 ⟨rfl, hQ5, hR5, hk5⟩
  have hk5s := hk5.size
  have hbl5 : ∀ k, k ≠ g2 → k ≠ k2 → k < w4.heap.size → w5.heap[k]? = w4.heap[k]? := fun k h1 h2 hk => hk5.block k hk (fun e => by rcases e with e | e <;> simp at e <;> omega)
  have hA5 := (hbl5 A (by omega) (by omega) (heap_lt hA4)).trans hA4
  have hB5 := (hbl5 B (by omega) (by omega) (heap_lt hB4)).trans hB4
  have hO15 := hO14.of (hbl5 g1 (by omega) (by omega) hO14.lt)
  have hP15 := hP14.of (hbl5 k1 (by omega) (by omega) hP14.lt)
  have hb5 : Below w.heap.size w w5 := hb4'.trans ⟨hk5.os, hk5.tape, hk5.output, hk5.size, fun k hk => hbl5 k (by omega) (by omega) (by have := hb4'.size; omega)⟩
  have hq5 := hQ5.ints
  have hr5 := hR5.ints
  clear hM hk5 hbl5 hA4 hB4 hO14 hP14 hO24 hP24 hb4' hQ5 hR5 cB0 cB1
  have cB0 : w5.cell? ⟨B, 0, none⟩ = some (.slice (some ⟨g2, 0, none⟩) 64 64) := heap_cell hB5 0
  have cB1 : w5.cell? ⟨B, 1, none⟩ = some (.slice (some ⟨k2, 0, none⟩) 6 6) := heap_cell hB5 1
  go_wp2_with fail
  refine (heldAtm_any (some ⟨g2, 0, none⟩) (some ⟨k2, 0, none⟩) 64 6 64 6 1 w5 hq5 hr5 (by omega) (by omega) (by omega) (by omega) (by omega) (by omega) (by omega) (by omega)).mono ?_
  rintro e w6 ⟨rfl, hb6⟩
  have hA6 := (hb6.block A (heap_lt hA5)).trans hA5
  have hB6 := (hb6.block B (heap_lt hB5)).trans hB5
  have hO16 := hO15.gr hb6
  have hP16 := hP15.gr hb6
  have hq6 := hq5.below hb6
  have hr6 := hr5.below hb6
  have hb6' := hb5.trans (hb6.mono hb5.size)
  clear hb6 hb5 hA5 hB5 hO15 hP15 hq5 hr5 cB0 cB1
  go_wp2_with fail
  refine (hI w6).mono ?_
  rintro e w7 ⟨g7, k7, rfl, hO7, hP7, hg7, hk7, hn7, hb7⟩
  have hA7 := (hb7.block A (heap_lt hA6)).trans hA6
  have hB7 := (hb7.block B (heap_lt hB6)).trans hB6
  have hO17 := hO16.gr hb7
  have hP17 := hP16.gr hb7
  have hq7 := hq6.below hb7
  have hr7 := hr6.below hb7
  have hb7' := hb6'.trans (hb7.mono hb6'.size)
  clear hb7 hb6' hA6 hB6 hO16 hP16 hq6 hr6 hS hI
  have cA0 : w7.cell? ⟨A, 0, none⟩ = some (.slice (some ⟨g1, 0, none⟩) 64 64) := heap_cell hA7 0
  have cA1 : w7.cell? ⟨A, 1, none⟩ = some (.slice (some ⟨k1, 0, none⟩) 6 c1) := heap_cell hA7 1
  have hAl := heap_lt hA7
  have hBl := heap_lt hB7
  go_wp2_with fail
  obtain ⟨v7, hv7⟩ : ∃ v7, w7.alloc (.cells #[.slice (some ⟨g7, 0, none⟩) 64 64, .slice (some ⟨k7, 0, none⟩) 6 6] 28) = v7 := ⟨_, rfl⟩
  have hx7 : Gr w7 v7 := by rw [← hv7]; exact below_nw _ _
  rw [hv7]
  clear hv7
  refine (hEQ v7 _ _ _ _ _ _ (hSA (hO7.gr hx7) (hP7.gr hx7) (by omega) (by omega)) (hSA (hO17.gr hx7) (hP17.gr hx7) hc1 hc1')).mono ?_
  rintro e w8 ⟨rfl, hb8⟩
  have hB8 := (hb8.block B (Nat.lt_of_lt_of_le hBl hx7.size)).trans (hx7.cells hB7)
  have hq8 := (hq7.below hx7).below hb8
  have hr8 := (hr7.below hx7).below hb8
  have hb8' := (hb7'.trans (hx7.mono hb7'.size)).trans (hb8.mono (Nat.le_trans hb7'.size hx7.size))
  clear hb8 hx7 hb7' hA7 hB7 hO17 hP17 hq7 hr7 hO7 hP7 cA0 cA1
  have cB0 : w8.cell? ⟨B, 0, none⟩ = some (.slice (some ⟨g2, 0, none⟩) 64 64) := heap_cell hB8 0
  have cB1 : w8.cell? ⟨B, 1, none⟩ = some (.slice (some ⟨k2, 0, none⟩) 6 6) := heap_cell hB8 1
  go_wp2_with fail
  refine (heldAtm_any (some ⟨g2, 0, none⟩) (some ⟨k2, 0, none⟩) 64 6 64 6 1 w8 hq8 hr8 (by omega) (by omega) (by omega) (by omega) (by omega) (by omega) (by omega) (by omega)).mono ?_
  rintro e w9 ⟨rfl, hb9⟩
  have hb9' := hb8'.trans (hb9.mono hb8'.size)
  clear hb9 hb8' hq8 hr8
  go_wp2
  go_ret
  exact ⟨rfl, hb9'⟩

set_option maxRecDepth 100000 in
theorem lifted (os : Os) (started : os.Started) (H : Type) (enc : TypeId × Value → H) :
    ReturnsInHanded {} Try.checked os 16 .any (Rows.fnExactAtmNewSpec.pre6 enc Try.prog Try.f16 Rows.fnExactAtmNewRow.domain false) (Rows.fnExactAtmNewSpec.post enc Try.prog Try.f16 false true false false) := by
  refine returnsInHanded_of_change (C := Try.checked) own started (by kernel_rfl) Try.func16
    (ChangeSpec.witness6 (enc := enc) (C := Try.checked) false ⟨#[], #[], []⟩ 8 (by kernel_rfl) (by kernel_rfl) (by kernel_rfl) (by kernel_rfl)) ?_
  intro W base args ds gs before hval0 hW hcnd _
  have hW' := hW
  obtain ⟨p, q, hA0, hV, rfl, hfz, hnd⟩ := hW
  have hA : DataW.TrodAll enc Try.prog W 0 (fun _ => true) true Try.f16.params.toList args.toList ds p := hA0
  rw [Try.params16] at hA
  obtain ⟨hargs, rfl, rfl⟩ := trodAll_nil hA
  obtain rfl : args = #[] := by cases args; simp_all
  obtain ⟨rfl, rfl⟩ := trodVars_none hV
  clear hA0 hval0
  refine (walk W).mono fun e W' ⟨he, bel⟩ => ?_
  subst he
  exact ⟨_, rfl, _, _, _, [], _, [], hW', trodAll_mk1 (shut_bool Try.underlying4 _), trodAll_mk0, rfl, bel.frame _, fun h => by cases h⟩

theorem over : Rows.fnExactAtmNewRow.holds Try.pinned (OpenSpec.ofChange Rows.fnExactAtmNewSpec) :=
  OpenClaim.holds_of_wide 16 Try.f16 rfl rfl rfl rfl rfl rfl rfl ⟨rfl, rfl, rfl, rfl, rfl⟩ rfl rfl rfl rfl rfl (by kernel_rfl) Try.func16 (by kernel_rfl)
    (of_decide_eq_true (by kernel_rfl)) (by unfold Func.isWrapper; first | (rw [if_pos (by decide +kernel)]; kernel_rfl) | (rw [if_neg (by decide +kernel)]; exact ⟨rfl, rfl⟩))
    (fun os started H enc _ => lifted os started H enc)

theorem proved : Rows.FnExactAtmNewSaid := over
end Go.Proofs.Ytcjlmdjiddadfaa.fnExactAtmNew
