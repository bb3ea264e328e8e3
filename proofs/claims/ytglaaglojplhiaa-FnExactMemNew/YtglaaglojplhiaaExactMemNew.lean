/-
  Proved: MemNew of the program answers as MemNew of the model; its answer owns its memory, behind another call too. No condition.
-/
import Derived.Test.YtglaaglojplhiaaRows
import Derived.Test.YtglaaglojplhiaaMemM
import Derived.WalkKit
import Derived.ProofKit
import Derived.OpenShut
namespace Go.Proofs.Ytglaaglojplhiaa.fnExactMemNew
open Go.ChangeShapes Go.WideShapes Go.ChangeAt Go.RowKit
set_option linter.unusedVariables false
set_option linter.unusedSimpArgs false

theorem own : ownKnob Try.prog.godebug = none := by kernel_rfl

theorem box {w : World} {v : Value} {t : TypeId} : (w.alloc (.cells #[v] t)).cell? ⟨w.heap.size, 0, none⟩ = some v := by simp

set_option maxRecDepth 100000 in
set_option maxHeartbeats 1000000 in
theorem walk (w : World) :
    Calls Try.prog 6 #[] w fun e w' => e = .returned (.bool true) ∧ Below w.heap.size w w' := by
  have hl64 : (noughts 64).length = 64 := by simp [noughts]
  obtain ⟨Z, hZ⟩ : ∃ Z, Z = noughts 64 := ⟨_, rfl⟩
  have hS := fun W => spec_MemNew W
  have hI := fun W => impl_MemNew W
  rw [← hZ] at hS hI hl64
  clear hZ
  go_enter Try.func6, Try.ntmps6
  go_wp2_with fail
  refine (hS w).mono ?_
  rintro e w1 ⟨g1, rfl, hO1, hg1, hb1⟩
  have hs1 := hb1.size
  have hl1 := hO1.lt
  go_wp2_with fail
  refine (hI _).mono ?_
  rintro e w2 ⟨g2, rfl, hO2, hg2, hb2⟩
  have hs2 := hb2.size
  have hl2 := hO2.lt
  simp at hs2 hg2
  have cA : w2.cell? ⟨w1.heap.size, 0, none⟩ = some (.slice (some ⟨g1, 0, none⟩) 64 64) := (hb2.cell (p := ⟨w1.heap.size, 0, none⟩) (by simp)).trans box
  have hO1' := (hO1.of (w' := w1.alloc _) (Below.heap_alloc _ _ _ hl1)).of (hb2.block g1 (by simp; omega))
  have hbW : Below w.heap.size w w2 := (hb1.alloc hs1 _).trans (hb2.mono (by simp; omega))
  clear hb1 hb2 hO1
  obtain ⟨A, hA⟩ : ∃ A, A = w1.heap.size := ⟨_, rfl⟩
  rw [← hA] at cA hs2 hg2 hl1 hs1 ⊢
  clear hA
  have hAlt : A < w2.heap.size := by omega
  go_wp2_with fail
  have hp2 : IntsAt (w2.alloc (.cells #[.slice (some ⟨g2, 0, none⟩) 64 64] 30)) (some ⟨g2, 0, none⟩) Z := by
    rw [← hl64] at hO2; exact (hO2.of (w' := w2.alloc _) (Below.heap_alloc _ _ _ hl2)).ints
  have hp1 : IntsAt (w2.alloc (.cells #[.slice (some ⟨g2, 0, none⟩) 64 64] 30)) (some ⟨g1, 0, none⟩) Z := by
    rw [← hl64] at hO1'; exact (hO1'.of (w' := w2.alloc _) (Below.heap_alloc _ _ _ (by omega))).ints
  obtain ⟨B, hB⟩ : ∃ B, B = w2.heap.size := ⟨_, rfl⟩
  have cA3 : (w2.alloc (.cells #[.slice (some ⟨g2, 0, none⟩) 64 64] 30)).cell? ⟨A, 0, none⟩ = some (.slice (some ⟨g1, 0, none⟩) 64 64) := (World.cell?_alloc_past _ _ _ (by omega)).trans cA
  have cB3 : (w2.alloc (.cells #[.slice (some ⟨g2, 0, none⟩) 64 64] 30)).cell? ⟨B, 0, none⟩ = some (.slice (some ⟨g2, 0, none⟩) 64 64) := by rw [hB]; exact box
  have hO3 : OwnI (w2.alloc (.cells #[.slice (some ⟨g2, 0, none⟩) 64 64] 30)) (some ⟨g2, 0, none⟩) 64 Z := by
    rw [← hl64] at hO2; rw [← hl64]; exact .inr ⟨g2, rfl, hO2.of (w' := w2.alloc _) (Below.heap_alloc _ _ _ hl2)⟩
  have hs3 : (w2.alloc (.cells #[.slice (some ⟨g2, 0, none⟩) 64 64] 30)).heap.size = B + 1 := by simp [hB]
  have hb3 : Below w.heap.size w (w2.alloc (.cells #[.slice (some ⟨g2, 0, none⟩) 64 64] 30)) := hbW.alloc hbW.size _
  rw [← hB] at hl2 hs2 ⊢
  have hwB : w.heap.size ≤ A := hs1
  have h12 : g1 < A ∧ A < g2 ∧ g2 < B := by omega
  clear hB hbW hO2 hO1' cA
  generalize w2.alloc (.cells #[.slice (some ⟨g2, 0, none⟩) 64 64] 30) = w3 at *
  have hE := eqMem_same (some ⟨g2, 0, none⟩) (some ⟨g1, 0, none⟩) 64 64 Z w3 hp2 hp1 (by omega) (by omega) (by omega) (by omega)
  rw [hl64] at hE
  refine hE.mono ?_
  rintro e w4 ⟨rfl, hb4⟩
  have hs4 := hb4.size
  have cA4 := (hb4.cell (p := ⟨A, 0, none⟩) (by simp; omega)).trans cA3
  have cB4 := (hb4.cell (p := ⟨B, 0, none⟩) (by simp; omega)).trans cB3
  have hO4 := hO3.below hb4
  have hp14 := hp1.below hb4
  have hb4' := hb3.trans (hb4.mono hb3.size)
  have hB4 : B < w4.heap.size := by omega
  clear hE hb4 hb3 cA3 cB3 hO3 hp1 hp2 hs4 hs3
  go_wp2_with fail
  have hM := markMem_any (some ⟨g2, 0, none⟩) 64 Z 1 w4 hO4 (by omega) (by omega) (by omega) (by omega) (by omega)
  rw [hl64] at hM
  refine hM.mono ?_
  rintro e w5 ⟨rfl, hO5, hk5⟩
  have hs5 := hk5.size
  have cA5 := (hk5.cell (p := ⟨A, 0, none⟩) (by simp; omega) (by simp <;> omega)).trans cA4
  have cB5 := (hk5.cell (p := ⟨B, 0, none⟩) (by simp; omega) (by simp <;> omega)).trans cB4
  have hp15 : IntsAt w5 (some ⟨g1, 0, none⟩) Z := hp14.of hk5.size (fun b off hb hlt => hk5.block b hlt (fun e => by cases hb; simp at e <;> omega))
  have hb5 : Below w.heap.size w w5 := hb4'.trans ⟨hk5.os, hk5.tape, hk5.output, hk5.size, fun k hk => hk5.block k (by omega) (fun e => by simp at e <;> omega)⟩
  have hB5 : B < w5.heap.size := by omega
  have hh5 : IntsAt w5 (some ⟨g2, 0, none⟩) (markL 1 64) := hO5.ints
  clear hM hk5 hO4 hO5 cA4 cB4 hp14 hb4' hB4 hs5
  go_wp2_with fail
  refine (heldMem_any (some ⟨g2, 0, none⟩) 64 64 1 w5 hh5 (by omega) (by omega) (by omega) (by omega) (by omega)).mono ?_
  rintro e w6 ⟨rfl, hb6⟩
  have hs6 := hb6.size
  have cA6 := (hb6.cell (p := ⟨A, 0, none⟩) (by simp; omega)).trans cA5
  have cB6 := (hb6.cell (p := ⟨B, 0, none⟩) (by simp; omega)).trans cB5
  have hp16 := hp15.below hb6
  have hh6 := hh5.below hb6
  have hb6' := hb5.trans (hb6.mono hb5.size)
  have hB6 : B < w6.heap.size := by omega
  clear hb6 hb5 cA5 cB5 hp15 hh5 hB5 hs6
  go_wp2_with fail
  refine (hI w6).mono ?_
  rintro e w7 ⟨g7, rfl, hO7, hg7, hb7⟩
  have hs7 := hb7.size
  have hl7 := hO7.lt
  have cA7 := (hb7.cell (p := ⟨A, 0, none⟩) (by simp; omega)).trans cA6
  have cB7 := (hb7.cell (p := ⟨B, 0, none⟩) (by simp; omega)).trans cB6
  have hp17 := hp16.below hb7
  have hh7 := hh6.below hb7
  have hb7' := hb6'.trans (hb7.mono hb6'.size)
  have hB7 : B < w7.heap.size := by omega
  have hA7 : A < w7.heap.size := by omega
  have hbl : ∀ o, Below w7.heap.size w7 (w7.alloc o) := fun o => (Below.refl _ w7).alloc (Nat.le_refl _) o
  clear hb7 hb6' cA6 cB6 hp16 hh6 hB6 hS hI
  go_wp2_with fail
  have hq7 : IntsAt (w7.alloc (.cells #[.slice (some ⟨g7, 0, none⟩) 64 64] 30)) (some ⟨g7, 0, none⟩) Z := by
    rw [← hl64] at hO7; exact (hO7.of ((hbl _).block g7 hl7)).ints
  have hE := eqMem_same (some ⟨g7, 0, none⟩) (some ⟨g1, 0, none⟩) 64 64 Z _ hq7 (hp17.below (hbl _)) (by omega) (by omega) (by omega) (by omega)
  rw [hl64] at hE
  refine hE.mono ?_
  rintro e w8 ⟨rfl, hb8⟩
  have hs8 := hb8.size
  simp at hs8
  have cB8 := (hb8.cell (p := ⟨B, 0, none⟩) (by simp; omega)).trans (((hbl _).cell (p := ⟨B, 0, none⟩) hB7).trans cB7)
  have hh8 := (hh7.below (hbl _)).below hb8
  have hb8' := (hb7'.trans ((hbl _).mono hb7'.size)).trans (hb8.mono (by simp; omega))
  have hB8 : B < w8.heap.size := by omega
  clear hE hb8 hq7 hp17 hh7 cA7 cB7 hO7 hb7' hbl
  go_wp2_with fail
  refine (heldMem_any (some ⟨g2, 0, none⟩) 64 64 1 w8 hh8 (by omega) (by omega) (by omega) (by omega) (by omega)).mono ?_
  rintro e w9 ⟨rfl, hb9⟩
  have hb9' := hb8'.trans (hb9.mono hb8'.size)
  clear hb9 hb8' hh8
  go_wp2
  go_ret
  exact ⟨rfl, hb9'⟩

set_option maxRecDepth 100000 in
theorem lifted (os : Os) (started : os.Started) (H : Type) (enc : TypeId × Value → H) :
    ReturnsInHanded {} Try.checked os 6 .any (Rows.fnExactMemNewSpec.pre6 enc Try.prog Try.f6 Rows.fnExactMemNewRow.domain false) (Rows.fnExactMemNewSpec.post enc Try.prog Try.f6 false true false false) := by
  refine returnsInHanded_of_change (C := Try.checked) own started (by kernel_rfl) Try.func6
    (ChangeSpec.witness6 (enc := enc) (C := Try.checked) false ⟨#[], #[], []⟩ 8 (by kernel_rfl) (by kernel_rfl) (by kernel_rfl) (by kernel_rfl)) ?_
  intro W base args ds gs before hval0 hW hcnd _
  have hW' := hW
  obtain ⟨p, q, hA0, hV, rfl, hfz, hnd⟩ := hW
  have hA : DataW.TrodAll enc Try.prog W 0 (fun _ => true) true Try.f6.params.toList args.toList ds p := hA0
  rw [Try.params6] at hA
  obtain ⟨hargs, rfl, rfl⟩ := trodAll_nil hA
  obtain rfl : args = #[] := by cases args; simp_all
  obtain ⟨rfl, rfl⟩ := trodVars_none hV
  clear hA0 hval0
  refine (walk W).mono fun e W' ⟨he, bel⟩ => ?_
  subst he
  exact ⟨_, rfl, _, _, _, [], _, [], hW', trodAll_mk1 (shut_bool Try.underlying4 _), trodAll_mk0, rfl, bel.frame _, fun h => by cases h⟩

theorem over : Rows.fnExactMemNewRow.holds Try.pinned (OpenSpec.ofChange Rows.fnExactMemNewSpec) :=
  OpenClaim.holds_of_wide 6 Try.f6 rfl rfl rfl rfl rfl rfl rfl ⟨rfl, rfl, rfl, rfl, rfl⟩ rfl rfl rfl rfl rfl (by kernel_rfl) Try.func6 (by kernel_rfl)
    (of_decide_eq_true (by kernel_rfl)) (by unfold Func.isWrapper; first | (rw [if_pos (by decide +kernel)]; kernel_rfl) | (rw [if_neg (by decide +kernel)]; exact ⟨rfl, rfl⟩))
    (fun os started H enc _ => lifted os started H enc)

theorem proved : Rows.FnExactMemNewSaid := over
end Go.Proofs.Ytglaaglojplhiaa.fnExactMemNew
