/-
  Proved: CycNew of the program answers as CycNew of the model; its answer owns its memory, behind another call too. No condition.
-/
import Derived.Test.YtpjfkimgienkbabRows
import Derived.Test.YtpjfkimgienkbabCycN
import Derived.WalkKit
import Derived.ProofKit
import Derived.OpenShut
namespace Go.Proofs.Ytpjfkimgienkbab.fnExactCycNew
open Go.ChangeShapes Go.WideShapes Go.ChangeAt Go.RowKit
set_option linter.unusedVariables false
set_option linter.unusedSimpArgs false

theorem own : ownKnob Try.prog.godebug = none := by kernel_rfl

set_option maxRecDepth 100000 in
set_option maxHeartbeats 4000000 in
theorem walk (w : World) :
    Calls Try.prog 3 #[] w fun e w' => e = .returned (.bool true) ∧ Below w.heap.size w w' := by
  have HS : Hid (∀ W : World, Calls Try.prog 5 #[] W fun e w' => ∃ xp0 xl0 xc0 xp1 xl1 xc1 xp2 xl2 xc2 xp3 xl3 xc3 xp4 xl4 xc4 bs, e = .returned (.agg #[(.slice xp0 xl0 xc0), (.slice xp1 xl1 xc1), (.slice xp2 xl2 xc2), (.slice xp3 xl3 xc3), (.slice xp4 xl4 xc4)]) ∧ CNew w' #[(.slice xp0 xl0 xc0), (.slice xp1 xl1 xc1), (.slice xp2 xl2 xc2), (.slice xp3 xl3 xc3), (.slice xp4 xl4 xc4)] bs ∧ (∀ b ∈ bs, W.heap.size ≤ b) ∧ Below W.heap.size W w') := fun W => spec_CycNew W
  have HI : Hid (∀ W : World, Calls Try.prog 6 #[] W fun e w' => ∃ xp0 xl0 xc0 xp1 xl1 xc1 xp2 xl2 xc2 xp3 xl3 xc3 xp4 xl4 xc4 bs, e = .returned (.agg #[(.slice xp0 xl0 xc0), (.slice xp1 xl1 xc1), (.slice xp2 xl2 xc2), (.slice xp3 xl3 xc3), (.slice xp4 xl4 xc4)]) ∧ CNew w' #[(.slice xp0 xl0 xc0), (.slice xp1 xl1 xc1), (.slice xp2 xl2 xc2), (.slice xp3 xl3 xc3), (.slice xp4 xl4 xc4)] bs ∧ (∀ b ∈ bs, W.heap.size ≤ b) ∧ Below W.heap.size W w') := fun W => impl_CycNew W
  go_enter Try.func3, Try.ntmps3
  go_wp2_with fail
  refine (HS.out w).mono ?_
  rintro e w1 ⟨xp0, xl0, xc0, xp1, xl1, xc1, xp2, xl2, xc2, xp3, xl3, xc3, xp4, xl4, xc4, b1, rfl, hO1, hg1, hb1⟩
  have hs1 := hb1.size
  have hl1 := CNew.lt hO1
  go_wp2_with fail
  refine (HI.out _).mono ?_
  rintro e w2 ⟨yp0, yl0, yc0, yp1, yl1, yc1, yp2, yl2, yc2, yp3, yl3, yc3, yp4, yl4, yc4, b2, rfl, hO2, hg2, hb2⟩
  have hs2 := hb2.size
  have hl2 := CNew.lt hO2
  simp only [World.size_alloc] at hs2 hg2
  have hA2 : w2.heap[w1.heap.size]? = some (.cells #[(.slice xp0 xl0 xc0), (.slice xp1 xl1 xc1), (.slice xp2 xl2 xc2), (.slice xp3 xl3 xc3), (.slice xp4 xl4 xc4)] 31 (0, 0)) := (hb2.block _ (by simp)).trans (nw_at _ rfl)
  have hx1 : Below w1.heap.size w1 (w1.alloc (.cells #[(.slice xp0 xl0 xc0), (.slice xp1 xl1 xc1), (.slice xp2 xl2 xc2), (.slice xp3 xl3 xc3), (.slice xp4 xl4 xc4)] 31)) := (Below.refl _ _).alloc (Nat.le_refl _) _
  have O1 := CNew.of hO1 (fun b hb => (hb2.block b (by simp; have := hl1 b hb; omega)).trans (hx1.block b (hl1 b hb)))
  have hbW : Below w.heap.size w w2 := (hb1.trans (hx1.mono hs1)).trans (hb2.mono (by simp; omega))
  clear hb1 hb2 hO1 hx1
  obtain ⟨A, hA⟩ : ∃ A, A = w1.heap.size := ⟨_, rfl⟩
  rw [← hA] at hA2 hs2 hs1 hl1 hg2 ⊢
  clear hA
  have cA0 : w2.cell? ⟨A, 0, none⟩ = some (.slice xp0 xl0 xc0) := heap_cell hA2 0
  have cA1 : w2.cell? ⟨A, 1, none⟩ = some (.slice xp1 xl1 xc1) := heap_cell hA2 1
  have cA2 : w2.cell? ⟨A, 2, none⟩ = some (.slice xp2 xl2 xc2) := heap_cell hA2 2
  have cA3 : w2.cell? ⟨A, 3, none⟩ = some (.slice xp3 xl3 xc3) := heap_cell hA2 3
  have cA4 : w2.cell? ⟨A, 4, none⟩ = some (.slice xp4 xl4 xc4) := heap_cell hA2 4
  have hAlt : A < w2.heap.size := heap_lt hA2
  have HO1 := Hid.intro O1
  have HO2 := Hid.intro hO2
  have HL1 := Hid.intro hl1
  have HG2 := Hid.intro hg2
  clear O1 hO2 hl1 hg2 hg1
  go_wp2_with fail
  clear cA0 cA1 cA2 cA3 cA4
  obtain ⟨B, hB⟩ : ∃ B, B = w2.heap.size := ⟨_, rfl⟩
  obtain ⟨w3, hw3⟩ : ∃ w3, w2.alloc (.cells #[(.slice yp0 yl0 yc0), (.slice yp1 yl1 yc1), (.slice yp2 yl2 yc2), (.slice yp3 yl3 yc3), (.slice yp4 yl4 yc4)] 31) = w3 := ⟨_, rfl⟩
  have hx2 : Below w2.heap.size w2 w3 := by rw [← hw3]; exact (Below.refl _ _).alloc (Nat.le_refl _) _
  have hB3 : w3.heap[B]? = some (.cells #[(.slice yp0 yl0 yc0), (.slice yp1 yl1 yc1), (.slice yp2 yl2 yc2), (.slice yp3 yl3 yc3), (.slice yp4 yl4 yc4)] 31 (0, 0)) := by rw [← hw3, hB]; exact nw_at _ rfl
  have hA3 := (hx2.block A hAlt).trans hA2
  have hO13 := CNew.of HO1.out (fun b hb => hx2.block b (by have := HL1.out b hb; omega))
  have hO23 := CNew.of HO2.out (fun b hb => hx2.block b (hl2 b hb))
  have hb3 := hbW.trans (hx2.mono hbW.size)
  rw [hw3]
  rw [← hB] at hl2 hAlt ⊢
  have HL2 := Hid.intro hl2
  clear hB hw3 hx2 hA2 HO1 HO2 hbW hs2 hl2
  refine (eqCNew w3 hO23 hO13).mono ?_
  rintro e w4 ⟨rfl, hb4⟩
  have hA4 := (hb4.block A (heap_lt hA3)).trans hA3
  have hB4 := (hb4.block B (heap_lt hB3)).trans hB3
  have hs4 := hb4.size
  have hB3l := heap_lt hB3
  have HO14 := Hid.intro (CNew.of hO13 (fun b hb => hb4.block b (by have := HL1.out b hb; omega)))
  have HO24 := Hid.intro (CNew.of hO23 (fun b hb => hb4.block b (by have := HL2.out b hb; omega)))
  have hb4' := hb3.trans (hb4.mono hb3.size)
  clear hb4 hb3 hA3 hB3 hO13 hO23
  have cB0 : w4.cell? ⟨B, 0, none⟩ = some (.slice yp0 yl0 yc0) := heap_cell hB4 0
  have cB1 : w4.cell? ⟨B, 1, none⟩ = some (.slice yp1 yl1 yc1) := heap_cell hB4 1
  have cB2 : w4.cell? ⟨B, 2, none⟩ = some (.slice yp2 yl2 yc2) := heap_cell hB4 2
  have cB3 : w4.cell? ⟨B, 3, none⟩ = some (.slice yp3 yl3 yc3) := heap_cell hB4 3
  have cB4 : w4.cell? ⟨B, 4, none⟩ = some (.slice yp4 yl4 yc4) := heap_cell hB4 4
  go_wp2_with fail
  refine (markCNew w4 HO24.out).mono ?_
  rintro e w5 ⟨rfl, hQ5, hk5⟩
  have hk5s := hk5.size
  have hbl5 : ∀ k, k ∉ b2 → k < w4.heap.size → w5.heap[k]? = w4.heap[k]? := fun k h1 hk => hk5.block k hk h1
  have hA5 := (hbl5 A (fun e => by have := HG2.out _ e; omega) (heap_lt hA4)).trans hA4
  have hB5 := (hbl5 B (fun e => by have := HL2.out _ e; omega) (heap_lt hB4)).trans hB4
  have HO15 := Hid.intro (CNew.of HO14.out (fun b hb => hbl5 b (fun e => by have := HG2.out _ e; have := HL1.out _ hb; omega) (by have := HL1.out _ hb; omega)))
  have hb5 : Below w.heap.size w w5 := hb4'.trans ⟨hk5.os, hk5.tape, hk5.output, hk5.size, fun k hk => hbl5 k (fun e => by have := HG2.out _ e; omega) (by have := hb4'.size; omega)⟩
  have HQ5 := Hid.intro hQ5
  clear hk5 hbl5 hA4 hB4 HO14 HO24 hb4' hQ5 cB0 cB1 cB2 cB3 cB4
  have cB0 : w5.cell? ⟨B, 0, none⟩ = some (.slice yp0 yl0 yc0) := heap_cell hB5 0
  have cB1 : w5.cell? ⟨B, 1, none⟩ = some (.slice yp1 yl1 yc1) := heap_cell hB5 1
  have cB2 : w5.cell? ⟨B, 2, none⟩ = some (.slice yp2 yl2 yc2) := heap_cell hB5 2
  have cB3 : w5.cell? ⟨B, 3, none⟩ = some (.slice yp3 yl3 yc3) := heap_cell hB5 3
  have cB4 : w5.cell? ⟨B, 4, none⟩ = some (.slice yp4 yl4 yc4) := heap_cell hB5 4
  go_wp2_with fail
  refine (heldCNew w5 HQ5.out).mono ?_
  rintro e w6 ⟨rfl, hb6⟩
  have hs6 := hb6.size
  have hA6 := (hb6.block A (heap_lt hA5)).trans hA5
  have hB6 := (hb6.block B (heap_lt hB5)).trans hB5
  have HO16 := Hid.intro (CNew.of HO15.out (fun b hb => hb6.block b (by have := HL1.out b hb; omega)))
  have HQ6 := Hid.intro (CMrk.of HQ5.out (fun b hb => hb6.block b (by have := HL2.out b hb; omega)) hb6.size)
  have hb6' := hb5.trans (hb6.mono hb5.size)
  clear hb6 hb5 hA5 hB5 HO15 HQ5 cB0 cB1 cB2 cB3 cB4
  go_wp2_with fail
  refine (HI.out w6).mono ?_
  rintro e w7 ⟨zp0, zl0, zc0, zp1, zl1, zc1, zp2, zl2, zc2, zp3, zl3, zc3, zp4, zl4, zc4, b7, rfl, hO7, hg7, hb7⟩
  have hs7 := hb7.size
  have hl7 := CNew.lt hO7
  have hA7 := (hb7.block A (heap_lt hA6)).trans hA6
  have hB7 := (hb7.block B (heap_lt hB6)).trans hB6
  have HO17 := Hid.intro (CNew.of HO16.out (fun b hb => hb7.block b (by have := HL1.out b hb; omega)))
  have HO7 := Hid.intro hO7
  have HQ7 := Hid.intro (CMrk.of HQ6.out (fun b hb => hb7.block b (by have := HL2.out b hb; omega)) hb7.size)
  have hb7' := hb6'.trans (hb7.mono hb6'.size)
  have HL7 := Hid.intro hl7
  clear hb7 hb6' hA6 hB6 HO16 HQ6 HS HI hO7 hg7 hl7
  have cA0 : w7.cell? ⟨A, 0, none⟩ = some (.slice xp0 xl0 xc0) := heap_cell hA7 0
  have cA1 : w7.cell? ⟨A, 1, none⟩ = some (.slice xp1 xl1 xc1) := heap_cell hA7 1
  have cA2 : w7.cell? ⟨A, 2, none⟩ = some (.slice xp2 xl2 xc2) := heap_cell hA7 2
  have cA3 : w7.cell? ⟨A, 3, none⟩ = some (.slice xp3 xl3 xc3) := heap_cell hA7 3
  have cA4 : w7.cell? ⟨A, 4, none⟩ = some (.slice xp4 xl4 xc4) := heap_cell hA7 4
  have hAl := heap_lt hA7
  have hBl := heap_lt hB7
  go_wp2_with fail
  obtain ⟨v7, hv7⟩ : ∃ v7, w7.alloc (.cells #[(.slice zp0 zl0 zc0), (.slice zp1 zl1 zc1), (.slice zp2 zl2 zc2), (.slice zp3 zl3 zc3), (.slice zp4 zl4 zc4)] 31) = v7 := ⟨_, rfl⟩
  have hx7 : Below w7.heap.size w7 v7 := by rw [← hv7]; exact (Below.refl _ _).alloc (Nat.le_refl _) _
  rw [hv7]
  clear hv7
  refine (eqCNew v7 (CNew.of HO7.out (fun b hb => hx7.block b (HL7.out b hb))) (CNew.of HO17.out (fun b hb => hx7.block b (by have := HL1.out b hb; omega)))).mono ?_
  rintro e w8 ⟨rfl, hb8⟩
  have hx7s := hx7.size
  have hB8 := (hb8.block B (Nat.lt_of_lt_of_le hBl hx7.size)).trans ((hx7.block B hBl).trans hB7)
  have HQ8 := Hid.intro (CMrk.of HQ7.out (fun b hb => (hb8.block b (by have := HL2.out b hb; omega)).trans (hx7.block b (by have := HL2.out b hb; omega))) (Nat.le_trans hx7.size hb8.size))
  have hb8' := (hb7'.trans (hx7.mono hb7'.size)).trans (hb8.mono (Nat.le_trans hb7'.size hx7.size))
  clear hb8 hx7 hb7' hA7 hB7 HO17 HO7 HQ7 cA0 cA1 cA2 cA3 cA4
  have cB0 : w8.cell? ⟨B, 0, none⟩ = some (.slice yp0 yl0 yc0) := heap_cell hB8 0
  have cB1 : w8.cell? ⟨B, 1, none⟩ = some (.slice yp1 yl1 yc1) := heap_cell hB8 1
  have cB2 : w8.cell? ⟨B, 2, none⟩ = some (.slice yp2 yl2 yc2) := heap_cell hB8 2
  have cB3 : w8.cell? ⟨B, 3, none⟩ = some (.slice yp3 yl3 yc3) := heap_cell hB8 3
  have cB4 : w8.cell? ⟨B, 4, none⟩ = some (.slice yp4 yl4 yc4) := heap_cell hB8 4
  go_wp2_with fail
  refine (heldCNew w8 HQ8.out).mono ?_
  rintro e w9 ⟨rfl, hb9⟩
  have hb9' := hb8'.trans (hb9.mono hb8'.size)
  clear hb9 hb8' HQ8
  go_wp2
  go_ret
  exact ⟨rfl, hb9'⟩

set_option maxRecDepth 100000 in
theorem lifted (os : Os) (started : os.Started) (H : Type) (enc : TypeId × Value → H) :
    ReturnsInHanded {} Try.checked os 3 .any (Rows.fnExactCycNewSpec.pre6 enc Try.prog Try.f3 Rows.fnExactCycNewRow.domain false) (Rows.fnExactCycNewSpec.post enc Try.prog Try.f3 false true false false) := by
  refine returnsInHanded_of_change (C := Try.checked) own started (by kernel_rfl) Try.func3
    (ChangeSpec.witness6 (enc := enc) (C := Try.checked) false ⟨#[], #[], []⟩ 8 (by kernel_rfl) (by kernel_rfl) (by kernel_rfl) (by kernel_rfl)) ?_
  intro W base args ds gs before hval0 hW hcnd _
  have hW' := hW
  obtain ⟨p, q, hA0, hV, rfl, hfz, hnd⟩ := hW
  have hA : DataW.TrodAll enc Try.prog W 0 (fun _ => true) true Try.f3.params.toList args.toList ds p := hA0
  rw [Try.params3] at hA
  obtain ⟨hargs, rfl, rfl⟩ := trodAll_nil hA
  obtain rfl : args = #[] := by cases args; simp_all
  obtain ⟨rfl, rfl⟩ := trodVars_none hV
  clear hA0 hval0
  refine (walk W).mono fun e W' ⟨he, bel⟩ => ?_
  subst he
  exact ⟨_, rfl, _, _, _, [], _, [], hW', trodAll_mk1 (shut_bool Try.underlying4 _), trodAll_mk0, rfl, bel.frame _, fun h => by cases h⟩

theorem over : Rows.fnExactCycNewRow.holds Try.pinned (OpenSpec.ofChange Rows.fnExactCycNewSpec) :=
  OpenClaim.holds_of_wide 3 Try.f3 rfl rfl rfl rfl rfl rfl rfl ⟨rfl, rfl, rfl, rfl, rfl⟩ rfl rfl rfl rfl rfl (by kernel_rfl) Try.func3 (by kernel_rfl)
    (of_decide_eq_true (by kernel_rfl)) (by unfold Func.isWrapper; first | (rw [if_pos (by decide +kernel)]; kernel_rfl) | (rw [if_neg (by decide +kernel)]; exact ⟨rfl, rfl⟩))
    (fun os started H enc _ => lifted os started H enc)

theorem proved : Rows.FnExactCycNewSaid := over
end Go.Proofs.Ytpjfkimgienkbab.fnExactCycNew
