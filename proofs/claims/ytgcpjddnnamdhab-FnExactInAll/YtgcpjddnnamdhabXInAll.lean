/-
  Proved: InAll of the program answers as InAll of the model; its answer owns its memory, behind another call too. No condition.
-/
import Derived.Test.YtgcpjddnnamdhabRows
import Derived.Test.YtgcpjddnnamdhabInA
import Derived.Test.YtgcpjddnnamdhabInK
import Derived.WalkKit
import Derived.ProofKit
import Derived.OpenShut
namespace Go.Proofs.Ytgcpjddnnamdhab.fnExactInAll
open Go.ChangeShapes Go.WideShapes Go.ChangeAt Go.RowKit
set_option linter.unusedVariables false
set_option linter.unusedSimpArgs false

theorem own : ownKnob Try.prog.godebug = none := by kernel_rfl

/-- the cells of an answer -/
abbrev cl (g h k : Nat) : Array Value := #[.slice (some ⟨g, 0, none⟩) 3 3, .slice (some ⟨h, 0, none⟩) 4 4, .slice (some ⟨k, 0, none⟩) 3 3]

theorem eqs (W : World) (M M' g h k g' h' k' : Nat) (o : InOwn M W inAllX g h k) (o' : InOwn M' W inAllX g' h' k') :
    Calls Try.prog 6 #[.agg #[.slice (some ⟨g, 0, none⟩) 3 3, .slice (some ⟨h, 0, none⟩) 4 4, .slice (some ⟨k, 0, none⟩) 3 3], .agg #[.slice (some ⟨g', 0, none⟩) 3 3, .slice (some ⟨h', 0, none⟩) 4 4, .slice (some ⟨k', 0, none⟩) 3 3]] W fun e w' => e = .returned (.bool true) ∧ Below W.heap.size W w' :=
  eqIn_same inAllX _ _ _ _ _ _ 3 4 3 3 4 3 W (o.at (by decide) (by decide) (by decide)) (o'.at (by decide) (by decide) (by decide))

theorem marks (W : World) (M g h k : Nat) (o : InOwn M W inAllX g h k) :
    Calls Try.prog 7 #[.agg #[.slice (some ⟨g, 0, none⟩) 3 3, .slice (some ⟨h, 0, none⟩) 4 4, .slice (some ⟨k, 0, none⟩) 3 3], .int .i64 1] W fun e w' => e = .returned (.int .i64 11) ∧ (BoolsAt w' (some ⟨g, 0, none⟩) (markBL 1 3) ∧ BoolsAt w' (some ⟨h, 0, none⟩) (markBL (1 + 3) 4) ∧ BoolsAt w' (some ⟨k, 0, none⟩) (markBL (1 + 3 + 4) 3)) ∧ Kept (fun j => j = g ∨ j = h ∨ j = k) W w' := by
  refine (markIn_any (some ⟨g, 0, none⟩) (some ⟨h, 0, none⟩) (some ⟨k, 0, none⟩) 3 4 3 [true, true, true] [false, false, false, false] [true, true, true] 1 W (.inr ⟨g, rfl, o.ready⟩) (.inr ⟨h, rfl, o.stall⟩) (.inr ⟨k, rfl, o.send⟩) (.inr (.inr (fun e => o.gh (by cases e; rfl)))) (.inr (.inr (fun e => o.hk (by cases e; rfl)))) (.inr (.inr (fun e => o.gk (by cases e; rfl)))) (by omega) (by omega) (by decide) (by decide) (by decide) (by decide) (by omega) (by decide) (by omega) (by decide) (by omega)).mono ?_
  rintro e w' ⟨rfl, h1, h2, h3, h4⟩
  refine ⟨rfl, ⟨h1.bools, h2.bools, h3.bools⟩, h4.mono (fun j hj => ?_)⟩
  rcases hj with ⟨_, e⟩ | ⟨_, e⟩ | ⟨_, e⟩
  · cases e; exact .inl rfl
  · cases e; exact .inr (.inl rfl)
  · cases e; exact .inr (.inr rfl)

theorem helds (W : World) (g h k : Nat) (o : BoolsAt W (some ⟨g, 0, none⟩) (markBL 1 3) ∧ BoolsAt W (some ⟨h, 0, none⟩) (markBL (1 + 3) 4) ∧ BoolsAt W (some ⟨k, 0, none⟩) (markBL (1 + 3 + 4) 3)) :
    Calls Try.prog 8 #[.agg #[.slice (some ⟨g, 0, none⟩) 3 3, .slice (some ⟨h, 0, none⟩) 4 4, .slice (some ⟨k, 0, none⟩) 3 3], .int .i64 1] W fun e w' => e = .returned (.int .i64 11) ∧ Below W.heap.size W w' := by
  refine (heldIn_any (some ⟨g, 0, none⟩) (some ⟨h, 0, none⟩) (some ⟨k, 0, none⟩) 3 4 3 3 4 3 1 W o.1 o.2.1 o.2.2 (by omega) (by omega) (by omega) (by omega) (by omega) (by omega) (by omega) (by omega) (by omega) (by omega) (by omega)).mono ?_
  rintro e w' ⟨rfl, hb⟩
  exact ⟨rfl, hb⟩

set_option maxRecDepth 100000 in
set_option maxHeartbeats 2000000 in
theorem walk (w : World) :
    Calls Try.prog 3 #[] w fun e w' => e = .returned (.bool true) ∧ Below w.heap.size w w' := by
  have HS : Hid (∀ W : World, Calls Try.prog 4 #[] W fun e w' => ∃ g h k, e = .returned (.agg #[.slice (some ⟨g, 0, none⟩) 3 3, .slice (some ⟨h, 0, none⟩) 4 4, .slice (some ⟨k, 0, none⟩) 3 3]) ∧ InOwn W.heap.size w' inAllX g h k ∧ Below W.heap.size W w') := fun W => spec_InAll W
  have HI : Hid (∀ W : World, Calls Try.prog 5 #[] W fun e w' => ∃ g h k, e = .returned (.agg #[.slice (some ⟨g, 0, none⟩) 3 3, .slice (some ⟨h, 0, none⟩) 4 4, .slice (some ⟨k, 0, none⟩) 3 3]) ∧ InOwn W.heap.size w' inAllX g h k ∧ Below W.heap.size W w') := fun W => impl_InAll W
  go_enter Try.func3, Try.ntmps3
  go_wp2_with fail
  refine (HS.out w).mono ?_
  rintro e w1 ⟨g1, h1, k1, rfl, hO1, hb1⟩
  have hs1 := hb1.size
  go_wp2_with fail
  refine (HI.out _).mono ?_
  rintro e w2 ⟨g2, h2, k2, rfl, hO2, hb2⟩
  have hs2 := hb2.size
  have lo2 := hO2.lo
  simp at hs2 lo2
  have hA2 : w2.heap[w1.heap.size]? = some (.cells #[.slice (some ⟨g1, 0, none⟩) 3 3, .slice (some ⟨h1, 0, none⟩) 4 4, .slice (some ⟨k1, 0, none⟩) 3 3] 24 (0, 0)) := (hb2.block _ (by simp)).trans (in_nw _ rfl)
  have hx1 := (Below.refl w1.heap.size w1).alloc (Nat.le_refl _) (.cells #[.slice (some ⟨g1, 0, none⟩) 3 3, .slice (some ⟨h1, 0, none⟩) 4 4, .slice (some ⟨k1, 0, none⟩) 3 3] 24)
  have l11 := hO1.ready.lt
  have l12 := hO1.stall.lt
  have l13 := hO1.send.lt
  have l21 := hO2.ready.lt
  have l22 := hO2.stall.lt
  have l23 := hO2.send.lt
  have O1 := (hO1.below hx1).below hb2
  have hbW : Below w.heap.size w w2 := (hb1.trans (hx1.mono hs1)).trans (hb2.mono (by simp; omega))
  clear hb1 hb2 hO1 hx1
  obtain ⟨A, hA⟩ : ∃ A, A = w1.heap.size := ⟨_, rfl⟩
  rw [← hA] at hA2 hs2 hs1 l11 l12 l13 lo2 ⊢
  clear hA
  have cA0 : w2.cell? ⟨A, 0, none⟩ = some (.slice (some ⟨g1, 0, none⟩) 3 3) := heap_cell hA2 0
  have cA1 : w2.cell? ⟨A, 1, none⟩ = some (.slice (some ⟨h1, 0, none⟩) 4 4) := heap_cell hA2 1
  have cA2 : w2.cell? ⟨A, 2, none⟩ = some (.slice (some ⟨k1, 0, none⟩) 3 3) := heap_cell hA2 2
  have hAlt : A < w2.heap.size := heap_lt hA2
  have HO1 := Hid.intro O1
  have HO2 := Hid.intro hO2
  clear O1 hO2
  go_wp2_with fail
  clear cA0 cA1 cA2
  obtain ⟨B, hB⟩ : ∃ B, B = w2.heap.size := ⟨_, rfl⟩
  obtain ⟨w3, hw3⟩ : ∃ w3, w2.alloc (.cells #[.slice (some ⟨g2, 0, none⟩) 3 3, .slice (some ⟨h2, 0, none⟩) 4 4, .slice (some ⟨k2, 0, none⟩) 3 3] 24) = w3 := ⟨_, rfl⟩
  have hx2 : Below w2.heap.size w2 w3 := by rw [← hw3]; exact (Below.refl _ _).alloc (Nat.le_refl _) _
  have hB3 : w3.heap[B]? = some (.cells #[.slice (some ⟨g2, 0, none⟩) 3 3, .slice (some ⟨h2, 0, none⟩) 4 4, .slice (some ⟨k2, 0, none⟩) 3 3] 24 (0, 0)) := by rw [← hw3, hB]; exact in_nw _ rfl
  have hA3 := (hx2.block A hAlt).trans hA2
  have hO13 := HO1.out.below hx2
  have hO23 := HO2.out.below hx2
  have hb3 := hbW.trans (hx2.mono hbW.size)
  rw [hw3]
  rw [← hB] at l21 l22 l23 hAlt ⊢
  clear hB hw3 hx2 hA2 HO1 HO2 hbW hs2
  refine (eqs w3 _ _ _ _ _ _ _ _ hO23 hO13).mono ?_
  rintro e w4 ⟨rfl, hb4⟩
  have hA4 := (hb4.block A (heap_lt hA3)).trans hA3
  have hB4 := (hb4.block B (heap_lt hB3)).trans hB3
  have HO14 := Hid.intro (hO13.below hb4)
  have HO24 := Hid.intro (hO23.below hb4)
  have hb4' := hb3.trans (hb4.mono hb3.size)
  clear hb4 hb3 hA3 hB3 hO13 hO23
  have cB0 : w4.cell? ⟨B, 0, none⟩ = some (.slice (some ⟨g2, 0, none⟩) 3 3) := heap_cell hB4 0
  have cB1 : w4.cell? ⟨B, 1, none⟩ = some (.slice (some ⟨h2, 0, none⟩) 4 4) := heap_cell hB4 1
  have cB2 : w4.cell? ⟨B, 2, none⟩ = some (.slice (some ⟨k2, 0, none⟩) 3 3) := heap_cell hB4 2
  go_wp2_with fail
  refine (marks w4 _ _ _ _ HO24.out).mono ?_
  rintro e w5 ⟨rfl, hQ5, hk5⟩
  have hk5s := hk5.size
  have hbl5 : ∀ k, k ≠ g2 → k ≠ h2 → k ≠ k2 → k < w4.heap.size → w5.heap[k]? = w4.heap[k]? := fun k h1 h2 h3 hk => hk5.block k hk (fun e => by omega)
  have hA5 := (hbl5 A (by omega) (by omega) (by omega) (heap_lt hA4)).trans hA4
  have hB5 := (hbl5 B (by omega) (by omega) (by omega) (heap_lt hB4)).trans hB4
  have hO15 : InOwn w.heap.size w5 inAllX g1 h1 k1 := ⟨HO14.out.ready.of (hbl5 g1 (by omega) (by omega) (by omega) HO14.out.ready.lt), HO14.out.stall.of (hbl5 h1 (by omega) (by omega) (by omega) HO14.out.stall.lt), HO14.out.send.of (hbl5 k1 (by omega) (by omega) (by omega) HO14.out.send.lt), HO14.out.lo, HO14.out.gh, HO14.out.hk, HO14.out.gk⟩
  have hb5 : Below w.heap.size w w5 := hb4'.trans ⟨hk5.os, hk5.tape, hk5.output, hk5.size, fun k hk => hbl5 k (by omega) (by omega) (by omega) (by have := hb4'.size; omega)⟩
  have HO15 := Hid.intro hO15
  have HQ5 := Hid.intro hQ5
  clear hk5 hbl5 hA4 hB4 HO14 HO24 hb4' hQ5 hO15 cB0 cB1 cB2
  have cB0 : w5.cell? ⟨B, 0, none⟩ = some (.slice (some ⟨g2, 0, none⟩) 3 3) := heap_cell hB5 0
  have cB1 : w5.cell? ⟨B, 1, none⟩ = some (.slice (some ⟨h2, 0, none⟩) 4 4) := heap_cell hB5 1
  have cB2 : w5.cell? ⟨B, 2, none⟩ = some (.slice (some ⟨k2, 0, none⟩) 3 3) := heap_cell hB5 2
  go_wp2_with fail
  refine (helds w5 _ _ _ HQ5.out).mono ?_
  rintro e w6 ⟨rfl, hb6⟩
  have hA6 := (hb6.block A (heap_lt hA5)).trans hA5
  have hB6 := (hb6.block B (heap_lt hB5)).trans hB5
  have HO16 := Hid.intro (HO15.out.below hb6)
  have HQ6 := Hid.intro (show _ ∧ _ ∧ _ from ⟨HQ5.out.1.below hb6, HQ5.out.2.1.below hb6, HQ5.out.2.2.below hb6⟩)
  have hb6' := hb5.trans (hb6.mono hb5.size)
  clear hb6 hb5 hA5 hB5 HO15 HQ5 cB0 cB1 cB2
  go_wp2_with fail
  refine (HI.out w6).mono ?_
  rintro e w7 ⟨g7, h7, k7, rfl, hO7, hb7⟩
  have hA7 := (hb7.block A (heap_lt hA6)).trans hA6
  have hB7 := (hb7.block B (heap_lt hB6)).trans hB6
  have HO17 := Hid.intro (HO16.out.below hb7)
  have HO7 := Hid.intro hO7
  have HQ7 := Hid.intro (show _ ∧ _ ∧ _ from ⟨HQ6.out.1.below hb7, HQ6.out.2.1.below hb7, HQ6.out.2.2.below hb7⟩)
  have hb7' := hb6'.trans (hb7.mono hb6'.size)
  clear hb7 hb6' hA6 hB6 HO16 HQ6 HS HI hO7
  have cA0 : w7.cell? ⟨A, 0, none⟩ = some (.slice (some ⟨g1, 0, none⟩) 3 3) := heap_cell hA7 0
  have cA1 : w7.cell? ⟨A, 1, none⟩ = some (.slice (some ⟨h1, 0, none⟩) 4 4) := heap_cell hA7 1
  have cA2 : w7.cell? ⟨A, 2, none⟩ = some (.slice (some ⟨k1, 0, none⟩) 3 3) := heap_cell hA7 2
  have hAl := heap_lt hA7
  have hBl := heap_lt hB7
  go_wp2_with fail
  obtain ⟨v7, hv7⟩ : ∃ v7, w7.alloc (.cells #[.slice (some ⟨g7, 0, none⟩) 3 3, .slice (some ⟨h7, 0, none⟩) 4 4, .slice (some ⟨k7, 0, none⟩) 3 3] 24) = v7 := ⟨_, rfl⟩
  have hx7 : Below w7.heap.size w7 v7 := by rw [← hv7]; exact (Below.refl _ _).alloc (Nat.le_refl _) _
  rw [hv7]
  clear hv7
  refine (eqs v7 _ _ _ _ _ _ _ _ (HO7.out.below hx7) (HO17.out.below hx7)).mono ?_
  rintro e w8 ⟨rfl, hb8⟩
  have hB8 := (hb8.block B (Nat.lt_of_lt_of_le hBl hx7.size)).trans ((hx7.block B hBl).trans hB7)
  have HQ8 := Hid.intro (show _ ∧ _ ∧ _ from ⟨(HQ7.out.1.below hx7).below hb8, (HQ7.out.2.1.below hx7).below hb8, (HQ7.out.2.2.below hx7).below hb8⟩)
  have hb8' := (hb7'.trans (hx7.mono hb7'.size)).trans (hb8.mono (Nat.le_trans hb7'.size hx7.size))
  clear hb8 hx7 hb7' hA7 hB7 HO17 HO7 HQ7 cA0 cA1 cA2
  have cB0 : w8.cell? ⟨B, 0, none⟩ = some (.slice (some ⟨g2, 0, none⟩) 3 3) := heap_cell hB8 0
  have cB1 : w8.cell? ⟨B, 1, none⟩ = some (.slice (some ⟨h2, 0, none⟩) 4 4) := heap_cell hB8 1
  have cB2 : w8.cell? ⟨B, 2, none⟩ = some (.slice (some ⟨k2, 0, none⟩) 3 3) := heap_cell hB8 2
  go_wp2_with fail
  refine (helds w8 _ _ _ HQ8.out).mono ?_
  rintro e w9 ⟨rfl, hb9⟩
  have hb9' := hb8'.trans (hb9.mono hb8'.size)
  clear hb9 hb8' HQ8
  go_wp2
  go_ret
  exact ⟨rfl, hb9'⟩

set_option maxRecDepth 100000 in
theorem lifted (os : Os) (started : os.Started) (H : Type) (enc : TypeId × Value → H) :
    ReturnsInHanded {} Try.checked os 3 .any (Rows.fnExactInAllSpec.pre6 enc Try.prog Try.f3 Rows.fnExactInAllRow.domain false) (Rows.fnExactInAllSpec.post enc Try.prog Try.f3 false true false false) := by
  refine returnsInHanded_of_change (C := Try.checked) own started (by kernel_rfl) Try.func3
    (ChangeSpec.witness6 (enc := enc) (C := Try.checked) false ⟨#[], #[], []⟩ 8 (by kernel_rfl) (by kernel_rfl) (by kernel_rfl) (by kernel_rfl)) ?_
  intro W base args ds gs before hval0 hW hcnd _
  have hW' := hW
  obtain ⟨p, q, hA0, hV, rfl, hfz, hnd⟩ := hW
  have hA : DataW.TrodAll enc Try.prog W 0 (fun _ => true) true Try.f3.params.toList args.toList ds p := hA0
  rw [Try.params3] at hA
  obtain ⟨hargs, rfl, rfl⟩ := trodAll_nil hA
  obtain rfl : args = #[] := by cases args; simp_all
  obtain ⟨rfl, rfl⟩ := trodVars_none hV
  clear hA0 hval0
  refine (walk W).mono fun e W' ⟨he, bel⟩ => ?_
  subst he
  exact ⟨_, rfl, _, _, _, [], _, [], hW', trodAll_mk1 (shut_bool Try.underlying4 _), trodAll_mk0, rfl, bel.frame _, fun h => by cases h⟩

theorem over : Rows.fnExactInAllRow.holds Try.pinned (OpenSpec.ofChange Rows.fnExactInAllSpec) :=
  OpenClaim.holds_of_wide 3 Try.f3 rfl rfl rfl rfl rfl rfl rfl ⟨rfl, rfl, rfl, rfl, rfl⟩ rfl rfl rfl rfl rfl (by kernel_rfl) Try.func3 (by kernel_rfl)
    (of_decide_eq_true (by kernel_rfl)) (by unfold Func.isWrapper; first | (rw [if_pos (by decide +kernel)]; kernel_rfl) | (rw [if_neg (by decide +kernel)]; exact ⟨rfl, rfl⟩))
    (fun os started H enc _ => lifted os started H enc)

theorem proved : Rows.FnExactInAllSaid := over
end Go.Proofs.Ytgcpjddnnamdhab.fnExactInAll
