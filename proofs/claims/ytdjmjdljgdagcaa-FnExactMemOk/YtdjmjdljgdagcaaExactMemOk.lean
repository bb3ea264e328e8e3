/-
  Proved: at every store MemOk of the program answers as MemOk of the model; it writes into no argument. No condition.
-/
import Derived.Test.YtdjmjdljgdagcaaRows
import Derived.Test.YtdjmjdljgdagcaaMemM
import Derived.Test.YtdjmjdljgdagcaaOpenI
import Derived.Test.YtdjmjdljgdagcaaOpsX
namespace Go.Proofs.Ytdjmjdljgdagcaa.fnExactMemOk
open Go.ChangeShapes Go.WideShapes Go.ChangeAt Go.RowKit
set_option linter.unusedVariables false
set_option linter.unusedSimpArgs false

theorem box {w : World} {v : Value} {t : TypeId} : (w.alloc (.cells #[v] t)).cell? ⟨w.heap.size, 0, none⟩ = some v := by simp

/-- a store of its own -/
def kMem (xs : List Int) : World → Value → Prop := fun w v => ∃ g, v = .agg #[.slice (some ⟨g, 0, none⟩) xs.length xs.length] ∧ ORow 3 1 w g xs.length xs.length (xs.map (Value.int .i64))
theorem stable_mem {xs : List Int} {w w' : World} {v : Value} (hr : Gr w w') (h : kMem xs w v) : kMem xs w' v := by
  obtain ⟨g, h1, h2⟩ := h
  exact ⟨g, h1, h2.of (hr.block g h2.lt)⟩

set_option maxRecDepth 100000 in
set_option maxHeartbeats 1000000 in
theorem walk (a : Option Addr) (cap : Nat) (xs : List Int) (w : World) (hx : IntsAt w a xs) (hc : xs.length ≤ cap) (hm : cap ≤ 9223372036854775807) :
    Calls Try.prog 9 #[.agg #[.slice a xs.length cap]] w fun e w' => e = .returned (.bool true) ∧ Below w.heap.size w w' := by
  have hbl : ∀ o, Below w.heap.size w (w.alloc o) := fun o => (Below.refl _ w).alloc (Nat.le_refl _) o
  by_cases hl : xs.length ≤ 1048576
  · have hI : ¬ (1048576 - (xs.length : Int) < 0) := by omega
    go_enter Try.func9, Try.ntmps9
    go_wp2_with fail
    refine (szMem_any a xs.length cap 1048576 _ (by omega) (by omega) (by omega)).mono ?_
    rintro e w1 ⟨rfl, hb1⟩
    rw [if_pos (by omega)]
    have hs1 := hb1.size
    simp at hs1
    have cA1 : w1.cell? ⟨w.heap.size, 0, none⟩ = some (.slice a xs.length cap) := (hb1.cell (p := ⟨w.heap.size, 0, none⟩) (by simp)).trans box
    have hb1' := (hbl _).trans (hb1.mono (hbl _).size)
    have hA1 : w.heap.size < w1.heap.size := by omega
    clear hb1
    go_wp2_with fail
    refine (toMem_any a cap xs w1 (hx.below hb1') hc hm hl).mono ?_
    rintro e w2 ⟨g2, rfl, hO2, hg2, hb2⟩
    have hs2 := hb2.size
    have cA2 := (hb2.cell (p := ⟨w.heap.size, 0, none⟩) hA1).trans cA1
    have hb2' := hb1'.trans (hb2.mono hb1'.size)
    have hA2 : w.heap.size < w2.heap.size := by omega
    clear hb2
    go_wp2_with fail
    refine (spec_MemOk _ _ xs w2 hO2.ints (by omega) (by omega)).mono ?_
    rintro e w3 ⟨rfl, hb3⟩
    have hs3 := hb3.size
    have cA3 := (hb3.cell (p := ⟨w.heap.size, 0, none⟩) hA2).trans cA2
    have hb3' := hb2'.trans (hb3.mono hb2'.size)
    have hA3 : w.heap.size < w3.heap.size := by omega
    clear hb3 hO2 hg2 cA1 cA2 hb1' hb2'
    go_wp2_with fail
    refine (toMem_any a cap xs w3 (hx.below hb3') hc hm hl).mono ?_
    rintro e w4 ⟨g4, rfl, hO4, hg4, hb4⟩
    have hs4 := hb4.size
    have cA4 := (hb4.cell (p := ⟨w.heap.size, 0, none⟩) hA3).trans cA3
    have hb4' := hb3'.trans (hb4.mono hb3'.size)
    have hA4 : w.heap.size < w4.heap.size := by omega
    have hl4 := hO4.lt
    clear hb4
    have hbl4 : ∀ o, Below w4.heap.size w4 (w4.alloc o) := fun o => (Below.refl _ w4).alloc (Nat.le_refl _) o
    go_wp2_with fail
    refine (impl_MemOk _ _ xs _ (hO4.ints.below (hbl4 _)) (by omega) (by omega)).mono ?_
    rintro e w5 ⟨rfl, hb5⟩
    have hs5 := hb5.size
    simp at hs5
    have cA5 := (hb5.cell (p := ⟨w.heap.size, 0, none⟩) (by simp; omega)).trans (((hbl4 _).cell (p := ⟨w.heap.size, 0, none⟩) hA4).trans cA4)
    have cB5 : w5.cell? ⟨w4.heap.size, 0, none⟩ = some (.slice (some ⟨g4, 0, none⟩) xs.length xs.length) := (hb5.cell (p := ⟨w4.heap.size, 0, none⟩) (by simp)).trans box
    have hO5 := (hO4.of ((hbl4 _).block g4 hl4)).of (hb5.block g4 (by simp; omega))
    have hb5' := (hb4'.trans ((hbl4 _).mono hb4'.size)).trans (hb5.mono (by simp; omega))
    have hA5 : w.heap.size < w5.heap.size := by omega
    have hB5 : w4.heap.size < w5.heap.size := by omega
    clear hb5 hO4 hbl4 cA3 cA4 hb3' hb4'
    go_wp2_with fail
    have hxx := hx.below hb5'
    refine wp_region_typed (by kernel_rfl) Gr (fun _ W => Below w5.heap.size w5 W)
      (tab [(22, kIs (.agg #[.slice (some ⟨g4, 0, none⟩) xs.length xs.length])), (23, kIs (.agg #[.slice a xs.length cap])), (24, kMem xs), (25, kIs (.bool true)), (26, kIs (.bool false))])
      [22, 23, 24, 25, 26] (by kernel_rfl) (by kernel_rfl) ?_ ?_ ?_ ?_
    · refine tabR_stable ?_
      intro x hx
      simp at hx
      rcases hx with rfl | rfl | rfl | rfl | rfl
      all_goals intro w w' v hr hv
      all_goals first | exact hv | exact stable_mem hr hv
    · exact (Below.refl _ _).drew
    · refine ops_cons (gd rfl <| tx_pure rfl rfl (fun _ _ h => h) Gr.refl (fun i ρ W hat hW => ?_)) ?_
      · have e1 := (hW.cell (p := ⟨w4.heap.size, 0, none⟩) hB5).trans cB5
        have e2 := hat.out 5 (by kernel_rfl)
        simp [Act.eval] at e2
        simp only [execOp, e2]; go_simp
      refine ops_cons (gd rfl <| tx_pure rfl rfl (fun _ _ h => h) Gr.refl (fun i ρ W hat hW => ?_)) ?_
      · have e1 := (hW.cell (p := ⟨w.heap.size, 0, none⟩) hA5).trans cA5
        have e2 := hat.out 1 (by kernel_rfl)
        simp [Act.eval] at e2
        simp only [execOp, e2]; go_simp
      refine ops_cons (gd rfl <| tx_call rfl (fun i ρ W _ hat hW => ?_)) ?_
      · have e1 : ρ (.tmp 23) = _ := hat.dep 23 (by kernel_rfl)
        have hf := hat.fn
        refine ⟨34, #[.agg #[.slice a xs.length cap]], by simp only [execOp]; go_simp, ?_⟩
        refine (toMem_any a cap xs W (hxx.below hW) hc hm hl).mono ?_
        rintro e W' ⟨g, rfl, hO, hg, hb⟩
        exact ⟨_, rfl, hW.trans (hb.mono hW.size), hb, g, rfl, hO⟩
      refine ops_cons (gd rfl <| tx_call rfl (fun i ρ W _ hat hW => ?_)) ?_
      · have e1 : ρ (.tmp 22) = _ := hat.dep 22 (by kernel_rfl)
        obtain ⟨g, e2, hO⟩ : kMem xs W (ρ (.tmp 24)) := hat.dep 24 (by kernel_rfl)
        have hf := hat.fn
        refine ⟨35, #[.agg #[.slice (some ⟨g4, 0, none⟩) xs.length xs.length], .agg #[.slice (some ⟨g, 0, none⟩) xs.length xs.length]], by simp only [execOp]; go_simp, ?_⟩
        refine (eqMem_same _ _ _ _ xs W (hO5.ints.below hW) hO.ints (by omega) (by omega) (by omega) (by omega)).mono ?_
        rintro e W' ⟨rfl, hb⟩
        exact ⟨_, rfl, hW.trans (hb.mono hW.size), hb, rfl⟩
      refine ops_cons (gd rfl <| tx_pure rfl rfl (fun _ _ h => h) Gr.refl (fun i ρ W hat hW => ?_)) ?_
      · have e1 : ρ (.tmp 25) = _ := hat.dep 25 (by kernel_rfl)
        simp only [execOp, e1]; go_simp
      exact ops_nil
    · intro f W hW hf
      have e26 : f 26 = .bool false := hf 26 (by simp)
      clear hf
      have hbW := hb5'.trans (hW.mono hb5'.size)
      simp only [fill, e26]
      go_simp
      go_wp2
      go_ret
      exact ⟨rfl, hbW⟩
  · go_enter Try.func9, Try.ntmps9
    go_wp2_with fail
    refine (szMem_any a xs.length cap 1048576 _ (by omega) (by omega) (by omega)).mono ?_
    rintro e w1 ⟨rfl, hb1⟩
    rw [if_neg (show ¬ ((xs.length : Int) ≤ 1048576) by omega)]
    have hb1' := (hbl _).trans (hb1.mono (hbl _).size)
    go_wp2
    go_ret
    exact ⟨rfl, hb1'⟩

set_option maxRecDepth 100000 in
theorem lifted (os : Os) (started : os.Started) (H : Type) (enc : TypeId × Value → H) :
    ReturnsInHanded {} Try.checked os 9 .any (Rows.fnExactMemOkSpec.pre6 enc Try.prog Try.f9 Rows.fnExactMemOkRow.domain false) (Rows.fnExactMemOkSpec.post enc Try.prog Try.f9 false true false false) := by
  refine returnsInHanded_of_change (C := Try.checked) ownI started (by kernel_rfl) Try.func9
    (ChangeSpec.witness6 (enc := enc) (C := Try.checked) false ⟨#[], #[.agg #[.slice none 0 0]], []⟩ 8 (by kernel_rfl) (by kernel_rfl) (by kernel_rfl) (by kernel_rfl)) ?_
  intro W base args ds gs before hval0 hW hcnd _
  have hval : ∀ (j : Nat) t v, Try.f9.params[j]? = some t → args[j]? = some v → Value.okWide Try.prog W .any base t v := hval0
  have hW' := hW
  obtain ⟨p, q, hA0, hV, rfl, hfz, hnd⟩ := hW
  have hA : DataW.TrodAll enc Try.prog W 0 (fun _ => true) true Try.f9.params.toList args.toList ds p := hA0
  rw [Try.params9] at hA hval
  obtain ⟨v0, vs0, d0, ds0, p0, q0, hargs, rfl, rfl, h0, r0⟩ := trodAll_cons hA
  obtain ⟨rfl, rfl, rfl⟩ := trodAll_nil r0
  obtain rfl : args = #[v0] := by cases args; simp_all
  obtain ⟨rfl, rfl⟩ := trodVars_none hV
  have k0 := h0
  have lt0 : ∀ x ∈ p0, x.block < W.heap.size := by obtain ⟨m, hm⟩ := k0; exact DataW.trod_lt m _ _ _ hm
  obtain ⟨u0, y0, n0, rfl, t0⟩ := open_agg1 Try.underlying49 (by kernel_rfl) (by kernel_rfl) (hval 0 49 v0 rfl rfl) h0
  obtain ⟨a0, xs, cap0, rfl, hx, hc, hm⟩ := open_intsV t0
  clear hA0 hval0
  refine (walk a0 cap0 xs W hx hc hm).mono fun e W' ⟨he, bel⟩ => ?_
  subst he
  exact ⟨_, rfl, _, _, _, [], _, [], hW', trodAll_mk1 (shut_bool Try.underlying4 _), (trodAll_cons_mk (Below.trod laidOutI (by kernel_rfl) (of_decide_eq_true (by kernel_rfl)) k0 bel lt0) trodAll_mk0), rfl, bel.frame _, fun h => by cases h⟩

theorem over : Rows.fnExactMemOkRow.holds Try.pinned (OpenSpec.ofChange Rows.fnExactMemOkSpec) :=
  OpenClaim.holds_of_wide 9 Try.f9 rfl rfl rfl rfl rfl rfl rfl ⟨rfl, rfl, rfl, rfl, rfl⟩ rfl rfl rfl rfl rfl (by kernel_rfl) Try.func9 (by kernel_rfl)
    (of_decide_eq_true (by kernel_rfl)) (by unfold Func.isWrapper; first | (rw [if_pos (by decide +kernel)]; kernel_rfl) | (rw [if_neg (by decide +kernel)]; exact ⟨rfl, rfl⟩))
    (fun os started H enc _ => lifted os started H enc)

theorem proved : Rows.FnExactMemOkSaid := over
end Go.Proofs.Ytdjmjdljgdagcaa.fnExactMemOk
