/-
  Proved: at every row of ranges and every int MapFind of the program answers as MapFind of the model; it writes into no argument. No condition.
-/
import Derived.Test.YtgfcidpkepnphaaRows
import Derived.Test.YtgfcidpkepnphaaOpenR
import Derived.Test.YtgfcidpkepnphaaRows4
import Derived.Test.YtgfcidpkepnphaaMapC
namespace Go.Proofs.Ytgfcidpkepnphaa.fnExactMapFind
open Go.ChangeShapes Go.WideShapes Go.ChangeAt Go.RowKit
set_option linter.unusedVariables false
set_option linter.unusedSimpArgs false

set_option maxHeartbeats 1000000 in
theorem walk (a0 : Option Addr) (cap0 : Nat) (xs : List Rng) (a1 : Int) (w : World) (hx : RowOf w a0 xs) (hc : xs.length ≤ cap0) (hm : cap0 ≤ 9223372036854775807) :
    Calls Try.prog 10 #[.slice a0 xs.length cap0, .int .i64 a1] w fun e w' => e = .returned (.bool true) ∧ Below w.heap.size w w' := by
  by_cases hl : xs.length ≤ 1048576
  · have hI : ¬ (1048576 - (xs.length : Int) < 0) := by omega
    go_enter Try.func10, Try.ntmps10
    go_wp2_with fail
    refine (sz_any a0 xs.length cap0 w (by omega)).mono ?_
    rintro e w0 ⟨rfl, rfl⟩
    rw [if_pos hl]
    go_wp2_with fail
    refine (toRows_any a0 cap0 xs _ hx hc hm hl).mono ?_
    rintro e w1 ⟨rfl, hR1, hb1, hz1⟩
    go_wp2_with fail
    refine (spec_MapFind _ _ xs a1 _ hR1 (Nat.le_refl _) (by omega)).mono ?_
    rintro e w2 ⟨rfl, hb2⟩
    have hb2' := hb1.trans (hb2.mono hb1.size)
    have hx2 := hx.below hb2'
    go_wp2_with fail
    refine (toRows_any a0 cap0 xs _ hx2 hc hm hl).mono ?_
    rintro e w3 ⟨rfl, hR3, hb3, hz3⟩
    have hb3' := hb2'.trans (hb3.mono hb2'.size)
    go_wp2_with fail
    refine (impl_MapFind _ _ xs a1 _ hR3 (Nat.le_refl _) (by omega)).mono ?_
    rintro e w4 ⟨rfl, hb4⟩
    have hb4' := hb3'.trans (hb4.mono hb3'.size)
    have hx4 := hx.below hb4'
    have hR4 := hR3.below hb4
    go_wp2_with fail
    refine (toRows_any a0 cap0 xs _ hx4 hc hm hl).mono ?_
    rintro e w5 ⟨rfl, hR5, hb5, hz5⟩
    have hb5' := hb4'.trans (hb5.mono hb4'.size)
    have hR4' := hR4.below hb5
    go_wp2_with fail
    refine (eqRows_any _ _ _ _ xs _ hR4' hR5 (Nat.le_refl _) (by omega) (Nat.le_refl _) (by omega)).mono ?_
    rintro e w6 ⟨rfl, hb6⟩
    have hb6' := hb5'.trans (hb6.mono hb5'.size)
    go_wp2
    go_ret
    exact ⟨rfl, hb6'⟩
  · go_enter Try.func10, Try.ntmps10
    go_wp2_with fail
    refine (sz_any a0 xs.length cap0 w (by omega)).mono ?_
    rintro e w0 ⟨rfl, rfl⟩
    rw [if_neg hl]
    go_wp2
    go_ret
    exact ⟨rfl, Below.refl _ _⟩

set_option maxRecDepth 100000 in
theorem lifted (os : Os) (started : os.Started) (H : Type) (enc : TypeId × Value → H) :
    ReturnsInHanded {} Try.checked os 10 .any (Rows.fnExactMapFindSpec.pre6 enc Try.prog Try.f10 Rows.fnExactMapFindRow.domain false) (Rows.fnExactMapFindSpec.post enc Try.prog Try.f10 false true false false) := by
  refine returnsInHanded_of_change (C := Try.checked) own started (by kernel_rfl) Try.func10
    (ChangeSpec.witness6 (enc := enc) (C := Try.checked) false ⟨#[], #[.slice none 0 0, .int .i64 0], []⟩ 8 (by kernel_rfl) (by kernel_rfl) (by kernel_rfl) (by kernel_rfl)) ?_
  intro W base args ds gs before hval0 hW hcnd _
  have hval : ∀ (j : Nat) t v, Try.f10.params[j]? = some t → args[j]? = some v → Value.okWide Try.prog W .any base t v := hval0
  have hW' := hW
  obtain ⟨p, q, hA0, hV, rfl, hfz, hnd⟩ := hW
  have hA : DataW.TrodAll enc Try.prog W 0 (fun _ => true) true Try.f10.params.toList args.toList ds p := hA0
  rw [Try.params10] at hA hval
  obtain ⟨v0, vs0, d0, ds0, p0, q0, hargs, rfl, rfl, h0, r0⟩ := trodAll_cons hA
  obtain ⟨v1, vs1, d1, ds1, p1, q1, rfl, rfl, rfl, h1, r1⟩ := trodAll_cons r0
  obtain ⟨rfl, rfl, rfl⟩ := trodAll_nil r1
  obtain rfl : args = #[v0, v1] := by cases args; simp_all
  obtain ⟨rfl, rfl⟩ := trodVars_none hV
  obtain ⟨a0, len0, cap0, rfl⟩ := okWide_slice Try.underlying40 (hval 0 40 v0 rfl rfl)
  have k0 := h0
  have lt0 : ∀ x ∈ p0, x.block < W.heap.size := by obtain ⟨m, hm⟩ := k0; exact DataW.trod_lt m _ _ _ hm
  obtain ⟨xs, rfl, hx, hc, hm⟩ := open_rngs h0
  obtain ⟨a1, rfl, rfl, rfl, w1⟩ := open_int Try.underlying3 (hval 1 3 v1 rfl rfl) h1
  clear hA0 hval0
  refine (walk a0 cap0 xs a1 W hx hc hm).mono fun e W' ⟨he, bel⟩ => ?_
  subst he
  exact ⟨_, rfl, _, _, _, [], _, [], hW', trodAll_mk1 (shut_bool Try.underlying4 _), (trodAll_cons_mk (Below.trod laidOut (by kernel_rfl) (of_decide_eq_true (by kernel_rfl)) k0 bel lt0) (trodAll_cons_mk (shut_int Try.underlying3 w1) trodAll_mk0)), rfl, bel.frame _, fun h => by cases h⟩

theorem over : Rows.fnExactMapFindRow.holds Try.pinned (OpenSpec.ofChange Rows.fnExactMapFindSpec) :=
  OpenClaim.holds_of_wide 10 Try.f10 rfl rfl rfl rfl rfl rfl rfl ⟨rfl, rfl, rfl, rfl, rfl⟩ rfl rfl rfl rfl rfl (by kernel_rfl) Try.func10 (by kernel_rfl)
    (of_decide_eq_true (by kernel_rfl)) (by unfold Func.isWrapper; first | (rw [if_pos (by decide +kernel)]; kernel_rfl) | (rw [if_neg (by decide +kernel)]; exact ⟨rfl, rfl⟩))
    (fun os started H enc _ => lifted os started H enc)

theorem proved : Rows.FnExactMapFindSaid := over
end Go.Proofs.Ytgfcidpkepnphaa.fnExactMapFind
