/-
  Proved: at every two ints and bool AdrBurst of the program answers as AdrBurst of the model; its answer owns its memory, behind another call too. No condition.
-/
import Derived.Test.YtgfcidpkepnphaaRows
import Derived.Test.YtgfcidpkepnphaaBurst
import Derived.Test.YtgfcidpkepnphaaIntsM
import Derived.WalkKit
import Derived.ProofKit
import Derived.OpenShut
namespace Go.Proofs.Ytgfcidpkepnphaa.fnExactAdrBurst
open Go.ChangeShapes Go.WideShapes Go.ChangeAt Go.RowKit
set_option linter.unusedVariables false
set_option linter.unusedSimpArgs false

theorem own : ownKnob Try.prog.godebug = none := by kernel_rfl

theorem burst_le (a m : Int) (wrap : Bool) : (burst a m wrap).length ≤ 4 := by
  cases hok : adrOkB a m wrap
  · rw [burst_no hok]; simp
  · rw [burst_ok hok]
    obtain ⟨h1, h2, h3, h4⟩ := (adrOk_iff a m wrap).1 hok
    simp
    omega

set_option maxRecDepth 100000 in
set_option maxHeartbeats 1000000 in
theorem walk (a0 : Int) (a1 : Int) (a2 : Bool) (w0 : (Lit.int .i64 a0).wf = true) (w1 : (Lit.int .i64 a1).wf = true) (w : World) :
    Calls Try.prog 12 #[.int .i64 a0, .int .i64 a1, .bool a2] w fun e w' => e = .returned (.bool true) ∧ Below w.heap.size w w' := by
  have hle := burst_le a0 a1 a2
  go_enter Try.func12, Try.ntmps12
  go_wp2_with fail
  refine (spec_AdrBurst a0 a1 a2 w).mono ?_
  rintro e w1 ⟨g, c, rfl, hi1, hg1, hc1, hm1, hb1⟩
  have hI := fun W => impl_AdrBurst a0 a1 a2 W
  generalize burst a0 a1 a2 = xs at hI hi1 hc1 hle ⊢
  go_wp2_with fail
  refine (hI w1).mono ?_
  rintro e w2 ⟨p, cp, rfl, hi2, hp2, hc2, hm2, hb2, ho2⟩
  have hgl : xs = [] ∨ g < w1.heap.size := by
    rcases hi1 with h | ⟨b, off, hb, hlt, _⟩
    · exact .inl h
    · cases hb; exact .inr hlt
  have hi1' := hi1.below hb2
  have hs1 := hb1.size
  have hs2 := hb2.size
  have hb2' := hb1.trans (hb2.mono hb1.size)
  have HO := Hid.intro ho2
  have HI := Hid.intro hI
  clear ho2 hI
  go_wp2_with fail
  refine (eqIntS_same p (some ⟨g, 0, none⟩) cp c xs w2 hi2 hi1' hc2 hm2 hc1 hm1).mono ?_
  rintro e w3 ⟨rfl, hb3⟩
  have hi13 := hi1'.below hb3
  have hs3 := hb3.size
  have hb3' := hb2'.trans (hb3.mono hb2'.size)
  have hO3 : OwnI w3 p cp xs := by
    rcases HO.out with h | ⟨q, rfl, hq, hr⟩
    · exact .inl h
    · exact .inr ⟨q, rfl, hr.of (hb3.block q hr.lt)⟩
  have hpg : ∀ k, p = some ⟨k, 0, none⟩ → w1.heap.size ≤ k := fun k hk => hp2 k 0 hk
  have HP := Hid.intro hpg
  clear hp2 hpg hb3 hb2 hb1 hb2' HO hi2 hi1 hi1'
  go_wp2_with fail
  refine (mark_any p cp xs w3 hO3 hle hc2 hm2).mono ?_
  rintro e w4 ⟨rfl, hm4, hk4⟩
  have hs4 := hk4.size
  have hb4 : Below w.heap.size w w4 := hb3'.trans ⟨hk4.os, hk4.tape, hk4.output, hk4.size, fun k hk => hk4.block k (by omega) (fun e => by have := HP.out k e; omega)⟩
  have hi14 : IntsAt w4 (some ⟨g, 0, none⟩) xs := by
    rcases hgl with h | h
    · exact .inl h
    · refine hi13.of hk4.size (fun b off hb hlt => hk4.block b hlt (fun e => ?_))
      cases hb
      have := HP.out _ e
      omega
  have hh4 : xs.length = 0 ∨ IntsAt w4 p (markL 1 xs.length) := by
    rcases hm4 with h | ⟨q, _, h⟩
    · left; simp [h]
    · exact .inr h
  have hlI : (xs.length : Int) ≤ 4 := by omega
  clear hm4 hk4 hO3 hi13 hb3'
  go_wp2_with fail
  refine (held_any p cp xs.length w4 hh4 hle hc2 hm2).mono ?_
  rintro e w5 ⟨rfl, hw⟩
  replace hw := hw.symm
  subst hw
  go_wp2_with fail
  refine (HI.out w4).mono ?_
  rintro e w6 ⟨p', cp', rfl, hi6, hp6, hc6, hm6, hb6, _⟩
  have hb6' := hb4.trans (hb6.mono hb4.size)
  have hi16 := hi14.below hb6
  have hh6 : xs.length = 0 ∨ IntsAt w6 p (markL 1 xs.length) := hh4.imp id (fun h => h.below hb6)
  clear hh4 hi14 hb6 HI
  go_wp2_with fail
  refine (eqIntS_same p' (some ⟨g, 0, none⟩) cp' c xs w6 hi6 hi16 hc6 hm6 hc1 hm1).mono ?_
  rintro e w7 ⟨rfl, hb7⟩
  have hb7' := hb6'.trans (hb7.mono hb6'.size)
  have hh7 : xs.length = 0 ∨ IntsAt w7 p (markL 1 xs.length) := hh6.imp id (fun h => h.below hb7)
  clear hh6 hb7 hi6 hi16 hb6'
  go_wp2_with fail
  refine (held_any p cp xs.length w7 hh7 hle hc2 hm2).mono ?_
  rintro e w8 ⟨rfl, hw⟩
  replace hw := hw.symm
  subst hw
  go_wp2
  go_ret
  exact ⟨rfl, hb7'⟩

set_option maxRecDepth 100000 in
theorem lifted (os : Os) (started : os.Started) (H : Type) (enc : TypeId × Value → H) :
    ReturnsInHanded {} Try.checked os 12 .any (Rows.fnExactAdrBurstSpec.pre6 enc Try.prog Try.f12 Rows.fnExactAdrBurstRow.domain false) (Rows.fnExactAdrBurstSpec.post enc Try.prog Try.f12 false true false false) := by
  refine returnsInHanded_of_change (C := Try.checked) own started (by kernel_rfl) Try.func12
    (ChangeSpec.witness6 (enc := enc) (C := Try.checked) false ⟨#[], #[.int .i64 0, .int .i64 0, .bool false], []⟩ 8 (by kernel_rfl) (by kernel_rfl) (by kernel_rfl) (by kernel_rfl)) ?_
  intro W base args ds gs before hval0 hW hcnd _
  have hval : ∀ (j : Nat) t v, Try.f12.params[j]? = some t → args[j]? = some v → Value.okWide Try.prog W .any base t v := hval0
  have hW' := hW
  obtain ⟨p, q, hA0, hV, rfl, hfz, hnd⟩ := hW
  have hA : DataW.TrodAll enc Try.prog W 0 (fun _ => true) true Try.f12.params.toList args.toList ds p := hA0
  rw [Try.params12] at hA hval
  obtain ⟨v0, vs0, d0, ds0, p0, q0, hargs, rfl, rfl, h0, r0⟩ := trodAll_cons hA
  obtain ⟨v1, vs1, d1, ds1, p1, q1, rfl, rfl, rfl, h1, r1⟩ := trodAll_cons r0
  obtain ⟨v2, vs2, d2, ds2, p2, q2, rfl, rfl, rfl, h2, r2⟩ := trodAll_cons r1
  obtain ⟨rfl, rfl, rfl⟩ := trodAll_nil r2
  obtain rfl : args = #[v0, v1, v2] := by cases args; simp_all
  obtain ⟨rfl, rfl⟩ := trodVars_none hV
  obtain ⟨a0, rfl, rfl, rfl, w0⟩ := open_int Try.underlying3 (hval 0 3 v0 rfl rfl) h0
  obtain ⟨a1, rfl, rfl, rfl, w1⟩ := open_int Try.underlying3 (hval 1 3 v1 rfl rfl) h1
  obtain ⟨a2, rfl, rfl, rfl⟩ := open_bool Try.underlying4 (hval 2 4 v2 rfl rfl) h2
  clear hA0 hval0
  simp only [List.append_nil] at hW'
  refine (walk a0 a1 a2 w0 w1 W).mono fun e W' ⟨he, bel⟩ => ?_
  subst he
  exact ⟨_, rfl, _, _, _, [], _, [], hW', trodAll_mk1 (shut_bool Try.underlying4 _), (trodAll_cons_mk (shut_int Try.underlying3 w0) (trodAll_cons_mk (shut_int Try.underlying3 w1) (trodAll_cons_mk (shut_bool Try.underlying4 _) trodAll_mk0))), rfl, bel.frame _, fun h => by cases h⟩

theorem over : Rows.fnExactAdrBurstRow.holds Try.pinned (OpenSpec.ofChange Rows.fnExactAdrBurstSpec) :=
  OpenClaim.holds_of_wide 12 Try.f12 rfl rfl rfl rfl rfl rfl rfl ⟨rfl, rfl, rfl, rfl, rfl⟩ rfl rfl rfl rfl rfl (by kernel_rfl) Try.func12 (by kernel_rfl)
    (of_decide_eq_true (by kernel_rfl)) (by unfold Func.isWrapper; first | (rw [if_pos (by decide +kernel)]; kernel_rfl) | (rw [if_neg (by decide +kernel)]; exact ⟨rfl, rfl⟩))
    (fun os started H enc _ => lifted os started H enc)

theorem proved : Rows.FnExactAdrBurstSaid := over
end Go.Proofs.Ytgfcidpkepnphaa.fnExactAdrBurst
