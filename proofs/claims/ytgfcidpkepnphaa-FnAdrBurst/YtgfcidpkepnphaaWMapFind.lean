/-
  The law FnMapFind, walked.
-/
import Derived.Test.YtgfcidpkepnphaaProg
import Derived.Test.YtgfcidpkepnphaaDraw3
import Derived.Test.YtgfcidpkepnphaaMapC
namespace Go.Proofs.Ytgfcidpkepnphaa
open Go.RowKit
set_option linter.unusedSimpArgs false
set_option linter.unusedVariables false

theorem crOk_any (w : World) : Calls Try.prog 16 #[] w fun e w' => e = .returned (.bool true) ∧ w' = w := by
  go_enter Try.func16, Try.ntmps16
  go_wp2_with fail
  refine (impl_AdrOk 5 1 false w).mono ?_
  rintro e w' ⟨rfl, rfl⟩
  go_wp2
  go_ret
  exact ⟨rfl, rfl⟩

set_option maxRecDepth 100000 in
set_option maxHeartbeats 1000000 in
theorem walk_FnMapFind (a : Option Addr) (len cap : Nat) (w : World) (hc : len ≤ cap) (hm : cap ≤ 9223372036854775807) (h : Bytes w w.heap.size a len) :
    Calls Try.prog 4 #[.slice a len cap] w fun e w' => e = .returned (.bool true) ∧ Below w.heap.size w w' := by
  by_cases hl : 1048576 < len
  · have hI : (1048576 : Int) < (len : Int) := by omega
    clear h
    go_enter Try.func4, Try.ntmps4
    go_wp2
    go_ret
    exact ⟨rfl, Below.refl _ _⟩
  · have hI : ¬ (1048576 : Int) < (len : Int) := by omega
    have HB := Hid.intro h
    clear h
    go_enter Try.func4, Try.ntmps4
    go_wp2_with fail
    refine (drawMapFind_any a len cap w hc hm HB.out).mono ?_
    rintro e w1 ⟨v, n, rfl, ⟨b, cp, xs, rfl, x1, x7, xc, xm, hR, hBn, hbM⟩, hn0, hn1, hb1⟩
    go_wp2_with fail
    refine (impl_MapFind _ cp xs n w1 hR xc xm).mono ?_
    rintro e w2 ⟨rfl, hb2⟩
    have hR2 := hR.below hb2
    have hb2' := hb1.trans (hb2.mono hb1.size)
    go_wp2_with fail
    refine (spec_MapFind _ cp xs n w2 hR2 xc xm).mono ?_
    rintro e w3 ⟨rfl, hb3⟩
    have hR3 := hR2.below hb3
    have hb3' := hb2'.trans (hb3.mono hb2'.size)
    go_wp2_with fail
    refine (spec_MapOk _ cp xs w3 hR3 xc xm).mono ?_
    rintro e w4 ⟨rfl, hb4⟩
    have hR4 := hR3.below hb4
    have hb4' := hb3'.trans (hb4.mono hb3'.size)
    clear hb1 hb2 hb3 hb4 hR hR2 hR3 hb2' hb3' HB
    cases hok : mapOkB xs
    · go_wp2_with (go_at_call 16; refine (crOk_any _).mono ?_; rintro e w' ⟨rfl, rfl⟩)
      go_ret
      exact ⟨rfl, hb4'⟩
    · go_wp2_with fail
      rcases hR4 with hx | ⟨b', off, hbe, hb, hcells⟩
      · subst hx; simp at x1
      · cases hbe
        have HC := Hid.intro hcells
        clear hcells
        go_loopw [6] (fun i wr => ∃ k : Nat, k ≤ xs.length ∧ i = .int .i64 k ∧ wr = w4 ∧ Hid (mapFindZ (xs.drop k) n = mapFindZ xs n)) (fun i _ => xs.length - (intOf i).toNat)
        case atStart => exact ⟨0, Nat.zero_le _, rfl, rfl, rfl⟩
        case round =>
          obtain ⟨k, hk, rfl, rfl, HF⟩ := hrel
          by_cases hlt : k < xs.length
          · obtain ⟨g0, g1, g2, g3⟩ := HC.out k hlt
            simp only [Nat.zero_add] at g0 g1 g2 g3
            have hk0 : (0 : Int) ≤ (k : Int) := by omega
            have hk1 : (k : Int) < (xs.length : Int) := by omega
            have HS := Hid.intro (find_step (n := n) hlt)
            by_cases m1 : xs[k].fr ≤ n
            · by_cases m2 : n ≤ xs[k].tt
              · have hin : inRngB xs[k] n = true := by simp [inRngB]; omega
                have hq : (mapFindZ xs n == xs[k].sl) = true := by rw [← HF.out, HS.out, hin]; simp
                go_wp2
                go_ret
                exact ⟨rfl, hb4'⟩
              · have hin : inRngB xs[k] n = false := by simp [inRngB]; omega
                have n2 : decide (n ≤ xs[k].tt) = false := by simpa using m2
                go_wp2
                go_roundw
                case rel => exact ⟨k + 1, by omega, by go_num, by simp, by have := HF.out; rw [HS.out, hin] at this; exact this⟩
                case measure => simp [intOf]; omega
            · have hin : inRngB xs[k] n = false := by simp [inRngB]; omega
              have n1 : decide (xs[k].fr ≤ n) = false := by simpa using m1
              go_wp2
              go_roundw
              case rel => exact ⟨k + 1, by omega, by go_num, by simp, by have := HF.out; rw [HS.out, hin] at this; exact this⟩
              case measure => simp [intOf]; omega
          · have HE := Hid.intro (find_end (n := n) (l := xs) (k := k) (by omega))
            have hq : (mapFindZ xs n == 3) = true := by rw [← HF.out, HE.out]; simp
            go_wp2_with (go_at_call 16; refine (crOk_any _).mono ?_; rintro e w' ⟨rfl, rfl⟩)
            go_ret
            exact ⟨rfl, hb4'⟩

end Go.Proofs.Ytgfcidpkepnphaa
