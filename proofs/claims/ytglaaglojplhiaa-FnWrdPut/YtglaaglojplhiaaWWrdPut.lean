/-
  The law FnWrdPut, walked.
-/
import Derived.Test.YtglaaglojplhiaaProg
import Derived.Test.YtglaaglojplhiaaDrawWrd
import Derived.Test.YtglaaglojplhiaaWrd
import Derived.Test.YtglaaglojplhiaaCrOk
namespace Go.Proofs.Ytglaaglojplhiaa
open Go.RowKit
set_option linter.unusedSimpArgs false
set_option linter.unusedVariables false

theorem wrdPut_no {o n l : Int} (h : ¬ (wrdB o = true ∧ wrdB n = true ∧ lanB l = true)) : wrdPutZ o n l = -1 := by
  unfold wrdPutZ
  rw [if_neg]
  simpa [Bool.and_eq_true, and_assoc] using h
/-- what the law asks of a word that was put -/
theorem put_law {o n l x : Int} (h1 : 0 ≤ o) (h1' : o ≤ 65535) (h2 : 0 ≤ n) (h2' : n ≤ 65535) (hl : l = 0 ∨ l = 1 ∨ l = 2 ∨ l = 3) (hx : wrdPutZ o n l = x) :
    0 ≤ x ∧ x ≤ 65535 ∧ x % 256 = (if l = 1 ∨ l = 3 then n % 256 else o % 256) ∧ x / 256 = (if l = 2 ∨ l = 3 then n / 256 else o / 256) ∧ wrdPutZ x n l = x ∧ wrdPutZ x o l = wrdPutZ o o l := by
  have b1 : wrdB o = true := (wrdB_iff _).2 ⟨h1, h1'⟩
  have b2 : wrdB n = true := (wrdB_iff _).2 ⟨h2, h2'⟩
  have b3 : lanB l = true := (lanB_iff _).2 (by omega)
  rw [wrdPut_ok b1 b2 b3] at hx
  have hb := putW_bd (l := l) b1 b2
  rw [hx] at hb
  have bx : wrdB x = true := (wrdB_iff _).2 hb
  rw [wrdPut_ok bx b2 b3, wrdPut_ok bx b1 b3, wrdPut_ok b1 b1 b3]
  subst hx
  refine ⟨hb.1, hb.2, ?_⟩
  unfold putW
  rcases hl with rfl | rfl | rfl | rfl <;> simp <;> omega

set_option maxRecDepth 100000 in
set_option maxHeartbeats 2000000 in
theorem walk_FnWrdPut (a : Option Addr) (len cap : Nat) (w : World) (hc : len ≤ cap) (hm : cap ≤ 9223372036854775807) (h : Bytes w w.heap.size a len) :
    Calls Try.prog 3 #[.slice a len cap] w fun e w' => e = .returned (.bool true) ∧ Below w.heap.size w w' := by
  by_cases hl : 1048576 < len
  · have hI : (1048576 : Int) < (len : Int) := by omega
    clear h
    go_enter Try.func3, Try.ntmps3
    go_wp2
    go_ret
    exact ⟨rfl, Below.refl _ _⟩
  have hI : ¬ (1048576 : Int) < (len : Int) := by omega
  have HB := Hid.intro h
  clear h
  go_enter Try.func3, Try.ntmps3
  go_wp2_with fail
  refine (drawWrdPut_any a len cap w hc hm HB.out).mono ?_
  rintro e w1 ⟨o, n, l, rfl, ho0, ho1, hn0, hn1, hl0, hl1, hb1⟩
  have hI1 := fun x y z W => impl_WrdPut x y z W
  go_wp2_with fail
  refine (impl_WrdPut o n l w1).mono ?_
  rintro e w2 ⟨rfl, hw⟩
  replace hw := hw.symm
  subst hw
  go_wp2_with fail
  refine (spec_WrdPut o n l w1).mono ?_
  rintro e w2 ⟨rfl, hw⟩
  replace hw := hw.symm
  subst hw
  by_cases hok : (0 ≤ o ∧ o ≤ 65535) ∧ (0 ≤ l ∧ l ≤ 3)
  · obtain ⟨⟨g1, g1'⟩, g3⟩ := hok
    have hl4 : l = 0 ∨ l = 1 ∨ l = 2 ∨ l = 3 := by omega
    obtain ⟨x, hx⟩ : ∃ x, wrdPutZ o n l = x := ⟨_, rfl⟩
    obtain ⟨q0, q1, q2, q3, q4, q5⟩ := put_law g1 g1' hn0 hn1 hl4 hx
    rw [hx]
    have Q4 := Hid.intro q4
    have Q5 := Hid.intro q5
    clear hx q4 q5 HB g3 hl0 hl1 ho0 ho1
    rcases hl4 with rfl | rfl | rfl | rfl
    all_goals
      simp at q2 q3
      have e2 := beq_iff_eq.2 q2
      have e3 := beq_iff_eq.2 q3
      go_wp2_with (go_at_call 9; refine (hI1 _ _ _ _).mono ?_; rintro e w' ⟨rfl, rfl⟩; first | rw [Q4.out] | rw [Q5.out] | skip)
      go_ret
      exact ⟨rfl, hb1⟩
  · have hx : wrdPutZ o n l = -1 := wrdPut_no (by rw [wrdB_iff, wrdB_iff, lanB_iff]; omega)
    rw [hx]
    clear hx HB
    have four : o < 0 ∨ (¬ o < 0 ∧ 65535 < o) ∨ (¬ o < 0 ∧ ¬ 65535 < o ∧ l < 0) ∨ (¬ o < 0 ∧ ¬ 65535 < o ∧ ¬ l < 0 ∧ 3 < l) := by omega
    have d1 : decide (n < 0) = false := by simp; omega
    have d2 : decide (65535 < n) = false := by simp; omega
    clear hok
    rcases four with t1 | ⟨t1, t2⟩ | ⟨t1, t2, t3⟩ | ⟨t1, t2, t3, t4⟩
    · have f1 : decide (o < 0) = true := by simpa using t1
      go_wp2_with (go_at_call 11; refine (crOk_any _).mono ?_; rintro e w' ⟨rfl, rfl⟩)
      go_ret
      exact ⟨rfl, hb1⟩
    · have f1 : decide (o < 0) = false := by simpa using t1
      have f2 : decide (65535 < o) = true := by simpa using t2
      go_wp2_with (go_at_call 11; refine (crOk_any _).mono ?_; rintro e w' ⟨rfl, rfl⟩)
      go_ret
      exact ⟨rfl, hb1⟩
    · have f1 : decide (o < 0) = false := by simpa using t1
      have f2 : decide (65535 < o) = false := by simpa using t2
      have f3 : decide (l < 0) = true := by simpa using t3
      go_wp2_with (go_at_call 11; refine (crOk_any _).mono ?_; rintro e w' ⟨rfl, rfl⟩)
      go_ret
      exact ⟨rfl, hb1⟩
    · have f1 : decide (o < 0) = false := by simpa using t1
      have f2 : decide (65535 < o) = false := by simpa using t2
      have f3 : decide (l < 0) = false := by simpa using t3
      have f4 : decide (3 < l) = true := by simpa using t4
      go_wp2_with (go_at_call 11; refine (crOk_any _).mono ?_; rintro e w' ⟨rfl, rfl⟩)
      go_ret
      exact ⟨rfl, hb1⟩

end Go.Proofs.Ytglaaglojplhiaa
