/-
  AdrOk of the program and of the model: both answer 'adrOkB', at every two ints and bool; no memory is touched.
-/
import Derived.Test.YtlifkfemdknndaaProg
import Derived.Test.YtlifkfemdknndaaPure
import Derived.WalkKit
import Derived.WalkSpells
namespace Go.Proofs.Ytlifkfemdknndaa
open Go.RowKit
set_option linter.unusedSimpArgs false
set_option linter.unusedVariables false

theorem i64_bd {a : Int} (h : (Lit.int .i64 a).wf = true) : -9223372036854775808 ≤ a ∧ a ≤ 9223372036854775807 := by
  simpa [Lit.wf, IntKind.min, IntKind.max, IntKind.signed, IntKind.bits] using h

theorem adr_ok_any (a : Int) (w : World) :
    Calls Try.prog 69 #[.int .i64 a] w fun e w' => e = .returned (.bool (inB a 0 63)) ∧ w' = w := by
  by_cases h1 : 0 ≤ a
  · by_cases h2 : a ≤ 63
    · go_enter Try.func69, Try.ntmps69
      go_wp2
      go_ret
      exact ⟨by simp [inB]; omega, rfl⟩
    · have hd : decide (a ≤ 63) = false := by simpa using h2
      go_enter Try.func69, Try.ntmps69
      go_wp2
      go_ret
      exact ⟨by simp [inB]; omega, rfl⟩
  · have hd : decide (0 ≤ a) = false := by simpa using h1
    go_enter Try.func69, Try.ntmps69
    go_wp2
    go_ret
    exact ⟨by simp [inB]; omega, rfl⟩

theorem many_ok_any (m : Int) (w : World) :
    Calls Try.prog 70 #[.int .i64 m] w fun e w' => e = .returned (.bool (manyOkB m)) ∧ w' = w := by
  by_cases h1 : m = 1
  · subst h1
    go_enter Try.func70, Try.ntmps70
    go_wp2
    go_ret
    exact ⟨by simp [manyOkB], rfl⟩
  · have e1 : (m == 1) = false := by simpa using h1
    by_cases h2 : m = 2
    · subst h2
      go_enter Try.func70, Try.ntmps70
      go_wp2
      go_ret
      exact ⟨by simp [manyOkB], rfl⟩
    · have e2 : (m == 2) = false := by simpa using h2
      by_cases h4 : m = 4
      · subst h4
        go_enter Try.func70, Try.ntmps70
        go_wp2
        go_ret
        exact ⟨by simp [manyOkB], rfl⟩
      · have e4 : (m == 4) = false := by simpa using h4
        go_enter Try.func70, Try.ntmps70
        go_wp2
        go_ret
        exact ⟨by simp [manyOkB, h1, h2, h4], rfl⟩

theorem in_any (n lo hi : Int) (w : World) :
    Calls Try.prog 42 #[.int .i64 n, .int .i64 lo, .int .i64 hi] w fun e w' => e = .returned (.bool (inB n lo hi)) ∧ w' = w := by
  by_cases h1 : lo ≤ n
  · by_cases h2 : n ≤ hi
    · go_enter Try.func42, Try.ntmps42
      go_wp2
      go_ret
      exact ⟨by simp [inB]; omega, rfl⟩
    · have hd : decide (n ≤ hi) = false := by simpa using h2
      go_enter Try.func42, Try.ntmps42
      go_wp2
      go_ret
      exact ⟨by simp [inB]; omega, rfl⟩
  · have hd : decide (lo ≤ n) = false := by simpa using h1
    go_enter Try.func42, Try.ntmps42
    go_wp2
    go_ret
    exact ⟨by simp [inB]; omega, rfl⟩

theorem last_any (a m : Int) (h1 : 0 ≤ a) (h2 : a ≤ 63) (h3 : 1 ≤ m) (h4 : m ≤ 4) (w : World) :
    Calls Try.prog 71 #[.int .i64 a, .int .i64 m] w fun e w' => e = .returned (.int .i64 (a + m - 1)) ∧ w' = w := by
  go_enter Try.func71, Try.ntmps71
  go_wp2
  go_ret
  exact ⟨rfl, rfl⟩

theorem impl_AdrOk (a m : Int) (b : Bool) (w : World) :
    Calls Try.prog 36 #[.int .i64 a, .int .i64 m, .bool b] w fun e w' => e = .returned (.bool (adrOkB a m b)) ∧ w' = w := by
  by_cases h1 : 0 ≤ a ∧ a ≤ 63
  · have hd : inB a 0 63 = true := inB_t h1
    obtain ⟨h1a, h1b⟩ := h1
    by_cases h2 : m = 1 ∨ m = 2 ∨ m = 4
    · have hm : manyOkB m = true := by simp [manyOkB, h2]
      have hm1 : 1 ≤ m := by omega
      have hm4 : m ≤ 4 := by omega
      cases b with
      | true =>
        go_enter Try.func36, Try.ntmps36
        go_wp2_with (first | (go_at_call 69; refine (adr_ok_any _ _).mono ?_; rintro e w' ⟨rfl, rfl⟩) | (go_at_call 70; refine (many_ok_any _ _).mono ?_; rintro e w' ⟨rfl, rfl⟩) | (go_at_call 71; refine (last_any _ _ ?_ ?_ ?_ ?_ _).mono ?_; omega; omega; omega; omega; rintro e w' ⟨rfl, rfl⟩))
        go_ret
        exact ⟨by simp [adrOkB, h1a, h1b, h2], rfl⟩
      | false =>
        by_cases h3 : a + m - 1 ≤ 63
        · have hd3 : inB (a + m - 1) 0 63 = true := inB_t (by omega)
          go_enter Try.func36, Try.ntmps36
          go_wp2_with (first | (go_at_call 69; refine (adr_ok_any _ _).mono ?_; rintro e w' ⟨rfl, rfl⟩) | (go_at_call 70; refine (many_ok_any _ _).mono ?_; rintro e w' ⟨rfl, rfl⟩) | (go_at_call 71; refine (last_any _ _ ?_ ?_ ?_ ?_ _).mono ?_; omega; omega; omega; omega; rintro e w' ⟨rfl, rfl⟩))
          go_ret
          exact ⟨by simp [adrOkB, h1a, h1b, h2, h3], rfl⟩
        · have hd3 : inB (a + m - 1) 0 63 = false := inB_f (by omega)
          go_enter Try.func36, Try.ntmps36
          go_wp2_with (first | (go_at_call 69; refine (adr_ok_any _ _).mono ?_; rintro e w' ⟨rfl, rfl⟩) | (go_at_call 70; refine (many_ok_any _ _).mono ?_; rintro e w' ⟨rfl, rfl⟩) | (go_at_call 71; refine (last_any _ _ ?_ ?_ ?_ ?_ _).mono ?_; omega; omega; omega; omega; rintro e w' ⟨rfl, rfl⟩))
          go_ret
          exact ⟨by simp [adrOkB, h1a, h1b, h2, h3], rfl⟩
    · have hm : manyOkB m = false := by simp [manyOkB]; omega
      go_enter Try.func36, Try.ntmps36
      go_wp2_with (first | (go_at_call 69; refine (adr_ok_any _ _).mono ?_; rintro e w' ⟨rfl, rfl⟩) | (go_at_call 70; refine (many_ok_any _ _).mono ?_; rintro e w' ⟨rfl, rfl⟩) | (go_at_call 71; refine (last_any _ _ ?_ ?_ ?_ ?_ _).mono ?_; omega; omega; omega; omega; rintro e w' ⟨rfl, rfl⟩))
      go_ret
      exact ⟨by simp [adrOkB, h2], rfl⟩
  · have hd : inB a 0 63 = false := inB_f h1
    go_enter Try.func36, Try.ntmps36
    go_wp2_with (first | (go_at_call 69; refine (adr_ok_any _ _).mono ?_; rintro e w' ⟨rfl, rfl⟩) | (go_at_call 70; refine (many_ok_any _ _).mono ?_; rintro e w' ⟨rfl, rfl⟩) | (go_at_call 71; refine (last_any _ _ ?_ ?_ ?_ ?_ _).mono ?_; omega; omega; omega; omega; rintro e w' ⟨rfl, rfl⟩))
    go_ret
    exact ⟨by simp [adrOkB]; omega, rfl⟩

theorem spec_AdrOk (a m : Int) (b : Bool) (w : World) :
    Calls Try.prog 84 #[.int .i64 a, .int .i64 m, .bool b] w fun e w' => e = .returned (.bool (adrOkB a m b)) ∧ w' = w := by
  by_cases h1 : 0 ≤ a ∧ a ≤ 63
  · have hd : inB a 0 63 = true := inB_t h1
    obtain ⟨h1a, h1b⟩ := h1
    by_cases h2 : m = 1 ∨ m = 2 ∨ m = 4
    · have hm1 : 1 ≤ m := by omega
      have hm4 : m ≤ 4 := by omega
      have main : ∀ m', (m' = 1 ∨ m' = 2 ∨ m' = 4) → Calls Try.prog 84 #[.int .i64 a, .int .i64 m', .bool b] w fun e w' => e = .returned (.bool (adrOkB a m' b)) ∧ w' = w := by
        intro m' hm'
        rcases hm' with rfl | rfl | rfl
        all_goals
          cases b with
          | true =>
            go_enter Try.func84, Try.ntmps84
            go_wp2_with (go_at_call 42; refine (in_any _ _ _ _).mono ?_; rintro e w' ⟨rfl, rfl⟩)
            go_ret
            exact ⟨by simp [adrOkB, h1a, h1b], rfl⟩
          | false =>
            go_enter Try.func84, Try.ntmps84
            go_wp2_with (go_at_call 42; refine (in_any _ _ _ _).mono ?_; rintro e w' ⟨rfl, rfl⟩)
            go_ret
            exact ⟨by simp [adrOkB, h1a, h1b], rfl⟩
      exact main m h2
    · have e1 : (m != 1) = true := by simp; omega
      have e2 : (m != 2) = true := by simp; omega
      have e4 : (m != 4) = true := by simp; omega
      go_enter Try.func84, Try.ntmps84
      go_wp2_with (go_at_call 42; refine (in_any _ _ _ _).mono ?_; rintro e w' ⟨rfl, rfl⟩)
      go_ret
      exact ⟨by simp [adrOkB, h2], rfl⟩
  · have hd : inB a 0 63 = false := inB_f h1
    go_enter Try.func84, Try.ntmps84
    go_wp2_with (go_at_call 42; refine (in_any _ _ _ _).mono ?_; rintro e w' ⟨rfl, rfl⟩)
    go_ret
    exact ⟨by simp [adrOkB]; omega, rfl⟩

end Go.Proofs.Ytlifkfemdknndaa
