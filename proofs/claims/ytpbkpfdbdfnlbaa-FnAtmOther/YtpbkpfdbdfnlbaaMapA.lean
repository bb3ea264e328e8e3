/-
  Single ranges, as the program and the model look at them.
-/
import Derived.Test.YtpbkpfdbdfnlbaaProg
import Derived.Test.YtpbkpfdbdfnlbaaAdr
import Derived.Test.YtpbkpfdbdfnlbaaWld
namespace Go.Proofs.Ytpbkpfdbdfnlbaa
open Go.RowKit
set_option linter.unusedSimpArgs false
set_option linter.unusedVariables false

/-- a range as a Go value -/
def Rng.val (r : Rng) : Value := .agg #[.int .i64 r.fr, .int .i64 r.tt, .int .i64 r.sl, .bool r.only]

theorem isIn_any (r : Rng) (n : Int) (w : World) :
    Calls Try.prog 80 #[.int .i64 n, .agg #[.int .i64 r.fr, .int .i64 r.tt, .int .i64 r.sl, .bool r.only]] w fun e w' => e = .returned (.bool (inRngB r n)) ∧ Below w.heap.size w w' := by
  have hbl : ∀ o, Below w.heap.size w (w.alloc o) := fun o => (Below.refl _ w).alloc (Nat.le_refl _) o
  by_cases h1 : r.fr ≤ n
  · by_cases h2 : n ≤ r.tt
    · go_enter Try.func80, Try.ntmps80
      go_wp2
      go_ret
      exact ⟨by simp [inRngB]; omega, hbl _⟩
    · have hd : decide (n ≤ r.tt) = false := by simpa using h2
      go_enter Try.func80, Try.ntmps80
      go_wp2
      go_ret
      exact ⟨by simp [inRngB]; omega, hbl _⟩
  · have hd : decide (r.fr ≤ n) = false := by simpa using h1
    go_enter Try.func80, Try.ntmps80
    go_wp2
    go_ret
    exact ⟨by simp [inRngB]; omega, hbl _⟩

theorem meet_any (r s : Rng) (w : World) :
    Calls Try.prog 72 #[.agg #[.int .i64 r.fr, .int .i64 r.tt, .int .i64 r.sl, .bool r.only], .agg #[.int .i64 s.fr, .int .i64 s.tt, .int .i64 s.sl, .bool s.only]] w fun e w' => e = .returned (.bool (rngMeetB r s)) ∧ Below w.heap.size w w' := by
  have hbl : ∀ o o', Below w.heap.size w ((w.alloc o).alloc o') := fun o o' => ((Below.refl _ w).alloc (Nat.le_refl _) o).alloc (by simp) o'
  by_cases h1 : r.fr ≤ s.tt
  · by_cases h2 : s.fr ≤ r.tt
    · go_enter Try.func72, Try.ntmps72
      go_wp2
      go_ret
      exact ⟨by simp [rngMeetB]; omega, hbl _ _⟩
    · have hd : decide (s.fr ≤ r.tt) = false := by simpa using h2
      go_enter Try.func72, Try.ntmps72
      go_wp2
      go_ret
      exact ⟨by simp [rngMeetB]; omega, hbl _ _⟩
  · have hd : decide (r.fr ≤ s.tt) = false := by simpa using h1
    go_enter Try.func72, Try.ntmps72
    go_wp2
    go_ret
    exact ⟨by simp [rngMeetB]; omega, hbl _ _⟩

theorem rangeOk_any (r : Rng) (w : World) :
    Calls Try.prog 71 #[.agg #[.int .i64 r.fr, .int .i64 r.tt, .int .i64 r.sl, .bool r.only]] w fun e w' => e = .returned (.bool (rngOkB r)) ∧ Below w.heap.size w w' := by
  have hbl : ∀ o, Below w.heap.size w (w.alloc o) := fun o => (Below.refl _ w).alloc (Nat.le_refl _) o
  by_cases h1 : 0 ≤ r.fr ∧ r.fr ≤ 63
  · have d1 : inB r.fr 0 63 = true := inB_t h1
    by_cases h2 : 0 ≤ r.tt ∧ r.tt ≤ 63
    · have d2 : inB r.tt 0 63 = true := inB_t h2
      by_cases h3 : r.fr ≤ r.tt
      · by_cases h4 : 0 ≤ r.sl
        · by_cases h5 : r.sl < 3
          · go_enter Try.func71, Try.ntmps71
            go_wp2_with (go_at_call 56; refine (adr_ok_any _ _).mono ?_; rintro e w' ⟨rfl, rfl⟩)
            go_ret
            exact ⟨by simp [rngOkB]; omega, hbl _⟩
          · have d5 : decide (r.sl < 3) = false := by simpa using h5
            go_enter Try.func71, Try.ntmps71
            go_wp2_with (go_at_call 56; refine (adr_ok_any _ _).mono ?_; rintro e w' ⟨rfl, rfl⟩)
            go_ret
            exact ⟨by simp [rngOkB]; omega, hbl _⟩
        · have d4 : decide (0 ≤ r.sl) = false := by simpa using h4
          go_enter Try.func71, Try.ntmps71
          go_wp2_with (go_at_call 56; refine (adr_ok_any _ _).mono ?_; rintro e w' ⟨rfl, rfl⟩)
          go_ret
          exact ⟨by simp [rngOkB]; omega, hbl _⟩
      · have d3 : decide (r.fr ≤ r.tt) = false := by simpa using h3
        go_enter Try.func71, Try.ntmps71
        go_wp2_with (go_at_call 56; refine (adr_ok_any _ _).mono ?_; rintro e w' ⟨rfl, rfl⟩)
        go_ret
        exact ⟨by simp [rngOkB]; omega, hbl _⟩
    · have d2 : inB r.tt 0 63 = false := inB_f h2
      go_enter Try.func71, Try.ntmps71
      go_wp2_with (go_at_call 56; refine (adr_ok_any _ _).mono ?_; rintro e w' ⟨rfl, rfl⟩)
      go_ret
      exact ⟨by simp [rngOkB]; omega, hbl _⟩
  · have d1 : inB r.fr 0 63 = false := inB_f h1
    go_enter Try.func71, Try.ntmps71
    go_wp2_with (go_at_call 56; refine (adr_ok_any _ _).mono ?_; rintro e w' ⟨rfl, rfl⟩)
    go_ret
    exact ⟨by simp [rngOkB]; omega, hbl _⟩

end Go.Proofs.Ytpbkpfdbdfnlbaa
