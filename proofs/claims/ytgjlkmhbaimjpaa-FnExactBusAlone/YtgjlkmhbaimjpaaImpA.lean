/-
  AtmOk, AtmNew, and small helpers, of the program.
-/
import Derived.Test.YtgjlkmhbaimjpaaSpcD
import Derived.Test.YtgjlkmhbaimjpaaAllAre
import Derived.Test.YtgjlkmhbaimjpaaMapCM
namespace Go.Proofs.Ytgjlkmhbaimjpaa
open Go.RowKit
set_option linter.unusedSimpArgs false
set_option linter.unusedVariables false

theorem holdOk_any (a : Int) (w : World) :
    Calls Try.prog 100 #[.int .i64 a] w fun e w' => e = .returned (.bool (inB a (-1) 63)) ∧ w' = w := by
  by_cases h : a = -1
  · subst h
    go_enter Try.func100, Try.ntmps100
    go_wp2
    go_ret
    exact ⟨rfl, rfl⟩
  · have hq : (a == -1) = false := by simpa using h
    have HE := Hid.intro (show inB a (-1) 63 = inB a 0 63 by unfold inB; rw [decide_eq_decide]; omega)
    go_enter Try.func100, Try.ntmps100
    go_wp2_with (go_at_call 120; refine (adr_ok_any _ _).mono ?_; rintro e w' ⟨rfl, rfl⟩)
    go_ret
    exact ⟨by rw [HE.out]; rfl, rfl⟩

set_option maxRecDepth 100000 in
set_option maxHeartbeats 1000000 in
theorem allAre_h (p : Option Addr) (cap : Nat) (xs : List Int) (w : World) (hp : IntsAt w p xs) (h1 : xs.length ≤ cap) (h2 : cap ≤ 9223372036854775807) :
    Calls Try.prog 45 #[.slice p xs.length cap, .func (.func 100) #[] #[]] w fun e w' => e = .returned (.bool (allIn xs (-1) 63)) ∧ w' = w := by
  have HP := Hid.intro hp
  clear hp
  go_enter Try.func45, Try.ntmps45
  go_wp2
  go_loopw [9] (fun i wr => ∃ k : Nat, k ≤ xs.length ∧ i = .int .i64 k ∧ wr = w ∧ Hid (allIn (xs.take k) (-1) 63 = true)) (fun i _ => xs.length - (intOf i).toNat)
  case atStart => exact ⟨0, Nat.zero_le _, rfl, rfl, rfl⟩
  case round =>
    obtain ⟨k, hk, rfl, rfl, HF⟩ := hrel
    by_cases hlt : k < xs.length
    · rcases HP.out with hx | ⟨b, off, rfl, hb, hcells⟩
      · subst hx; simp at hlt
      have hk0 : (0 : Int) ≤ (k : Int) := by omega
      have hk1 : (k : Int) < (xs.length : Int) := by omega
      have hc1 := hcells k hlt
      clear hcells HP
      cases hb : inB xs[k] (-1) 63
      · have HN := Hid.intro (allIn_hit hlt hb)
        go_wp2_with (go_at_call 100; refine (holdOk_any _ _).mono ?_; rintro e w' ⟨rfl, rfl⟩)
        go_ret
        exact ⟨by rw [HN.out]; rfl, rfl⟩
      · have HN := Hid.intro (allIn_step hlt HF.out hb)
        go_wp2_with (go_at_call 100; refine (holdOk_any _ _).mono ?_; rintro e w' ⟨rfl, rfl⟩)
        go_roundw
        case rel => exact ⟨k + 1, by omega, by go_num, by simp, HN⟩
        case measure => simp [intOf]; omega
    · have HN := Hid.intro (allIn_end (show xs.length ≤ k by omega) HF.out)
      go_wp2
      go_ret
      exact ⟨by rw [HN.out]; rfl, rfl⟩

set_option maxRecDepth 100000 in
set_option maxHeartbeats 1000000 in
theorem impl_AtmOk : AtmOkC := by
  intro s pw ph cw ch w h
  have hbl : ∀ o, Below w.heap.size w (w.alloc o) := fun o => (Below.refl _ w).alloc (Nat.le_refl _) o
  have HE := Hid.intro (stOk_eq s)
  have HA := Hid.intro h
  clear h
  unfold stV
  go_enter Try.func60, Try.ntmps60
  go_wp2_with fail
  refine (impl_MemOk pw cw s.words _ (HA.out.below (hbl _)).words HA.out.cw1 HA.out.cw2).mono ?_
  rintro e w1 ⟨rfl, hb1⟩
  have hs1 := hb1.size
  simp at hs1
  have c1 : w1.cell? ⟨w.heap.size, 1, none⟩ = some (.slice ph s.holds.length ch) := (hb1.cell (p := ⟨w.heap.size, 1, none⟩) (by simp)).trans (by simp)
  have hb1' := (hbl _).trans (hb1.mono (hbl _).size)
  have HA1 := Hid.intro (HA.out.below hb1')
  clear hb1 HA
  cases h1 : memOkB s.words
  · go_wp2
    go_ret
    exact ⟨by rw [HE.out, h1]; rfl, hb1'⟩
  cases h2 : ((s.holds.length : Int) == 6)
  · go_wp2
    go_ret
    exact ⟨by rw [HE.out, h1, h2]; rfl, hb1'⟩
  go_wp2_with fail
  refine (allAre_h ph ch s.holds w1 HA1.out.holds HA1.out.ch1 HA1.out.ch2).mono ?_
  rintro e w2 ⟨rfl, hw⟩
  subst hw
  go_wp2
  go_ret
  exact ⟨by rw [HE.out, h1, h2]; rfl, hb1'⟩

theorem whoOk_any (a : Int) (w : World) :
    Calls Try.prog 67 #[.int .i64 a] w fun e w' => e = .returned (.bool (inB a 0 2)) ∧ w' = w := by
  by_cases h : 0 ≤ a
  · by_cases h2 : a < 3
    · have HE := Hid.intro (inB_t (n := a) (lo := 0) (hi := 2) ⟨h, by omega⟩)
      go_enter Try.func67, Try.ntmps67
      go_wp2
      go_ret
      exact ⟨by rw [HE.out]; rfl, rfl⟩
    · have HE := Hid.intro (inB_f (n := a) (lo := 0) (hi := 2) (by omega))
      go_enter Try.func67, Try.ntmps67
      go_wp2
      go_ret
      exact ⟨by rw [HE.out]; rfl, rfl⟩
  · have HE := Hid.intro (inB_f (n := a) (lo := 0) (hi := 2) (by omega))
    go_enter Try.func67, Try.ntmps67
    go_wp2
    go_ret
    exact ⟨by rw [HE.out]; rfl, rfl⟩

/-- nothing is held -/
def freeH (n : Nat) : List Int := List.replicate n (-1)
/-- k of n are so -/
def mixN (n k : Nat) : List Int := freeH k ++ noughts (n - k)
theorem mixN_len {n k : Nat} (h : k ≤ n) : (mixN n k).length = n := by simp [mixN, freeH, noughts]; omega
theorem mixN_zero (n : Nat) : mixN n 0 = noughts n := by simp [mixN, freeH]
theorem mixN_all (n : Nat) : mixN n n = freeH n := by simp [mixN, noughts]
theorem mixN_step {n k : Nat} (h : k < n) : (mixN n k).set k (-1) = mixN n (k + 1) := by
  have hl : (freeH k).length = k := by simp [freeH]
  have e : noughts (n - k) = 0 :: noughts (n - (k + 1)) := by
    rw [show n - k = (n - (k + 1)) + 1 by omega]; simp [noughts, List.replicate_succ]
  unfold mixN
  rw [e, List.set_append_right _ _ (by omega), hl, Nat.sub_self]
  simp [freeH, List.replicate_succ', List.append_assoc]

end Go.Proofs.Ytgjlkmhbaimjpaa
