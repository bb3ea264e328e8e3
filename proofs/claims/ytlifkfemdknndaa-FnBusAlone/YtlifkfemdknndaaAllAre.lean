/-
  wrdAllAre of the program: whether all numbers of a row are so, by a function that is handed in.
-/
import Derived.Test.YtlifkfemdknndaaProg
import Derived.Test.YtlifkfemdknndaaReqM
import Derived.Test.YtlifkfemdknndaaWrd
import Derived.Test.YtlifkfemdknndaaIRow
namespace Go.Proofs.Ytlifkfemdknndaa
open Go.RowKit
set_option linter.unusedSimpArgs false
set_option linter.unusedVariables false

theorem wrdOk_in (a : Int) (w : World) :
    Calls Try.prog 61 #[.int .i64 a] w fun e w' => e = .returned (.bool (inB a 0 65535)) ∧ w' = w := wrdOk_any a w

theorem lanOk_in (a : Int) (w : World) :
    Calls Try.prog 62 #[.int .i64 a] w fun e w' => e = .returned (.bool (inB a 0 3)) ∧ w' = w := lanOk_any a w

set_option maxRecDepth 100000 in
set_option maxHeartbeats 1000000 in
theorem allAre_w (p : Option Addr) (cap : Nat) (xs : List Int) (w : World) (hp : IntsAt w p xs) (h1 : xs.length ≤ cap) (h2 : cap ≤ 9223372036854775807) :
    Calls Try.prog 30 #[.slice p xs.length cap, .func (.func 61) #[] #[]] w fun e w' => e = .returned (.bool (allIn xs 0 65535)) ∧ w' = w := by
  have HP := Hid.intro hp
  clear hp
  go_enter Try.func30, Try.ntmps30
  go_wp2
  go_loopw [9] (fun i wr => ∃ k : Nat, k ≤ xs.length ∧ i = .int .i64 k ∧ wr = w ∧ Hid (allIn (xs.take k) 0 65535 = true)) (fun i _ => xs.length - (intOf i).toNat)
  case atStart => exact ⟨0, Nat.zero_le _, rfl, rfl, rfl⟩
  case round =>
    obtain ⟨k, hk, rfl, rfl, HF⟩ := hrel
    by_cases hlt : k < xs.length
    · rcases HP.out with hx | ⟨b, off, rfl, hb, hcells⟩
      · subst hx; simp at hlt
      have hk0 : (0 : Int) ≤ (k : Int) := by omega
      have hk1 : (k : Int) < (xs.length : Int) := by omega
      have hc1 := hcells k hlt
      clear hcells HP
      cases hb : inB xs[k] 0 65535
      · have HN := Hid.intro (allIn_hit hlt hb)
        go_wp2_with (go_at_call 61; refine (wrdOk_in _ _).mono ?_; rintro e w' ⟨rfl, rfl⟩)
        go_ret
        exact ⟨by rw [HN.out]; rfl, rfl⟩
      · have HN := Hid.intro (allIn_step hlt HF.out hb)
        go_wp2_with (go_at_call 61; refine (wrdOk_in _ _).mono ?_; rintro e w' ⟨rfl, rfl⟩)
        go_roundw
        case rel => exact ⟨k + 1, by omega, by go_num, by simp, HN⟩
        case measure => simp [intOf]; omega
    · have HN := Hid.intro (allIn_end (show xs.length ≤ k by omega) HF.out)
      go_wp2
      go_ret
      exact ⟨by rw [HN.out]; rfl, rfl⟩

set_option maxRecDepth 100000 in
set_option maxHeartbeats 1000000 in
theorem allAre_l (p : Option Addr) (cap : Nat) (xs : List Int) (w : World) (hp : IntsAt w p xs) (h1 : xs.length ≤ cap) (h2 : cap ≤ 9223372036854775807) :
    Calls Try.prog 30 #[.slice p xs.length cap, .func (.func 62) #[] #[]] w fun e w' => e = .returned (.bool (allIn xs 0 3)) ∧ w' = w := by
  have HP := Hid.intro hp
  clear hp
  go_enter Try.func30, Try.ntmps30
  go_wp2
  go_loopw [9] (fun i wr => ∃ k : Nat, k ≤ xs.length ∧ i = .int .i64 k ∧ wr = w ∧ Hid (allIn (xs.take k) 0 3 = true)) (fun i _ => xs.length - (intOf i).toNat)
  case atStart => exact ⟨0, Nat.zero_le _, rfl, rfl, rfl⟩
  case round =>
    obtain ⟨k, hk, rfl, rfl, HF⟩ := hrel
    by_cases hlt : k < xs.length
    · rcases HP.out with hx | ⟨b, off, rfl, hb, hcells⟩
      · subst hx; simp at hlt
      have hk0 : (0 : Int) ≤ (k : Int) := by omega
      have hk1 : (k : Int) < (xs.length : Int) := by omega
      have hc1 := hcells k hlt
      clear hcells HP
      cases hb : inB xs[k] 0 3
      · have HN := Hid.intro (allIn_hit hlt hb)
        go_wp2_with (go_at_call 62; refine (lanOk_in _ _).mono ?_; rintro e w' ⟨rfl, rfl⟩)
        go_ret
        exact ⟨by rw [HN.out]; rfl, rfl⟩
      · have HN := Hid.intro (allIn_step hlt HF.out hb)
        go_wp2_with (go_at_call 62; refine (lanOk_in _ _).mono ?_; rintro e w' ⟨rfl, rfl⟩)
        go_roundw
        case rel => exact ⟨k + 1, by omega, by go_num, by simp, HN⟩
        case measure => simp [intOf]; omega
    · have HN := Hid.intro (allIn_end (show xs.length ≤ k by omega) HF.out)
      go_wp2
      go_ret
      exact ⟨by rw [HN.out]; rfl, rfl⟩

end Go.Proofs.Ytlifkfemdknndaa
