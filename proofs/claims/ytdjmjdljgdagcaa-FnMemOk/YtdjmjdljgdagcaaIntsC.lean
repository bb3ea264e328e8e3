/-
  What the laws ask of rows of ints: crInts, eqIntS, crIn; what a burst's addresses are.
-/
import Derived.Test.YtdjmjdljgdagcaaProg
import Derived.Test.YtdjmjdljgdagcaaIRow
import Derived.BigQuiet
namespace Go.Proofs.Ytdjmjdljgdagcaa
open Go.RowKit
set_option linter.unusedSimpArgs false
set_option linter.unusedVariables false

set_option maxRecDepth 100000 in
set_option maxHeartbeats 1000000 in
theorem crInts_same (p q : Option Addr) (c1 c2 : Nat) (xs : List Int) (w : World) (hp : IntsAt w p xs) (hq : IntsAt w q xs) (h1 : xs.length ≤ c1) (h2 : c1 ≤ 9223372036854775807) (h3 : xs.length ≤ c2) (h4 : c2 ≤ 9223372036854775807) :
    Calls Try.prog 17 #[.slice p xs.length c1, .slice q xs.length c2] w fun e w' => e = .returned (.bool true) ∧ Below w.heap.size w w' := by
  have HP := Hid.intro hp
  have HQ := Hid.intro hq
  clear hp hq
  go_enter Try.func17, Try.ntmps17
  go_wp2
  go_loopw [5] (fun i wr => ∃ k : Nat, k ≤ xs.length ∧ i = .int .i64 k ∧ Below w.heap.size w wr) (fun i _ => xs.length - (intOf i).toNat)
  case atStart => exact ⟨0, Nat.zero_le _, rfl, Below.refl _ _⟩
  case round =>
    obtain ⟨k, hk, rfl, hbl⟩ := hrel
    by_cases hlt : k < xs.length
    · rcases HP.out with hx | ⟨b, off, rfl, hb, hcells⟩
      · subst hx; simp at hlt
      rcases HQ.out with hx' | ⟨b', off', rfl, hb', hcells'⟩
      · subst hx'; simp at hlt
      have hk0 : (0 : Int) ≤ (k : Int) := by omega
      have hk1 : (k : Int) < (xs.length : Int) := by omega
      have hc1 : wr.cell? ⟨b, off + k, none⟩ = some (.int .i64 xs[k]) := (hbl.cell (p := ⟨b, off + k, none⟩) hb).trans (hcells k hlt)
      have hc2 : wr.cell? ⟨b', off' + k, none⟩ = some (.int .i64 xs[k]) := (hbl.cell (p := ⟨b', off' + k, none⟩) hb').trans (hcells' k hlt)
      clear hcells hcells' HP HQ
      go_wp2_with fail
      go_quiet (fail)
      all_goals go_wp2
      all_goals go_roundw
      case rel => exact ⟨k + 1, by omega, by go_num, by first | exact hbl.drew | exact ⟨hbl.os, hbl.tape, hbl.output, hbl.size, hbl.block⟩⟩
      case measure => simp [intOf]; omega
    · have hk' : k = xs.length := by omega
      subst hk'
      go_wp2
      go_ret
      exact ⟨rfl, hbl⟩

theorem burst_bd {a m : Int} {wrap : Bool} {v : Int} (h : v ∈ burst a m wrap) : 0 ≤ v ∧ v ≤ 63 := by
  cases hok : adrOkB a m wrap
  · rw [burst_no hok] at h; simp at h
  · rw [burst_ok hok] at h
    obtain ⟨h1, h2, h3, h4⟩ := (adrOk_iff a m wrap).1 hok
    simp only [List.mem_map, List.mem_range] at h
    obtain ⟨k, hk, rfl⟩ := h
    rcases h3 with rfl | rfl | rfl <;> cases wrap <;> simp [burstAt] at h4 ⊢ <;> omega

end Go.Proofs.Ytdjmjdljgdagcaa
