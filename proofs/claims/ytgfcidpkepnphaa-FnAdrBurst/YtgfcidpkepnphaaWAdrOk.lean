/-
  The law FnAdrOk, walked.
-/
import Derived.Test.YtgfcidpkepnphaaProg
import Derived.Test.YtgfcidpkepnphaaDraw2
import Derived.Test.YtgfcidpkepnphaaWMapFind
import Derived.Test.YtgfcidpkepnphaaBurst
import Derived.Test.YtgfcidpkepnphaaIntsC
namespace Go.Proofs.Ytgfcidpkepnphaa
open Go.RowKit
set_option linter.unusedSimpArgs false
set_option linter.unusedVariables false

theorem burst_len {a m : Int} {wrap : Bool} (h : adrOkB a m wrap = true) : ((burst a m wrap).length : Int) = m := by
  rw [burst_ok h]
  obtain ⟨h1, h2, h3, h4⟩ := (adrOk_iff a m wrap).1 h
  simp
  omega

set_option maxRecDepth 100000 in
set_option maxHeartbeats 1000000 in
theorem walk_FnAdrOk (a : Option Addr) (len cap : Nat) (w : World) (hc : len ≤ cap) (hm : cap ≤ 9223372036854775807) (h : Bytes w w.heap.size a len) :
    Calls Try.prog 6 #[.slice a len cap] w fun e w' => e = .returned (.bool true) ∧ Below w.heap.size w w' := by
  by_cases hl : 1048576 < len
  · have hI : (1048576 : Int) < (len : Int) := by omega
    clear h
    go_enter Try.func6, Try.ntmps6
    go_wp2
    go_ret
    exact ⟨rfl, Below.refl _ _⟩
  · have hI : ¬ (1048576 : Int) < (len : Int) := by omega
    have HB := Hid.intro h
    clear h
    go_enter Try.func6, Try.ntmps6
    go_wp2_with fail
    refine (drawAdrOk_any a len cap w hc hm HB.out).mono ?_
    rintro e w1 ⟨x, m, b, rfl, x0, x1, m0, m1, hb1⟩
    go_wp2_with fail
    refine (impl_AdrOk x m b w1).mono ?_
    rintro e w2 ⟨rfl, rfl⟩
    go_wp2_with fail
    refine (spec_AdrOk x m b w2).mono ?_
    rintro e w3 ⟨rfl, rfl⟩
    cases hok : adrOkB x m b
    · go_wp2_with fail
      refine (crOk_any w3).mono ?_
      rintro e w4 ⟨rfl, rfl⟩
      go_wp2
      go_ret
      exact ⟨rfl, hb1⟩
    · have hlen := burst_len hok
      have hokt : adrOkB x m true = true := by
        obtain ⟨h1, h2, h3, h4⟩ := (adrOk_iff x m b).1 hok
        exact (adrOk_iff x m true).2 ⟨h1, h2, h3, .inl rfl⟩
      go_wp2_with fail
      refine (impl_AdrBurst x m b w3).mono ?_
      rintro e w4 ⟨p, cp, rfl, hints, hpg, hcp, hcm, hb4, _⟩
      have hb4' := hb1.trans (hb4.mono hb1.size)
      have HE : Hid (∀ v ∈ burst x m b, 0 ≤ v ∧ v ≤ 63) := Hid.intro (fun v hv => burst_bd hv)
      have HI := Hid.intro hints
      clear hints
      generalize burst x m b = xs at hlen HE HI hcp ⊢
      go_wp2_with fail
      go_loopw [8] (fun i wr => ∃ k : Nat, k ≤ xs.length ∧ i = .int .i64 k ∧ wr = w4) (fun i _ => xs.length - (intOf i).toNat)
      case atStart => exact ⟨0, Nat.zero_le _, rfl, rfl⟩
      case round =>
        obtain ⟨k, hk, rfl, rfl⟩ := hrel
        by_cases hlt : k < xs.length
        · rcases HI.out with hx | ⟨blk, off, rfl, hb, hcells⟩
          · subst hx; simp at hlt
          have hk0 : (0 : Int) ≤ (k : Int) := by omega
          have hk1 : (k : Int) < (xs.length : Int) := by omega
          have hc1 := hcells k hlt
          obtain ⟨v0, v1⟩ := HE.out xs[k] (List.getElem_mem hlt)
          have hv : adrOkB xs[k] 1 false = true := (adrOk_iff _ _ _).2 ⟨v0, v1, .inl rfl, .inr (by omega)⟩
          clear hcells HI
          go_wp2_with fail
          refine (impl_AdrOk _ 1 false _).mono ?_
          rintro e w5 ⟨rfl, rfl⟩
          go_wp2
          go_roundw
          case rel => exact ⟨k + 1, by omega, by go_num, by simp⟩
          case measure => simp [intOf]; omega
        · have hk' : k = xs.length := by omega
          subst hk'
          go_wp2_with fail
          refine (impl_AdrOk x m true _).mono ?_
          rintro e w5 ⟨rfl, rfl⟩
          have hq : ((xs.length : Int) == m) = true := by simpa using hlen
          go_wp2
          go_ret
          exact ⟨rfl, hb4'⟩

end Go.Proofs.Ytgfcidpkepnphaa
