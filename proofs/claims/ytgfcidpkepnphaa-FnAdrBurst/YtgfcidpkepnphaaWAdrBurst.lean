/-
  The law FnAdrBurst, walked.
-/
import Derived.Test.YtgfcidpkepnphaaProg
import Derived.Test.YtgfcidpkepnphaaWAdrOk
import Derived.BigQuiet
namespace Go.Proofs.Ytgfcidpkepnphaa
open Go.RowKit
set_option linter.unusedSimpArgs false
set_option linter.unusedVariables false

theorem burst_get {x m : Int} {wrap : Bool} (h : adrOkB x m wrap = true) (k : Nat) (hk : k < (burst x m wrap).length) : (burst x m wrap)[k] = burstAt x m wrap (k : Int) := by
  have e := burst_ok h
  have h2 : (burst x m wrap)[k]? = some (burstAt x m wrap (k : Int)) := by
    rw [e] at hk ⊢
    simp at hk
    simp [hk]
  rw [List.getElem?_eq_getElem hk] at h2
  exact Option.some.inj h2
theorem burst_apart {x m : Int} {wrap : Bool} (h : adrOkB x m wrap = true) (k : Nat) (hk : k < (burst x m wrap).length) : (burst x m wrap)[k] ∉ (burst x m wrap).take k := by
  intro hm
  obtain ⟨j, hj, e⟩ := List.mem_iff_getElem.1 hm
  have hjk : j < k := by simp at hj; omega
  rw [List.getElem_take, burst_get h j (by omega), burst_get h k hk] at e
  have hlen := burst_len h
  obtain ⟨h1, h2, h3, h4⟩ := (adrOk_iff x m wrap).1 h
  cases wrap <;> simp [burstAt] at e <;> rcases h3 with rfl | rfl | rfl <;> omega
theorem burst_first {x m : Int} {wrap : Bool} (h : adrOkB x m wrap = true) : burstAt x m wrap 0 = x := by
  obtain ⟨h1, h2, h3, h4⟩ := (adrOk_iff x m wrap).1 h
  cases wrap <;> simp [burstAt] <;> rcases h3 with rfl | rfl | rfl <;> omega
theorem burst_block {x m : Int} (h : adrOkB x m true = true) (k : Nat) : burstAt x m true (k : Int) / m = x / m := by
  obtain ⟨h1, h2, h3, h4⟩ := (adrOk_iff x m true).1 h
  simp only [burstAt, if_true]
  rcases h3 with rfl | rfl | rfl <;> omega

theorem crIn_take (p : Option Addr) (c1 k : Nat) (xs : List Int) (n : Int) (b : Bool) (w : World) (hp : IntsAt w p xs) (hk : k ≤ xs.length) (h1 : xs.length ≤ c1) (h2 : c1 ≤ 9223372036854775807) (hb : decide (n ∈ xs.take k) = b) :
    Calls Try.prog 26 #[.slice p k c1, .int .i64 n] w fun e w' => e = .returned (.bool b) ∧ w' = w := by
  have hl : (xs.take k).length = k := by simp; omega
  have hp' : IntsAt w p (xs.take k) := by
    rcases hp with h | ⟨bb, off, e1, e2, e3⟩
    · left; simp [h]
    · refine .inr ⟨bb, off, e1, e2, fun j hj => ?_⟩
      rw [List.getElem_take]
      exact e3 j (by omega)
  have := crIn_any p c1 (xs.take k) n w hp' (by omega) h2
  rw [hl, hb] at this
  exact this

set_option maxRecDepth 100000 in
set_option maxHeartbeats 1500000 in
theorem walk_FnAdrBurst (a : Option Addr) (len cap : Nat) (w : World) (hc : len ≤ cap) (hm : cap ≤ 9223372036854775807) (h : Bytes w w.heap.size a len) :
    Calls Try.prog 5 #[.slice a len cap] w fun e w' => e = .returned (.bool true) ∧ Below w.heap.size w w' := by
  by_cases hl : 1048576 < len
  · have hI : (1048576 : Int) < (len : Int) := by omega
    clear h
    go_enter Try.func5, Try.ntmps5
    go_wp2
    go_ret
    exact ⟨rfl, Below.refl _ _⟩
  · have hI : ¬ (1048576 : Int) < (len : Int) := by omega
    have HB := Hid.intro h
    clear h
    go_enter Try.func5, Try.ntmps5
    go_wp2_with fail
    refine (drawAdrBurst_any a len cap w hc hm HB.out).mono ?_
    rintro e w1 ⟨x, m, b, rfl, x0, x1, m0, m1, hb1⟩
    clear HB
    go_wp2_with fail
    refine (impl_AdrBurst x m b w1).mono ?_
    rintro e w2 ⟨p, cp, rfl, hi2, _, hc2, hm2, hb2, _⟩
    have hb2' := hb1.trans (hb2.mono hb1.size)
    have HI2 := Hid.intro hi2
    clear hi2
    go_wp2_with fail
    refine (spec_AdrBurst x m b w2).mono ?_
    rintro e w3 ⟨g, c, rfl, hi3, _, hc3, hm3, hb3⟩
    have hb3' := hb2'.trans (hb3.mono hb2'.size)
    have HI2' := Hid.intro (HI2.out.below hb3)
    have HI3 := Hid.intro hi3
    clear hi3 HI2 hb3 hb2 hb1 hb2'
    go_wp2_with fail
    refine (crInts_same p (some ⟨g, 0, none⟩) cp c (burst x m b) w3 HI2'.out HI3.out hc2 hm2 hc3 hm3).mono ?_
    rintro e w4 ⟨rfl, hb4⟩
    have hb4' := hb3'.trans (hb4.mono hb3'.size)
    have HI4 := Hid.intro (HI2'.out.below hb4)
    clear HI2' HI3 hb4 hb3'
    go_wp2_with fail
    refine (impl_AdrOk x m b w4).mono ?_
    rintro e w5 ⟨rfl, hw⟩
    replace hw := hw.symm
    subst hw
    go_wp2_with fail
    refine (spec_AdrOk x m b w4).mono ?_
    rintro e w5 ⟨rfl, hw⟩
    replace hw := hw.symm
    subst hw
    cases hok : adrOkB x m b
    · have hz : (((burst x m b).length : Int) == 0) = true := by rw [burst_no hok]; rfl
      go_wp2_with fail
      refine (spec_AdrOk x m b w4).mono ?_
      rintro e w5 ⟨rfl, hw⟩
      replace hw := hw.symm
      subst hw
      go_wp2_with fail
      refine (crOk_any w4).mono ?_
      rintro e w5 ⟨rfl, rfl⟩
      go_wp2
      go_ret
      exact ⟨rfl, hb4'⟩
    · have hlen := burst_len hok
      obtain ⟨y1, y2, y3, _⟩ := (adrOk_iff x m b).1 hok
      obtain ⟨n, rfl⟩ := Int.eq_ofNat_of_zero_le (show 0 ≤ m by omega)
      have hn1 : 1 ≤ n := by omega
      have hn4 : n ≤ 4 := by omega
      have hlen' : (burst x (n : Int) b).length = n := by omega
      have HY3 := Hid.intro y3
      clear y3 hlen
      go_wp2_with fail
      refine (spec_AdrOk x n b w4).mono ?_
      rintro e w5 ⟨rfl, hw⟩
      replace hw := hw.symm
      subst hw
      rcases HI4.out with hx | ⟨blk, off, rfl, hb, hcells⟩
      · rw [hx] at hlen'; simp at hlen'; omega
      have hc0 := hcells 0 (by omega)
      rw [burst_get hok 0 (by omega)] at hc0
      have hf0 := burst_first hok
      simp only [Int.natCast_zero, Nat.add_zero] at hc0
      first | rw [hf0] at hc0 | (rw [show ((0 : Nat) : Int) = 0 from rfl, hf0] at hc0)
      clear hf0
      have HC := Hid.intro hcells
      clear hcells
      go_wp2_with fail
      go_loopw [7] (fun i wr => ∃ k : Nat, k ≤ n ∧ i = .int .i64 k ∧ Below w4.heap.size w4 wr) (fun i _ => n - (intOf i).toNat)
      case atStart => exact ⟨0, Nat.zero_le _, rfl, Below.refl _ _⟩
      case round =>
        obtain ⟨k, hk, rfl, hbr⟩ := hrel
        have hbr' := hb4'.trans (hbr.mono hb4'.size)
        by_cases hlt : k < n
        · have hk1 : (k : Int) < (n : Int) := by omega
          have hk0 : (0 : Int) ≤ (k : Int) := by omega
          have hkx : k < (burst x (n : Int) b).length := by omega
          have hck : wr.cell? ⟨blk, off + k, none⟩ = some (.int .i64 (burst x (n : Int) b)[k]) := (hbr.cell (p := ⟨blk, off + k, none⟩) hb).trans (HC.out k hkx)
          obtain ⟨v0, v1⟩ := burst_bd (List.getElem_mem hkx)
          have HD := Hid.intro (decide_eq_false (burst_apart hok k hkx))
          have hv := burst_get hok k hkx
          have HIW := Hid.intro (HI4.out.below hbr)
          have HLE := Hid.intro (Nat.le_of_lt hkx)
          have HC2 := Hid.intro hc2
          have hkc : k ≤ cp := by omega
          have hnc : n ≤ cp := by omega
          clear HC HI4 hc2 hc3 hc0
          generalize hxs : (burst x (n : Int) b)[k] = v at hck v0 v1 HD hv
          clear hxs hkx
          cases b
          · have hvk : v = x + (k : Int) := by rw [hv]; simp [burstAt]
            subst hvk
            have nv0 : decide (x + (k : Int) < 0) = false := decide_eq_false (by omega)
            have nv1 : decide (63 < x + (k : Int)) = false := decide_eq_false (by omega)
            have hw0 := wrap_small (x + (k : Int)) (by omega) (by omega)
            clear hv
            go_wp2_with fail
            go_quiet ((go_at_call 26; exact Calls.quiet_of_same (crIn_take _ _ k _ _ false _ HIW.out HLE.out HC2.out hm2 HD.out)))
            go_wp2
            go_roundw
            case rel => exact ⟨k + 1, by omega, by go_num, below_drewN hbr nq⟩
            case measure => simp [intOf]; omega
          · have hed : v / (n : Int) = x / (n : Int) := by rw [hv]; exact burst_block hok k
            have nv0 : decide (v < 0) = false := decide_eq_false (by omega)
            have nv1 : decide (63 < v) = false := decide_eq_false (by omega)
            have hn0 : ¬ n = 0 := by omega
            have hn0I : ¬ (n : Int) = 0 := by omega
            have t1 : v.tdiv (n : Int) = x / (n : Int) := by rw [Int.tdiv_eq_ediv_of_nonneg v0, hed]
            have t2 : x.tdiv (n : Int) = x / (n : Int) := Int.tdiv_eq_ediv_of_nonneg y1
            have e0 : 0 ≤ x / (n : Int) := Int.ediv_nonneg y1 (by omega)
            have e1 : x / (n : Int) ≤ x := Int.ediv_le_self _ y1
            have hw0 := wrap_small (x / (n : Int)) e0 (by omega)
            clear hv
            go_wp2_with fail
            go_quiet ((go_at_call 26; exact Calls.quiet_of_same (crIn_take _ _ k _ _ false _ HIW.out HLE.out HC2.out hm2 HD.out)))
            go_wp2
            go_roundw
            case rel => exact ⟨k + 1, by omega, by go_num, below_drewN hbr nq⟩
            case measure => simp [intOf]; omega
        · have hk' : ¬ (k : Int) < (n : Int) := by omega
          go_wp2
          go_ret
          exact ⟨rfl, hbr'⟩

end Go.Proofs.Ytgfcidpkepnphaa
