/-
  The law FnAdrWrap, walked.
-/
import Derived.Test.YtgfcidpkepnphaaProg
import Derived.Test.YtgfcidpkepnphaaWAdrOk
namespace Go.Proofs.Ytgfcidpkepnphaa
open Go.RowKit
set_option linter.unusedSimpArgs false
set_option linter.unusedVariables false

theorem wrap_ok {x m : Int} (h : adrOkB x m true = true) (k : Nat) (hk : (k : Int) < m) : adrOkB (x - x % m + k) m true = true := by
  obtain ⟨h1, h2, h3, h4⟩ := (adrOk_iff x m true).1 h
  refine (adrOk_iff _ _ _).2 ⟨?_, ?_, h3, .inl rfl⟩ <;> rcases h3 with rfl | rfl | rfl <;> omega
theorem wrap_mem {x m : Int} (h : adrOkB x m true = true) (k : Nat) (hk : (k : Int) < m) {v : Int} (hv : v ∈ burst x m true) : v ∈ burst (x - x % m + k) m true := by
  rw [burst_ok h] at hv
  rw [burst_ok (wrap_ok h k hk)]
  obtain ⟨h1, h2, h3, h4⟩ := (adrOk_iff x m true).1 h
  simp only [List.mem_map, List.mem_range] at hv ⊢
  obtain ⟨j, hj, rfl⟩ := hv
  refine ⟨((j + (x % m) - k) % m).toNat, ?_, ?_⟩
  · rcases h3 with rfl | rfl | rfl <;> omega
  · simp only [burstAt, if_true]
    rcases h3 with rfl | rfl | rfl <;> omega
theorem base_ok {x m : Int} (h : adrOkB x m true = true) : adrOkB (x - x % m) m false = true ∧ adrOkB (x - x % m) m true = true := by
  obtain ⟨h1, h2, h3, h4⟩ := (adrOk_iff x m true).1 h
  refine ⟨(adrOk_iff _ _ _).2 ⟨?_, ?_, h3, .inr ?_⟩, (adrOk_iff _ _ _).2 ⟨?_, ?_, h3, .inl rfl⟩⟩ <;> rcases h3 with rfl | rfl | rfl <;> omega
theorem base_same {x m : Int} (h : adrOkB x m true = true) : burst (x - x % m) m false = burst (x - x % m) m true := by
  rw [burst_ok (base_ok h).1, burst_ok (base_ok h).2]
  obtain ⟨h1, h2, h3, h4⟩ := (adrOk_iff x m true).1 h
  refine List.map_congr_left fun k hk => ?_
  simp only [List.mem_range] at hk
  simp [burstAt]
  rcases h3 with rfl | rfl | rfl <;> omega

set_option maxRecDepth 100000 in
set_option maxHeartbeats 1000000 in
theorem walk_FnAdrWrap (a : Option Addr) (len cap : Nat) (w : World) (hc : len ≤ cap) (hm : cap ≤ 9223372036854775807) (h : Bytes w w.heap.size a len) :
    Calls Try.prog 8 #[.slice a len cap] w fun e w' => e = .returned (.bool true) ∧ Below w.heap.size w w' := by
  by_cases hl : 1048576 < len
  · have hI : (1048576 : Int) < (len : Int) := by omega
    clear h
    go_enter Try.func8, Try.ntmps8
    go_wp2
    go_ret
    exact ⟨rfl, Below.refl _ _⟩
  · have hI : ¬ (1048576 : Int) < (len : Int) := by omega
    have HB := Hid.intro h
    clear h
    go_enter Try.func8, Try.ntmps8
    go_wp2_with fail
    refine (drawAdrBurst_any a len cap w hc hm HB.out).mono ?_
    rintro e w1 ⟨x, m, b, rfl, x0, x1, m0, m1, hb1⟩
    have HSame : Hid (∀ v ∈ burst x m true, 0 ≤ v ∧ v ≤ 63) := Hid.intro (fun v hv => burst_bd hv)
    clear HB
    go_wp2_with fail
    refine (impl_AdrBurst x m true w1).mono ?_
    rintro e w2 ⟨p, cp, rfl, hi2, _, hc2, hm2, hb2, _⟩
    have hb2' := hb1.trans (hb2.mono hb1.size)
    have HI2 := Hid.intro hi2
    clear hi2
    go_wp2_with fail
    refine (spec_AdrBurst x m true w2).mono ?_
    rintro e w3 ⟨g, c, rfl, hi3, _, hc3, hm3, hb3⟩
    have hb3' := hb2'.trans (hb3.mono hb2'.size)
    have HI2' := Hid.intro (HI2.out.below hb3)
    have HI3 := Hid.intro hi3
    clear hi3 HI2 hb3 hb2 hb1 hb2'
    go_wp2_with fail
    refine (crInts_same p (some ⟨g, 0, none⟩) cp c (burst x m true) w3 HI2'.out HI3.out hc2 hm2 hc3 hm3).mono ?_
    rintro e w4 ⟨rfl, hb4⟩
    have hb4' := hb3'.trans (hb4.mono hb3'.size)
    have HI4 := Hid.intro (HI2'.out.below hb4)
    clear HI2' HI3 hb4 hb3'
    cases hok : adrOkB x m true
    · have hz : (((burst x m true).length : Int) == 0) = true := by rw [burst_no hok]; rfl
      go_wp2_with fail
      refine (crOk_any w4).mono ?_
      rintro e w5 ⟨rfl, rfl⟩
      go_wp2
      go_ret
      exact ⟨rfl, hb4'⟩
    · have hlen := burst_len hok
      obtain ⟨y1, y2, y3, _⟩ := (adrOk_iff x m true).1 hok
      have hz : (((burst x m true).length : Int) == 0) = false := by rw [hlen]; simp; omega
      obtain ⟨n, rfl⟩ := Int.eq_ofNat_of_zero_le (show 0 ≤ m by omega)
      have hn1 : 1 ≤ n := by omega
      have hn4 : n ≤ 4 := by omega
      have q1 : (0 : Int) ≤ x % (n : Int) := Int.emod_nonneg _ (by omega)
      have q2 : x % (n : Int) < (n : Int) := Int.emod_lt_of_pos _ (by omega)
      have q3 : x % (n : Int) ≤ x := by have := fst_nonneg x n y1; omega
      have hlen' : (burst x (n : Int) true).length = n := by omega
      have HM := Hid.intro (fun (k : Nat) (hk : (k : Int) < (n : Int)) (v : Int) (hv : v ∈ burst x n true) => wrap_mem hok k hk hv)
      have HBS := Hid.intro (base_same hok)
      clear y3
      go_wp2_with fail
      clear hz
      go_loopw [8] (fun i wr => ∃ k : Nat, k ≤ n ∧ i = .int .i64 k ∧ Below w4.heap.size w4 wr) (fun i _ => n - (intOf i).toNat)
      case atStart => exact ⟨0, Nat.zero_le _, rfl, Below.refl _ _⟩
      case round =>
        obtain ⟨k, hk, rfl, hbr⟩ := hrel
        have hbr' := hb4'.trans (hbr.mono hb4'.size)
        by_cases hlt : k < n
        · have hk1 : (k : Int) < (n : Int) := by omega
          have hk0 : (0 : Int) ≤ (k : Int) := by omega
          have HK := Hid.intro (HM.out k hk1)
          clear HM
          go_wp2_with fail
          refine (impl_AdrBurst (x - x % (n : Int) + (k : Int)) n true wr).mono ?_
          rintro e w5 ⟨p2, cp2, rfl, hi5, _, hc5, hm5, hb5, _⟩
          have hb5' := hbr.trans (hb5.mono hbr.size)
          have HI5 := Hid.intro (HI4.out.below hb5')
          have HY := Hid.intro hi5
          clear hi5 HI4 hb5
          generalize burst (x - x % (n : Int) + (k : Int)) n true = ys at HK HY hc5 ⊢
          go_wp2_with fail
          go_loopw [10] (fun i wr' => ∃ j : Nat, j ≤ n ∧ i = .int .i64 j ∧ wr' = w5) (fun i _ => n - (intOf i).toNat)
          case atStart => exact ⟨0, Nat.zero_le _, rfl, rfl⟩
          case round =>
            obtain ⟨j, hj, rfl, rfl⟩ := hrel
            by_cases hjl : j < n
            · have hj1 : (j : Int) < (n : Int) := by omega
              have hj0 : (0 : Int) ≤ (j : Int) := by omega
              rcases HI5.out with hx | ⟨blk, off, rfl, hb, hcells⟩
              · rw [hx] at hlen'; simp at hlen'; omega
              have hjx : j < (burst x (n : Int) true).length := by omega
              have hcj := hcells j hjx
              have hd := decide_eq_true (HK.out _ (List.getElem_mem hjx))
              clear hcells HI5 HK
              generalize (burst x (n : Int) true)[j] = v at hcj hd
              go_wp2_with fail
              refine (crIn_any p2 cp2 ys v _ HY.out hc5 hm5).mono ?_
              rintro e w6 ⟨rfl, rfl⟩
              go_wp2
              go_roundw
              case rel => exact ⟨j + 1, by omega, by go_num, by simp⟩
              case measure => simp [intOf]; omega
            · have hj' : ¬ (j : Int) < (n : Int) := by omega
              go_wp2
              go_roundw
              case rel => first | exact ⟨k + 1, by omega, by omega⟩ | exact ⟨k + 1, by omega, by go_num, hb5'⟩
              case measure => simp [intOf]; omega
        · have hk' : k = n := by omega
          subst hk'
          have hF := impl_AdrBurst (x - x % (k : Int)) k false wr
          rw [HBS.out] at hF
          clear HM HBS
          go_wp2_with fail
          refine hF.mono ?_
          rintro e w5 ⟨p2, cp2, rfl, hi5, _, hc5, hm5, hb5, _⟩
          have hb5' := hbr'.trans (hb5.mono hbr'.size)
          have HY := Hid.intro hi5
          clear hi5 hF
          go_wp2_with fail
          refine (impl_AdrBurst (x - x % (k : Int)) k true w5).mono ?_
          rintro e w6 ⟨p3, cp3, rfl, hi6, _, hc6, hm6, hb6, _⟩
          have hb6' := hb5'.trans (hb6.mono hb5'.size)
          have HY6 := Hid.intro (HY.out.below hb6)
          have HZ := Hid.intro hi6
          clear hi6
          go_wp2_with fail
          refine (crInts_same p2 p3 cp2 cp3 _ w6 HY6.out HZ.out hc5 hm5 hc6 hm6).mono ?_
          rintro e w7 ⟨rfl, hb7⟩
          have hb7' := hb6'.trans (hb7.mono hb6'.size)
          go_wp2
          go_ret
          exact ⟨rfl, hb7'⟩

end Go.Proofs.Ytgfcidpkepnphaa
