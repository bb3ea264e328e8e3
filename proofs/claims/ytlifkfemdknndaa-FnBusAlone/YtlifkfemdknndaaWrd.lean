/-
  WrdPut of the program and of the model: both answer 'wrdPutZ', at every three ints; no memory is touched.
-/
import Derived.Test.YtlifkfemdknndaaProg
import Derived.Test.YtlifkfemdknndaaPure
import Derived.Test.YtlifkfemdknndaaAdr
import Derived.WalkKit
import Derived.WalkSpells
import Derived.Laws.Bits128
import Derived.Test.YtlifkfemdknndaaWld
namespace Go.Proofs.Ytlifkfemdknndaa
open Go.RowKit
set_option linter.unusedSimpArgs false
set_option linter.unusedVariables false

def wrdB (n : Int) : Bool := inB n 0 65535
def lanB (n : Int) : Bool := inB n 0 3
/-- the word -/
def putW (o n l : Int) : Int := (if l = 2 ∨ l = 3 then n / 256 else o / 256) * 256 + (if l = 1 ∨ l = 3 then n % 256 else o % 256)
/-- WrdPut -/
def wrdPutZ (o n l : Int) : Int := if wrdB o && wrdB n && lanB l then putW o n l else -1

theorem wrdPut_ok {o n l : Int} (h1 : wrdB o = true) (h2 : wrdB n = true) (h3 : lanB l = true) : wrdPutZ o n l = putW o n l := by simp [wrdPutZ, h1, h2, h3]
theorem wrdB_iff (n : Int) : wrdB n = true ↔ 0 ≤ n ∧ n ≤ 65535 := by simp [wrdB, inB]
theorem lanB_iff (n : Int) : lanB n = true ↔ 0 ≤ n ∧ n ≤ 3 := by simp [lanB, inB]
theorem putW_bd {o n l : Int} (h1 : wrdB o = true) (h2 : wrdB n = true) : 0 ≤ putW o n l ∧ putW o n l ≤ 65535 := by
  rw [wrdB_iff] at h1 h2
  unfold putW
  split <;> split <;> omega

theorem i64_nat (a : Nat) (ha : a < 4294967296) : (BitVec.ofInt 64 (a : Int)).toNat = a := by
  rw [BitVec.ofInt_natCast, BitVec.toNat_ofNat]; exact Nat.mod_eq_of_lt (by omega)
theorem and_i64 (a b : Nat) (ha : a < 4294967296) (hb : b < 4294967296) : bits .and .i64 (a : Int) (b : Int) = ((a &&& b : Nat) : Int) := by
  have hx : a &&& b < 2 ^ 32 := Nat.and_lt_two_pow _ (by omega)
  show IntKind.i64.wrap ((BitVec.ofInt 64 (a : Int) &&& BitVec.ofInt 64 (b : Int)).toNat : Int) = _
  rw [BitVec.toNat_and, i64_nat a ha, i64_nat b hb, IntKind.wrap_i64]
  omega
theorem or_i64 (a b : Nat) (ha : a < 4294967296) (hb : b < 4294967296) : bits .or .i64 (a : Int) (b : Int) = ((a ||| b : Nat) : Int) := by
  have hx : a ||| b < 2 ^ 32 := Nat.or_lt_two_pow (by omega) (by omega)
  show IntKind.i64.wrap ((BitVec.ofInt 64 (a : Int) ||| BitVec.ofInt 64 (b : Int)).toNat : Int) = _
  rw [BitVec.toNat_or, i64_nat a ha, i64_nat b hb, IntKind.wrap_i64]
  omega
theorem not_nat (a b : Nat) (ha : a < 4294967296) (hb : b < 4294967296) : (BitVec.ofInt 64 (a : Int) &&& ~~~ BitVec.ofInt 64 (b : Int)).toNat = a ^^^ (a &&& b) := by
  refine Nat.eq_of_testBit_eq fun j => ?_
  have hj : a.testBit j = true → j < 64 := fun h => by
    rcases Nat.lt_or_ge j 64 with h' | h'
    · exact h'
    · rw [Nat.testBit_lt_two_pow (Nat.lt_of_lt_of_le (by omega : a < 2 ^ 64) (Nat.pow_le_pow_right (by omega) h'))] at h; cases h
  rw [BitVec.toNat_and, Nat.testBit_and, i64_nat a ha, Nat.testBit_xor, Nat.testBit_and]
  rw [BitVec.testBit_toNat, BitVec.getLsbD_not, ← BitVec.testBit_toNat, i64_nat b hb]
  cases h1 : a.testBit j
  · simp
  · have := hj h1
    simp [this]
theorem andNot_i64 (a b : Nat) (ha : a < 4294967296) (hb : b < 4294967296) : bits .andNot .i64 (a : Int) (b : Int) = ((a ^^^ (a &&& b) : Nat) : Int) := by
  have hx : a &&& b < 2 ^ 32 := Nat.and_lt_two_pow _ (by omega)
  have hy : a ^^^ (a &&& b) < 2 ^ 32 := Nat.xor_lt_two_pow (by omega) hx
  show IntKind.i64.wrap ((BitVec.ofInt 64 (a : Int) &&& ~~~ BitVec.ofInt 64 (b : Int)).toNat : Int) = _
  rw [not_nat a b ha hb, IntKind.wrap_i64]
  omega

/-- the mask's word, by numbers -/
theorem mask_nat (o n m : Nat) (ho : o < 65536) (hn : n < 65536) (l : Nat) (hm : (l = 0 ∧ m = 0) ∨ (l = 1 ∧ m = 255) ∨ (l = 2 ∧ m = 65280) ∨ (l = 3 ∧ m = 65535)) :
    (o ^^^ (o &&& m)) ||| (n &&& m) = 2 ^ 8 * (if l = 2 ∨ l = 3 then n / 256 else o / 256) + (if l = 1 ∨ l = 3 then n % 256 else o % 256) := by
  have eo : o = 2 ^ 8 * (o / 256) + o % 256 := by omega
  have en : n = 2 ^ 8 * (n / 256) + n % 256 := by omega
  have ho1 : o / 256 < 2 ^ 8 := by omega
  have hn1 : n / 256 < 2 ^ 8 := by omega
  have ho2 : o % 256 < 2 ^ 8 := by omega
  have hn2 : n % 256 < 2 ^ 8 := by omega
  have key : ∀ oh ol nh nl : Nat, oh < 2 ^ 8 → nh < 2 ^ 8 → ol < 2 ^ 8 → nl < 2 ^ 8 →
      ((2 ^ 8 * oh + ol) ^^^ ((2 ^ 8 * oh + ol) &&& m)) ||| ((2 ^ 8 * nh + nl) &&& m) = 2 ^ 8 * (if l = 2 ∨ l = 3 then nh else oh) + (if l = 1 ∨ l = 3 then nl else ol) := by
    intro oh ol nh nl h1 h2 h3 h4
    have em : m = 2 ^ 8 * (if l = 2 ∨ l = 3 then 2 ^ 8 - 1 else 0) + (if l = 1 ∨ l = 3 then 2 ^ 8 - 1 else 0) := by
      rcases hm with ⟨rfl, rfl⟩ | ⟨rfl, rfl⟩ | ⟨rfl, rfl⟩ | ⟨rfl, rfl⟩ <;> decide
    rw [em]
    have b1 : (if l = 1 ∨ l = 3 then 2 ^ 8 - 1 else 0 : Nat) < 2 ^ 8 := by split <;> decide
    have b2 : (if l = 1 ∨ l = 3 then nl else ol) < 2 ^ 8 := by split <;> assumption
    refine Nat.eq_of_testBit_eq fun j => ?_
    simp only [Nat.testBit_or, Nat.testBit_xor, Nat.testBit_and, Nat.testBit_two_pow_mul_add _ h3, Nat.testBit_two_pow_mul_add _ h4, Nat.testBit_two_pow_mul_add _ b1, Nat.testBit_two_pow_mul_add _ b2]
    by_cases hj : j < 8
    · simp only [hj, if_true]
      split
      · rw [Nat.testBit_two_pow_sub_one]; simp [hj]
      · simp
    · simp only [hj, if_false]
      split
      · rw [Nat.testBit_two_pow_sub_one]
        by_cases h8 : j - 8 < 8
        · simp [h8]
        · have t1 : oh.testBit (j - 8) = false := Nat.testBit_lt_two_pow (Nat.lt_of_lt_of_le h1 (Nat.pow_le_pow_right (by omega) (by omega)))
          have t2 : nh.testBit (j - 8) = false := Nat.testBit_lt_two_pow (Nat.lt_of_lt_of_le h2 (Nat.pow_le_pow_right (by omega) (by omega)))
          simp [t1, t2]
      · simp
  have := key (o / 256) (o % 256) (n / 256) (n % 256) ho1 hn1 ho2 hn2
  rw [← eo, ← en] at this
  exact this

def maskZ (l : Int) : Int := if l = 0 then 0 else if l = 1 then 255 else if l = 2 then 65280 else 65535
theorem mask_bits (o n l : Int) (h1 : wrdB o = true) (h2 : wrdB n = true) (h3 : lanB l = true) :
    bits .or .i64 (bits .andNot .i64 o (maskZ l)) (bits .and .i64 n (maskZ l)) = putW o n l := by
  rw [wrdB_iff] at h1 h2
  rw [lanB_iff] at h3
  obtain ⟨o, rfl⟩ := Int.eq_ofNat_of_zero_le h1.1
  obtain ⟨n, rfl⟩ := Int.eq_ofNat_of_zero_le h2.1
  obtain ⟨l, rfl⟩ := Int.eq_ofNat_of_zero_le h3.1
  have hl : l = 0 ∨ l = 1 ∨ l = 2 ∨ l = 3 := by omega
  have hm : ∃ m : Nat, maskZ (l : Int) = (m : Int) ∧ m < 65536 ∧ ((l = 0 ∧ m = 0) ∨ (l = 1 ∧ m = 255) ∨ (l = 2 ∧ m = 65280) ∨ (l = 3 ∧ m = 65535)) := by
    rcases hl with rfl | rfl | rfl | rfl
    · exact ⟨0, rfl, by omega, by omega⟩
    · exact ⟨255, rfl, by omega, by omega⟩
    · exact ⟨65280, rfl, by omega, by omega⟩
    · exact ⟨65535, rfl, by omega, by omega⟩
  obtain ⟨m, em, hm1, hm2⟩ := hm
  have hx : o &&& m < 2 ^ 16 := Nat.and_lt_two_pow _ (by omega)
  have hy : o ^^^ (o &&& m) < 2 ^ 16 := Nat.xor_lt_two_pow (by omega) hx
  have hz : n &&& m < 2 ^ 16 := Nat.and_lt_two_pow _ (by omega)
  rw [em, andNot_i64 o m (by omega) (by omega), and_i64 n m (by omega) (by omega), or_i64 _ _ (by omega) (by omega), mask_nat o n m (by omega) (by omega) l hm2]
  unfold putW
  rcases hl with rfl | rfl | rfl | rfl <;> simp <;> omega

theorem wrdOk_any (a : Int) (w : World) :
    Calls Try.prog 61 #[.int .i64 a] w fun e w' => e = .returned (.bool (wrdB a)) ∧ w' = w := by
  by_cases h1 : 0 ≤ a
  · by_cases h2 : a ≤ 65535
    · go_enter Try.func61, Try.ntmps61
      go_wp2
      go_ret
      exact ⟨by simp [wrdB, inB]; omega, rfl⟩
    · have hd : decide (a ≤ 65535) = false := by simpa using h2
      go_enter Try.func61, Try.ntmps61
      go_wp2
      go_ret
      exact ⟨by simp [wrdB, inB]; omega, rfl⟩
  · have hd : decide (0 ≤ a) = false := by simpa using h1
    go_enter Try.func61, Try.ntmps61
    go_wp2
    go_ret
    exact ⟨by simp [wrdB, inB]; omega, rfl⟩

theorem lanOk_any (a : Int) (w : World) :
    Calls Try.prog 62 #[.int .i64 a] w fun e w' => e = .returned (.bool (lanB a)) ∧ w' = w := by
  by_cases h1 : 0 ≤ a
  · by_cases h2 : a ≤ 3
    · go_enter Try.func62, Try.ntmps62
      go_wp2
      go_ret
      exact ⟨by simp [lanB, inB]; omega, rfl⟩
    · have hd : decide (a ≤ 3) = false := by simpa using h2
      go_enter Try.func62, Try.ntmps62
      go_wp2
      go_ret
      exact ⟨by simp [lanB, inB]; omega, rfl⟩
  · have hd : decide (0 ≤ a) = false := by simpa using h1
    go_enter Try.func62, Try.ntmps62
    go_wp2
    go_ret
    exact ⟨by simp [lanB, inB]; omega, rfl⟩

theorem mask_any (l : Int) (h : lanB l = true) (w : World) :
    Calls Try.prog 63 #[.int .i64 l] w fun e w' => e = .returned (.int .i64 (maskZ l)) ∧ w' = w := by
  rw [lanB_iff] at h
  have hl : l = 0 ∨ l = 1 ∨ l = 2 ∨ l = 3 := by omega
  rcases hl with rfl | rfl | rfl | rfl
  all_goals
    go_enter Try.func63, Try.ntmps63
    go_wp2
    go_ret
    exact ⟨by kernel_rfl, rfl⟩

theorem impl_WrdPut (o n l : Int) (w : World) :
    Calls Try.prog 25 #[.int .i64 o, .int .i64 n, .int .i64 l] w fun e w' => e = .returned (.int .i64 (wrdPutZ o n l)) ∧ w' = w := by
  cases h1 : wrdB o
  · go_enter Try.func25, Try.ntmps25
    go_wp2_with (first | (go_at_call 61; refine (wrdOk_any _ _).mono ?_; rintro e w' ⟨rfl, rfl⟩) | (go_at_call 62; refine (lanOk_any _ _).mono ?_; rintro e w' ⟨rfl, rfl⟩))
    go_ret
    exact ⟨by simp [wrdPutZ, h1], rfl⟩
  cases h2 : wrdB n
  · go_enter Try.func25, Try.ntmps25
    go_wp2_with (first | (go_at_call 61; refine (wrdOk_any _ _).mono ?_; rintro e w' ⟨rfl, rfl⟩) | (go_at_call 62; refine (lanOk_any _ _).mono ?_; rintro e w' ⟨rfl, rfl⟩))
    go_ret
    exact ⟨by simp [wrdPutZ, h2], rfl⟩
  cases h3 : lanB l
  · go_enter Try.func25, Try.ntmps25
    go_wp2_with (first | (go_at_call 61; refine (wrdOk_any _ _).mono ?_; rintro e w' ⟨rfl, rfl⟩) | (go_at_call 62; refine (lanOk_any _ _).mono ?_; rintro e w' ⟨rfl, rfl⟩))
    go_ret
    exact ⟨by simp [wrdPutZ, h3], rfl⟩
  have hm := mask_bits o n l h1 h2 h3
  go_enter Try.func25, Try.ntmps25
  go_wp2_with (first | (go_at_call 61; refine (wrdOk_any _ _).mono ?_; rintro e w' ⟨rfl, rfl⟩) | (go_at_call 62; refine (lanOk_any _ _).mono ?_; rintro e w' ⟨rfl, rfl⟩) | (go_at_call 63; refine (mask_any _ h3 _).mono ?_; rintro e w' ⟨rfl, rfl⟩))
  go_ret
  exact ⟨by rw [wrdPut_ok h1 h2 h3, ← hm]; rfl, rfl⟩

theorem spec_WrdPut (o n l : Int) (w : World) :
    Calls Try.prog 98 #[.int .i64 o, .int .i64 n, .int .i64 l] w fun e w' => e = .returned (.int .i64 (wrdPutZ o n l)) ∧ w' = w := by
  cases h1 : inB o 0 65535
  · go_enter Try.func98, Try.ntmps98
    go_wp2_with (go_at_call 42; refine (in_any _ _ _ _).mono ?_; rintro e w' ⟨rfl, rfl⟩)
    go_ret
    exact ⟨by simp [wrdPutZ, wrdB, h1], rfl⟩
  cases h2 : inB n 0 65535
  · go_enter Try.func98, Try.ntmps98
    go_wp2_with (go_at_call 42; refine (in_any _ _ _ _).mono ?_; rintro e w' ⟨rfl, rfl⟩)
    go_ret
    exact ⟨by simp [wrdPutZ, wrdB, h2], rfl⟩
  cases h3 : inB l 0 3
  · go_enter Try.func98, Try.ntmps98
    go_wp2_with (go_at_call 42; refine (in_any _ _ _ _).mono ?_; rintro e w' ⟨rfl, rfl⟩)
    go_ret
    exact ⟨by simp [wrdPutZ, lanB, h3], rfl⟩
  have g1 := (wrdB_iff o).1 h1
  have g2 := (wrdB_iff n).1 h2
  have g3 := (lanB_iff l).1 h3
  have hx := wrdPut_ok (o := o) (n := n) (l := l) h1 h2 h3
  have hl : l = 0 ∨ l = 1 ∨ l = 2 ∨ l = 3 := by omega
  obtain ⟨g1, g1'⟩ := g1
  obtain ⟨g2, g2'⟩ := g2
  have HX := Hid.intro hx
  clear hx g3
  rcases hl with rfl | rfl | rfl | rfl
  all_goals
    go_enter Try.func98, Try.ntmps98
    go_wp2_with (go_at_call 42; refine (in_any _ _ _ _).mono ?_; rintro e w' ⟨rfl, rfl⟩)
    go_ret
    exact ⟨by rw [HX.out]; simp [putW], rfl⟩

end Go.Proofs.Ytlifkfemdknndaa
