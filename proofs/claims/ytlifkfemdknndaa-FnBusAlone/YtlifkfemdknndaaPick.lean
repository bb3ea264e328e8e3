/-
  spec's l20Rd: 'pick(n)' answers a number from 0 to n-1, whatever the code; it turns the reader's place alone.
-/
import Derived.Test.YtlifkfemdknndaaProg
import Derived.Test.YtlifkfemdknndaaWld
namespace Go.Proofs.Ytlifkfemdknndaa
open Go.RowKit
set_option linter.unusedSimpArgs false
set_option linter.unusedVariables false

theorem xor_i64_nat (a b : Nat) (ha : a < 4294967296) (hb : b < 4294967296) : bits .xor .i64 (a : Int) (b : Int) = ((a ^^^ b : Nat) : Int) := by
  have hx : a ^^^ b < 2 ^ 32 := Nat.xor_lt_two_pow (by omega) (by omega)
  have h1 : (BitVec.ofInt 64 (a : Int)).toNat = a := by
    rw [BitVec.ofInt_natCast, BitVec.toNat_ofNat]; exact Nat.mod_eq_of_lt (by omega)
  have h2 : (BitVec.ofInt 64 (b : Int)).toNat = b := by
    rw [BitVec.ofInt_natCast, BitVec.toNat_ofNat]; exact Nat.mod_eq_of_lt (by omega)
  show IntKind.i64.wrap ((BitVec.ofInt 64 (a : Int) ^^^ BitVec.ofInt 64 (b : Int)).toNat : Int) = _
  rw [BitVec.toNat_xor, h1, h2, IntKind.wrap_i64]
  omega

theorem xor_i64_nonneg (a b : Int) (h1 : 0 ≤ a) (h2 : a < 4294967296) (h3 : 0 ≤ b) (h4 : b < 4294967296) : 0 ≤ bits .xor .i64 a b := by
  obtain ⟨a, rfl⟩ := Int.eq_ofNat_of_zero_le h1
  obtain ⟨b, rfl⟩ := Int.eq_ofNat_of_zero_le h3
  rw [xor_i64_nat a b (by omega) (by omega)]
  omega

theorem tmod_in (a n : Int) (h : 0 ≤ a) (hn : 1 ≤ n) : 0 ≤ a.tmod n ∧ a.tmod n < n :=
  ⟨Int.tmod_nonneg _ h, Int.tmod_lt_of_pos _ (by omega)⟩

set_option maxHeartbeats 1000000 in
theorem pick_any (B p : Nat) (n : Int) (w : World) (h : Rd w B p) (hp : p ≤ 1000000) (hn : 1 ≤ n) (hn' : n ≤ 1000000) :
    Calls Try.prog 37 #[.pointer (some ⟨B, 0, none⟩), .int .i64 n] w fun e w' => ∃ k : Int, 0 ≤ k ∧ k < n ∧ e = .returned (.int .i64 k) ∧ Rd w' B (p + 1) ∧ Keep B w w' := by
  have hst := h.step
  obtain ⟨a, len, cap, h1, h2, h3, h4, h5, h6, h7⟩ := h
  have hK : Keep B w (w.setCell ⟨B, 1, none⟩ (.int .i64 ((p : Int) + 1))) := (Keep.refl B w).setCell (.inl rfl) _
  rcases h7 with rfl | ⟨b, off, rfl, hb, hc⟩
  · go_enter Try.func37, Try.ntmps37
    go_wp2
    go_ret
    exact ⟨0, by omega, by omega, rfl, hst, hK⟩
  · by_cases h0 : len = 0
    · subst h0
      go_enter Try.func37, Try.ntmps37
      go_wp2
      go_ret
      exact ⟨0, by omega, by omega, rfl, hst, hK⟩
    · by_cases hpl : p < len
      · obtain ⟨x, hx0, hx1, hx⟩ := hc p hpl
        clear hc
        have hl0 : ((len : Int) == 0) = false := by simp; omega
        go_enter Try.func37, Try.ntmps37
        go_wp2
        go_ret
        refine ⟨x % n, Int.emod_nonneg _ (by omega), Int.emod_lt_of_pos _ (by omega), ?_, hst, hK⟩
        rfl
      · obtain ⟨x, hx0, hx1, hx⟩ := hc (p % len) (Nat.mod_lt _ (by omega))
        obtain ⟨y, hy0, hy1, hy⟩ := hc ((p * 7 + 3) % len) (Nat.mod_lt _ (by omega))
        clear hc
        have hl0 : ((len : Int) == 0) = false := by simp; omega
        have hl1 : (1 : Int) ≤ (len : Int) := by omega
        have q5 : (0 : Int) ≤ (p : Int) / (len : Int) := Int.ediv_nonneg (by omega) (by omega)
        have q6 : (p : Int) / (len : Int) ≤ (p : Int) := Int.ediv_le_self _ (by omega)
        have hfin : ∀ X : Int, 0 ≤ X → X < 4294967296 → 0 ≤ (bits .xor .i64 X (X / 64)).tmod n ∧ (bits .xor .i64 X (X / 64)).tmod n < n := fun X h h' => tmod_in _ _ (xor_i64_nonneg X (X / 64) h h' (by omega) (by omega)) hn
        have HF := Hid.intro hfin
        clear hfin
        have q1 : (0 : Int) ≤ (p : Int) % (len : Int) := Int.emod_nonneg _ (by omega)
        have q2 : (p : Int) % (len : Int) < (len : Int) := Int.emod_lt_of_pos _ (by omega)
        have q3 : (0 : Int) ≤ ((p : Int) * 7 + 3) % (len : Int) := Int.emod_nonneg _ (by omega)
        have q4 : ((p : Int) * 7 + 3) % (len : Int) < (len : Int) := Int.emod_lt_of_pos _ (by omega)
        go_enter Try.func37, Try.ntmps37
        go_wp2
        go_quiet (fail)
        go_wp2
        go_ret
        have hf := HF.out (x * 131 + y * 1117 + (p : Int) * 29 + (p : Int) / (len : Int) * 53) (by omega) (by omega)
        exact ⟨_, hf.1, hf.2, rfl, hst.drewN _, hK.drewN _⟩
end Go.Proofs.Ytlifkfemdknndaa
