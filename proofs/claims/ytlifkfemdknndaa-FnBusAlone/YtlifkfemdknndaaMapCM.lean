/-
  MapOk of the program and of the model: at every row of ranges both answer 'mapOkB'.
-/
import Derived.Test.YtlifkfemdknndaaProg
import Derived.Test.YtlifkfemdknndaaAdr
import Derived.Test.YtlifkfemdknndaaWld
import Derived.WalkLawsBesides
/-
  Single ranges, as the program and the model look at them.
-/
namespace Go.Proofs.Ytlifkfemdknndaa
open Go.RowKit
set_option linter.unusedSimpArgs false
set_option linter.unusedVariables false

/-- a range as a Go value -/
def Rng.val (r : Rng) : Value := .agg #[.int .i64 r.fr, .int .i64 r.tt, .int .i64 r.sl, .bool r.only]

theorem isIn_any (r : Rng) (n : Int) (w : World) :
    Calls Try.prog 93 #[.int .i64 n, .agg #[.int .i64 r.fr, .int .i64 r.tt, .int .i64 r.sl, .bool r.only]] w fun e w' => e = .returned (.bool (inRngB r n)) ∧ Below w.heap.size w w' := by
  have hbl : ∀ o, Below w.heap.size w (w.alloc o) := fun o => (Below.refl _ w).alloc (Nat.le_refl _) o
  by_cases h1 : r.fr ≤ n
  · by_cases h2 : n ≤ r.tt
    · go_enter Try.func93, Try.ntmps93
      go_wp2
      go_ret
      exact ⟨by simp [inRngB]; omega, hbl _⟩
    · have hd : decide (n ≤ r.tt) = false := by simpa using h2
      go_enter Try.func93, Try.ntmps93
      go_wp2
      go_ret
      exact ⟨by simp [inRngB]; omega, hbl _⟩
  · have hd : decide (r.fr ≤ n) = false := by simpa using h1
    go_enter Try.func93, Try.ntmps93
    go_wp2
    go_ret
    exact ⟨by simp [inRngB]; omega, hbl _⟩

theorem meet_any (r s : Rng) (w : World) :
    Calls Try.prog 67 #[.agg #[.int .i64 r.fr, .int .i64 r.tt, .int .i64 r.sl, .bool r.only], .agg #[.int .i64 s.fr, .int .i64 s.tt, .int .i64 s.sl, .bool s.only]] w fun e w' => e = .returned (.bool (rngMeetB r s)) ∧ Below w.heap.size w w' := by
  have hbl : ∀ o o', Below w.heap.size w ((w.alloc o).alloc o') := fun o o' => ((Below.refl _ w).alloc (Nat.le_refl _) o).alloc (by simp) o'
  by_cases h1 : r.fr ≤ s.tt
  · by_cases h2 : s.fr ≤ r.tt
    · go_enter Try.func67, Try.ntmps67
      go_wp2
      go_ret
      exact ⟨by simp [rngMeetB]; omega, hbl _ _⟩
    · have hd : decide (s.fr ≤ r.tt) = false := by simpa using h2
      go_enter Try.func67, Try.ntmps67
      go_wp2
      go_ret
      exact ⟨by simp [rngMeetB]; omega, hbl _ _⟩
  · have hd : decide (r.fr ≤ s.tt) = false := by simpa using h1
    go_enter Try.func67, Try.ntmps67
    go_wp2
    go_ret
    exact ⟨by simp [rngMeetB]; omega, hbl _ _⟩

theorem rangeOk_any (r : Rng) (w : World) :
    Calls Try.prog 66 #[.agg #[.int .i64 r.fr, .int .i64 r.tt, .int .i64 r.sl, .bool r.only]] w fun e w' => e = .returned (.bool (rngOkB r)) ∧ Below w.heap.size w w' := by
  have hbl : ∀ o, Below w.heap.size w (w.alloc o) := fun o => (Below.refl _ w).alloc (Nat.le_refl _) o
  by_cases h1 : 0 ≤ r.fr ∧ r.fr ≤ 63
  · have d1 : inB r.fr 0 63 = true := inB_t h1
    by_cases h2 : 0 ≤ r.tt ∧ r.tt ≤ 63
    · have d2 : inB r.tt 0 63 = true := inB_t h2
      by_cases h3 : r.fr ≤ r.tt
      · by_cases h4 : 0 ≤ r.sl
        · by_cases h5 : r.sl < 3
          · go_enter Try.func66, Try.ntmps66
            go_wp2_with (go_at_call 69; refine (adr_ok_any _ _).mono ?_; rintro e w' ⟨rfl, rfl⟩)
            go_ret
            exact ⟨by simp [rngOkB]; omega, hbl _⟩
          · have d5 : decide (r.sl < 3) = false := by simpa using h5
            go_enter Try.func66, Try.ntmps66
            go_wp2_with (go_at_call 69; refine (adr_ok_any _ _).mono ?_; rintro e w' ⟨rfl, rfl⟩)
            go_ret
            exact ⟨by simp [rngOkB]; omega, hbl _⟩
        · have d4 : decide (0 ≤ r.sl) = false := by simpa using h4
          go_enter Try.func66, Try.ntmps66
          go_wp2_with (go_at_call 69; refine (adr_ok_any _ _).mono ?_; rintro e w' ⟨rfl, rfl⟩)
          go_ret
          exact ⟨by simp [rngOkB]; omega, hbl _⟩
      · have d3 : decide (r.fr ≤ r.tt) = false := by simpa using h3
        go_enter Try.func66, Try.ntmps66
        go_wp2_with (go_at_call 69; refine (adr_ok_any _ _).mono ?_; rintro e w' ⟨rfl, rfl⟩)
        go_ret
        exact ⟨by simp [rngOkB]; omega, hbl _⟩
    · have d2 : inB r.tt 0 63 = false := inB_f h2
      go_enter Try.func66, Try.ntmps66
      go_wp2_with (go_at_call 69; refine (adr_ok_any _ _).mono ?_; rintro e w' ⟨rfl, rfl⟩)
      go_ret
      exact ⟨by simp [rngOkB]; omega, hbl _⟩
  · have d1 : inB r.fr 0 63 = false := inB_f h1
    go_enter Try.func66, Try.ntmps66
    go_wp2_with (go_at_call 69; refine (adr_ok_any _ _).mono ?_; rintro e w' ⟨rfl, rfl⟩)
    go_ret
    exact ⟨by simp [rngOkB]; omega, hbl _⟩

end Go.Proofs.Ytlifkfemdknndaa

/-
  MapFind of the program and of the model: at every row of ranges, and every int, both answer 'mapFindZ'.
-/
namespace Go.Proofs.Ytlifkfemdknndaa
open Go.RowKit
set_option linter.unusedSimpArgs false
set_option linter.unusedVariables false

/-- ranges in memory -/
def RowOf (w : World) (a : Option Addr) (xs : List Rng) : Prop :=
  xs = [] ∨ ∃ b off, a = some ⟨b, off, none⟩ ∧ b < w.heap.size ∧ ∀ k (h : k < xs.length),
    w.cell? ⟨b, off + k * 4, none⟩ = some (.int .i64 xs[k].fr) ∧ w.cell? ⟨b, off + k * 4 + 1, none⟩ = some (.int .i64 xs[k].tt) ∧
    w.cell? ⟨b, off + k * 4 + 2, none⟩ = some (.int .i64 xs[k].sl) ∧ w.cell? ⟨b, off + k * 4 + 3, none⟩ = some (.bool xs[k].only)

theorem RowOf.of {w w' : World} {a : Option Addr} {xs : List Rng} (h : RowOf w a xs) (hs : w.heap.size ≤ w'.heap.size) (hb : ∀ b off, a = some ⟨b, off, none⟩ → b < w.heap.size → w'.heap[b]? = w.heap[b]?) : RowOf w' a xs := by
  rcases h with h | ⟨b, off, h1, h2, h3⟩
  · exact .inl h
  · refine .inr ⟨b, off, h1, by omega, fun k hk => ?_⟩
    obtain ⟨g0, g1, g2, g3⟩ := h3 k hk
    have e := hb b off h1 h2
    exact ⟨(World.cell?_of_block (w := w) (a := ⟨b, _, none⟩) e).trans g0, (World.cell?_of_block (w := w) (a := ⟨b, _, none⟩) e).trans g1, (World.cell?_of_block (w := w) (a := ⟨b, _, none⟩) e).trans g2, (World.cell?_of_block (w := w) (a := ⟨b, _, none⟩) e).trans g3⟩
theorem RowOf.below {w w' : World} {a : Option Addr} {xs : List Rng} (h : RowOf w a xs) (hb : Below w.heap.size w w') : RowOf w' a xs :=
  h.of hb.size (fun b _ _ hlt => hb.block b hlt)

set_option maxHeartbeats 1000000 in
theorem spec_l1Find (a : Option Addr) (cap : Nat) (xs : List Rng) (n : Int) (w : World) (hx : RowOf w a xs) (hc : xs.length ≤ cap) (hm : cap ≤ 9223372036854775807) :
    Calls Try.prog 92 #[.slice a xs.length cap, .int .i64 n] w fun e w' => e = .returned (.int .i64 (findAt xs n 0)) ∧ Below w.heap.size w w' := by
  go_enter Try.func92, Try.ntmps92
  go_wp2
  go_loopw [5] (fun i wr => ∃ k : Nat, k ≤ xs.length ∧ i = .int .i64 k ∧ Below w.heap.size w wr ∧ Hid (findAt (xs.drop k) n k = findAt xs n 0)) (fun i _ => xs.length - (intOf i).toNat)
  case atStart => exact ⟨0, Nat.zero_le _, rfl, Below.refl _ _, rfl⟩
  case round =>
    obtain ⟨k, hk, rfl, hbl, HF⟩ := hrel
    by_cases hlt : k < xs.length
    · rcases hx with hx | ⟨b, off, rfl, hb, hcells⟩
      · subst hx; simp at hlt
      · obtain ⟨g0, g1, g2, g3⟩ := hcells k hlt
        have c0 := (hbl.cell (p := ⟨b, off + k * 4, none⟩) hb).trans g0
        have c1 := (hbl.cell (p := ⟨b, off + k * 4 + 1, none⟩) hb).trans g1
        clear g0 g1 g2 g3 hcells
        have hk0 : (0 : Int) ≤ (k : Int) := by omega
        have hk1 : (k : Int) < (xs.length : Int) := by omega
        have HS := Hid.intro (findAt_step (n := n) hlt)
        go_wp2_with fail
        go_quiet ((go_at_call 42; exact Calls.quiet_of_same (in_any _ _ _ _)))
        have hbl1 : Below w.heap.size w (wr.drewN nq) := below_drewN hbl nq
        cases hin' : inB n xs[k].fr xs[k].tt
        · have hin : inRngB xs[k] n = false := hin'
          go_wp2
          go_roundw
          case rel => exact ⟨k + 1, by omega, by go_num, hbl1, by have := HF.out; rw [HS.out, hin] at this; exact this⟩
          case measure => simp [intOf]; omega
        · have hin : inRngB xs[k] n = true := hin'
          go_wp2
          go_ret
          exact ⟨by have := HF.out; rw [HS.out, hin] at this; rw [← this]; rfl, hbl1⟩
    · have HE := Hid.intro (findAt_end (n := n) (l := xs) (k := k) (by omega))
      go_wp2
      go_ret
      exact ⟨by have := HF.out; rw [HE.out] at this; rw [← this]; rfl, hbl⟩

end Go.Proofs.Ytlifkfemdknndaa

namespace Go.Proofs.Ytlifkfemdknndaa
open Go.RowKit
set_option linter.unusedSimpArgs false
set_option linter.unusedVariables false

theorem mapOk_long {xs : List Rng} (h : 4 < xs.length) : mapOkB xs = false := by
  simp [mapOkB]; omega
theorem mapOk_short {xs : List Rng} (h : xs.length ≤ 4) : mapOkB xs = okAll [] xs := by
  simp [mapOkB, h]

set_option maxHeartbeats 2000000 in
theorem impl_MapOk (a : Option Addr) (cap : Nat) (xs : List Rng) (w : World) (hx : RowOf w a xs) (hc : xs.length ≤ cap) (hm : cap ≤ 9223372036854775807) :
    Calls Try.prog 29 #[.slice a xs.length cap] w fun e w' => e = .returned (.bool (mapOkB xs)) ∧ Below w.heap.size w w' := by
  by_cases hlen : 4 < xs.length
  · have hI : (4 : Int) < (xs.length : Int) := by omega
    have H := Hid.intro (mapOk_long hlen)
    go_enter Try.func29, Try.ntmps29
    go_wp2
    go_ret
    exact ⟨by rw [H.out]; rfl, Below.refl _ _⟩
  · have hI : ¬ (4 : Int) < (xs.length : Int) := by omega
    have H := Hid.intro (mapOk_short (xs := xs) (by omega))
    go_enter Try.func29, Try.ntmps29
    go_wp2
    go_loopw [12] (fun i wr => ∃ k : Nat, k ≤ xs.length ∧ i = .int .i64 k ∧ Below w.heap.size w wr ∧ Hid (okAll (xs.take k) (xs.drop k) = okAll [] xs)) (fun i _ => xs.length - (intOf i).toNat)
    case atStart => exact ⟨0, Nat.zero_le _, rfl, Below.refl _ _, rfl⟩
    case round =>
      obtain ⟨k, hk, rfl, hbl, HF⟩ := hrel
      by_cases hlt : k < xs.length
      · rcases hx with hx | ⟨b, off, rfl, hb, hcells⟩
        · subst hx; simp at hlt
        · obtain ⟨g0, g1, g2, g3⟩ := hcells k hlt
          have c0 := (hbl.cell (p := ⟨b, off + k * 4, none⟩) hb).trans g0
          have c1 := (hbl.cell (p := ⟨b, off + k * 4 + 1, none⟩) hb).trans g1
          have c2 := (hbl.cell (p := ⟨b, off + k * 4 + 2, none⟩) hb).trans g2
          have c3 := (hbl.cell (p := ⟨b, off + k * 4 + 3, none⟩) hb).trans g3
          clear g0 g1 g2 g3
          have hs := hbl.size
          have HC := Hid.intro hcells
          clear hcells
          have HS := Hid.intro (ok_step hlt)
          go_wp2_with fail
          refine (rangeOk_any xs[k] _).mono ?_
          rintro e w1 ⟨rfl, hb1⟩
          have hs1 := hb1.size
          have hbl1 : Below w.heap.size w w1 := (hbl.alloc hs _).trans (hb1.mono (by simp; omega))
          have d0 : w1.cell? ⟨wr.heap.size, 0, none⟩ = some (.int .i64 xs[k].fr) := (hb1.cell (p := ⟨wr.heap.size, 0, none⟩) (by simp)).trans (by simp)
          have d1 : w1.cell? ⟨wr.heap.size, 1, none⟩ = some (.int .i64 xs[k].tt) := (hb1.cell (p := ⟨wr.heap.size, 1, none⟩) (by simp)).trans (by simp)
          have d2 : w1.cell? ⟨wr.heap.size, 2, none⟩ = some (.int .i64 xs[k].sl) := (hb1.cell (p := ⟨wr.heap.size, 2, none⟩) (by simp)).trans (by simp)
          have d3 : w1.cell? ⟨wr.heap.size, 3, none⟩ = some (.bool xs[k].only) := (hb1.cell (p := ⟨wr.heap.size, 3, none⟩) (by simp)).trans (by simp)
          have hA : wr.heap.size < w1.heap.size := by simp at hs1; omega
          clear hb1 c0 c1 c2 c3
          cases hok : rngOkB xs[k]
          · go_wp2
            go_ret
            exact ⟨by rw [H.out, ← HF.out, HS.out, hok]; rfl, hbl1⟩
          · have hkc : (k : Int) ≤ (cap : Int) := by omega
            go_wp2
            obtain ⟨A, hAe⟩ : ∃ A : Nat, A = wr.heap.size := ⟨_, rfl⟩
            rw [← hAe] at d0 d1 d2 d3 hA ⊢
            clear hAe
            go_loopw [24] (fun i wq => ∃ j : Nat, j ≤ k ∧ i = .int .i64 j ∧ Below w1.heap.size w1 wq ∧ Hid (okAhead (xs.take j) xs[k] = true)) (fun i _ => k - (intOf i).toNat)
            case atStart => exact ⟨0, Nat.zero_le _, rfl, Below.refl _ _, by simp [Hid, okAhead]⟩
            case round =>
              obtain ⟨j, hj, rfl, hbq, HA⟩ := hrel
              have hsq := hbq.size
              by_cases hjk : j < k
              · obtain ⟨g0, g1, g2, g3⟩ := HC.out j (by omega)
                have hbw := hbl1.trans (hbq.mono hbl1.size)
                have c0 := (hbw.cell (p := ⟨b, off + j * 4, none⟩) hb).trans g0
                have c1 := (hbw.cell (p := ⟨b, off + j * 4 + 1, none⟩) hb).trans g1
                have c2 := (hbw.cell (p := ⟨b, off + j * 4 + 2, none⟩) hb).trans g2
                have c3 := (hbw.cell (p := ⟨b, off + j * 4 + 3, none⟩) hb).trans g3
                have e0 := (hbq.cell (p := ⟨A, 0, none⟩) hA).trans d0
                have e1 := (hbq.cell (p := ⟨A, 1, none⟩) hA).trans d1
                have e2 := (hbq.cell (p := ⟨A, 2, none⟩) hA).trans d2
                have e3 := (hbq.cell (p := ⟨A, 3, none⟩) hA).trans d3
                clear g0 g1 g2 g3
                have hAq : A < wr.heap.size := by omega
                have HT := Hid.intro (ahead_step (r := xs[k]) (show j < xs.length by omega))
                go_wp2_with fail
                refine (meet_any xs[j] xs[k] _).mono ?_
                rintro e w2 ⟨rfl, hb2⟩
                have hs2 := hb2.size
                have hbq2 : Below w1.heap.size w1 w2 := (hbq.alloc hsq _).trans (hb2.mono (by simp; omega))
                clear hb2 c0 c1 c2 c3 e0 e1 e2 e3
                cases hmeet : rngMeetB xs[j] xs[k]
                · go_wp2
                  go_roundw
                  case rel => exact ⟨j + 1, by omega, by go_num, hbq2, by have := HT.out; rw [HA.out, hmeet] at this; exact this⟩
                  case measure => simp [intOf]; omega
                · have HH := Hid.intro (ahead_hit (r := xs[k]) (show j < xs.length by omega) hjk hmeet)
                  go_wp2
                  go_ret
                  exact ⟨by rw [H.out, ← HF.out, HS.out, HH.out, hok]; rfl, hbl1.trans (hbq2.mono hbl1.size)⟩
              · have hjk' : j = k := by omega
                have HA' : Hid (okAhead (xs.take k) xs[k] = true) := by subst hjk'; exact HA
                clear HA hjk'
                go_wp2
                go_roundw
                case rel => exact ⟨k + 1, by omega, by go_num, hbl1.trans (hbq.mono hbl1.size), by have := HF.out; rw [HS.out, hok, HA'.out] at this; simpa [Hid] using this⟩
                case measure => simp [intOf]; omega
      · have HE := Hid.intro (ok_end (l := xs) (k := k) (by omega))
        go_wp2
        go_ret
        exact ⟨by rw [H.out, ← HF.out, HE.out]; rfl, hbl⟩

theorem ok_cases (r : Rng) : (inB r.fr 0 r.tt = false ∧ rngOkB r = false) ∨ (inB r.fr 0 r.tt = true ∧ 63 < r.tt ∧ rngOkB r = false) ∨
    (inB r.fr 0 r.tt = true ∧ ¬ 63 < r.tt ∧ inB r.sl 0 2 = false ∧ rngOkB r = false) ∨ (inB r.fr 0 r.tt = true ∧ ¬ 63 < r.tt ∧ inB r.sl 0 2 = true ∧ rngOkB r = true) := by
  simp only [inB, rngOkB, decide_eq_true_eq, decide_eq_false_iff_not]; omega

set_option maxHeartbeats 4000000 in
theorem spec_MapOk (a : Option Addr) (cap : Nat) (xs : List Rng) (w : World) (hx : RowOf w a xs) (hc : xs.length ≤ cap) (hm : cap ≤ 9223372036854775807) :
    Calls Try.prog 33 #[.slice a xs.length cap] w fun e w' => e = .returned (.bool (mapOkB xs)) ∧ Below w.heap.size w w' := by
  by_cases hlen : 4 < xs.length
  · have hI : (4 : Int) < (xs.length : Int) := by omega
    have H := Hid.intro (mapOk_long hlen)
    go_enter Try.func33, Try.ntmps33
    go_wp2
    go_ret
    exact ⟨by rw [H.out]; rfl, Below.refl _ _⟩
  · have hI : ¬ (4 : Int) < (xs.length : Int) := by omega
    have H := Hid.intro (mapOk_short (xs := xs) (by omega))
    go_enter Try.func33, Try.ntmps33
    go_wp2
    go_loopw [3] (fun i wr => ∃ k : Nat, k ≤ xs.length ∧ i = .int .i64 k ∧ Below w.heap.size w wr ∧ Hid (okAll (xs.take k) (xs.drop k) = okAll [] xs)) (fun i _ => xs.length - (intOf i).toNat)
    case atStart => exact ⟨0, Nat.zero_le _, rfl, Below.refl _ _, rfl⟩
    case round =>
      obtain ⟨k, hk, rfl, hbl, HF⟩ := hrel
      by_cases hlt : k < xs.length
      · rcases hx with hx | ⟨b, off, rfl, hb, hcells⟩
        · subst hx; simp at hlt
        · obtain ⟨g0, g1, g2, g3⟩ := hcells k hlt
          have c0 := (hbl.cell (p := ⟨b, off + k * 4, none⟩) hb).trans g0
          have c1 := (hbl.cell (p := ⟨b, off + k * 4 + 1, none⟩) hb).trans g1
          have c2 := (hbl.cell (p := ⟨b, off + k * 4 + 2, none⟩) hb).trans g2
          have c3 := (hbl.cell (p := ⟨b, off + k * 4 + 3, none⟩) hb).trans g3
          clear g0 g1 g2 g3
          have hs := hbl.size
          have HC := Hid.intro hcells
          clear hcells
          have HS := Hid.intro (ok_step hlt)
          have hk0 : (0 : Int) ≤ (k : Int) := by omega
          have hk1 : (k : Int) < (xs.length : Int) := by omega
          rcases ok_cases xs[k] with ⟨q1, hok⟩ | ⟨q1, q2, hok⟩ | ⟨q1, q2, q3, hok⟩ | ⟨q1, q2, q3, hok⟩
          · go_wp2_with (go_at_call 42; refine (in_any _ _ _ _).mono ?_; rintro e w' ⟨rfl, rfl⟩)
            go_ret
            exact ⟨by rw [H.out, ← HF.out, HS.out, hok]; rfl, hbl.alloc hs _⟩
          · go_wp2_with (go_at_call 42; refine (in_any _ _ _ _).mono ?_; rintro e w' ⟨rfl, rfl⟩)
            go_ret
            exact ⟨by rw [H.out, ← HF.out, HS.out, hok]; rfl, hbl.alloc hs _⟩
          · go_wp2_with (go_at_call 42; refine (in_any _ _ _ _).mono ?_; rintro e w' ⟨rfl, rfl⟩)
            go_ret
            exact ⟨by rw [H.out, ← HF.out, HS.out, hok]; rfl, hbl.alloc hs _⟩
          · go_wp2_with (go_at_call 42; refine (in_any _ _ _ _).mono ?_; rintro e w' ⟨rfl, rfl⟩)
            obtain ⟨w1, hw1⟩ : ∃ w1, w1 = wr.alloc (.cells #[.int .i64 xs[k].fr, .int .i64 xs[k].tt, .int .i64 xs[k].sl, .bool xs[k].only] 70) := ⟨_, rfl⟩
            have d0 : w1.cell? ⟨wr.heap.size, 0, none⟩ = some (.int .i64 xs[k].fr) := by rw [hw1]; simp
            have d1 : w1.cell? ⟨wr.heap.size, 1, none⟩ = some (.int .i64 xs[k].tt) := by rw [hw1]; simp
            have hA : wr.heap.size < w1.heap.size := by rw [hw1]; simp
            have hbl1 : Below w.heap.size w w1 := by rw [hw1]; exact hbl.alloc hs _
            rw [← hw1]
            clear hw1 c0 c1 c2 c3
            obtain ⟨A, hAe⟩ : ∃ A : Nat, A = wr.heap.size := ⟨_, rfl⟩
            rw [← hAe] at d0 d1 hA ⊢
            clear hAe q1 q2 q3
            go_loopw [5] (fun i wq => ∃ j : Nat, j ≤ k ∧ i = .int .i64 j ∧ Below w1.heap.size w1 wq ∧ Hid (okAhead (xs.take j) xs[k] = true)) (fun i _ => k - (intOf i).toNat)
            case atStart => exact ⟨0, Nat.zero_le _, rfl, Below.refl _ _, by simp [Hid, okAhead]⟩
            case round =>
              obtain ⟨j, hj, rfl, hbq, HA⟩ := hrel
              have hsq := hbq.size
              by_cases hjk : j < k
              · have hbw := hbl1.trans (hbq.mono hbl1.size)
                obtain ⟨g0, g1, g2, g3⟩ := HC.out j (by omega)
                have c0 := (hbw.cell (p := ⟨b, off + j * 4, none⟩) hb).trans g0
                have c1 := (hbw.cell (p := ⟨b, off + j * 4 + 1, none⟩) hb).trans g1
                have e0 := (hbq.cell (p := ⟨A, 0, none⟩) hA).trans d0
                have e1 := (hbq.cell (p := ⟨A, 1, none⟩) hA).trans d1
                clear g0 g1 g2 g3
                have HT := Hid.intro (ahead_step (r := xs[k]) (show j < xs.length by omega))
                have hj0 : (0 : Int) ≤ (j : Int) := by omega
                have hj1 : (j : Int) < (xs.length : Int) := by omega
                by_cases m1 : xs[k].fr ≤ xs[j].tt
                · by_cases m2 : xs[j].fr ≤ xs[k].tt
                  · have HH := Hid.intro (ahead_hit (r := xs[k]) (show j < xs.length by omega) hjk (by simp [rngMeetB]; omega))
                    go_wp2_with fail
                    go_quiet (fail)
                    go_wp2
                    go_ret
                    exact ⟨by rw [H.out, ← HF.out, HS.out, HH.out, hok]; rfl, below_drewN (hbl1.trans (hbq.mono hbl1.size)) nq⟩
                  · have n2 : decide (xs[j].fr ≤ xs[k].tt) = false := by simpa using m2
                    have hmeet : Hid (rngMeetB xs[j] xs[k] = false) := by simp [Hid, rngMeetB]; omega
                    go_wp2_with fail
                    go_quiet (fail)
                    go_wp2
                    go_roundw
                    case rel => exact ⟨j + 1, by omega, by go_num, below_drewN hbq nq, by have := HT.out; rw [HA.out, hmeet.out] at this; exact this⟩
                    case measure => simp [intOf]; omega
                · have n1 : decide (xs[k].fr ≤ xs[j].tt) = false := by simpa using m1
                  have hmeet : Hid (rngMeetB xs[j] xs[k] = false) := by simp [Hid, rngMeetB]; omega
                  go_wp2_with fail
                  go_quiet (fail)
                  go_wp2
                  go_roundw
                  case rel => exact ⟨j + 1, by omega, by go_num, below_drewN hbq nq, by have := HT.out; rw [HA.out, hmeet.out] at this; exact this⟩
                  case measure => simp [intOf]; omega
              · have hjk' : j = k := by omega
                have HA' : Hid (okAhead (xs.take k) xs[k] = true) := by subst hjk'; exact HA
                clear HA hjk'
                go_wp2
                go_roundw
                case rel => exact ⟨k + 1, by omega, by go_num, hbl1.trans (hbq.mono hbl1.size), by have := HF.out; rw [HS.out, hok, HA'.out] at this; simpa [Hid] using this⟩
                case measure => simp [intOf]; omega
      · have HE := Hid.intro (ok_end (l := xs) (k := k) (by omega))
        go_wp2
        go_ret
        exact ⟨by rw [H.out, ← HF.out, HE.out]; rfl, hbl⟩

end Go.Proofs.Ytlifkfemdknndaa
