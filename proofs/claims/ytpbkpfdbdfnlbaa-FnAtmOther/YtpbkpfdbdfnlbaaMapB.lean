/-
  MapFind of the program and of the model: at every row of ranges, and every int, both answer 'mapFindZ'.
-/
import Derived.Test.YtpbkpfdbdfnlbaaProg
import Derived.Test.YtpbkpfdbdfnlbaaMapA
import Derived.WalkLawsBesides
namespace Go.Proofs.Ytpbkpfdbdfnlbaa
open Go.RowKit
set_option linter.unusedSimpArgs false
set_option linter.unusedVariables false

/-- ranges in memory -/
def RowOf (w : World) (a : Option Addr) (xs : List Rng) : Prop :=
  xs = [] ∨ ∃ b off, a = some ⟨b, off, none⟩ ∧ b < w.heap.size ∧ ∀ k (h : k < xs.length),
    w.cell? ⟨b, off + k * 4, none⟩ = some (.int .i64 xs[k].fr) ∧ w.cell? ⟨b, off + k * 4 + 1, none⟩ = some (.int .i64 xs[k].tt) ∧
    w.cell? ⟨b, off + k * 4 + 2, none⟩ = some (.int .i64 xs[k].sl) ∧ w.cell? ⟨b, off + k * 4 + 3, none⟩ = some (.bool xs[k].only)

theorem RowOf.of {w w' : World} {a : Option Addr} {xs : List Rng} (h : RowOf w a xs) (hs : w.heap.size ≤ w'.heap.size) (hb : ∀ b off, a = some ⟨b, off, none⟩ → b < w.heap.size → w'.heap[b]? = w.heap[b]?) : RowOf w' a xs := by
  rcases h with h | ⟨b, off, h1, h2, h3⟩
  · exact .inl h
  · refine .inr ⟨b, off, h1, by omega, fun k hk => ?_⟩
    obtain ⟨g0, g1, g2, g3⟩ := h3 k hk
    have e := hb b off h1 h2
    exact ⟨(World.cell?_of_block (w := w) (a := ⟨b, _, none⟩) e).trans g0, (World.cell?_of_block (w := w) (a := ⟨b, _, none⟩) e).trans g1, (World.cell?_of_block (w := w) (a := ⟨b, _, none⟩) e).trans g2, (World.cell?_of_block (w := w) (a := ⟨b, _, none⟩) e).trans g3⟩
theorem RowOf.below {w w' : World} {a : Option Addr} {xs : List Rng} (h : RowOf w a xs) (hb : Below w.heap.size w w') : RowOf w' a xs :=
  h.of hb.size (fun b _ _ hlt => hb.block b hlt)

set_option maxHeartbeats 1000000 in
theorem spec_l1Find (a : Option Addr) (cap : Nat) (xs : List Rng) (n : Int) (w : World) (hx : RowOf w a xs) (hc : xs.length ≤ cap) (hm : cap ≤ 9223372036854775807) :
    Calls Try.prog 75 #[.slice a xs.length cap, .int .i64 n] w fun e w' => e = .returned (.int .i64 (findAt xs n 0)) ∧ Below w.heap.size w w' := by
  go_enter Try.func75, Try.ntmps75
  go_wp2
  go_loopw [5] (fun i wr => ∃ k : Nat, k ≤ xs.length ∧ i = .int .i64 k ∧ Below w.heap.size w wr ∧ Hid (findAt (xs.drop k) n k = findAt xs n 0)) (fun i _ => xs.length - (intOf i).toNat)
  case atStart => exact ⟨0, Nat.zero_le _, rfl, Below.refl _ _, rfl⟩
  case round =>
    obtain ⟨k, hk, rfl, hbl, HF⟩ := hrel
    by_cases hlt : k < xs.length
    · rcases hx with hx | ⟨b, off, rfl, hb, hcells⟩
      · subst hx; simp at hlt
      · obtain ⟨g0, g1, g2, g3⟩ := hcells k hlt
        have c0 := (hbl.cell (p := ⟨b, off + k * 4, none⟩) hb).trans g0
        have c1 := (hbl.cell (p := ⟨b, off + k * 4 + 1, none⟩) hb).trans g1
        clear g0 g1 g2 g3 hcells
        have hk0 : (0 : Int) ≤ (k : Int) := by omega
        have hk1 : (k : Int) < (xs.length : Int) := by omega
        have HS := Hid.intro (findAt_step (n := n) hlt)
        go_wp2_with fail
        go_quiet ((go_at_call 33; exact Calls.quiet_of_same (in_any _ _ _ _)))
        have hbl1 : Below w.heap.size w (wr.drewN nq) := below_drewN hbl nq
        cases hin' : inB n xs[k].fr xs[k].tt
        · have hin : inRngB xs[k] n = false := hin'
          go_wp2
          go_roundw
          case rel => exact ⟨k + 1, by omega, by go_num, hbl1, by have := HF.out; rw [HS.out, hin] at this; exact this⟩
          case measure => simp [intOf]; omega
        · have hin : inRngB xs[k] n = true := hin'
          go_wp2
          go_ret
          exact ⟨by have := HF.out; rw [HS.out, hin] at this; rw [← this]; rfl, hbl1⟩
    · have HE := Hid.intro (findAt_end (n := n) (l := xs) (k := k) (by omega))
      go_wp2
      go_ret
      exact ⟨by have := HF.out; rw [HE.out] at this; rw [← this]; rfl, hbl⟩

end Go.Proofs.Ytpbkpfdbdfnlbaa
