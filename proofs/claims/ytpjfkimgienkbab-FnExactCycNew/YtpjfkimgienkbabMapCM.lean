/-
  MapOk of the program and of the model: at every row of ranges both answer 'mapOkB'.
-/
import Derived.Test.YtpjfkimgienkbabProg
import Derived.Test.YtpjfkimgienkbabAdr
import Derived.Test.YtpjfkimgienkbabWld
import Derived.WalkLawsBesides
/-
  Single ranges, as the program and the model look at them.
-/
namespace Go.Proofs.Ytpjfkimgienkbab
open Go.RowKit
set_option linter.unusedSimpArgs false
set_option linter.unusedVariables false

/-- a range as a Go value -/
def Rng.val (r : Rng) : Value := .agg #[.int .i64 r.fr, .int .i64 r.tt, .int .i64 r.sl, .bool r.only]

end Go.Proofs.Ytpjfkimgienkbab

/-
  MapFind of the program and of the model: at every row of ranges, and every int, both answer 'mapFindZ'.
-/
namespace Go.Proofs.Ytpjfkimgienkbab
open Go.RowKit
set_option linter.unusedSimpArgs false
set_option linter.unusedVariables false

/-- ranges in memory -/
def RowOf (w : World) (a : Option Addr) (xs : List Rng) : Prop :=
  xs = [] ∨ ∃ b off, a = some ⟨b, off, none⟩ ∧ b < w.heap.size ∧ ∀ k (h : k < xs.length),
    w.cell? ⟨b, off + k * 4, none⟩ = some (.int .i64 xs[k].fr) ∧ w.cell? ⟨b, off + k * 4 + 1, none⟩ = some (.int .i64 xs[k].tt) ∧
    w.cell? ⟨b, off + k * 4 + 2, none⟩ = some (.int .i64 xs[k].sl) ∧ w.cell? ⟨b, off + k * 4 + 3, none⟩ = some (.bool xs[k].only)

theorem RowOf.of {w w' : World} {a : Option Addr} {xs : List Rng} (h : RowOf w a xs) (hs : w.heap.size ≤ w'.heap.size) (hb : ∀ b off, a = some ⟨b, off, none⟩ → b < w.heap.size → w'.heap[b]? = w.heap[b]?) : RowOf w' a xs := by
  rcases h with h | ⟨b, off, h1, h2, h3⟩
  · exact .inl h
  · refine .inr ⟨b, off, h1, by omega, fun k hk => ?_⟩
    obtain ⟨g0, g1, g2, g3⟩ := h3 k hk
    have e := hb b off h1 h2
    exact ⟨(World.cell?_of_block (w := w) (a := ⟨b, _, none⟩) e).trans g0, (World.cell?_of_block (w := w) (a := ⟨b, _, none⟩) e).trans g1, (World.cell?_of_block (w := w) (a := ⟨b, _, none⟩) e).trans g2, (World.cell?_of_block (w := w) (a := ⟨b, _, none⟩) e).trans g3⟩
theorem RowOf.below {w w' : World} {a : Option Addr} {xs : List Rng} (h : RowOf w a xs) (hb : Below w.heap.size w w') : RowOf w' a xs :=
  h.of hb.size (fun b _ _ hlt => hb.block b hlt)

end Go.Proofs.Ytpjfkimgienkbab

namespace Go.Proofs.Ytpjfkimgienkbab
open Go.RowKit
set_option linter.unusedSimpArgs false
set_option linter.unusedVariables false

theorem mapOk_long {xs : List Rng} (h : 4 < xs.length) : mapOkB xs = false := by
  simp [mapOkB]; omega
theorem mapOk_short {xs : List Rng} (h : xs.length ≤ 4) : mapOkB xs = okAll [] xs := by
  simp [mapOkB, h]

theorem ok_cases (r : Rng) : (inB r.fr 0 r.tt = false ∧ rngOkB r = false) ∨ (inB r.fr 0 r.tt = true ∧ 63 < r.tt ∧ rngOkB r = false) ∨
    (inB r.fr 0 r.tt = true ∧ ¬ 63 < r.tt ∧ inB r.sl 0 2 = false ∧ rngOkB r = false) ∨ (inB r.fr 0 r.tt = true ∧ ¬ 63 < r.tt ∧ inB r.sl 0 2 = true ∧ rngOkB r = true) := by
  simp only [inB, rngOkB, decide_eq_true_eq, decide_eq_false_iff_not]; omega

end Go.Proofs.Ytpjfkimgienkbab
