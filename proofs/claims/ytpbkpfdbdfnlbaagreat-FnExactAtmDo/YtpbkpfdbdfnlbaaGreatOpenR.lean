/-
  An argument of ranges, opened: what it reads as lies in memory as a row of ranges.
-/
import Derived.Test.YtpbkpfdbdfnlbaaGreatRows
import Derived.Test.YtpbkpfdbdfnlbaaGreatMapCM
import Derived.WalkKit
import Derived.ProofKit
import Derived.OpenShut
import Derived.ShutString
import Derived.ChangeOld
import Derived.Below
import Derived.Deep.Slices
import Derived.Lib.SmallJoins
namespace Go.Proofs.YtpbkpfdbdfnlbaaGreat
open Go.ChangeShapes Go.WideShapes Go.ChangeAt Go.RowKit Go.Deep Go.Joins
set_option linter.unusedSimpArgs false
set_option linter.unusedVariables false

theorem own : ownKnob Tryz.prog.godebug = none := by kernel_rfl
theorem laidOut : laidOutB Tryz.prog = true := by kernel_rfl

theorem lt_of_cell {w : World} {a : Addr} {v : Value} (h : w.cell? a = some v) : a.block < w.heap.size := by
  rcases Nat.lt_or_ge a.block w.heap.size with h' | h'
  · exact h'
  · simp [World.cell?, Array.getElem?_eq_none h'] at h

theorem rngs_of {w : World} {a : Addr} {len : Nat} (h : ∀ i, i < len → ∃ r : Rng, w.cell? (a.add (i * 4)) = some (.int .i64 r.fr) ∧ w.cell? ((a.add (i * 4)).add 1) = some (.int .i64 r.tt) ∧
      w.cell? ((a.add (i * 4)).add 2) = some (.int .i64 r.sl) ∧ w.cell? ((a.add (i * 4)).add 3) = some (.bool r.only)) : ∃ xs : List Rng, xs.length = len ∧ RowOf w (some a) xs := by
  rcases Nat.eq_zero_or_pos len with h0 | h0
  · exact ⟨[], by simp [h0], .inl rfl⟩
  · have hi : Nonempty Rng := ⟨⟨0, 0, 0, false⟩⟩
    obtain ⟨f, hf⟩ : ∃ f : Nat → Rng, ∀ i, i < len → w.cell? (a.add (i * 4)) = some (.int .i64 (f i).fr) ∧ w.cell? ((a.add (i * 4)).add 1) = some (.int .i64 (f i).tt) ∧
        w.cell? ((a.add (i * 4)).add 2) = some (.int .i64 (f i).sl) ∧ w.cell? ((a.add (i * 4)).add 3) = some (.bool (f i).only) := by
      classical
      refine ⟨fun i => if hi : i < len then Classical.choose (h i hi) else ⟨0, 0, 0, false⟩, fun i hi => ?_⟩
      simp only [dif_pos hi]
      exact Classical.choose_spec (h i hi)
    have c0 := (hf 0 h0).1
    simp [Addr.add] at c0
    have hsp : a.spot = none := World.cell?_spot c0
    obtain ⟨b, off, sp⟩ := a
    simp at hsp
    subst hsp
    refine ⟨(List.range len).map f, by simp, .inr ⟨b, off, rfl, lt_of_cell c0, fun k hk => ?_⟩⟩
    have hk' : k < len := by simpa using hk
    obtain ⟨g0, g1, g2, g3⟩ := hf k hk'
    have e : ∀ j, ((⟨b, off, none⟩ : Addr).add (k * 4)).add j = ⟨b, off + k * 4 + j, none⟩ := fun j => by
      unfold Addr.add
      by_cases h1 : k * 4 = 0 <;> by_cases h2 : j = 0 <;> simp [h1, h2]
      all_goals simp at h1
      all_goals simp [h1]
    have e0 := e 0
    have ez : ((⟨b, off, none⟩ : Addr).add (k * 4)).add 0 = (⟨b, off, none⟩ : Addr).add (k * 4) := by simp [Addr.add]
    rw [ez] at e0
    rw [e0] at g0
    rw [e 1] at g1
    rw [e 2] at g2
    rw [e 3] at g3
    simp only [List.getElem_map, List.getElem_range]
    exact ⟨g0, g1, g2, g3⟩

theorem open_rngs {H : Type} {enc : TypeId × Value → H} {W : World} {a : Option Addr} {len cap : Nat} {d : DataW H} {p : List MemPlace}
    (h : DataW.Trod enc Tryz.prog W 0 (fun _ => true) true 22 (.slice a len cap) d p) : ∃ xs : List Rng, xs.length = len ∧ RowOf W a xs ∧ len ≤ cap ∧ cap ≤ 9223372036854775807 := by
  obtain ⟨fuel, hf⟩ := h
  rcases open_slice Tryz.underlying22 hf with ⟨hcs, _⟩ | ⟨x, l, c, m, n, D, Pl, hcs, _, hl, hm, hmm, _, hx⟩
  · simp [Value.cells] at hcs
    obtain ⟨rfl, rfl, rfl⟩ := hcs
    exact ⟨[], rfl, .inl rfl, by omega, by omega⟩
  · simp [Value.cells] at hcs
    obtain ⟨rfl, rfl, rfl⟩ := hcs
    simp at hmm
    subst hmm
    have hcell : Tryz.prog.cellsOf 76 = 4 := by kernel_rfl
    obtain ⟨xs, h1, h2⟩ := rngs_of (w := W) (a := x) (len := len) (fun i hi => by
      obtain ⟨cs', g1, g2⟩ := hx i (by omega)
      rw [hcell] at g1
      obtain ⟨_, hlen, hall⟩ := World.cells?_some g1
      match cs', hlen with
      | [v0, v1, v2, v3], _ =>
        obtain ⟨y0, y1, y2, y3, n', _, _, t0, t1, t2, t3⟩ := trod_struct4 Tryz.underlying76 g2
        have ci : Tryz.prog.cellsOf 3 = 1 := by kernel_rfl
        have cb : Tryz.prog.cellsOf 4 = 1 := by kernel_rfl
        simp [ci, cb] at t0 t1 t2 t3
        obtain ⟨n0, e0, _, _⟩ := DataW.trod_int Tryz.underlying3 t0
        obtain ⟨n1, e1, _, _⟩ := DataW.trod_int Tryz.underlying3 t1
        obtain ⟨n2, e2, _, _⟩ := DataW.trod_int Tryz.underlying3 t2
        obtain ⟨b3, e3, _⟩ := DataW.trod_bool Tryz.underlying4 t3
        simp at e0 e1 e2 e3
        subst e0 e1 e2 e3
        have h0 := hall 0 (by omega)
        have h1 := hall 1 (by omega)
        have h2 := hall 2 (by omega)
        have h3 := hall 3 (by omega)
        simp only [Addr.add, if_true] at h0
        exact ⟨⟨n0, n1, n2, b3⟩, by simpa [Addr.add] using h0, by simpa using h1, by simpa using h2, by simpa using h3⟩)
    exact ⟨xs, h1, h2, hl, by unfold maxLen at hm; omega⟩

end Go.Proofs.YtpbkpfdbdfnlbaaGreat
