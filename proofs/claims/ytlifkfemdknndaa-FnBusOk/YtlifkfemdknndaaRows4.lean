/-
  The law's own rows of ranges: copies, and whether two are the same.
-/
import Derived.Test.YtlifkfemdknndaaProg
import Derived.Test.YtlifkfemdknndaaMapCM
import Derived.Test.YtlifkfemdknndaaOpsXM
namespace Go.Proofs.Ytlifkfemdknndaa
open Go.RowKit
set_option linter.unusedSimpArgs false
set_option linter.unusedVariables false

/-! ### four cells, stored -/
def set4 (w : World) (b o : Nat) (r : Rng) : World :=
  (((w.setCell ⟨b, o, none⟩ (.int .i64 r.fr)).setCell ⟨b, o + 1, none⟩ (.int .i64 r.tt)).setCell ⟨b, o + 2, none⟩ (.int .i64 r.sl)).setCell ⟨b, o + 3, none⟩ (.bool r.only)

theorem cell_other {w : World} {b o o' : Nat} {v : Value} (h : o ≠ o') : (w.setCell ⟨b, o, none⟩ v).cell? ⟨b, o', none⟩ = w.cell? ⟨b, o', none⟩ :=
  World.cell?_setCell_other _ _ _ _ (by simp)
theorem cell_isSome {w : World} {b o o' : Nat} {v u : Value} (h : w.cell? ⟨b, o', none⟩ = some u) : ∃ u', (w.setCell ⟨b, o, none⟩ v).cell? ⟨b, o', none⟩ = some u' := by
  by_cases e : o = o'
  · subst e; exact ⟨v, World.cell?_setCell_same _ _ _ h⟩
  · exact ⟨u, (cell_other e).trans h⟩

theorem set4_there {w : World} {b o : Nat} {r : Rng} (o' : Nat) (h : ∃ u, w.cell? ⟨b, o', none⟩ = some u) : ∃ u, (set4 w b o r).cell? ⟨b, o', none⟩ = some u := by
  obtain ⟨u, h⟩ := h
  obtain ⟨u, h⟩ := cell_isSome (o := o) (v := .int .i64 r.fr) h
  obtain ⟨u, h⟩ := cell_isSome (o := o + 1) (v := .int .i64 r.tt) h
  obtain ⟨u, h⟩ := cell_isSome (o := o + 2) (v := .int .i64 r.sl) h
  exact cell_isSome h
theorem set4_other {w : World} {b o : Nat} {r : Rng} (o' : Nat) (h : o' < o ∨ o + 4 ≤ o') : (set4 w b o r).cell? ⟨b, o', none⟩ = w.cell? ⟨b, o', none⟩ := by
  unfold set4
  rw [cell_other (by omega), cell_other (by omega), cell_other (by omega), cell_other (by omega)]
theorem set4_at {w : World} {b o : Nat} {r : Rng} (h : ∀ i, i < 4 → ∃ u, w.cell? ⟨b, o + i, none⟩ = some u) :
    (set4 w b o r).cell? ⟨b, o, none⟩ = some (.int .i64 r.fr) ∧ (set4 w b o r).cell? ⟨b, o + 1, none⟩ = some (.int .i64 r.tt) ∧
    (set4 w b o r).cell? ⟨b, o + 2, none⟩ = some (.int .i64 r.sl) ∧ (set4 w b o r).cell? ⟨b, o + 3, none⟩ = some (.bool r.only) := by
  obtain ⟨u0, h0⟩ := h 0 (by omega)
  obtain ⟨u1, h1⟩ := h 1 (by omega)
  obtain ⟨u2, h2⟩ := h 2 (by omega)
  obtain ⟨u3, h3⟩ := h 3 (by omega)
  simp only [Nat.add_zero] at h0
  unfold set4
  refine ⟨?_, ?_, ?_, ?_⟩
  · rw [cell_other (by omega), cell_other (by omega), cell_other (by omega), World.cell?_setCell_same _ _ _ h0]
  · rw [cell_other (by omega), cell_other (by omega), World.cell?_setCell_same (u := u1) _ _ _ (by rw [cell_other (by omega)]; exact h1)]
  · rw [cell_other (by omega), World.cell?_setCell_same (u := u2) _ _ _ (by rw [cell_other (by omega), cell_other (by omega)]; exact h2)]
  · rw [World.cell?_setCell_same (u := u3) _ _ _ (by rw [cell_other (by omega), cell_other (by omega), cell_other (by omega)]; exact h3)]
theorem set4_below {w : World} {b o B : Nat} {r : Rng} {a : World} (h : Below B a w) (hb : B ≤ b) : Below B a (set4 w b o r) :=
  (((h.setCell (p := ⟨b, o, none⟩) hb _).setCell (p := ⟨b, o + 1, none⟩) hb _).setCell (p := ⟨b, o + 2, none⟩) hb _).setCell (p := ⟨b, o + 3, none⟩) hb _
theorem set4_frozen {w : World} {b o : Nat} {r : Rng} (x : Addr) : (set4 w b o r).frozen? x = w.frozen? x := by
  simp [set4]
theorem set4_size {w : World} {b o : Nat} {r : Rng} : (set4 w b o r).heap.size = w.heap.size := by
  simp [set4]

/-- block N, n cells, may be written; the first k ranges lie there -/
structure Part (w : World) (N n : Nat) (xs : List Rng) (k : Nat) : Prop where
  there : ∀ o, o < n * 4 → ∃ u, w.cell? ⟨N, o, none⟩ = some u
  free : ∀ o, w.frozen? ⟨N, o, none⟩ = false
  done : ∀ j (h : j < xs.length), j < k → w.cell? ⟨N, j * 4, none⟩ = some (.int .i64 xs[j].fr) ∧ w.cell? ⟨N, j * 4 + 1, none⟩ = some (.int .i64 xs[j].tt) ∧
    w.cell? ⟨N, j * 4 + 2, none⟩ = some (.int .i64 xs[j].sl) ∧ w.cell? ⟨N, j * 4 + 3, none⟩ = some (.bool xs[j].only)

theorem Part.new {w : World} {xs : List Rng} {cs : Array Value} {t : TypeId} {n : Nat} (h : cs.size = n * 4) : Part (w.alloc (.cells cs t)) w.heap.size n xs 0 :=
  ⟨fun o ho => ⟨cs[o]'(by omega), by rw [World.cell?_alloc_new]; simp [h, ho]⟩, fun o => by simp, fun j _ h => by omega⟩
theorem Part.below {w w' : World} {N n k : Nat} {xs : List Rng} (h : Part w N n xs k) (hN : N < w.heap.size) (hb : Below w.heap.size w w') : Part w' N n xs k :=
  ⟨fun o ho => by rw [hb.cell (p := ⟨N, o, none⟩) hN]; exact h.there o ho, fun o => by rw [hb.frozen (p := ⟨N, o, none⟩) hN]; exact h.free o,
   fun j hj hk => by
    rw [hb.cell (p := ⟨N, j * 4, none⟩) hN, hb.cell (p := ⟨N, j * 4 + 1, none⟩) hN, hb.cell (p := ⟨N, j * 4 + 2, none⟩) hN, hb.cell (p := ⟨N, j * 4 + 3, none⟩) hN]
    exact h.done j hj hk⟩
theorem Part.step {w : World} {N n k : Nat} {xs : List Rng} (h : Part w N n xs k) (hk : k < xs.length) (hn : k < n) : Part (set4 w N (k * 4) xs[k]) N n xs (k + 1) :=
  ⟨fun o ho => set4_there o (h.there o ho), fun o => by rw [set4_frozen]; exact h.free o,
   fun j hj hjk => by
    by_cases e : j = k
    · subst e
      exact set4_at (fun i hi => h.there _ (by omega))
    · have := h.done j hj (by omega)
      rw [set4_other _ (by omega), set4_other _ (by omega), set4_other _ (by omega), set4_other _ (by omega)]
      exact this⟩
theorem Part.row {w : World} {N n : Nat} {xs : List Rng} (h : Part w N n xs xs.length) (hN : N < w.heap.size) : RowOf w (some ⟨N, 0, none⟩) xs :=
  .inr ⟨N, 0, rfl, hN, fun k hk => by simpa using h.done k hk hk⟩

theorem Try.infoRng : (Try.prog.info? 70).map (fun i => (i.zero, i.size, i.bytes)) = some (some (.agg #[.int .i64 0, .int .i64 0, .int .i64 0, .bool false]), 4, 32) := by kernel_rfl

end Go.Proofs.Ytlifkfemdknndaa
