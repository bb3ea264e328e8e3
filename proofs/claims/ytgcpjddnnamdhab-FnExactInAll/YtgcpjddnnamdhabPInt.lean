/-
  Rows of ints whose numbers are not known: what a row in the making is; appended by one; variables of several cells.
-/
import Derived.Test.YtgcpjddnnamdhabProg
import Derived.Test.YtgcpjddnnamdhabIRow
import Derived.Test.YtgcpjddnnamdhabIntsM
import Derived.Test.YtgcpjddnnamdhabOpsX
import Derived.Test.YtgcpjddnnamdhabTypedL
namespace Go.Proofs.Ytgcpjddnnamdhab
open Go.RowKit
set_option linter.unusedSimpArgs false
set_option linter.unusedVariables false

theorem heap_cell {w : World} {b : Nat} {cs : Array Value} {t : TypeId} (h : w.heap[b]? = some (.cells cs t (0, 0))) (i : Nat) : w.cell? ⟨b, i, none⟩ = cs[i]? := by simp [World.cell?, h]
theorem heap_free {w : World} {b : Nat} {cs : Array Value} {t : TypeId} (h : w.heap[b]? = some (.cells cs t (0, 0))) (i : Nat) : w.frozen? ⟨b, i, none⟩ = false := by simp [World.frozen?, h]
theorem heap_set {w : World} {b : Nat} {cs : Array Value} {t : TypeId} (h : w.heap[b]? = some (.cells cs t (0, 0))) (i : Nat) (v : Value) : (w.setCell ⟨b, i, none⟩ v).heap[b]? = some (.cells (cs.setIfInBounds i v) t (0, 0)) := by
  simp only [World.setCell, Array.getElem?_modify, h, if_true, Option.map_some]
  rfl
theorem heap_lt {w : World} {b : Nat} {o : Obj} (h : w.heap[b]? = some o) : b < w.heap.size := (Array.getElem?_eq_some_iff.1 h).1
theorem heap_set_ne {w : World} {b k : Nat} {i : Nat} {v : Value} (h : k ≠ b) : (w.setCell ⟨b, i, none⟩ v).heap[k]? = w.heap[k]? := Below.heap_setCell _ _ _ _ (by simpa using h)

/-- block g: room for cap ints; the first n are ints -/
def PI (w : World) (g cap n : Nat) : Prop := ∃ cur : Array Value, w.heap[g]? = some (.cells cur 3 (0, 0)) ∧ cur.size = cap ∧ n ≤ cap ∧ ∀ i, i < n → ∃ x : Int, cur[i]? = some (.int .i64 x)
theorem PI.lt {w : World} {g cap n : Nat} (h : PI w g cap n) : g < w.heap.size := by obtain ⟨cur, h, _⟩ := h; exact heap_lt h
theorem PI.of {w w' : World} {g cap n : Nat} (h : PI w g cap n) (hb : w'.heap[g]? = w.heap[g]?) : PI w' g cap n := by
  obtain ⟨cur, h1, h2⟩ := h; exact ⟨cur, hb.trans h1, h2⟩
/-- a row of at most N ints of its own, or none -/
def kIR (M N : Nat) : World → Value → Prop := fun w v => v = .slice none 0 0 ∨ ∃ g n cap, v = .slice (some ⟨g, 0, none⟩) n cap ∧ n ≤ N ∧ cap ≤ maxLen ∧ M ≤ g ∧ PI w g cap n
/-- own int rows stay int rows -/
def RI (M : Nat) (w w' : World) : Prop := w.heap.size ≤ w'.heap.size ∧ ∀ g cap n, M ≤ g → PI w g cap n → PI w' g cap n
theorem RI.refl (M : Nat) (w : World) : RI M w w := ⟨Nat.le_refl _, fun _ _ _ _ h => h⟩
theorem RI.of_up {M : Nat} {w w' : World} (h : Up M w w') : RI M w w' := ⟨h.size, fun g _ _ hM hp => hp.of (h.block g hM hp.lt)⟩
theorem kIR.ri {M N : Nat} {w w' : World} {v : Value} (h : kIR M N w v) (hr : RI M w w') : kIR M N w' v := by
  rcases h with h | ⟨g, n, cap, h1, h2, h3, h4, h5⟩
  · exact .inl h
  · exact .inr ⟨g, n, cap, h1, h2, h3, h4, hr.2 g cap n h4 h5⟩
theorem kIR.mono {M N N' : Nat} {w : World} {v : Value} (h : kIR M N w v) (hN : N ≤ N') : kIR M N' w v := by
  rcases h with h | ⟨g, n, cap, h1, h2, h3, h4, h5⟩
  · exact .inl h
  · exact .inr ⟨g, n, cap, h1, by omega, h3, h4, h5⟩
/-- its numbers -/
theorem kIR.ints {M N : Nat} {w : World} {v : Value} (h : kIR M N w v) : ∃ (p : Option Addr) (xs : List Int) (cap : Nat), v = .slice p xs.length cap ∧ IntsAt w p xs ∧ xs.length ≤ N ∧ xs.length ≤ cap ∧ cap ≤ 9223372036854775807 ∧ (∀ b off, p = some ⟨b, off, none⟩ → M ≤ b) := by
  rcases h with h | ⟨g, n, cap, rfl, h2, h3, h4, cur, h5, h6, h7, h8⟩
  · exact ⟨none, [], 0, by simpa using h, .inl rfl, by simp, by simp, by omega, by simp⟩
  · obtain ⟨f, hf⟩ : ∃ f : Nat → Int, ∀ i, i < n → cur[i]? = some (.int .i64 (f i)) := by
      classical
      exact ⟨fun i => if hi : i < n then Classical.choose (h8 i hi) else 0, fun i hi => by simp only [dif_pos hi]; exact Classical.choose_spec (h8 i hi)⟩
    refine ⟨some ⟨g, 0, none⟩, (List.range n).map f, cap, by simp, .inr ⟨g, 0, rfl, heap_lt h5, fun k hk => ?_⟩, by simpa using h2, by simpa using h7, by unfold maxLen at h3; omega, fun b off e => by cases e; exact h4⟩
    have hk' : k < n := by simpa using hk
    rw [heap_cell h5]
    simpa using hf k hk'

/-- what an append by one leaves: own int rows stay int rows, and nothing else of what lay turns -/
structure AppI (M : Nat) (w w' : World) : Prop where
  os : w'.os = w.os
  tape : w'.tape = w.tape
  output : w'.output = w.output
  size : w.heap.size ≤ w'.heap.size
  ri : ∀ g cap n, M ≤ g → PI w g cap n → PI w' g cap n
  other : ∀ k, k < w.heap.size → (k < M ∨ ∀ cur, w.heap[k]? ≠ some (.cells cur 3 (0, 0))) → w'.heap[k]? = w.heap[k]?

end Go.Proofs.Ytgcpjddnnamdhab
