/-
  eqIntS, markIntS, heldIntS.
-/
import Derived.Test.YtlifkfemdknndaaProg
import Derived.Test.YtlifkfemdknndaaIRow
import Derived.BigQuiet
import Derived.Test.YtlifkfemdknndaaKept
namespace Go.Proofs.Ytlifkfemdknndaa
open Go.RowKit
set_option linter.unusedSimpArgs false
set_option linter.unusedVariables false

/-- a row of its own, or none -/
def OwnI (w : World) (p : Option Addr) (cap : Nat) (l : List Int) : Prop := l = [] ∨ ∃ g, p = some ⟨g, 0, none⟩ ∧ ORow 3 1 w g cap l.length (l.map (Value.int .i64))

theorem ORow.ints {w : World} {g cap : Nat} {l : List Int} (h : ORow 3 1 w g cap l.length (l.map (Value.int .i64))) : IntsAt w (some ⟨g, 0, none⟩) l :=
  .inr ⟨g, 0, rfl, h.lt, fun k hk => by have := h.get k (.int .i64 l[k]) (by simp [hk]); simpa using this⟩

def markL (k : Int) (n : Nat) : List Int := (List.range n).map (fun i : Nat => k + (i : Int))

/-- j of the numbers are written -/
def mixL (xs : List Int) (j : Nat) : List Int := markL 1 j ++ xs.drop j
theorem mixL_len (xs : List Int) (j : Nat) (h : j ≤ xs.length) : (mixL xs j).length = xs.length := by simp [mixL, markL]; omega
theorem mixL_zero (xs : List Int) : mixL xs 0 = xs := by simp [mixL, markL]
theorem mixL_all (xs : List Int) : mixL xs xs.length = markL 1 xs.length := by simp [mixL]
theorem mixL_step (xs : List Int) (j : Nat) (h : j < xs.length) : mixL xs (j + 1) = (mixL xs j).set j (1 + (j : Int)) := by
  have e1 : markL 1 (j + 1) = markL 1 j ++ [1 + (j : Int)] := by simp [markL, List.range_succ]
  have e2 : xs.drop j = xs[j] :: xs.drop (j + 1) := List.drop_eq_getElem_cons h
  have hl : (markL 1 j).length = j := by simp [markL]
  unfold mixL
  rw [e1, e2, List.append_assoc, List.set_append_right _ _ (by omega), hl, Nat.sub_self]
  rfl

theorem ORow.set {w : World} {g cap n : Nat} {l : List Int} (h : ORow 3 1 w g cap n (l.map (Value.int .i64))) (j : Nat) (hj : j < n) (v : Int) :
    ORow 3 1 (w.setCell ⟨g, j, none⟩ (.int .i64 v)) g cap n ((l.set j v).map (Value.int .i64)) := by
  obtain ⟨cur, h1, h2, h3, h4, h5⟩ := h
  refine ⟨cur.setIfInBounds j (.int .i64 v), ?_, by simpa using h2, h3, by simpa using h4, ?_⟩
  · simp only [World.setCell, Array.getElem?_modify, h1, if_true, Option.map_some]
    rfl
  · rw [List.map_set, ← h5]
    simp [List.take_set]

end Go.Proofs.Ytlifkfemdknndaa
