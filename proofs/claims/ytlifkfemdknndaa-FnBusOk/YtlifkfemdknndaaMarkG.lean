/-
  markIntS, heldIntS from whatever number on; szIntS, toIntS.
-/
import Derived.Test.YtlifkfemdknndaaProg
import Derived.Test.YtlifkfemdknndaaIntsM
namespace Go.Proofs.Ytlifkfemdknndaa
open Go.RowKit
set_option linter.unusedSimpArgs false
set_option linter.unusedVariables false

theorem markL_len (k : Int) (n : Nat) : (markL k n).length = n := by simp [markL]
def mixG (k0 : Int) (xs : List Int) (j : Nat) : List Int := markL k0 j ++ xs.drop j
theorem mixG_len (k0 : Int) (xs : List Int) (j : Nat) (h : j ≤ xs.length) : (mixG k0 xs j).length = xs.length := by simp [mixG, markL]; omega
theorem mixG_zero (k0 : Int) (xs : List Int) : mixG k0 xs 0 = xs := by simp [mixG, markL]
theorem mixG_all (k0 : Int) (xs : List Int) : mixG k0 xs xs.length = markL k0 xs.length := by simp [mixG]
theorem mixG_step (k0 : Int) (xs : List Int) (j : Nat) (h : j < xs.length) : mixG k0 xs (j + 1) = (mixG k0 xs j).set j (k0 + (j : Int)) := by
  have e1 : markL k0 (j + 1) = markL k0 j ++ [k0 + (j : Int)] := by simp [markL, List.range_succ]
  have e2 : xs.drop j = xs[j] :: xs.drop (j + 1) := List.drop_eq_getElem_cons h
  have hl : (markL k0 j).length = j := by simp [markL]
  unfold mixG
  rw [e1, e2, List.append_assoc, List.set_append_right _ _ (by omega), hl, Nat.sub_self]
  rfl

theorem OwnI.ints {w : World} {p : Option Addr} {cap : Nat} {l : List Int} (h : OwnI w p cap l) : IntsAt w p l := by
  rcases h with h | ⟨g, rfl, h⟩
  · exact .inl h
  · exact h.ints
theorem OwnI.of {w w' : World} {p : Option Addr} {cap : Nat} {l : List Int} (h : OwnI w p cap l) (hb : ∀ b, p = some ⟨b, 0, none⟩ → b < w.heap.size → w'.heap[b]? = w.heap[b]?) : OwnI w' p cap l := by
  rcases h with h | ⟨g, rfl, h⟩
  · exact .inl h
  · exact .inr ⟨g, rfl, h.of (hb g rfl h.lt)⟩
theorem OwnI.below {w w' : World} {p : Option Addr} {cap : Nat} {l : List Int} (h : OwnI w p cap l) (hb : Below w.heap.size w w') : OwnI w' p cap l :=
  h.of (fun b _ hlt => hb.block b hlt)

end Go.Proofs.Ytlifkfemdknndaa
