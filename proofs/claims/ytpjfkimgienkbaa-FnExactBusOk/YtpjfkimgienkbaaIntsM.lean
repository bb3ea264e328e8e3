/-
  eqIntS, markIntS, heldIntS.
-/
import Derived.Test.YtpjfkimgienkbaaProg
import Derived.Test.YtpjfkimgienkbaaIRow
import Derived.BigQuiet
import Derived.Test.YtpjfkimgienkbaaKept
namespace Go.Proofs.Ytpjfkimgienkbaa
open Go.RowKit
set_option linter.unusedSimpArgs false
set_option linter.unusedVariables false

set_option maxRecDepth 100000 in
set_option maxHeartbeats 1000000 in
theorem eqIntS_same (p q : Option Addr) (c1 c2 : Nat) (xs : List Int) (w : World) (hp : IntsAt w p xs) (hq : IntsAt w q xs) (h1 : xs.length ≤ c1) (h2 : c1 ≤ 9223372036854775807) (h3 : xs.length ≤ c2) (h4 : c2 ≤ 9223372036854775807) :
    Calls Try.prog 39 #[.slice p xs.length c1, .slice q xs.length c2] w fun e w' => e = .returned (.bool true) ∧ Below w.heap.size w w' := by
  have HP := Hid.intro hp
  have HQ := Hid.intro hq
  clear hp hq
  go_enter Try.func39, Try.ntmps39
  go_wp2
  go_loopw [5] (fun i wr => ∃ k : Nat, k ≤ xs.length ∧ i = .int .i64 k ∧ Below w.heap.size w wr) (fun i _ => xs.length - (intOf i).toNat)
  case atStart => exact ⟨0, Nat.zero_le _, rfl, Below.refl _ _⟩
  case round =>
    obtain ⟨k, hk, rfl, hbl⟩ := hrel
    by_cases hlt : k < xs.length
    · rcases HP.out with hx | ⟨b, off, rfl, hb, hcells⟩
      · subst hx; simp at hlt
      rcases HQ.out with hx' | ⟨b', off', rfl, hb', hcells'⟩
      · subst hx'; simp at hlt
      have hk0 : (0 : Int) ≤ (k : Int) := by omega
      have hk1 : (k : Int) < (xs.length : Int) := by omega
      have hc1 : wr.cell? ⟨b, off + k, none⟩ = some (.int .i64 xs[k]) := (hbl.cell (p := ⟨b, off + k, none⟩) hb).trans (hcells k hlt)
      have hc2 : wr.cell? ⟨b', off' + k, none⟩ = some (.int .i64 xs[k]) := (hbl.cell (p := ⟨b', off' + k, none⟩) hb').trans (hcells' k hlt)
      clear hcells hcells' HP HQ
      go_wp2_with fail
      go_quiet (fail)
      all_goals go_wp2
      all_goals go_roundw
      case rel => exact ⟨k + 1, by omega, by go_num, by first | exact hbl.drew | exact ⟨hbl.os, hbl.tape, hbl.output, hbl.size, hbl.block⟩⟩
      case measure => simp [intOf]; omega
    · have hk' : k = xs.length := by omega
      subst hk'
      go_wp2
      go_ret
      exact ⟨rfl, hbl⟩

/-- a row of its own, or none -/
def OwnI (w : World) (p : Option Addr) (cap : Nat) (l : List Int) : Prop := l = [] ∨ ∃ g, p = some ⟨g, 0, none⟩ ∧ ORow 3 1 w g cap l.length (l.map (Value.int .i64))

theorem ORow.ints {w : World} {g cap : Nat} {l : List Int} (h : ORow 3 1 w g cap l.length (l.map (Value.int .i64))) : IntsAt w (some ⟨g, 0, none⟩) l :=
  .inr ⟨g, 0, rfl, h.lt, fun k hk => by have := h.get k (.int .i64 l[k]) (by simp [hk]); simpa using this⟩

def markL (k : Int) (n : Nat) : List Int := (List.range n).map (fun i : Nat => k + (i : Int))

/-- j of the numbers are written -/
def mixL (xs : List Int) (j : Nat) : List Int := markL 1 j ++ xs.drop j
theorem mixL_len (xs : List Int) (j : Nat) (h : j ≤ xs.length) : (mixL xs j).length = xs.length := by simp [mixL, markL]; omega
theorem mixL_zero (xs : List Int) : mixL xs 0 = xs := by simp [mixL, markL]
theorem mixL_all (xs : List Int) : mixL xs xs.length = markL 1 xs.length := by simp [mixL]
theorem mixL_step (xs : List Int) (j : Nat) (h : j < xs.length) : mixL xs (j + 1) = (mixL xs j).set j (1 + (j : Int)) := by
  have e1 : markL 1 (j + 1) = markL 1 j ++ [1 + (j : Int)] := by simp [markL, List.range_succ]
  have e2 : xs.drop j = xs[j] :: xs.drop (j + 1) := List.drop_eq_getElem_cons h
  have hl : (markL 1 j).length = j := by simp [markL]
  unfold mixL
  rw [e1, e2, List.append_assoc, List.set_append_right _ _ (by omega), hl, Nat.sub_self]
  rfl

theorem ORow.set {w : World} {g cap n : Nat} {l : List Int} (h : ORow 3 1 w g cap n (l.map (Value.int .i64))) (j : Nat) (hj : j < n) (v : Int) :
    ORow 3 1 (w.setCell ⟨g, j, none⟩ (.int .i64 v)) g cap n ((l.set j v).map (Value.int .i64)) := by
  obtain ⟨cur, h1, h2, h3, h4, h5⟩ := h
  refine ⟨cur.setIfInBounds j (.int .i64 v), ?_, by simpa using h2, h3, by simpa using h4, ?_⟩
  · simp only [World.setCell, Array.getElem?_modify, h1, if_true, Option.map_some]
    rfl
  · rw [List.map_set, ← h5]
    simp [List.take_set]

end Go.Proofs.Ytpjfkimgienkbaa
