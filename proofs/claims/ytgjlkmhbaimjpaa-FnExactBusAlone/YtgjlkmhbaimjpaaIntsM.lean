/-
  eqIntS, markIntS, heldIntS.
-/
import Derived.Test.YtgjlkmhbaimjpaaProg
import Derived.Test.YtgjlkmhbaimjpaaIRow
import Derived.BigQuiet
import Derived.Test.YtgjlkmhbaimjpaaKept
namespace Go.Proofs.Ytgjlkmhbaimjpaa
open Go.RowKit
set_option linter.unusedSimpArgs false
set_option linter.unusedVariables false

set_option maxRecDepth 100000 in
set_option maxHeartbeats 1000000 in
theorem eqIntS_same (p q : Option Addr) (c1 c2 : Nat) (xs : List Int) (w : World) (hp : IntsAt w p xs) (hq : IntsAt w q xs) (h1 : xs.length ≤ c1) (h2 : c1 ≤ 9223372036854775807) (h3 : xs.length ≤ c2) (h4 : c2 ≤ 9223372036854775807) :
    Calls Try.prog 49 #[.slice p xs.length c1, .slice q xs.length c2] w fun e w' => e = .returned (.bool true) ∧ Below w.heap.size w w' := by
  have HP := Hid.intro hp
  have HQ := Hid.intro hq
  clear hp hq
  go_enter Try.func49, Try.ntmps49
  go_wp2
  go_loopw [5] (fun i wr => ∃ k : Nat, k ≤ xs.length ∧ i = .int .i64 k ∧ Below w.heap.size w wr) (fun i _ => xs.length - (intOf i).toNat)
  case atStart => exact ⟨0, Nat.zero_le _, rfl, Below.refl _ _⟩
  case round =>
    obtain ⟨k, hk, rfl, hbl⟩ := hrel
    by_cases hlt : k < xs.length
    · rcases HP.out with hx | ⟨b, off, rfl, hb, hcells⟩
      · subst hx; simp at hlt
      rcases HQ.out with hx' | ⟨b', off', rfl, hb', hcells'⟩
      · subst hx'; simp at hlt
      have hk0 : (0 : Int) ≤ (k : Int) := by omega
      have hk1 : (k : Int) < (xs.length : Int) := by omega
      have hc1 : wr.cell? ⟨b, off + k, none⟩ = some (.int .i64 xs[k]) := (hbl.cell (p := ⟨b, off + k, none⟩) hb).trans (hcells k hlt)
      have hc2 : wr.cell? ⟨b', off' + k, none⟩ = some (.int .i64 xs[k]) := (hbl.cell (p := ⟨b', off' + k, none⟩) hb').trans (hcells' k hlt)
      clear hcells hcells' HP HQ
      go_wp2_with fail
      go_quiet (fail)
      all_goals go_wp2
      all_goals go_roundw
      case rel => exact ⟨k + 1, by omega, by go_num, by first | exact hbl.drew | exact ⟨hbl.os, hbl.tape, hbl.output, hbl.size, hbl.block⟩⟩
      case measure => simp [intOf]; omega
    · have hk' : k = xs.length := by omega
      subst hk'
      go_wp2
      go_ret
      exact ⟨rfl, hbl⟩

/-- a row of its own, or none -/
def OwnI (w : World) (p : Option Addr) (cap : Nat) (l : List Int) : Prop := l = [] ∨ ∃ g, p = some ⟨g, 0, none⟩ ∧ ORow 3 1 w g cap l.length (l.map (Value.int .i64))

theorem ORow.ints {w : World} {g cap : Nat} {l : List Int} (h : ORow 3 1 w g cap l.length (l.map (Value.int .i64))) : IntsAt w (some ⟨g, 0, none⟩) l :=
  .inr ⟨g, 0, rfl, h.lt, fun k hk => by have := h.get k (.int .i64 l[k]) (by simp [hk]); simpa using this⟩

def markL (k : Int) (n : Nat) : List Int := (List.range n).map (fun i : Nat => k + (i : Int))

/-- j of the numbers are written -/
def mixL (xs : List Int) (j : Nat) : List Int := markL 1 j ++ xs.drop j
theorem mixL_len (xs : List Int) (j : Nat) (h : j ≤ xs.length) : (mixL xs j).length = xs.length := by simp [mixL, markL]; omega
theorem mixL_zero (xs : List Int) : mixL xs 0 = xs := by simp [mixL, markL]
theorem mixL_all (xs : List Int) : mixL xs xs.length = markL 1 xs.length := by simp [mixL]
theorem mixL_step (xs : List Int) (j : Nat) (h : j < xs.length) : mixL xs (j + 1) = (mixL xs j).set j (1 + (j : Int)) := by
  have e1 : markL 1 (j + 1) = markL 1 j ++ [1 + (j : Int)] := by simp [markL, List.range_succ]
  have e2 : xs.drop j = xs[j] :: xs.drop (j + 1) := List.drop_eq_getElem_cons h
  have hl : (markL 1 j).length = j := by simp [markL]
  unfold mixL
  rw [e1, e2, List.append_assoc, List.set_append_right _ _ (by omega), hl, Nat.sub_self]
  rfl

theorem ORow.set {w : World} {g cap n : Nat} {l : List Int} (h : ORow 3 1 w g cap n (l.map (Value.int .i64))) (j : Nat) (hj : j < n) (v : Int) :
    ORow 3 1 (w.setCell ⟨g, j, none⟩ (.int .i64 v)) g cap n ((l.set j v).map (Value.int .i64)) := by
  obtain ⟨cur, h1, h2, h3, h4, h5⟩ := h
  refine ⟨cur.setIfInBounds j (.int .i64 v), ?_, by simpa using h2, h3, by simpa using h4, ?_⟩
  · simp only [World.setCell, Array.getElem?_modify, h1, if_true, Option.map_some]
    rfl
  · rw [List.map_set, ← h5]
    simp [List.take_set]

set_option maxRecDepth 100000 in
set_option maxHeartbeats 1000000 in
theorem mark_any (p : Option Addr) (cap : Nat) (l : List Int) (w : World) (h : OwnI w p cap l) (hl : l.length ≤ 4) (h1 : l.length ≤ cap) (h2 : cap ≤ 9223372036854775807) :
    Calls Try.prog 70 #[.slice p l.length cap, .int .i64 1] w fun e w' => e = .returned (.int .i64 (1 + (l.length : Int))) ∧ (l = [] ∨ ∃ g, p = some ⟨g, 0, none⟩ ∧ IntsAt w' p (markL 1 l.length)) ∧ Kept (fun k => p = some ⟨k, 0, none⟩) w w' := by
  go_enter Try.func70, Try.ntmps70
  go_wp2
  go_loopw [1, 5] (fun kk i wr => ∃ j : Nat, j ≤ l.length ∧ i = .int .i64 j ∧ kk = .int .i64 (1 + (j : Int)) ∧ Hid (l = [] ∨ ∃ g, p = some ⟨g, 0, none⟩ ∧ ORow 3 1 wr g cap l.length ((mixL l j).map (Value.int .i64))) ∧ Kept (fun k => p = some ⟨k, 0, none⟩) w wr) (fun _ i _ => l.length - (intOf i).toNat)
  case atStart => exact ⟨0, Nat.zero_le _, rfl, rfl, by rw [mixL_zero]; exact h, Kept.refl _ _⟩
  case round =>
    clear h
    obtain ⟨j, hj, rfl, rfl, HO, hkp⟩ := hrel
    by_cases hlt : j < l.length
    · rcases HO.out with hx | ⟨g, rfl, hrow⟩
      · subst hx; simp at hlt
      have hk0 : (0 : Int) ≤ (j : Int) := by omega
      have hk1 : (j : Int) < (l.length : Int) := by omega
      have hm := mixL_len l j hj
      have hc : wr.cell? ⟨g, j, none⟩ = some (.int .i64 ((mixL l j)[j]'(by omega))) := hrow.get j _ (by simp [hm, hlt])
      have hf : wr.frozen? ⟨g, j, none⟩ = false := by
        obtain ⟨cur, e1, _⟩ := hrow
        simp [World.frozen?, e1]
      have HS := Hid.intro (hrow.set j hlt (1 + (j : Int)))
      clear hrow HO
      go_wp2
      go_roundw
      case rel =>
        refine ⟨j + 1, by omega, by go_num, by go_num, ?_, hkp.trans (Kept.setCell (D := fun k => (some ⟨g, 0, none⟩ : Option Addr) = some ⟨k, 0, none⟩) (p := ⟨g, j, none⟩) _ rfl _)⟩
        show _ ∨ _
        rw [mixL_step l j hlt]
        exact .inr ⟨g, rfl, by simpa using HS.out⟩
      case measure => simp [intOf]; omega
    · have hj' : j = l.length := by omega
      subst hj'
      go_wp2
      go_ret
      refine ⟨rfl, ?_, hkp⟩
      rcases HO.out with hx | ⟨g, rfl, hrow⟩
      · exact .inl hx
      · rw [mixL_all] at hrow
        refine .inr ⟨g, rfl, ?_⟩
        have hml : (markL 1 l.length).length = l.length := by simp [markL]
        exact ORow.ints (cap := cap) (by rw [hml]; exact hrow)

set_option maxRecDepth 100000 in
set_option maxHeartbeats 1000000 in
theorem held_any (p : Option Addr) (cap n : Nat) (w : World) (h : n = 0 ∨ IntsAt w p (markL 1 n)) (hl : n ≤ 4) (h1 : n ≤ cap) (h2 : cap ≤ 9223372036854775807) :
    Calls Try.prog 73 #[.slice p n cap, .int .i64 1] w fun e w' => e = .returned (.int .i64 (1 + (n : Int))) ∧ w' = w := by
  have HO := Hid.intro h
  clear h
  go_enter Try.func73, Try.ntmps73
  go_wp2
  go_loopw [1, 5] (fun kk i wr => ∃ j : Nat, j ≤ n ∧ i = .int .i64 j ∧ kk = .int .i64 (1 + (j : Int)) ∧ wr = w) (fun _ i _ => n - (intOf i).toNat)
  case atStart => exact ⟨0, Nat.zero_le _, rfl, rfl, rfl⟩
  case round =>
    obtain ⟨j, hj, rfl, rfl, rfl⟩ := hrel
    by_cases hlt : j < n
    · have hml : (markL 1 n).length = n := by simp [markL]
      rcases HO.out with hx | hx | ⟨b, off, rfl, hb, hcells⟩
      · omega
      · rw [hx] at hml; simp at hml; omega
      have hk0 : (0 : Int) ≤ (j : Int) := by omega
      have hk1 : (j : Int) < (n : Int) := by omega
      have hc := hcells j (by omega)
      have hv : (markL 1 n)[j]'(by omega) = 1 + (j : Int) := by simp [markL]
      rw [hv] at hc
      clear hcells HO hv
      go_wp2
      go_roundw
      case rel => exact ⟨j + 1, by omega, by go_num, by go_num, by simp⟩
      case measure => simp [intOf]; omega
    · have hj' : j = n := by omega
      subst hj'
      go_wp2
      go_ret
      exact ⟨rfl, rfl⟩

end Go.Proofs.Ytgjlkmhbaimjpaa
