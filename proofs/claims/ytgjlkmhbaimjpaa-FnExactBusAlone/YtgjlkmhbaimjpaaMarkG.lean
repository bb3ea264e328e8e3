/-
  markIntS, heldIntS from whatever number on; szIntS, toIntS.
-/
import Derived.Test.YtgjlkmhbaimjpaaProg
import Derived.Test.YtgjlkmhbaimjpaaIntsM
namespace Go.Proofs.Ytgjlkmhbaimjpaa
open Go.RowKit
set_option linter.unusedSimpArgs false
set_option linter.unusedVariables false

theorem markL_len (k : Int) (n : Nat) : (markL k n).length = n := by simp [markL]
def mixG (k0 : Int) (xs : List Int) (j : Nat) : List Int := markL k0 j ++ xs.drop j
theorem mixG_len (k0 : Int) (xs : List Int) (j : Nat) (h : j ≤ xs.length) : (mixG k0 xs j).length = xs.length := by simp [mixG, markL]; omega
theorem mixG_zero (k0 : Int) (xs : List Int) : mixG k0 xs 0 = xs := by simp [mixG, markL]
theorem mixG_all (k0 : Int) (xs : List Int) : mixG k0 xs xs.length = markL k0 xs.length := by simp [mixG]
theorem mixG_step (k0 : Int) (xs : List Int) (j : Nat) (h : j < xs.length) : mixG k0 xs (j + 1) = (mixG k0 xs j).set j (k0 + (j : Int)) := by
  have e1 : markL k0 (j + 1) = markL k0 j ++ [k0 + (j : Int)] := by simp [markL, List.range_succ]
  have e2 : xs.drop j = xs[j] :: xs.drop (j + 1) := List.drop_eq_getElem_cons h
  have hl : (markL k0 j).length = j := by simp [markL]
  unfold mixG
  rw [e1, e2, List.append_assoc, List.set_append_right _ _ (by omega), hl, Nat.sub_self]
  rfl

set_option maxRecDepth 100000 in
set_option maxHeartbeats 1000000 in
theorem mark_gen (p : Option Addr) (cap : Nat) (l : List Int) (k0 : Int) (w : World) (h : OwnI w p cap l) (hk0 : 0 ≤ k0) (hk1 : k0 ≤ 1000000000) (hl : l.length ≤ 10000000) (h1 : l.length ≤ cap) (h2 : cap ≤ 9223372036854775807) :
    Calls Try.prog 70 #[.slice p l.length cap, .int .i64 k0] w fun e w' => e = .returned (.int .i64 (k0 + (l.length : Int))) ∧ OwnI w' p cap (markL k0 l.length) ∧ Kept (fun k => p = some ⟨k, 0, none⟩) w w' := by
  go_enter Try.func70, Try.ntmps70
  go_wp2
  go_loopw [1, 5] (fun kk i wr => ∃ j : Nat, j ≤ l.length ∧ i = .int .i64 j ∧ kk = .int .i64 (k0 + (j : Int)) ∧ Hid (l = [] ∨ ∃ g, p = some ⟨g, 0, none⟩ ∧ ORow 3 1 wr g cap l.length ((mixG k0 l j).map (Value.int .i64))) ∧ Kept (fun k => p = some ⟨k, 0, none⟩) w wr) (fun _ i _ => l.length - (intOf i).toNat)
  case atStart => exact ⟨0, Nat.zero_le _, rfl, by simp, by rw [mixG_zero]; exact h, Kept.refl _ _⟩
  case round =>
    clear h
    obtain ⟨j, hj, rfl, rfl, HO, hkp⟩ := hrel
    by_cases hlt : j < l.length
    · rcases HO.out with hx | ⟨g, rfl, hrow⟩
      · subst hx; simp at hlt
      have hj0 : (0 : Int) ≤ (j : Int) := by omega
      have hj1 : (j : Int) < (l.length : Int) := by omega
      have hm := mixG_len k0 l j hj
      have hc : wr.cell? ⟨g, j, none⟩ = some (.int .i64 ((mixG k0 l j)[j]'(by omega))) := hrow.get j _ (by simp [hm, hlt])
      have hf : wr.frozen? ⟨g, j, none⟩ = false := by
        obtain ⟨cur, e1, _⟩ := hrow
        simp [World.frozen?, e1]
      have HS := Hid.intro (hrow.set j hlt (k0 + (j : Int)))
      clear hrow HO
      go_wp2
      go_roundw
      case rel =>
        refine ⟨j + 1, by omega, by go_num, by go_num, ?_, hkp.trans (Kept.setCell (D := fun k => (some ⟨g, 0, none⟩ : Option Addr) = some ⟨k, 0, none⟩) (p := ⟨g, j, none⟩) _ rfl _)⟩
        show _ ∨ _
        rw [mixG_step k0 l j hlt]
        exact .inr ⟨g, rfl, by simpa using HS.out⟩
      case measure => simp [intOf]; omega
    · have hj' : j = l.length := by omega
      subst hj'
      go_wp2
      go_ret
      refine ⟨rfl, ?_, hkp⟩
      rcases HO.out with hx | ⟨g, rfl, hrow⟩
      · left; rw [hx]; rfl
      · rw [mixG_all] at hrow
        exact .inr ⟨g, rfl, by rw [markL_len]; exact hrow⟩

set_option maxRecDepth 100000 in
set_option maxHeartbeats 1000000 in
theorem held_gen (p : Option Addr) (cap n : Nat) (k0 : Int) (w : World) (h : IntsAt w p (markL k0 n)) (hk0 : 0 ≤ k0) (hk1 : k0 ≤ 1000000000) (hl : n ≤ 10000000) (h1 : n ≤ cap) (h2 : cap ≤ 9223372036854775807) :
    Calls Try.prog 73 #[.slice p n cap, .int .i64 k0] w fun e w' => e = .returned (.int .i64 (k0 + (n : Int))) ∧ w' = w := by
  have HO := Hid.intro h
  clear h
  go_enter Try.func73, Try.ntmps73
  go_wp2
  go_loopw [1, 5] (fun kk i wr => ∃ j : Nat, j ≤ n ∧ i = .int .i64 j ∧ kk = .int .i64 (k0 + (j : Int)) ∧ wr = w) (fun _ i _ => n - (intOf i).toNat)
  case atStart => exact ⟨0, Nat.zero_le _, rfl, by simp, rfl⟩
  case round =>
    obtain ⟨j, hj, rfl, rfl, rfl⟩ := hrel
    by_cases hlt : j < n
    · have hml := markL_len k0 n
      rcases HO.out with hx | ⟨b, off, rfl, hb, hcells⟩
      · rw [hx] at hml; simp at hml; omega
      have hj0 : (0 : Int) ≤ (j : Int) := by omega
      have hj1 : (j : Int) < (n : Int) := by omega
      have hc := hcells j (by omega)
      have hv : (markL k0 n)[j]'(by omega) = k0 + (j : Int) := by simp [markL]
      rw [hv] at hc
      clear hcells HO hv
      go_wp2
      go_roundw
      case rel => exact ⟨j + 1, by omega, by go_num, by go_num, by simp⟩
      case measure => simp [intOf]; omega
    · have hj' : j = n := by omega
      subst hj'
      go_wp2
      go_ret
      exact ⟨rfl, rfl⟩

theorem OwnI.ints {w : World} {p : Option Addr} {cap : Nat} {l : List Int} (h : OwnI w p cap l) : IntsAt w p l := by
  rcases h with h | ⟨g, rfl, h⟩
  · exact .inl h
  · exact h.ints
theorem OwnI.of {w w' : World} {p : Option Addr} {cap : Nat} {l : List Int} (h : OwnI w p cap l) (hb : ∀ b, p = some ⟨b, 0, none⟩ → b < w.heap.size → w'.heap[b]? = w.heap[b]?) : OwnI w' p cap l := by
  rcases h with h | ⟨g, rfl, h⟩
  · exact .inl h
  · exact .inr ⟨g, rfl, h.of (hb g rfl h.lt)⟩
theorem OwnI.below {w w' : World} {p : Option Addr} {cap : Nat} {l : List Int} (h : OwnI w p cap l) (hb : Below w.heap.size w w') : OwnI w' p cap l :=
  h.of (fun b _ hlt => hb.block b hlt)

theorem szInts_any (a : Option Addr) (len cap : Nat) (left : Int) (w : World) (h : len ≤ 9223372036854775807) (h0 : 0 ≤ left) (h1 : left ≤ 1048576) :
    Calls Try.prog 36 #[.slice a len cap, .int .i64 left] w fun e w' => e = .returned (.int .i64 (if (len : Int) ≤ left then left - len else -1)) ∧ w' = w := by
  by_cases hl : (len : Int) ≤ left
  · have hI : ¬ (left - (len : Int) < 0) := by omega
    go_enter Try.func36, Try.ntmps36
    go_wp2
    go_ret
    exact ⟨by simp [hl], rfl⟩
  · have hI : (left - (len : Int) < 0) := by omega
    go_enter Try.func36, Try.ntmps36
    go_wp2
    go_ret
    exact ⟨by simp [hl], rfl⟩

end Go.Proofs.Ytgjlkmhbaimjpaa
