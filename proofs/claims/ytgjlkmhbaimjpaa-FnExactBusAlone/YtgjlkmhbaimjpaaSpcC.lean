/-
  l2Get of the model: the words of addresses.
-/
import Derived.Test.YtgjlkmhbaimjpaaSpcB
namespace Go.Proofs.Ytgjlkmhbaimjpaa
open Go.RowKit
set_option linter.unusedSimpArgs false
set_option linter.unusedVariables false

def k10_l2Get (M B bp op bq oq k g cw cap lq cq a y : Nat) (lw : Nat) (x : Int) (ys : List Int) : World → Value → Prop := fun w v => ∃ g' c', v = .slice (some ⟨g', 0, none⟩) (ys ++ [x]).length c' ∧ ORow 3 1 w g' c' (ys ++ [x]).length ((ys ++ [x]).map (Value.int .i64)) ∧ c' ≤ 9223372036854775807 ∧ M ≤ g'
def k11_l2Get (M B bp op bq oq k g cw cap lq cq a y : Nat) (lw : Nat) (x : Int) (ys : List Int) : World → Value → Prop := fun w v => ∃ g' c', v = .slice (some ⟨g', 0, none⟩) (ys ++ [x]).length c' ∧ ORow 3 1 w g' c' (ys ++ [x]).length ((ys ++ [x]).map (Value.int .i64)) ∧ c' ≤ 9223372036854775807 ∧ M ≤ g'

def fl_l2Get (M B bp op bq oq k g cw cap lq cq a y : Nat) (lw : Nat) (x : Int) (ys : List Int) : List Fact := [
  fIs 14 (.slice (some ⟨g, 0, none⟩) ys.length cap),
  fIs 15 (.pointer (some ⟨B, 0, none⟩)),
  fIs 16 (.slice (some ⟨bp, op, none⟩) lw cw),
  fIs 17 (.slice (some ⟨bq, oq, none⟩) lq cq),
  fIs 18 (.int .i64 (k : Int)),
  fIs 19 (.pointer (some ⟨bq, oq + k, none⟩)),
  fIs 20 (.int .i64 (a : Int)),
  fIs 21 (.pointer (some ⟨bp, op + a, none⟩)),
  fIs 22 (.int .i64 x),
  ⟨[23], [10], fun s d w => d 10 = false → ∃ b, s 23 = .slice (some ⟨b, 0, none⟩) 1 1 ∧ w.heap[b]? = some (.cells #[.int .i64 x] 3 (0, 0))⟩,
  fK 24 (k10_l2Get M B bp op bq oq k g cw cap lq cq a y lw x ys),
  fK 5 (k11_l2Get M B bp op bq oq k g cw cap lq cq a y lw x ys)]

theorem st_l2Get (M B bp op bq oq k g cw cap lq cq a y : Nat) (lw : Nat) (x : Int) (ys : List Int) : ∀ F ∈ fl_l2Get M B bp op bq oq k g cw cap lq cq a y lw x ys, F.Stab :=
  stab_cons (fIs_stab _ _) <|
  stab_cons (fIs_stab _ _) <|
  stab_cons (fIs_stab _ _) <|
  stab_cons (fIs_stab _ _) <|
  stab_cons (fIs_stab _ _) <|
  stab_cons (fIs_stab _ _) <|
  stab_cons (fIs_stab _ _) <|
  stab_cons (fIs_stab _ _) <|
  stab_cons (fIs_stab _ _) <|
  stab_cons (by intro s d w w' hg h hd; obtain ⟨b, h1, h2⟩ := h hd; exact ⟨b, h1, hg.cells h2⟩) <|
  stab_cons (fK_stab (by rintro w w' v hg ⟨g', c', h1, h2, h3⟩; exact ⟨g', c', h1, h2.gr hg, h3⟩)) <|
  stab_cons (fK_stab (by rintro w w' v hg ⟨g', c', h1, h2, h3⟩; exact ⟨g', c', h1, h2.gr hg, h3⟩)) stab_nil

theorem grl_l2Get (M B bp op bq oq k g cw cap lq cq a y : Nat) (lw : Nat) (x : Int) (ys : List Int) : ∀ j, [9, 10, 11].contains j = false → ∀ s d w w', Grew w w' g → (factsOf (fl_l2Get M B bp op bq oq k g cw cap lq cq a y lw x ys) j).body s d w → (factsOf (fl_l2Get M B bp op bq oq k g cw cap lq cq a y lw x ys) j).body s d w' := by
  intro j hj s d w w' hk hb
  rcases j with _ | _ | _ | _ | _ | _ | _ | _ | _ | _ | _ | _ | j
  all_goals first | exact hb | (exfalso; revert hj; decide) | trivial

theorem ask9_l2Get {M B bp op bq oq k g cw cap lq cq a y lw : Nat} {x : Int} {ys : List Int} (j : Nat) (hj : j < 12) (h : (factsOf (fl_l2Get M B bp op bq oq k g cw cap lq cq a y lw x ys) j).dones.contains 9 = true) : j = 9 := by
  rcases j with _ | _ | _ | _ | _ | _ | _ | _ | _ | _ | _ | _ | j
  all_goals first | rfl | exact absurd (show false = true from h) (by decide) | omega

theorem asks_l2Get {M B bp op bq oq k g cw cap lq cq a y lw : Nat} {x : Int} {ys : List Int} (j : Nat) (hj : j < 12) (h : [9, 10, 11].contains j = true ∨ (factsOf (fl_l2Get M B bp op bq oq k g cw cap lq cq a y lw x ys) j).dones.contains 10 = true) : j = 9 ∨ j = 10 ∨ j = 11 := by
  rcases j with _ | _ | _ | _ | _ | _ | _ | _ | _ | _ | _ | _ | j
  all_goals first | (rcases h with h | h <;> exact absurd (show false = true from h) (by decide)) | omega

theorem getAll_step (ws all : List Int) (k : Nat) (h : k < all.length) : getAll ws (all.take (k + 1)) = getAll ws (all.take k) ++ [getZ ws all[k]] := by
  rw [List.take_succ_eq_append_getElem h]
  unfold getAll
  rw [List.map_append]
  rfl
theorem getZ_get {ws : List Int} {a : Nat} (h : a < ws.length) : getZ ws (a : Int) = ws[a] := by simp [getZ, h]

end Go.Proofs.Ytgjlkmhbaimjpaa
