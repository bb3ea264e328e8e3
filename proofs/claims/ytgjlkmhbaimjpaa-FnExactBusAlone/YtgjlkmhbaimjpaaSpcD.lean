/-
  l2Put of the model: words put to addresses, in place.
-/
import Derived.Test.YtgjlkmhbaimjpaaSpcC
namespace Go.Proofs.Ytgjlkmhbaimjpaa
open Go.RowKit
set_option linter.unusedSimpArgs false
set_option linter.unusedVariables false

theorem ORow.free {E s : Nat} {w : World} {b cap n : Nat} {cs : List Value} (h : ORow E s w b cap n cs) (i : Nat) : w.frozen? ⟨b, i, none⟩ = false := by
  obtain ⟨cur, h1, _⟩ := h
  simp [World.frozen?, h1]

def fl_l2Put (B g lw cw bq oq lq cq bd od ld cd bl ol ll cl k a : Nat) (o d l : Int) (new : List Int) : List Fact := [
  fIs 16 (.pointer (some ⟨B, 0, none⟩)),
  fIs 17 (.slice (some ⟨g, 0, none⟩) lw cw),
  fIs 18 (.slice (some ⟨bq, oq, none⟩) lq cq),
  fIs 19 (.int .i64 (k : Int)),
  fIs 20 (.pointer (some ⟨bq, oq + k, none⟩)),
  fIs 21 (.int .i64 (a : Int)),
  fIs 22 (.pointer (some ⟨B, 0, none⟩)),
  fIs 23 (.slice (some ⟨g, 0, none⟩) lw cw),
  fIs 24 (.slice (some ⟨bq, oq, none⟩) lq cq),
  fIs 25 (.int .i64 (k : Int)),
  fIs 26 (.pointer (some ⟨bq, oq + k, none⟩)),
  fIs 27 (.int .i64 (a : Int)),
  fIs 28 (.pointer (some ⟨g, a, none⟩)),
  fIs 29 (.int .i64 o),
  fIs 30 (.slice (some ⟨bd, od, none⟩) ld cd),
  fIs 31 (.int .i64 (k : Int)),
  fIs 32 (.pointer (some ⟨bd, od + k, none⟩)),
  fIs 33 (.int .i64 d),
  fIs 34 (.slice (some ⟨bl, ol, none⟩) ll cl),
  fIs 35 (.int .i64 (k : Int)),
  fIs 36 (.pointer (some ⟨bl, ol + k, none⟩)),
  fIs 37 (.int .i64 l),
  fIs 38 (.int .i64 (wrdPutZ o d l)),
  fIs 39 (.pointer (some ⟨g, a, none⟩)),
  ⟨[], [], fun _ _ w => ORow 3 1 w g cw lw (new.map (Value.int .i64))⟩]

theorem st_l2Put (B g lw cw bq oq lq cq bd od ld cd bl ol ll cl k a : Nat) (o d l : Int) (new : List Int) : ∀ F ∈ fl_l2Put B g lw cw bq oq lq cq bd od ld cd bl ol ll cl k a o d l new, F.Stab :=
  stab_cons (fIs_stab _ _) <|
  stab_cons (fIs_stab _ _) <|
  stab_cons (fIs_stab _ _) <|
  stab_cons (fIs_stab _ _) <|
  stab_cons (fIs_stab _ _) <|
  stab_cons (fIs_stab _ _) <|
  stab_cons (fIs_stab _ _) <|
  stab_cons (fIs_stab _ _) <|
  stab_cons (fIs_stab _ _) <|
  stab_cons (fIs_stab _ _) <|
  stab_cons (fIs_stab _ _) <|
  stab_cons (fIs_stab _ _) <|
  stab_cons (fIs_stab _ _) <|
  stab_cons (fIs_stab _ _) <|
  stab_cons (fIs_stab _ _) <|
  stab_cons (fIs_stab _ _) <|
  stab_cons (fIs_stab _ _) <|
  stab_cons (fIs_stab _ _) <|
  stab_cons (fIs_stab _ _) <|
  stab_cons (fIs_stab _ _) <|
  stab_cons (fIs_stab _ _) <|
  stab_cons (fIs_stab _ _) <|
  stab_cons (fIs_stab _ _) <|
  stab_cons (fIs_stab _ _) <|
  stab_cons (by intro s d w w' hg h; exact h.gr hg) stab_nil

theorem any_l2Put (B g lw cw bq oq lq cq bd od ld cd bl ol ll cl k a : Nat) (o d l : Int) (new : List Int) : ∀ j, [24].contains j = false → ∀ s dn w w', True → (factsOf (fl_l2Put B g lw cw bq oq lq cq bd od ld cd bl ol ll cl k a o d l new) j).body s dn w → (factsOf (fl_l2Put B g lw cw bq oq lq cq bd od ld cd bl ol ll cl k a o d l new) j).body s dn w' := by
  intro j hj s dn w w' _ hb
  rcases j with _ | _ | _ | _ | _ | _ | _ | _ | _ | _ | _ | _ | _ | _ | _ | _ | _ | _ | _ | _ | _ | _ | _ | _ | _ | j
  all_goals first | exact hb | (exfalso; revert hj; decide) | trivial

theorem ask_l2Put {B g lw cw bq oq lq cq bd od ld cd bl ol ll cl k a : Nat} {o d l : Int} {new : List Int} (j : Nat) (hj : j < 25) (h : [24].contains j = true ∨ (factsOf (fl_l2Put B g lw cw bq oq lq cq bd od ld cd bl ol ll cl k a o d l new) j).dones.contains 24 = true) : j = 24 := by
  rcases j with _ | _ | _ | _ | _ | _ | _ | _ | _ | _ | _ | _ | _ | _ | _ | _ | _ | _ | _ | _ | _ | _ | _ | _ | _ | j
  all_goals first | (rcases h with h | h <;> exact absurd (show false = true from h) (by decide)) | omega

/-- a row of ints that is not block g -/
def Off (g : Nat) (p : Option Addr) (l : List Int) : Prop := l = [] ∨ ∀ b off, p = some ⟨b, off, none⟩ → b ≠ g

end Go.Proofs.Ytgjlkmhbaimjpaa
