/-
  l4Copy of the model: the same store, and what is held, in new memory.
-/
import Derived.Test.YtgjlkmhbaimjpaaSpcA
namespace Go.Proofs.Ytgjlkmhbaimjpaa
open Go.RowKit
set_option linter.unusedSimpArgs false
set_option linter.unusedVariables false

/-- the class of worlds of a region that stores into one box of two cells: all else of what lay lies as it lay -/
structure CB2 (R : Nat) (T : TypeId) (W0 W : World) : Prop where
  kept : Kept (fun k => k = R) W0 W
  box : ∃ v0 v1, W.heap[R]? = some (.cells #[v0, v1] T (0, 0))
theorem CB2.gr {R : Nat} {T : TypeId} {W0 W W' : World} (h : CB2 R T W0 W) (hg : Gr W W') : CB2 R T W0 W' := by
  obtain ⟨hk, v0, v1, hb⟩ := h
  exact ⟨hk.trans (Kept.of_below hg), v0, v1, hg.cells hb⟩
theorem CB2.set {R : Nat} {T : TypeId} {W0 W : World} (h : CB2 R T W0 W) (v0 v1 : Value) : CB2 R T W0 ((W.setCell ⟨R, 0, none⟩ v0).setCell ⟨R, 1, none⟩ v1) := by
  obtain ⟨hk, u0, u1, hb⟩ := h
  exact ⟨(hk.trans (Kept.setCell (D := fun k => k = R) (p := ⟨R, 0, none⟩) _ rfl _)).trans (Kept.setCell (D := fun k => k = R) (p := ⟨R, 1, none⟩) _ rfl _), v0, v1, (heap_set (heap_set hb 0 v0) 1 v1).trans rfl⟩
theorem CB2.ints {R : Nat} {T : TypeId} {w W0 W : World} {p : Option Addr} {l : List Int} (h : CB2 R T W0 W) (hbw : Below w.heap.size w W0) (hR : w.heap.size ≤ R) (hi : IntsAt w p l) : IntsAt W p l := by
  rcases hi with hx | ⟨b, off, rfl, hb, hc⟩
  · exact .inl hx
  · have hs1 := hbw.size
    have hs2 := h.kept.size
    exact .inr ⟨b, off, rfl, by omega, fun k hk => (h.kept.cell (p := ⟨b, off + k, none⟩) (by show b < _; omega) (by show ¬ b = _; omega)).trans ((hbw.cell (p := ⟨b, off + k, none⟩) hb).trans (hc k hk))⟩

theorem below_nw (w : World) (o : Obj) : Gr w (w.alloc o) := (Below.refl _ w).alloc (Nat.le_refl _) o

def k3_l4Copy (M B R : Nat) (ws hs : List Int) (pw ph : Option Addr) (cw ch : Nat) : World → Value → Prop := fun w v => ∃ g, v = .slice (some ⟨g, 0, none⟩) 0 0 ∧ M ≤ g ∧ w.heap[g]? = some (.cells #[] 3 (0, 0))
def k6_l4Copy (M B R : Nat) (ws hs : List Int) (pw ph : Option Addr) (cw ch : Nat) : World → Value → Prop := fun w v => ∃ g c, v = .slice (some ⟨g, 0, none⟩) hs.length c ∧ M ≤ g ∧ ORow 3 1 w g c hs.length (hs.map (Value.int .i64)) ∧ hs.length ≤ c ∧ c ≤ 9223372036854775807
def k7_l4Copy (M B R : Nat) (ws hs : List Int) (pw ph : Option Addr) (cw ch : Nat) : World → Value → Prop := fun w v => ∃ g c g' c', v = .agg #[.slice (some ⟨g, 0, none⟩) ws.length c, .slice (some ⟨g', 0, none⟩) hs.length c'] ∧ M ≤ g ∧ ORow 3 1 w g c ws.length (ws.map (Value.int .i64)) ∧ ws.length ≤ c ∧ c ≤ 9223372036854775807 ∧ M ≤ g' ∧ ORow 3 1 w g' c' hs.length (hs.map (Value.int .i64)) ∧ hs.length ≤ c' ∧ c' ≤ 9223372036854775807 ∧ (hs ≠ [] → g ≠ g')

def fl_l4Copy (M B R : Nat) (ws hs : List Int) (pw ph : Option Addr) (cw ch : Nat) : List Fact := [
  fIs 3 (.pointer (some ⟨B, 0, none⟩)),
  fIs 4 (.agg #[.slice pw ws.length cw]),
  ⟨[5, 9], [6], fun s d w => ∃ g c, s 5 = .agg #[.slice (some ⟨g, 0, none⟩) ws.length c] ∧ M ≤ g ∧ ORow 3 1 w g c ws.length (ws.map (Value.int .i64)) ∧ ws.length ≤ c ∧ c ≤ 9223372036854775807 ∧ (d 6 = true → hs ≠ [] → ∀ g' c', s 9 = .slice (some ⟨g', 0, none⟩) hs.length c' → g ≠ g')⟩,
  fK 6 (k3_l4Copy M B R ws hs pw ph cw ch),
  fIs 7 (.pointer (some ⟨B, 1, none⟩)),
  fIs 8 (.slice ph hs.length ch),
  fK 9 (k6_l4Copy M B R ws hs pw ph cw ch),
  fK 10 (k7_l4Copy M B R ws hs pw ph cw ch),
  ⟨[10], [], fun s _ w => ∃ cs, s 10 = .agg cs ∧ w.heap[R]? = some (.cells cs 47 (0, 0))⟩]

theorem st_l4Copy (M B R : Nat) (ws hs : List Int) (pw ph : Option Addr) (cw ch : Nat) : ∀ F ∈ fl_l4Copy M B R ws hs pw ph cw ch, F.Stab :=
  stab_cons (fIs_stab _ _) <|
  stab_cons (fIs_stab _ _) <|
  stab_cons (by rintro s d w w' hg ⟨g, c, h1, h2, h3, h4⟩; exact ⟨g, c, h1, h2, h3.gr hg, h4⟩) <|
  stab_cons (fK_stab (by rintro w w' v hg ⟨g, h1, h2, h3⟩; exact ⟨g, h1, h2, hg.cells h3⟩)) <|
  stab_cons (fIs_stab _ _) <|
  stab_cons (fIs_stab _ _) <|
  stab_cons (fK_stab (by rintro w w' v hg ⟨g, c, h1, h2, h3, h4⟩; exact ⟨g, c, h1, h2, h3.gr hg, h4⟩)) <|
  stab_cons (fK_stab (by rintro w w' v hg ⟨g, c, g', c', h1, h2, h3, h4, h5, h6, h7, h8⟩; exact ⟨g, c, g', c', h1, h2, h3.gr hg, h4, h5, h6, h7.gr hg, h8⟩)) <|
  stab_cons (by rintro s d w w' hg ⟨cs, h1, h2⟩; exact ⟨cs, h1, hg.cells h2⟩) stab_nil

theorem ktl_l4Copy (M B R : Nat) (ws hs : List Int) (pw ph : Option Addr) (cw ch : Nat) : ∀ j, [8].contains j = false → ∀ s d w w', KT 47 w w' → (factsOf (fl_l4Copy M B R ws hs pw ph cw ch) j).body s d w → (factsOf (fl_l4Copy M B R ws hs pw ph cw ch) j).body s d w' := by
  intro j hj s d w w' hk hb
  rcases j with _ | _ | _ | _ | _ | _ | _ | _ | _ | j
  · exact hb
  · exact hb
  · obtain ⟨g, c, h1, h2, h3, h4⟩ := hb
    exact ⟨g, c, h1, h2, h3.kt hk (by decide), h4⟩
  · obtain ⟨g, h1, h2, h3⟩ := hb
    exact ⟨g, h1, h2, hk.cells h3 (by decide)⟩
  · exact hb
  · exact hb
  · obtain ⟨g, c, h1, h2, h3, h4⟩ := hb
    exact ⟨g, c, h1, h2, h3.kt hk (by decide), h4⟩
  · obtain ⟨g, c, g', c', h1, h2, h3, h4, h5, h6, h7, h8⟩ := hb
    exact ⟨g, c, g', c', h1, h2, h3.kt hk (by decide), h4, h5, h6, h7.kt hk (by decide), h8⟩
  · simp at hj
  · trivial

theorem ask_l4Copy {M B R : Nat} {ws hs : List Int} {pw ph : Option Addr} {cw ch : Nat} (j : Nat) (hj : j < 9) (h : (factsOf (fl_l4Copy M B R ws hs pw ph cw ch) j).dones.contains 6 = true) : j = 2 := by
  rcases j with _ | _ | _ | _ | _ | _ | _ | _ | _ | j
  all_goals first | rfl | exact absurd (show false = true from h) (by decide) | omega

theorem asks8_l4Copy {M B R : Nat} {ws hs : List Int} {pw ph : Option Addr} {cw ch : Nat} (j : Nat) (hj : j < 9) (h : [8].contains j = true ∨ (factsOf (fl_l4Copy M B R ws hs pw ph cw ch) j).dones.contains 8 = true) : j = 8 := by
  rcases j with _ | _ | _ | _ | _ | _ | _ | _ | _ | j
  all_goals first | rfl | (rcases h with h | h <;> exact absurd (show false = true from h) (by decide)) | omega

end Go.Proofs.Ytgjlkmhbaimjpaa
