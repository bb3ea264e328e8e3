/-
  The laws' states: whether two are the same, marked, held, their size, a copy.
-/
import Derived.Test.YtpbkpfdbdfnlbaaGreatMemM
import Derived.Test.YtpbkpfdbdfnlbaaGreatSpcA
import Derived.Test.YtpbkpfdbdfnlbaaGreatSpcB
namespace Go.Proofs.YtpbkpfdbdfnlbaaGreat
open Go.RowKit
set_option linter.unusedSimpArgs false
set_option linter.unusedVariables false

set_option maxHeartbeats 1000000 in
theorem eqAtm_same (s : Stt) (pw ph qw qh : Option Addr) (cw ch dw dh : Nat) (w : World) (h1 : StAt w s pw cw ph ch) (h2 : StAt w s qw dw qh dh) :
    Calls Tryz.prog 13 #[stV s pw cw ph ch, stV s qw dw qh dh] w fun e w' => e = .returned (.bool true) ∧ Below w.heap.size w w' := by
  have hbl : ∀ o o', Below w.heap.size w ((w.alloc o).alloc o') := fun o o' => ((Below.refl _ w).alloc (Nat.le_refl _) o).alloc (by simp) o'
  have H1 := Hid.intro h1
  have H2 := Hid.intro h2
  clear h1 h2
  unfold stV
  go_enter Tryz.func13, Tryz.ntmps13
  go_wp2_with fail
  refine (eqMem_same pw qw cw dw s.words _ (H1.out.below (hbl _ _)).words (H2.out.below (hbl _ _)).words H1.out.cw1 H1.out.cw2 H2.out.cw1 H2.out.cw2).mono ?_
  rintro e w1 ⟨rfl, hb1⟩
  have hs1 := hb1.size
  simp at hs1
  have bA : w1.heap[w.heap.size]? = some (.cells #[.slice pw s.words.length cw, .slice ph s.holds.length ch] 35 (0, 0)) := (hb1.block _ (by simp; omega)).trans ((Below.heap_alloc _ _ _ (by simp)).trans (nw_at _ rfl))
  have bB : w1.heap[w.heap.size + 1]? = some (.cells #[.slice qw s.words.length dw, .slice qh s.holds.length dh] 35 (0, 0)) := (hb1.block _ (by simp)).trans (nw_at _ (by simp))
  have c1 : w1.cell? ⟨w.heap.size, 1, none⟩ = some (.slice ph s.holds.length ch) := heap_cell bA 1
  have c2 : w1.cell? ⟨w.heap.size + 1, 1, none⟩ = some (.slice qh s.holds.length dh) := heap_cell bB 1
  have hb1' := (hbl _ _).trans (hb1.mono (hbl _ _).size)
  clear hb1 bA bB hbl
  go_wp2_with fail
  refine (eqIntS_same ph qh ch dh s.holds w1 (H1.out.below hb1').holds (H2.out.below hb1').holds H1.out.ch1 H1.out.ch2 H2.out.ch1 H2.out.ch2).mono ?_
  rintro e w2 ⟨rfl, hb2⟩
  have hb2' := hb1'.trans (hb2.mono hb1'.size)
  clear hb2 hb1'
  go_wp2
  go_ret
  exact ⟨rfl, hb2'⟩

theorem OwnI.kept {w w' : World} {p : Option Addr} {cap : Nat} {l : List Int} {D : Nat → Prop} (h : OwnI w p cap l) (hk : Kept D w w') (hd : ∀ b, l ≠ [] → p = some ⟨b, 0, none⟩ → ¬ D b) : OwnI w' p cap l := by
  by_cases hl : l = []
  · exact .inl hl
  rcases h with h | ⟨g, h1, h2⟩
  · exact absurd h hl
  · exact .inr ⟨g, h1, h2.of (hk.block g h2.lt (hd g hl h1))⟩
theorem OwnI.lt {w : World} {p : Option Addr} {cap : Nat} {l : List Int} (h : OwnI w p cap l) (hl : l ≠ []) {b : Nat} (hb : p = some ⟨b, 0, none⟩) : b < w.heap.size := by
  rcases h with h | ⟨g, h1, h2⟩
  · exact absurd h hl
  · rw [hb] at h1; cases h1; exact h2.lt
theorem markL_nil (k : Int) : markL k 0 = [] := by simp [markL]

/-- what is marked, and nothing else, turns -/
theorem mark_own (p : Option Addr) (cap : Nat) (l : List Int) (k0 : Int) (w : World) (h : OwnI w p cap l) (hk0 : 0 ≤ k0) (hk1 : k0 ≤ 1000000000) (hl : l.length ≤ 10000000) (h1 : l.length ≤ cap) (h2 : cap ≤ 9223372036854775807) :
    Calls Tryz.prog 52 #[.slice p l.length cap, .int .i64 k0] w fun e w' => e = .returned (.int .i64 (k0 + (l.length : Int))) ∧ OwnI w' p cap (markL k0 l.length) ∧ Kept (fun k => l ≠ [] ∧ p = some ⟨k, 0, none⟩) w w' := by
  by_cases hne : l = []
  · subst hne
    simp only [List.length_nil]
    have hX : OwnI w p cap (markL k0 0) := .inl (markL_nil k0)
    go_enter Tryz.func52, Tryz.ntmps52
    go_wp2
    go_loopw [1, 5] (fun kk i wr => kk = .int .i64 k0 ∧ i = .int .i64 0 ∧ wr = w) (fun _ _ _ => 0)
    case atStart => exact ⟨rfl, rfl, rfl⟩
    case round =>
      obtain ⟨rfl, rfl, rfl⟩ := hrel
      go_wp2
      go_ret
      exact ⟨by simp, hX, Kept.refl _ _⟩
  · refine (mark_gen p cap l k0 w h hk0 hk1 hl h1 h2).mono ?_
    rintro e w' ⟨rfl, hO, hk⟩
    exact ⟨rfl, hO, hk.mono (fun k e => ⟨hne, e⟩)⟩

theorem markMem_own (p : Option Addr) (cap : Nat) (l : List Int) (k0 : Int) (w : World) (h : OwnI w p cap l) (hk0 : 0 ≤ k0) (hk1 : k0 ≤ 1000000000) (hl : l.length ≤ 10000000) (h1 : l.length ≤ cap) (h2 : cap ≤ 9223372036854775807) :
    Calls Tryz.prog 51 #[.agg #[.slice p l.length cap], .int .i64 k0] w fun e w' => e = .returned (.int .i64 (k0 + (l.length : Int))) ∧ OwnI w' p cap (markL k0 l.length) ∧ Kept (fun k => l ≠ [] ∧ p = some ⟨k, 0, none⟩) w w' := by
  have hbl : ∀ o, Below w.heap.size w (w.alloc o) := fun o => (Below.refl _ w).alloc (Nat.le_refl _) o
  go_enter Tryz.func51, Tryz.ntmps51
  go_wp2_with fail
  refine (mark_own p cap l k0 _ (h.below (hbl _)) hk0 hk1 hl h1 h2).mono ?_
  rintro e w1 ⟨rfl, hO, hk⟩
  have hb := (Kept.of_below (hbl _)).trans hk
  go_wp2
  go_ret
  exact ⟨rfl, hO, hb⟩

set_option maxHeartbeats 1000000 in
theorem markAtm_any (p q : Option Addr) (cp cq : Nat) (l m : List Int) (k0 : Int) (w : World) (h : OwnI w p cp l) (h' : OwnI w q cq m) (hpq : l = [] ∨ m = [] ∨ p ≠ q) (hk0 : 0 ≤ k0) (hk1 : k0 ≤ 1000000) (hl : l.length ≤ 1000000) (hm : m.length ≤ 1000000) (h1 : l.length ≤ cp) (h2 : cp ≤ 9223372036854775807) (h3 : m.length ≤ cq) (h4 : cq ≤ 9223372036854775807) :
    Calls Tryz.prog 18 #[.agg #[.slice p l.length cp, .slice q m.length cq], .int .i64 k0] w fun e w' => e = .returned (.int .i64 (k0 + (l.length : Int) + (m.length : Int))) ∧ OwnI w' p cp (markL k0 l.length) ∧ OwnI w' q cq (markL (k0 + (l.length : Int)) m.length) ∧ Kept (fun k => (l ≠ [] ∧ p = some ⟨k, 0, none⟩) ∨ (m ≠ [] ∧ q = some ⟨k, 0, none⟩)) w w' := by
  have hbl : ∀ o, Below w.heap.size w (w.alloc o) := fun o => (Below.refl _ w).alloc (Nat.le_refl _) o
  have H := Hid.intro h
  have H' := Hid.intro h'
  clear h h'
  go_enter Tryz.func18, Tryz.ntmps18
  go_wp2_with fail
  refine (markMem_own p cp l k0 _ (H.out.below (hbl _)) hk0 (by omega) (by omega) h1 h2).mono ?_
  rintro e w1 ⟨rfl, hO1, hk1'⟩
  have hs1 := hk1'.size
  simp at hs1
  have bA : w1.heap[w.heap.size]? = some (.cells #[.slice p l.length cp, .slice q m.length cq] 35 (0, 0)) := (hk1'.block _ (by simp) (fun e => by have := H.out.lt e.1 e.2; omega)).trans (nw_at _ rfl)
  have c1 : w1.cell? ⟨w.heap.size, 1, none⟩ = some (.slice q m.length cq) := heap_cell bA 1
  have hk1w := (Kept.of_below (D := fun k => l ≠ [] ∧ p = some ⟨k, 0, none⟩) (hbl _)).trans hk1'
  have hO1' := H'.out.kept hk1w (fun b hne hb hd => by rcases hpq with h | h | h; · exact hd.1 h
                                                       · exact hne h
                                                       · exact h (hd.2.trans hb.symm))
  have HO1 := Hid.intro hO1
  have HK1 := Hid.intro hk1w
  clear hO1 hk1' hk1w bA hbl
  go_wp2_with fail
  refine (mark_own q cq m (k0 + (l.length : Int)) w1 hO1' (by omega) (by omega) (by omega) h3 h4).mono ?_
  rintro e w2 ⟨rfl, hO2, hk2⟩
  have hL : l.length = 0 → l = [] := fun h => List.length_eq_zero_iff.1 h
  have HO2 : Hid (OwnI w2 p cp (markL k0 l.length)) := Hid.intro (HO1.out.kept hk2 (fun b hne hb hd => by
    rcases hpq with h | h | h
    · rw [h] at hne; exact hne (markL_nil k0)
    · exact hd.1 h
    · exact h (hb.trans hd.2.symm)))
  have HK2 : Hid (Kept (fun k => (l ≠ [] ∧ p = some ⟨k, 0, none⟩) ∨ (m ≠ [] ∧ q = some ⟨k, 0, none⟩)) w w2) := Hid.intro ((HK1.out.mono (fun k e => Or.inl e)).trans (hk2.mono (fun k e => Or.inr e)))
  have HO3 := Hid.intro hO2
  clear hO2 hk2 hO1' HO1 HK1
  go_wp2
  go_ret
  exact ⟨rfl, HO2.out, HO3.out, HK2.out⟩

set_option maxHeartbeats 1000000 in
theorem heldAtm_any (p q : Option Addr) (cp cq n m : Nat) (k0 : Int) (w : World) (h : IntsAt w p (markL k0 n)) (h' : IntsAt w q (markL (k0 + (n : Int)) m)) (hk0 : 0 ≤ k0) (hk1 : k0 ≤ 1000000) (hl : n ≤ 1000000) (hm : m ≤ 1000000) (h1 : n ≤ cp) (h2 : cp ≤ 9223372036854775807) (h3 : m ≤ cq) (h4 : cq ≤ 9223372036854775807) :
    Calls Tryz.prog 21 #[.agg #[.slice p n cp, .slice q m cq], .int .i64 k0] w fun e w' => e = .returned (.int .i64 (k0 + (n : Int) + (m : Int))) ∧ Below w.heap.size w w' := by
  have hbl : ∀ o, Below w.heap.size w (w.alloc o) := fun o => (Below.refl _ w).alloc (Nat.le_refl _) o
  have hI : ¬ (k0 + (n : Int) < 0) := by omega
  have hJ : ¬ (k0 + (n : Int) + (m : Int) < 0) := by omega
  go_enter Tryz.func21, Tryz.ntmps21
  go_wp2_with fail
  refine (heldMem_any p cp n k0 _ (h.below (hbl _)) hk0 (by omega) (by omega) h1 h2).mono ?_
  rintro e w1 ⟨rfl, hb1⟩
  have hs1 := hb1.size
  simp at hs1
  have bA : w1.heap[w.heap.size]? = some (.cells #[.slice p n cp, .slice q m cq] 35 (0, 0)) := (hb1.block _ (by simp)).trans (nw_at _ rfl)
  have c1 : w1.cell? ⟨w.heap.size, 1, none⟩ = some (.slice q m cq) := heap_cell bA 1
  have hb1' := (hbl _).trans (hb1.mono (hbl _).size)
  clear hb1 bA hbl
  go_wp2_with fail
  refine (held_gen q cq m (k0 + (n : Int)) w1 (h'.below hb1') (by omega) (by omega) (by omega) h3 h4).mono ?_
  rintro e w2 ⟨rfl, hw⟩
  subst hw
  go_wp2
  go_ret
  exact ⟨rfl, hb1'⟩

set_option maxHeartbeats 1000000 in
theorem szAtm_any (p q : Option Addr) (n m cp cq : Nat) (left : Int) (w : World) (h : n ≤ 9223372036854775807) (h' : m ≤ 9223372036854775807) (h0 : 0 ≤ left) (h1 : left ≤ 1048576) :
    Calls Tryz.prog 6 #[.agg #[.slice p n cp, .slice q m cq], .int .i64 left] w fun e w' => e = .returned (.int .i64 (if (n : Int) + (m : Int) ≤ left then left - n - m else -1)) ∧ Below w.heap.size w w' := by
  have hbl : ∀ o, Below w.heap.size w (w.alloc o) := fun o => (Below.refl _ w).alloc (Nat.le_refl _) o
  by_cases hn : (n : Int) ≤ left
  · have hI : ¬ (left - (n : Int) < 0) := by omega
    by_cases hm : (m : Int) ≤ left - n
    · have hJ : ¬ (left - (n : Int) - (m : Int) < 0) := by omega
      rw [if_pos (by omega)]
      go_enter Tryz.func6, Tryz.ntmps6
      go_wp2_with fail
      refine (szMem_any p n cp left _ h h0 h1).mono ?_
      rintro e w1 ⟨rfl, hb1⟩
      rw [if_pos hn]
      have bA : w1.heap[w.heap.size]? = some (.cells #[.slice p n cp, .slice q m cq] 27 (0, 0)) := (hb1.block _ (by simp)).trans (nw_at _ rfl)
      have c1 : w1.cell? ⟨w.heap.size, 1, none⟩ = some (.slice q m cq) := heap_cell bA 1
      have hb1' := (hbl _).trans (hb1.mono (hbl _).size)
      clear hb1 bA
      go_wp2_with fail
      refine (szInts_any q m cq (left - n) w1 h' (by omega) (by omega)).mono ?_
      rintro e w2 ⟨rfl, hw⟩
      subst hw
      rw [if_pos hm]
      go_wp2
      go_ret
      exact ⟨rfl, hb1'⟩
    · rw [if_neg (by omega)]
      go_enter Tryz.func6, Tryz.ntmps6
      go_wp2_with fail
      refine (szMem_any p n cp left _ h h0 h1).mono ?_
      rintro e w1 ⟨rfl, hb1⟩
      rw [if_pos hn]
      have bA : w1.heap[w.heap.size]? = some (.cells #[.slice p n cp, .slice q m cq] 27 (0, 0)) := (hb1.block _ (by simp)).trans (nw_at _ rfl)
      have c1 : w1.cell? ⟨w.heap.size, 1, none⟩ = some (.slice q m cq) := heap_cell bA 1
      have hb1' := (hbl _).trans (hb1.mono (hbl _).size)
      clear hb1 bA
      go_wp2_with fail
      refine (szInts_any q m cq (left - n) w1 h' (by omega) (by omega)).mono ?_
      rintro e w2 ⟨rfl, hw⟩
      subst hw
      rw [if_neg (show ¬ ((m : Int) ≤ left - n) by omega)]
      go_wp2
      go_ret
      exact ⟨rfl, hb1'⟩
  · rw [if_neg (by omega)]
    go_enter Tryz.func6, Tryz.ntmps6
    go_wp2_with fail
    refine (szMem_any p n cp left _ h h0 h1).mono ?_
    rintro e w1 ⟨rfl, hb1⟩
    rw [if_neg (show ¬ ((n : Int) ≤ left) by omega)]
    have hb1' := (hbl _).trans (hb1.mono (hbl _).size)
    clear hb1
    go_wp2
    go_ret
    exact ⟨rfl, hb1'⟩

set_option maxHeartbeats 1000000 in
theorem toAtm_any (s : Stt) (pw ph : Option Addr) (cw ch : Nat) (w : World) (h : StAt w s pw cw ph ch) (hl : s.words.length ≤ 1048576) (hm : s.holds.length ≤ 1048576) :
    Calls Tryz.prog 10 #[stV s pw cw ph ch] w fun e w' => ∃ g g', e = .returned (stV s (some ⟨g, 0, none⟩) s.words.length (some ⟨g', 0, none⟩) s.holds.length) ∧ ORow 3 1 w' g s.words.length s.words.length (s.words.map (Value.int .i64)) ∧ ORow 3 1 w' g' s.holds.length s.holds.length (s.holds.map (Value.int .i64)) ∧ w.heap.size ≤ g ∧ w.heap.size ≤ g' ∧ g ≠ g' ∧ Below w.heap.size w w' := by
  have HA := Hid.intro h
  clear h
  unfold stV
  have hb3 : ∀ o o' o'', Below w.heap.size w (((w.alloc o).alloc o').alloc o'') := fun o o' o'' => (((Below.refl _ w).alloc (Nat.le_refl _) o).alloc (by simp) o').alloc (by simp; omega) o''
  go_enter Tryz.func10, Tryz.ntmps10
  go_wp2_with fail
  obtain ⟨W0, hW0⟩ : ∃ W0, ((w.alloc (.cells #[.slice pw s.words.length cw, .slice ph s.holds.length ch] 27)).alloc (.cells #[.slice none 0 0, .slice none 0 0] 35)).alloc (.cells #[.slice none 0 0, .slice none 0 0] 35) = W0 := ⟨_, rfl⟩
  have hb0 : Below w.heap.size w W0 := by rw [← hW0]; exact hb3 _ _ _
  have hA0 : W0.heap[w.heap.size]? = some (.cells #[.slice pw s.words.length cw, .slice ph s.holds.length ch] 27 (0, 0)) := by rw [← hW0]; exact (Below.heap_alloc _ _ _ (by simp; omega)).trans ((Below.heap_alloc _ _ _ (by simp)).trans (nw_at _ rfl))
  have hR0 : W0.heap[w.heap.size + 1]? = some (.cells #[.slice none 0 0, .slice none 0 0] 35 (0, 0)) := by rw [← hW0]; exact (Below.heap_alloc _ _ _ (by simp)).trans (nw_at _ (by simp))
  have hX0 : W0.heap[w.heap.size + 1 + 1]? = some (.cells #[.slice none 0 0, .slice none 0 0] 35 (0, 0)) := by rw [← hW0]; exact nw_at _ (by simp)
  rw [hW0]
  clear hW0 hb3
  refine (toMem_any pw cw s.words W0 (HA.out.below hb0).words HA.out.cw1 HA.out.cw2 hl).mono ?_
  rintro e w1 ⟨g, rfl, hg, hgl, hb1⟩
  have hA1 := (hb1.block _ (heap_lt hA0)).trans hA0
  have hR1 := (hb1.block _ (heap_lt hR0)).trans hR0
  have hX1 := (hb1.block _ (heap_lt hX0)).trans hX0
  have hb1' := hb0.trans (hb1.mono hb0.size)
  have hlX := heap_lt hX0
  have hlg := hg.lt
  have hs0 := hb0.size
  have hs1 := hb1.size
  clear hb1 hb0 hA0 hR0 hX0
  have x0 : w1.cell? ⟨w.heap.size + 1 + 1, 0, none⟩ = some (.slice none 0 0) := heap_cell hX1 0
  have f0 := heap_free hX1 0
  have a1 : w1.cell? ⟨w.heap.size, 1, none⟩ = some (.slice ph s.holds.length ch) := heap_cell hA1 1
  go_wp2_with fail
  obtain ⟨W2, hW2⟩ : ∃ W2, w1.setCell ⟨w.heap.size + 1 + 1, 0, none⟩ (.slice (some ⟨g, 0, none⟩) s.words.length s.words.length) = W2 := ⟨_, rfl⟩
  have hb2 : Below w.heap.size w W2 := by rw [← hW2]; exact hb1'.setCell (p := ⟨w.heap.size + 1 + 1, 0, none⟩) (by show w.heap.size ≤ w.heap.size + 1 + 1; omega) _
  have hz2 : W2.heap.size = w1.heap.size := by rw [← hW2]; simp
  have hR2 : W2.heap[w.heap.size + 1]? = some (.cells #[.slice none 0 0, .slice none 0 0] 35 (0, 0)) := by rw [← hW2]; exact (heap_set_ne (by omega)).trans hR1
  have hX2 : W2.heap[w.heap.size + 1 + 1]? = some (.cells #[.slice (some ⟨g, 0, none⟩) s.words.length s.words.length, .slice none 0 0] 35 (0, 0)) := by rw [← hW2]; exact (heap_set hX1 0 _).trans rfl
  have hg2 := hg.of (w' := W2) (by rw [← hW2]; exact heap_set_ne (by omega))
  rw [hW2]
  clear hW2 hb1' hR1 hX1 hA1 hg x0 f0
  refine (toInts_any ph ch s.holds W2 (HA.out.below hb2).holds HA.out.ch1 HA.out.ch2 hm).mono ?_
  rintro e w3 ⟨rfl, hg', hb3⟩
  have hR3 := (hb3.block _ (heap_lt hR2)).trans hR2
  have hX3 := (hb3.block _ (heap_lt hX2)).trans hX2
  have hg3 := hg2.of (hb3.block _ hg2.lt)
  have hb3' := hb2.trans (hb3.mono hb2.size)
  have hlg' := hg'.lt
  clear hb3 hb2 hR2 hX2 hg2
  have x0 : w3.cell? ⟨w.heap.size + 1 + 1, 0, none⟩ = some (.slice (some ⟨g, 0, none⟩) s.words.length s.words.length) := heap_cell hX3 0
  have x1 : w3.cell? ⟨w.heap.size + 1 + 1, 1, none⟩ = some (.slice none 0 0) := heap_cell hX3 1
  have f1 := heap_free hX3 1
  have r0 : w3.cell? ⟨w.heap.size + 1, 0, none⟩ = some (.slice none 0 0) := heap_cell hR3 0
  have r1 : w3.cell? ⟨w.heap.size + 1, 1, none⟩ = some (.slice none 0 0) := heap_cell hR3 1
  have e0 := heap_free hR3 0
  have e1 := heap_free hR3 1
  have hlX3 := heap_lt hX3
  obtain ⟨G, hG⟩ : ∃ G, G = W2.heap.size := ⟨_, rfl⟩
  rw [← hG] at hg' hlg' ⊢
  have hGl : w1.heap.size ≤ G := by omega
  have hGw : W2.heap.size = G := hG.symm
  clear hG
  have HG := Hid.intro (And.intro hg3 (And.intro hg' hb3'))
  have HR := Hid.intro hR3
  clear hg3 hg' hb3' hX3 hR3 hGw hz2
  go_wp2
  obtain ⟨V, hV⟩ : ∃ V, ((w3.setCell ⟨w.heap.size + 1 + 1, 1, none⟩ (.slice (some ⟨G, 0, none⟩) s.holds.length s.holds.length)).setCell ⟨w.heap.size + 1, 0, none⟩ (.slice (some ⟨g, 0, none⟩) s.words.length s.words.length)).setCell ⟨w.heap.size + 1, 1, none⟩ (.slice (some ⟨G, 0, none⟩) s.holds.length s.holds.length) = V := ⟨_, rfl⟩
  have hRV : V.heap[w.heap.size + 1]? = some (.cells #[.slice (some ⟨g, 0, none⟩) s.words.length s.words.length, .slice (some ⟨G, 0, none⟩) s.holds.length s.holds.length] 35 (0, 0)) := by
    rw [← hV]
    exact (heap_set (heap_set ((heap_set_ne (by omega)).trans HR.out) 0 _) 1 _).trans rfl
  have hkV : ∀ k, k ≠ w.heap.size + 1 → k ≠ w.heap.size + 1 + 1 → V.heap[k]? = w3.heap[k]? := fun k h1 h2 => by rw [← hV]; exact (heap_set_ne h1).trans ((heap_set_ne h1).trans (heap_set_ne h2))
  have hbV : Below w.heap.size w V := by rw [← hV]; exact ((HG.out.2.2.setCell (p := ⟨w.heap.size + 1 + 1, 1, none⟩) (by show w.heap.size ≤ w.heap.size + 1 + 1; omega) _).setCell (p := ⟨w.heap.size + 1, 0, none⟩) (by show w.heap.size ≤ w.heap.size + 1; omega) _).setCell (p := ⟨w.heap.size + 1, 1, none⟩) (by show w.heap.size ≤ w.heap.size + 1; omega) _
  rw [hV]
  have s0 : V.cell? ⟨w.heap.size + 1, 0, none⟩ = some (.slice (some ⟨g, 0, none⟩) s.words.length s.words.length) := heap_cell hRV 0
  have s1 : V.cell? ⟨w.heap.size + 1, 1, none⟩ = some (.slice (some ⟨G, 0, none⟩) s.holds.length s.holds.length) := heap_cell hRV 1
  refine bodyPost_ret (v := .agg #[.slice (some ⟨g, 0, none⟩) s.words.length s.words.length, .slice (some ⟨G, 0, none⟩) s.holds.length s.holds.length]) (by simp [results, Tryz.results10, go_sem, s0, s1]) rfl ⟨g, G, rfl, HG.out.1.of (hkV g (by omega) (by omega)), HG.out.2.1.of (hkV G (by omega) (by omega)), by omega, by omega, by omega, hbV⟩

end Go.Proofs.YtpbkpfdbdfnlbaaGreat
