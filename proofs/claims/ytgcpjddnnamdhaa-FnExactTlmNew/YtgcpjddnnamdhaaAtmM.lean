/-
  The laws' states: whether two are the same, marked, held, their size, a copy.
-/
import Derived.Test.YtgcpjddnnamdhaaMemM
import Derived.Test.YtgcpjddnnamdhaaSpcA
import Derived.Test.YtgcpjddnnamdhaaSpcB
namespace Go.Proofs.Ytgcpjddnnamdhaa
open Go.RowKit
set_option linter.unusedSimpArgs false
set_option linter.unusedVariables false

set_option maxHeartbeats 1000000 in
theorem eqAtm_same (s : Stt) (pw ph qw qh : Option Addr) (cw ch dw dh : Nat) (w : World) (h1 : StAt w s pw cw ph ch) (h2 : StAt w s qw dw qh dh) :
    Calls Try.prog 56 #[stV s pw cw ph ch, stV s qw dw qh dh] w fun e w' => e = .returned (.bool true) ∧ Below w.heap.size w w' := by
  have hbl : ∀ o o', Below w.heap.size w ((w.alloc o).alloc o') := fun o o' => ((Below.refl _ w).alloc (Nat.le_refl _) o).alloc (by simp) o'
  have H1 := Hid.intro h1
  have H2 := Hid.intro h2
  clear h1 h2
  unfold stV
  go_enter Try.func56, Try.ntmps56
  go_wp2_with fail
  refine (eqMem_same pw qw cw dw s.words _ (H1.out.below (hbl _ _)).words (H2.out.below (hbl _ _)).words H1.out.cw1 H1.out.cw2 H2.out.cw1 H2.out.cw2).mono ?_
  rintro e w1 ⟨rfl, hb1⟩
  have hs1 := hb1.size
  simp at hs1
  have bA : w1.heap[w.heap.size]? = some (.cells #[.slice pw s.words.length cw, .slice ph s.holds.length ch] 50 (0, 0)) := (hb1.block _ (by simp; omega)).trans ((Below.heap_alloc _ _ _ (by simp)).trans (nw_at _ rfl))
  have bB : w1.heap[w.heap.size + 1]? = some (.cells #[.slice qw s.words.length dw, .slice qh s.holds.length dh] 50 (0, 0)) := (hb1.block _ (by simp)).trans (nw_at _ (by simp))
  have c1 : w1.cell? ⟨w.heap.size, 1, none⟩ = some (.slice ph s.holds.length ch) := heap_cell bA 1
  have c2 : w1.cell? ⟨w.heap.size + 1, 1, none⟩ = some (.slice qh s.holds.length dh) := heap_cell bB 1
  have hb1' := (hbl _ _).trans (hb1.mono (hbl _ _).size)
  clear hb1 bA bB hbl
  go_wp2_with fail
  refine (eqIntS_same ph qh ch dh s.holds w1 (H1.out.below hb1').holds (H2.out.below hb1').holds H1.out.ch1 H1.out.ch2 H2.out.ch1 H2.out.ch2).mono ?_
  rintro e w2 ⟨rfl, hb2⟩
  have hb2' := hb1'.trans (hb2.mono hb1'.size)
  clear hb2 hb1'
  go_wp2
  go_ret
  exact ⟨rfl, hb2'⟩

theorem OwnI.kept {w w' : World} {p : Option Addr} {cap : Nat} {l : List Int} {D : Nat → Prop} (h : OwnI w p cap l) (hk : Kept D w w') (hd : ∀ b, l ≠ [] → p = some ⟨b, 0, none⟩ → ¬ D b) : OwnI w' p cap l := by
  by_cases hl : l = []
  · exact .inl hl
  rcases h with h | ⟨g, h1, h2⟩
  · exact absurd h hl
  · exact .inr ⟨g, h1, h2.of (hk.block g h2.lt (hd g hl h1))⟩
theorem OwnI.lt {w : World} {p : Option Addr} {cap : Nat} {l : List Int} (h : OwnI w p cap l) (hl : l ≠ []) {b : Nat} (hb : p = some ⟨b, 0, none⟩) : b < w.heap.size := by
  rcases h with h | ⟨g, h1, h2⟩
  · exact absurd h hl
  · rw [hb] at h1; cases h1; exact h2.lt
theorem markL_nil (k : Int) : markL k 0 = [] := by simp [markL]

/-- what is marked, and nothing else, turns -/
theorem mark_own (p : Option Addr) (cap : Nat) (l : List Int) (k0 : Int) (w : World) (h : OwnI w p cap l) (hk0 : 0 ≤ k0) (hk1 : k0 ≤ 1000000000) (hl : l.length ≤ 10000000) (h1 : l.length ≤ cap) (h2 : cap ≤ 9223372036854775807) :
    Calls Try.prog 59 #[.slice p l.length cap, .int .i64 k0] w fun e w' => e = .returned (.int .i64 (k0 + (l.length : Int))) ∧ OwnI w' p cap (markL k0 l.length) ∧ Kept (fun k => l ≠ [] ∧ p = some ⟨k, 0, none⟩) w w' := by
  by_cases hne : l = []
  · subst hne
    simp only [List.length_nil]
    have hX : OwnI w p cap (markL k0 0) := .inl (markL_nil k0)
    go_enter Try.func59, Try.ntmps59
    go_wp2
    go_loopw [1, 5] (fun kk i wr => kk = .int .i64 k0 ∧ i = .int .i64 0 ∧ wr = w) (fun _ _ _ => 0)
    case atStart => exact ⟨rfl, rfl, rfl⟩
    case round =>
      obtain ⟨rfl, rfl, rfl⟩ := hrel
      go_wp2
      go_ret
      exact ⟨by simp, hX, Kept.refl _ _⟩
  · refine (mark_gen p cap l k0 w h hk0 hk1 hl h1 h2).mono ?_
    rintro e w' ⟨rfl, hO, hk⟩
    exact ⟨rfl, hO, hk.mono (fun k e => ⟨hne, e⟩)⟩

theorem markMem_own (p : Option Addr) (cap : Nat) (l : List Int) (k0 : Int) (w : World) (h : OwnI w p cap l) (hk0 : 0 ≤ k0) (hk1 : k0 ≤ 1000000000) (hl : l.length ≤ 10000000) (h1 : l.length ≤ cap) (h2 : cap ≤ 9223372036854775807) :
    Calls Try.prog 95 #[.agg #[.slice p l.length cap], .int .i64 k0] w fun e w' => e = .returned (.int .i64 (k0 + (l.length : Int))) ∧ OwnI w' p cap (markL k0 l.length) ∧ Kept (fun k => l ≠ [] ∧ p = some ⟨k, 0, none⟩) w w' := by
  have hbl : ∀ o, Below w.heap.size w (w.alloc o) := fun o => (Below.refl _ w).alloc (Nat.le_refl _) o
  go_enter Try.func95, Try.ntmps95
  go_wp2_with fail
  refine (mark_own p cap l k0 _ (h.below (hbl _)) hk0 hk1 hl h1 h2).mono ?_
  rintro e w1 ⟨rfl, hO, hk⟩
  have hb := (Kept.of_below (hbl _)).trans hk
  go_wp2
  go_ret
  exact ⟨rfl, hO, hb⟩

set_option maxHeartbeats 1000000 in
theorem markAtm_any (p q : Option Addr) (cp cq : Nat) (l m : List Int) (k0 : Int) (w : World) (h : OwnI w p cp l) (h' : OwnI w q cq m) (hpq : l = [] ∨ m = [] ∨ p ≠ q) (hk0 : 0 ≤ k0) (hk1 : k0 ≤ 1000000) (hl : l.length ≤ 1000000) (hm : m.length ≤ 1000000) (h1 : l.length ≤ cp) (h2 : cp ≤ 9223372036854775807) (h3 : m.length ≤ cq) (h4 : cq ≤ 9223372036854775807) :
    Calls Try.prog 58 #[.agg #[.slice p l.length cp, .slice q m.length cq], .int .i64 k0] w fun e w' => e = .returned (.int .i64 (k0 + (l.length : Int) + (m.length : Int))) ∧ OwnI w' p cp (markL k0 l.length) ∧ OwnI w' q cq (markL (k0 + (l.length : Int)) m.length) ∧ Kept (fun k => (l ≠ [] ∧ p = some ⟨k, 0, none⟩) ∨ (m ≠ [] ∧ q = some ⟨k, 0, none⟩)) w w' := by
  have hbl : ∀ o, Below w.heap.size w (w.alloc o) := fun o => (Below.refl _ w).alloc (Nat.le_refl _) o
  have H := Hid.intro h
  have H' := Hid.intro h'
  clear h h'
  go_enter Try.func58, Try.ntmps58
  go_wp2_with fail
  refine (markMem_own p cp l k0 _ (H.out.below (hbl _)) hk0 (by omega) (by omega) h1 h2).mono ?_
  rintro e w1 ⟨rfl, hO1, hk1'⟩
  have hs1 := hk1'.size
  simp at hs1
  have bA : w1.heap[w.heap.size]? = some (.cells #[.slice p l.length cp, .slice q m.length cq] 50 (0, 0)) := (hk1'.block _ (by simp) (fun e => by have := H.out.lt e.1 e.2; omega)).trans (nw_at _ rfl)
  have c1 : w1.cell? ⟨w.heap.size, 1, none⟩ = some (.slice q m.length cq) := heap_cell bA 1
  have hk1w := (Kept.of_below (D := fun k => l ≠ [] ∧ p = some ⟨k, 0, none⟩) (hbl _)).trans hk1'
  have hO1' := H'.out.kept hk1w (fun b hne hb hd => by rcases hpq with h | h | h; · exact hd.1 h
                                                       · exact hne h
                                                       · exact h (hd.2.trans hb.symm))
  have HO1 := Hid.intro hO1
  have HK1 := Hid.intro hk1w
  clear hO1 hk1' hk1w bA hbl
  go_wp2_with fail
  refine (mark_own q cq m (k0 + (l.length : Int)) w1 hO1' (by omega) (by omega) (by omega) h3 h4).mono ?_
  rintro e w2 ⟨rfl, hO2, hk2⟩
  have hL : l.length = 0 → l = [] := fun h => List.length_eq_zero_iff.1 h
  have HO2 : Hid (OwnI w2 p cp (markL k0 l.length)) := Hid.intro (HO1.out.kept hk2 (fun b hne hb hd => by
    rcases hpq with h | h | h
    · rw [h] at hne; exact hne (markL_nil k0)
    · exact hd.1 h
    · exact h (hb.trans hd.2.symm)))
  have HK2 : Hid (Kept (fun k => (l ≠ [] ∧ p = some ⟨k, 0, none⟩) ∨ (m ≠ [] ∧ q = some ⟨k, 0, none⟩)) w w2) := Hid.intro ((HK1.out.mono (fun k e => Or.inl e)).trans (hk2.mono (fun k e => Or.inr e)))
  have HO3 := Hid.intro hO2
  clear hO2 hk2 hO1' HO1 HK1
  go_wp2
  go_ret
  exact ⟨rfl, HO2.out, HO3.out, HK2.out⟩

set_option maxHeartbeats 1000000 in
theorem heldAtm_any (p q : Option Addr) (cp cq n m : Nat) (k0 : Int) (w : World) (h : IntsAt w p (markL k0 n)) (h' : IntsAt w q (markL (k0 + (n : Int)) m)) (hk0 : 0 ≤ k0) (hk1 : k0 ≤ 1000000) (hl : n ≤ 1000000) (hm : m ≤ 1000000) (h1 : n ≤ cp) (h2 : cp ≤ 9223372036854775807) (h3 : m ≤ cq) (h4 : cq ≤ 9223372036854775807) :
    Calls Try.prog 61 #[.agg #[.slice p n cp, .slice q m cq], .int .i64 k0] w fun e w' => e = .returned (.int .i64 (k0 + (n : Int) + (m : Int))) ∧ Below w.heap.size w w' := by
  have hbl : ∀ o, Below w.heap.size w (w.alloc o) := fun o => (Below.refl _ w).alloc (Nat.le_refl _) o
  have hI : ¬ (k0 + (n : Int) < 0) := by omega
  have hJ : ¬ (k0 + (n : Int) + (m : Int) < 0) := by omega
  go_enter Try.func61, Try.ntmps61
  go_wp2_with fail
  refine (heldMem_any p cp n k0 _ (h.below (hbl _)) hk0 (by omega) (by omega) h1 h2).mono ?_
  rintro e w1 ⟨rfl, hb1⟩
  have hs1 := hb1.size
  simp at hs1
  have bA : w1.heap[w.heap.size]? = some (.cells #[.slice p n cp, .slice q m cq] 50 (0, 0)) := (hb1.block _ (by simp)).trans (nw_at _ rfl)
  have c1 : w1.cell? ⟨w.heap.size, 1, none⟩ = some (.slice q m cq) := heap_cell bA 1
  have hb1' := (hbl _).trans (hb1.mono (hbl _).size)
  clear hb1 bA hbl
  go_wp2_with fail
  refine (held_gen q cq m (k0 + (n : Int)) w1 (h'.below hb1') (by omega) (by omega) (by omega) h3 h4).mono ?_
  rintro e w2 ⟨rfl, hw⟩
  subst hw
  go_wp2
  go_ret
  exact ⟨rfl, hb1'⟩

end Go.Proofs.Ytgcpjddnnamdhaa
