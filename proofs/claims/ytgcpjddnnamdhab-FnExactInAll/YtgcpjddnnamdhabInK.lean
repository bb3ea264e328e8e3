/-
  What comes from outside, marked, and held.
-/
import Derived.Test.YtgcpjddnnamdhabInM
namespace Go.Proofs.Ytgcpjddnnamdhab
open Go.RowKit
set_option linter.unusedSimpArgs false
set_option linter.unusedVariables false

theorem markBL_nil (k : Int) : markBL k 0 = [] := by simp [markBL]
theorem OwnB.kept {w w' : World} {p : Option Addr} {cap : Nat} {l : List Bool} {D : Nat → Prop} (h : OwnB w p cap l) (hk : Kept D w w') (hd : ∀ b, l ≠ [] → p = some ⟨b, 0, none⟩ → ¬ D b) : OwnB w' p cap l := by
  by_cases hl : l = []
  · exact .inl hl
  rcases h with h | ⟨g, h1, h2⟩
  · exact absurd h hl
  · exact .inr ⟨g, h1, h2.of (hk.block g h2.lt (hd g hl h1))⟩
theorem OwnB.lt {w : World} {p : Option Addr} {cap : Nat} {l : List Bool} (h : OwnB w p cap l) (hl : l ≠ []) {b : Nat} (hb : p = some ⟨b, 0, none⟩) : b < w.heap.size := by
  rcases h with h | ⟨g, h1, h2⟩
  · exact absurd h hl
  · rw [hb] at h1; cases h1; exact h2.lt

/-- what is marked, and nothing else, turns -/
theorem markB_own (p : Option Addr) (cap : Nat) (l : List Bool) (k0 : Int) (w : World) (h : OwnB w p cap l) (hk0 : 0 ≤ k0) (hk1 : k0 ≤ 1000000000) (hl : l.length ≤ 10000000) (h1 : l.length ≤ cap) (h2 : cap ≤ 9223372036854775807) :
    Calls Try.prog 10 #[.slice p l.length cap, .int .i64 k0] w fun e w' => e = .returned (.int .i64 (k0 + (l.length : Int))) ∧ OwnB w' p cap (markBL k0 l.length) ∧ Kept (fun k => l ≠ [] ∧ p = some ⟨k, 0, none⟩) w w' := by
  by_cases hne : l = []
  · subst hne
    simp only [List.length_nil]
    have hX : OwnB w p cap (markBL k0 0) := .inl (markBL_nil k0)
    go_enter Try.func10, Try.ntmps10
    go_wp2
    go_loopw [1, 5] (fun kk i wr => kk = .int .i64 k0 ∧ i = .int .i64 0 ∧ wr = w) (fun _ _ _ => 0)
    case atStart => exact ⟨rfl, rfl, rfl⟩
    case round =>
      obtain ⟨rfl, rfl, rfl⟩ := hrel
      go_wp2
      go_ret
      exact ⟨by simp, hX, Kept.refl _ _⟩
  · refine (markB_gen p cap l k0 w h hk0 hk1 hl h1 h2).mono ?_
    rintro e w' ⟨rfl, hO, hk⟩
    exact ⟨rfl, hO, hk.mono (fun k e => ⟨hne, e⟩)⟩

/-- two rows share no block -/
def ApartB (p : Option Addr) (l : List Bool) (q : Option Addr) (m : List Bool) : Prop := l = [] ∨ m = [] ∨ p ≠ q
theorem ApartB.not {p q : Option Addr} {l m : List Bool} (h : ApartB p l q m) : ∀ b, m ≠ [] → q = some ⟨b, 0, none⟩ → ¬ (l ≠ [] ∧ p = some ⟨b, 0, none⟩) := by
  intro b hm hq hd
  rcases h with h | h | h
  · exact hd.1 h
  · exact hm h
  · exact h (hd.2.trans hq.symm)
theorem ApartB.not' {p q : Option Addr} {l m : List Bool} (h : ApartB p l q m) {k : Int} : ∀ b, markBL k l.length ≠ [] → p = some ⟨b, 0, none⟩ → ¬ (m ≠ [] ∧ q = some ⟨b, 0, none⟩) := by
  intro b hm hq hd
  rcases h with h | h | h
  · rw [h] at hm; exact hm (markBL_nil k)
  · exact hd.1 h
  · exact h (hq.trans hd.2.symm)

set_option maxRecDepth 100000 in
set_option maxHeartbeats 2000000 in
theorem markIn_any (p q r : Option Addr) (a b c : Nat) (A B C : List Bool) (k0 : Int) (w : World) (h1 : OwnB w p a A) (h2 : OwnB w q b B) (h3 : OwnB w r c C) (n1 : ApartB p A q B) (n2 : ApartB q B r C) (n3 : ApartB p A r C) (i0 : 0 ≤ k0) (i1 : k0 ≤ 1000000) (l1 : A.length ≤ 1048576) (l2 : B.length ≤ 1048576) (l3 : C.length ≤ 1048576) (a1 : A.length ≤ a) (a2 : a ≤ 9223372036854775807) (b1 : B.length ≤ b) (b2 : b ≤ 9223372036854775807) (c1 : C.length ≤ c) (c2 : c ≤ 9223372036854775807) :
    Calls Try.prog 7 #[.agg #[.slice p A.length a, .slice q B.length b, .slice r C.length c], .int .i64 k0] w fun e w' => e = .returned (.int .i64 (k0 + (A.length : Int) + (B.length : Int) + (C.length : Int))) ∧ OwnB w' p a (markBL k0 A.length) ∧ OwnB w' q b (markBL (k0 + (A.length : Int)) B.length) ∧ OwnB w' r c (markBL (k0 + (A.length : Int) + (B.length : Int)) C.length) ∧ Kept (fun j => (A ≠ [] ∧ p = some ⟨j, 0, none⟩) ∨ (B ≠ [] ∧ q = some ⟨j, 0, none⟩) ∨ (C ≠ [] ∧ r = some ⟨j, 0, none⟩)) w w' := by
  have hbl : ∀ o, Below w.heap.size w (w.alloc o) := fun o => (Below.refl _ w).alloc (Nat.le_refl _) o
  have H1 := Hid.intro h1
  have H2 := Hid.intro h2
  have H3 := Hid.intro h3
  clear h1 h2 h3
  go_enter Try.func7, Try.ntmps7
  go_wp2_with fail
  refine (markB_own p a A k0 _ (H1.out.below (hbl _)) i0 (by omega) (by omega) a1 a2).mono ?_
  rintro e w1 ⟨rfl, hO1, hk1⟩
  have hs1 := hk1.size
  simp at hs1
  have bA : w1.heap[w.heap.size]? = some (.cells #[.slice p A.length a, .slice q B.length b, .slice r C.length c] 24 (0, 0)) := (hk1.block _ (by simp) (fun e => by have := H1.out.lt e.1 e.2; omega)).trans (in_nw _ rfl)
  have hK1 := (Kept.of_below (D := fun k => A ≠ [] ∧ p = some ⟨k, 0, none⟩) (hbl _)).trans hk1
  have hQ1 := H2.out.kept hK1 n1.not
  have hR1 := H3.out.kept hK1 n3.not
  have HO1 := Hid.intro hO1
  have HQ1 := Hid.intro hQ1
  have HR1 := Hid.intro hR1
  have HK1 := Hid.intro hK1
  clear hO1 hk1 hK1 hQ1 hR1 hbl
  have d1 : w1.cell? ⟨w.heap.size, 1, none⟩ = some (.slice q B.length b) := heap_cell bA 1
  go_wp2_with fail
  refine (markB_own q b B (k0 + (A.length : Int)) w1 HQ1.out (by omega) (by omega) (by omega) b1 b2).mono ?_
  rintro e w2 ⟨rfl, hO2, hk2⟩
  have hs2 := hk2.size
  have bA2 := (hk2.block _ (by omega) (fun e => by have := H2.out.lt e.1 e.2; omega)).trans bA
  have HP2 := Hid.intro (HO1.out.kept hk2 n1.not')
  have HR2 := Hid.intro (HR1.out.kept hk2 n2.not)
  have HQ2 := Hid.intro hO2
  have HK2 : Hid (Kept (fun j => (A ≠ [] ∧ p = some ⟨j, 0, none⟩) ∨ (B ≠ [] ∧ q = some ⟨j, 0, none⟩)) w w2) := Hid.intro ((HK1.out.mono (fun k e => Or.inl e)).trans (hk2.mono (fun k e => Or.inr e)))
  clear hO2 hk2 HO1 HQ1 HR1 HK1 bA d1
  have d1 : w2.cell? ⟨w.heap.size, 2, none⟩ = some (.slice r C.length c) := heap_cell bA2 2
  go_wp2_with fail
  refine (markB_own r c C (k0 + (A.length : Int) + (B.length : Int)) w2 HR2.out (by omega) (by omega) (by omega) c1 c2).mono ?_
  rintro e w3 ⟨rfl, hO3, hk3⟩
  have HP3 := Hid.intro (HP2.out.kept hk3 n3.not')
  have HQ3 := Hid.intro (HQ2.out.kept hk3 n2.not')
  have HR3 := Hid.intro hO3
  have HK3 : Hid (Kept (fun j => (A ≠ [] ∧ p = some ⟨j, 0, none⟩) ∨ (B ≠ [] ∧ q = some ⟨j, 0, none⟩) ∨ (C ≠ [] ∧ r = some ⟨j, 0, none⟩)) w w3) := Hid.intro ((HK2.out.mono (fun k e => by rcases e with e | e; exact Or.inl e; exact Or.inr (Or.inl e))).trans (hk3.mono (fun k e => Or.inr (Or.inr e))))
  clear hO3 hk3 HP2 HQ2 HR2 HK2 bA2 d1
  go_wp2
  go_ret
  exact ⟨rfl, HP3.out, HQ3.out, HR3.out, HK3.out⟩

set_option maxRecDepth 100000 in
set_option maxHeartbeats 1000000 in
theorem heldIn_any (p q r : Option Addr) (a b c A B C : Nat) (k0 : Int) (w : World) (h1 : BoolsAt w p (markBL k0 A)) (h2 : BoolsAt w q (markBL (k0 + (A : Int)) B)) (h3 : BoolsAt w r (markBL (k0 + (A : Int) + (B : Int)) C)) (i0 : 0 ≤ k0) (i1 : k0 ≤ 1000000) (l1 : A ≤ 1048576) (l2 : B ≤ 1048576) (l3 : C ≤ 1048576) (a1 : A ≤ a) (a2 : a ≤ 9223372036854775807) (b1 : B ≤ b) (b2 : b ≤ 9223372036854775807) (c1 : C ≤ c) (c2 : c ≤ 9223372036854775807) :
    Calls Try.prog 8 #[.agg #[.slice p A a, .slice q B b, .slice r C c], .int .i64 k0] w fun e w' => e = .returned (.int .i64 (k0 + (A : Int) + (B : Int) + (C : Int))) ∧ Below w.heap.size w w' := by
  have hbl : ∀ o, Below w.heap.size w (w.alloc o) := fun o => (Below.refl _ w).alloc (Nat.le_refl _) o
  have j1 : ¬ (k0 + (A : Int) < 0) := by omega
  have j2 : ¬ (k0 + (A : Int) + (B : Int) < 0) := by omega
  have j3 : ¬ (k0 + (A : Int) + (B : Int) + (C : Int) < 0) := by omega
  have H1 := Hid.intro h1
  have H2 := Hid.intro h2
  have H3 := Hid.intro h3
  clear h1 h2 h3
  go_enter Try.func8, Try.ntmps8
  go_wp2_with fail
  refine (heldB_gen p a A k0 _ (H1.out.below (hbl _)) i0 (by omega) (by omega) a1 a2).mono ?_
  rintro e w1 ⟨rfl, rfl⟩
  go_wp2_with fail
  refine (heldB_gen q b B (k0 + (A : Int)) _ (H2.out.below (hbl _)) (by omega) (by omega) (by omega) b1 b2).mono ?_
  rintro e w2 ⟨rfl, rfl⟩
  go_wp2_with fail
  refine (heldB_gen r c C (k0 + (A : Int) + (B : Int)) _ (H3.out.below (hbl _)) (by omega) (by omega) (by omega) c1 c2).mono ?_
  rintro e w3 ⟨rfl, rfl⟩
  go_wp2
  go_ret
  exact ⟨rfl, hbl _⟩

end Go.Proofs.Ytgcpjddnnamdhab
