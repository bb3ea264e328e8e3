/-
  The laws' stores: whether two are the same, marked, held, their size, a copy.
-/
import Derived.Test.YtpbkpfdbdfnlbaaGreatProg
import Derived.Test.YtpbkpfdbdfnlbaaGreatMem
import Derived.Test.YtpbkpfdbdfnlbaaGreatMarkG
import Derived.Test.YtpbkpfdbdfnlbaaGreatToInts
namespace Go.Proofs.YtpbkpfdbdfnlbaaGreat
open Go.RowKit
set_option linter.unusedSimpArgs false
set_option linter.unusedVariables false

theorem eqMem_same (p q : Option Addr) (c1 c2 : Nat) (xs : List Int) (w : World) (hp : IntsAt w p xs) (hq : IntsAt w q xs) (h1 : xs.length ≤ c1) (h2 : c1 ≤ 9223372036854775807) (h3 : xs.length ≤ c2) (h4 : c2 ≤ 9223372036854775807) :
    Calls Tryz.prog 48 #[.agg #[.slice p xs.length c1], .agg #[.slice q xs.length c2]] w fun e w' => e = .returned (.bool true) ∧ Below w.heap.size w w' := by
  have hbl : ∀ o o', Below w.heap.size w ((w.alloc o).alloc o') := fun o o' => ((Below.refl _ w).alloc (Nat.le_refl _) o).alloc (by simp) o'
  go_enter Tryz.func48, Tryz.ntmps48
  go_wp2_with fail
  refine (eqIntS_same p q c1 c2 xs _ (hp.below (hbl _ _)) (hq.below (hbl _ _)) h1 h2 h3 h4).mono ?_
  rintro e w1 ⟨rfl, hb1⟩
  have hb := (hbl _ _).trans (hb1.mono (hbl _ _).size)
  go_wp2
  go_ret
  exact ⟨rfl, hb⟩

theorem markMem_any (p : Option Addr) (cap : Nat) (l : List Int) (k0 : Int) (w : World) (h : OwnI w p cap l) (hk0 : 0 ≤ k0) (hk1 : k0 ≤ 1000000000) (hl : l.length ≤ 10000000) (h1 : l.length ≤ cap) (h2 : cap ≤ 9223372036854775807) :
    Calls Tryz.prog 51 #[.agg #[.slice p l.length cap], .int .i64 k0] w fun e w' => e = .returned (.int .i64 (k0 + (l.length : Int))) ∧ OwnI w' p cap (markL k0 l.length) ∧ Kept (fun k => p = some ⟨k, 0, none⟩) w w' := by
  have hbl : ∀ o, Below w.heap.size w (w.alloc o) := fun o => (Below.refl _ w).alloc (Nat.le_refl _) o
  go_enter Tryz.func51, Tryz.ntmps51
  go_wp2_with fail
  refine (mark_gen p cap l k0 _ (h.below (hbl _)) hk0 hk1 hl h1 h2).mono ?_
  rintro e w1 ⟨rfl, hO, hk⟩
  have hb := (Kept.of_below (hbl _)).trans hk
  go_wp2
  go_ret
  exact ⟨rfl, hO, hb⟩

theorem heldMem_any (p : Option Addr) (cap n : Nat) (k0 : Int) (w : World) (h : IntsAt w p (markL k0 n)) (hk0 : 0 ≤ k0) (hk1 : k0 ≤ 1000000000) (hl : n ≤ 10000000) (h1 : n ≤ cap) (h2 : cap ≤ 9223372036854775807) :
    Calls Tryz.prog 53 #[.agg #[.slice p n cap], .int .i64 k0] w fun e w' => e = .returned (.int .i64 (k0 + (n : Int))) ∧ Below w.heap.size w w' := by
  have hbl : ∀ o, Below w.heap.size w (w.alloc o) := fun o => (Below.refl _ w).alloc (Nat.le_refl _) o
  have hI : ¬ (k0 + (n : Int) < 0) := by omega
  go_enter Tryz.func53, Tryz.ntmps53
  go_wp2_with fail
  refine (held_gen p cap n k0 _ (h.below (hbl _)) hk0 hk1 hl h1 h2).mono ?_
  rintro e w1 ⟨rfl, rfl⟩
  go_wp2
  go_ret
  exact ⟨rfl, hbl _⟩

theorem szMem_any (a : Option Addr) (len cap : Nat) (left : Int) (w : World) (h : len ≤ 9223372036854775807) (h0 : 0 ≤ left) (h1 : left ≤ 1048576) :
    Calls Tryz.prog 32 #[.agg #[.slice a len cap], .int .i64 left] w fun e w' => e = .returned (.int .i64 (if (len : Int) ≤ left then left - len else -1)) ∧ Below w.heap.size w w' := by
  have hbl : ∀ o, Below w.heap.size w (w.alloc o) := fun o => (Below.refl _ w).alloc (Nat.le_refl _) o
  by_cases hl : (len : Int) ≤ left
  · have hI : ¬ (left - (len : Int) < 0) := by omega
    go_enter Tryz.func32, Tryz.ntmps32
    go_wp2_with fail
    refine (szInts_any a len cap left _ h h0 h1).mono ?_
    rintro e w1 ⟨rfl, rfl⟩
    rw [if_pos hl]
    go_wp2
    go_ret
    exact ⟨rfl, hbl _⟩
  · go_enter Tryz.func32, Tryz.ntmps32
    go_wp2_with fail
    refine (szInts_any a len cap left _ h h0 h1).mono ?_
    rintro e w1 ⟨rfl, rfl⟩
    rw [if_neg (show ¬ ((len : Int) ≤ left) by omega)]
    go_wp2
    go_ret
    exact ⟨rfl, hbl _⟩

theorem toMem_any (a : Option Addr) (cap : Nat) (xs : List Int) (w : World) (hx : IntsAt w a xs) (hc : xs.length ≤ cap) (hm : cap ≤ 9223372036854775807) (hl : xs.length ≤ 1048576) :
    Calls Tryz.prog 41 #[.agg #[.slice a xs.length cap]] w fun e w' => ∃ g, e = .returned (.agg #[.slice (some ⟨g, 0, none⟩) xs.length xs.length]) ∧ ORow 3 1 w' g xs.length xs.length (xs.map (Value.int .i64)) ∧ w.heap.size ≤ g ∧ Below w.heap.size w w' := by
  have hbl : ∀ o o' o'', Below w.heap.size w (((w.alloc o).alloc o').alloc o'') := fun o o' o'' => (((Below.refl _ w).alloc (Nat.le_refl _) o).alloc (by simp) o').alloc (by simp; omega) o''
  go_enter Tryz.func41, Tryz.ntmps41
  go_wp2_with fail
  refine (toInts_any a cap xs _ (hx.below (hbl _ _ _)) hc hm hl).mono ?_
  rintro e w1 ⟨rfl, hO, hb⟩
  have hs := hb.size
  simp at hs
  have hb' := (hbl _ _ _).trans (hb.mono (hbl _ _ _).size)
  have c2 : w1.cell? ⟨w.heap.size + 2, 0, none⟩ = some (.slice none 0 0) := (hb.cell (p := ⟨w.heap.size + 2, 0, none⟩) (by simp)).trans ((World.cell?_alloc_at _ _ _ _ (by simp)).trans rfl)
  have c1 : w1.cell? ⟨w.heap.size + 1, 0, none⟩ = some (.slice none 0 0) := (hb.cell (p := ⟨w.heap.size + 1, 0, none⟩) (by simp)).trans ((World.cell?_alloc_past _ _ _ (by simp)).trans ((World.cell?_alloc_at _ _ _ _ (by simp)).trans rfl))
  have f2 : w1.frozen? ⟨w.heap.size + 2, 0, none⟩ = false := (hb.frozen (p := ⟨w.heap.size + 2, 0, none⟩) (by simp)).trans (World.frozen?_alloc_at _ _ _ _ (by simp))
  have f1 : w1.frozen? ⟨w.heap.size + 1, 0, none⟩ = false := (hb.frozen (p := ⟨w.heap.size + 1, 0, none⟩) (by simp)).trans ((World.frozen?_alloc_past _ _ _ (by simp)).trans (World.frozen?_alloc_at _ _ _ _ (by simp)))
  simp only [World.size_alloc, Nat.add_assoc, Nat.reduceAdd] at hO ⊢
  have HO := Hid.intro hO
  have HB := Hid.intro hb'
  clear hO hb hb' hx
  go_wp2
  refine bodyPost_ret (v := .agg #[.slice (some ⟨w.heap.size + 3, 0, none⟩) xs.length xs.length]) (by simp [results, Tryz.results41, go_sem, c1, c2]) rfl ⟨w.heap.size + 3, rfl, ?_, by omega, ?_⟩
  · exact HO.out.of ((Below.heap_setCell _ _ _ _ (by simp)).trans (Below.heap_setCell _ _ _ _ (by simp)))
  · exact (HB.out.setCell (p := ⟨w.heap.size + 2, 0, none⟩) (by simp) _).setCell (p := ⟨w.heap.size + 1, 0, none⟩) (by simp) _

end Go.Proofs.YtpbkpfdbdfnlbaaGreat
