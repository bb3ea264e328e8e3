/-
  The laws' stores: whether two are the same, marked, held, their size, a copy.
-/
import Derived.Test.YtgcpjddnnamdhaaProg
import Derived.Test.YtgcpjddnnamdhaaMem
import Derived.Test.YtgcpjddnnamdhaaMarkG
import Derived.Test.YtgcpjddnnamdhaaToInts
namespace Go.Proofs.Ytgcpjddnnamdhaa
open Go.RowKit
set_option linter.unusedSimpArgs false
set_option linter.unusedVariables false

theorem eqMem_same (p q : Option Addr) (c1 c2 : Nat) (xs : List Int) (w : World) (hp : IntsAt w p xs) (hq : IntsAt w q xs) (h1 : xs.length ≤ c1) (h2 : c1 ≤ 9223372036854775807) (h3 : xs.length ≤ c2) (h4 : c2 ≤ 9223372036854775807) :
    Calls Try.prog 93 #[.agg #[.slice p xs.length c1], .agg #[.slice q xs.length c2]] w fun e w' => e = .returned (.bool true) ∧ Below w.heap.size w w' := by
  have hbl : ∀ o o', Below w.heap.size w ((w.alloc o).alloc o') := fun o o' => ((Below.refl _ w).alloc (Nat.le_refl _) o).alloc (by simp) o'
  go_enter Try.func93, Try.ntmps93
  go_wp2_with fail
  refine (eqIntS_same p q c1 c2 xs _ (hp.below (hbl _ _)) (hq.below (hbl _ _)) h1 h2 h3 h4).mono ?_
  rintro e w1 ⟨rfl, hb1⟩
  have hb := (hbl _ _).trans (hb1.mono (hbl _ _).size)
  go_wp2
  go_ret
  exact ⟨rfl, hb⟩

theorem markMem_any (p : Option Addr) (cap : Nat) (l : List Int) (k0 : Int) (w : World) (h : OwnI w p cap l) (hk0 : 0 ≤ k0) (hk1 : k0 ≤ 1000000000) (hl : l.length ≤ 10000000) (h1 : l.length ≤ cap) (h2 : cap ≤ 9223372036854775807) :
    Calls Try.prog 95 #[.agg #[.slice p l.length cap], .int .i64 k0] w fun e w' => e = .returned (.int .i64 (k0 + (l.length : Int))) ∧ OwnI w' p cap (markL k0 l.length) ∧ Kept (fun k => p = some ⟨k, 0, none⟩) w w' := by
  have hbl : ∀ o, Below w.heap.size w (w.alloc o) := fun o => (Below.refl _ w).alloc (Nat.le_refl _) o
  go_enter Try.func95, Try.ntmps95
  go_wp2_with fail
  refine (mark_gen p cap l k0 _ (h.below (hbl _)) hk0 hk1 hl h1 h2).mono ?_
  rintro e w1 ⟨rfl, hO, hk⟩
  have hb := (Kept.of_below (hbl _)).trans hk
  go_wp2
  go_ret
  exact ⟨rfl, hO, hb⟩

theorem heldMem_any (p : Option Addr) (cap n : Nat) (k0 : Int) (w : World) (h : IntsAt w p (markL k0 n)) (hk0 : 0 ≤ k0) (hk1 : k0 ≤ 1000000000) (hl : n ≤ 10000000) (h1 : n ≤ cap) (h2 : cap ≤ 9223372036854775807) :
    Calls Try.prog 96 #[.agg #[.slice p n cap], .int .i64 k0] w fun e w' => e = .returned (.int .i64 (k0 + (n : Int))) ∧ Below w.heap.size w w' := by
  have hbl : ∀ o, Below w.heap.size w (w.alloc o) := fun o => (Below.refl _ w).alloc (Nat.le_refl _) o
  have hI : ¬ (k0 + (n : Int) < 0) := by omega
  go_enter Try.func96, Try.ntmps96
  go_wp2_with fail
  refine (held_gen p cap n k0 _ (h.below (hbl _)) hk0 hk1 hl h1 h2).mono ?_
  rintro e w1 ⟨rfl, rfl⟩
  go_wp2
  go_ret
  exact ⟨rfl, hbl _⟩

end Go.Proofs.Ytgcpjddnnamdhaa
