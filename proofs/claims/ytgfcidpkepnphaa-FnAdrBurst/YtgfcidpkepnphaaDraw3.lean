/-
  spec's DrawMapOk and DrawMapFind: whatever the code, a row of one to seven ranges (and an address, or one just outside); nothing that was there has turned.
-/
import Derived.Test.YtgfcidpkepnphaaProg
import Derived.Test.YtgfcidpkepnphaaMapD
namespace Go.Proofs.Ytgfcidpkepnphaa
open Go.RowKit
set_option linter.unusedSimpArgs false
set_option linter.unusedVariables false

def kList (M : Nat) : World → Value → Prop := fun w v =>
  ∃ (b cap : Nat) (xs : List Rng), v = .slice (some ⟨b, 0, none⟩) xs.length cap ∧ 1 ≤ xs.length ∧ xs.length ≤ 7 ∧ xs.length ≤ cap ∧ cap ≤ 9223372036854775807 ∧ RowOf w (some ⟨b, 0, none⟩) xs ∧ Bnd 200 200 200 xs ∧ M ≤ b
theorem stable_list (M : Nat) : Stable M (kList M) := fun w w' v hk ⟨b, cap, xs, h1, h2, h3, h4, h5, h6, h7, h8⟩ =>
  ⟨b, cap, xs, h1, h2, h3, h4, h5, h6.of hk.size (fun b' off e hlt => by cases e; exact hk.block b h8 hlt), h7, h8⟩

set_option maxHeartbeats 400000 in
theorem drawMapOk_any (a : Option Addr) (len cap : Nat) (w : World) (hc : len ≤ cap) (hm : cap ≤ 9223372036854775807) (h : Bytes w w.heap.size a len) :
    Calls Try.prog 13 #[.slice a len cap] w fun e w' => ∃ v, e = .returned v ∧ kList w.heap.size w' v ∧ Below w.heap.size w w' := by
  go_enter Try.func13, Try.ntmps13
  go_wp2_with fail
  refine (open_any a len cap w hc hm h).mono ?_
  rintro e w1 ⟨rfl, hr1, hb1⟩
  go_wp2_with fail
  refine (l20Map_any w.heap.size 0 2 w1 hr1 (by omega) (by omega) (by omega)).mono ?_
  rintro e w2 ⟨v, rfl, b, cap, q, xs, rfl, g1, g2, g3, g4, g5, g6, g7, g8, g9, g10⟩
  have hbl : Below w.heap.size w w2 := hb1.trans (g10.below (Nat.le_refl _) (by have := hr1.lt; omega))
  have hs := hb1.size
  clear g8 g10
  go_wp2
  go_ret
  exact ⟨_, rfl, ⟨b, cap, xs, rfl, g1, g2, g3, g4, g5, g6, by omega⟩, hbl⟩

set_option maxRecDepth 100000 in
set_option maxHeartbeats 1000000 in
theorem drawMapFind_any (a : Option Addr) (len cap : Nat) (w : World) (hc : len ≤ cap) (hm : cap ≤ 9223372036854775807) (h : Bytes w w.heap.size a len) :
    Calls Try.prog 17 #[.slice a len cap] w fun e w' => ∃ (v : Value) (n : Int), e = .returned (.tuple #[v, .int .i64 n]) ∧ kList w.heap.size w' v ∧ -1 ≤ n ∧ n ≤ 64 ∧ Below w.heap.size w w' := by
  go_enter Try.func17, Try.ntmps17
  go_wp2_with fail
  refine (open_any a len cap w hc hm h).mono ?_
  rintro e w1 ⟨rfl, hr1, hb1⟩
  go_wp2_with fail
  obtain ⟨pt, hpt⟩ : ∃ pt, pt = kIs (.pointer (some ⟨w.heap.size, 0, none⟩)) := ⟨_, rfl⟩
  refine wp_region_typed (by kernel_rfl) (Up w1.heap.size) (Cls w.heap.size 0 w1)
    (tab [(7, pt), (8, kList w1.heap.size), (9, pt), (10, kInt 0 63), (11, kRow w1.heap.size 3 (-1) 64), (12, kRow w1.heap.size 6 0 2), (13, pt), (14, kInt 0 5), (15, kCell w1.heap.size 0 2), (16, kInt 0 2),
      (17, kCell w1.heap.size (-1) 64), (18, kInt (-1) 64), (2, kList w1.heap.size), (3, kInt (-1) 64)])
    [7, 8, 9, 10, 11, 12, 13, 14, 15, 16, 17, 18, 2, 3] (by kernel_rfl) (by kernel_rfl) (tab_stable (by simp [hpt, stable_any, stable_is, stable_int, stable_bool, stable_row, stable_cell, stable_list])) ?_ ?_ ?_
  · exact ⟨0, by omega, hr1, (Keep.refl _ _).drew⟩
  · refine ops_cons (gd rfl <| ty_move_out (.inl rfl) rfl (by kernel_rfl) hpt (fun _ _ h => h.next) (Up.refl _)) ?_
    refine ops_cons (gd rfl <| ty_enter rfl (fun i ρ W hi hcn hf hd hW => ?_)) ?_
    · have e1 : kIs (.pointer (some ⟨w.heap.size, 0, none⟩)) W (ρ (.tmp 7)) := by rw [← hpt]; exact dep_of (d := 7) (by kernel_rfl) hd
      have e1 : ρ (.tmp 7) = .pointer (some ⟨w.heap.size, 0, none⟩) := e1
      have hi' : i < 14 := hi
      obtain ⟨q9, hq9, hr9, hK9⟩ := hW
      refine ⟨34, #[.pointer (some ⟨w.heap.size, 0, none⟩), .int .i64 5], by simp only [execOp]; go_simp, ?_⟩
      refine (l20Map_any w.heap.size q9 5 W hr9 (by omega) (by omega) (by omega)).mono ?_
      rintro e W' ⟨v, rfl, b, cap, q, xs, rfl, g1, g2, g3, g4, g5, g6, g7, g8, g9, g10⟩
      exact ⟨_, rfl, ⟨q, by omega, g8, hK9.trans g10⟩, Up.of_keep g10 hr1.lt, b, cap, xs, rfl, g1, g2, g3, g4, g5, g6, Nat.le_trans hK9.size g7⟩
    refine ops_cons (gd rfl <| ty_move_out (.inl rfl) rfl (by kernel_rfl) hpt (fun _ _ h => h.next) (Up.refl _)) ?_
    refine ops_cons (gd rfl <| ty_addr rfl rfl (by kernel_rfl) hpt rfl (by decide) hr1.lt) ?_
    refine ops_cons (gd rfl <| ty_build rfl rfl (fun _ _ o h => h.alloc o) (fun _ _ h => h.le) (fun ρ w hc hd => ?_)) ?_
    · obtain ⟨x, ex, lx, ux⟩ : kInt 0 63 w (ρ (.tmp 10)) := dep_of (d := 10) (by kernel_rfl) hd
      exact ⟨[x, -1, 64], rfl, by simp; omega, by simp only [execOp, hc, ex]; go_simp⟩
    refine ops_cons (gd rfl <| ty_build rfl rfl (fun _ _ o h => h.alloc o) (fun _ _ h => h.le) (fun ρ w hc hd => ?_)) ?_
    · exact ⟨[0, 0, 0, 0, 1, 2], rfl, by simp, by simp only [execOp, hc]; go_simp⟩
    refine ops_cons (gd rfl <| ty_move_out (.inl rfl) rfl (by kernel_rfl) hpt (fun _ _ h => h.next) (Up.refl _)) ?_
    refine ops_cons (gd rfl <| ty_pick rfl rfl (by kernel_rfl) hpt rfl (by decide) (by decide) (by decide) hr1.lt) ?_
    refine ops_cons (gd rfl <| ty_index rfl rfl (by kernel_rfl) (by kernel_rfl) rfl rfl (by decide) (by decide) rfl (fun _ _ h => h.next)) ?_
    refine ops_cons (gd rfl <| ty_load rfl rfl (by kernel_rfl) rfl rfl (fun _ _ h => h.next)) ?_
    refine ops_cons (gd rfl <| ty_index rfl rfl (by kernel_rfl) (by kernel_rfl) rfl rfl (by decide) (by decide) rfl (fun _ _ h => h.next)) ?_
    refine ops_cons (gd rfl <| ty_load rfl rfl (by kernel_rfl) rfl rfl (fun _ _ h => h.next)) ?_
    refine ops_cons (gd rfl <| ty_move_dep (.inr rfl) rfl (by kernel_rfl) rfl (fun _ _ h => h.next) (Up.refl _)) ?_
    refine ops_cons (gd rfl <| ty_move_dep (.inr rfl) rfl (by kernel_rfl) rfl (fun _ _ h => h.next) (Up.refl _)) ?_
    exact ops_nil
  · intro f w2 hC2 hf
    obtain ⟨p2, _, hr2, hK2⟩ := hC2
    obtain ⟨b, cap, xs, hx, g1, g2, g3, g4, g5, g6, g7⟩ : kList w1.heap.size w2 (f 2) := hf 2 (by simp)
    obtain ⟨n, hn, hn0, hn1⟩ : kInt (-1) 64 w2 (f 3) := hf 3 (by simp)
    have hbl : Below w.heap.size w w2 := hb1.trans (hK2.below (Nat.le_refl _) (by have := hr1.lt; omega))
    have hs := hb1.size
    clear hf
    simp only [fill, hx, hn]
    go_simp
    go_wp2
    go_ret2
    exact ⟨_, n, rfl, ⟨b, cap, xs, rfl, g1, g2, g3, g4, g5, g6, by omega⟩, hn0, hn1, hbl⟩

end Go.Proofs.Ytgfcidpkepnphaa
