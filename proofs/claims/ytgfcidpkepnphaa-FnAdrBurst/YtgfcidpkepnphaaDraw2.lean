/-
  spec's DrawAdrOk and DrawAdrBurst: whatever the code, an address in bounds (or just outside), how many words, whether round about; nothing that was there has turned.
-/
import Derived.Test.YtgfcidpkepnphaaProg
import Derived.Test.YtgfcidpkepnphaaDraw1
namespace Go.Proofs.Ytgfcidpkepnphaa
open Go.RowKit
set_option linter.unusedSimpArgs false
set_option linter.unusedVariables false

set_option maxHeartbeats 1000000 in
theorem drawAdrOk_any (a : Option Addr) (len cap : Nat) (w : World) (hc : len ≤ cap) (hm : cap ≤ 9223372036854775807) (h : Bytes w w.heap.size a len) :
    Calls Try.prog 27 #[.slice a len cap] w fun e w' => ∃ (x m : Int) (b : Bool), e = .returned (.tuple #[.int .i64 x, .int .i64 m, .bool b]) ∧ -1 ≤ x ∧ x ≤ 64 ∧ -1 ≤ m ∧ m ≤ 4 ∧ Below w.heap.size w w' := by
  go_enter Try.func27, Try.ntmps27
  go_wp2_with fail
  refine (open_any a len cap w hc hm h).mono ?_
  rintro e w1 ⟨rfl, hr1, hb1⟩
  go_wp2_with fail
  obtain ⟨pt, hpt⟩ : ∃ pt, pt = kIs (.pointer (some ⟨w.heap.size, 0, none⟩)) := ⟨_, rfl⟩
  refine wp_region_typed (by kernel_rfl) (Up w1.heap.size) (Cls w.heap.size 0 w1)
    (tab [(8, pt), (9, kInt 0 63), (10, kRow w1.heap.size 4 (-1) 64), (11, pt), (12, kInt 0 3), (13, kCell w1.heap.size (-1) 64), (14, kInt (-1) 64),
      (15, kRow w1.heap.size 6 (-1) 4), (16, pt), (17, kInt 0 5), (18, kCell w1.heap.size (-1) 4), (19, kInt (-1) 4), (20, pt), (21, kInt 0 1), (22, kBool),
      (2, kInt (-1) 64), (3, kInt (-1) 4), (4, kBool)])
    [8, 9, 10, 11, 12, 13, 14, 15, 16, 17, 18, 19, 20, 21, 22, 2, 3, 4] (by kernel_rfl) (by kernel_rfl) (tab_stable (by simp [hpt, stable_any, stable_is, stable_int, stable_bool, stable_row, stable_cell])) ?_ ?_ ?_
  · exact ⟨0, by omega, hr1, (Keep.refl _ _).drew⟩
  · refine ops_cons (gd rfl <| ty_move_out (.inl rfl) rfl (by kernel_rfl) hpt (fun _ _ h => h.next) (Up.refl _)) ?_
    refine ops_cons (gd rfl <| ty_addr rfl rfl (by kernel_rfl) hpt rfl (by decide) hr1.lt) ?_
    refine ops_cons (gd rfl <| ty_build rfl rfl (fun _ _ o h => h.alloc o) (fun _ _ h => h.le) (fun ρ w hc hd => ?_)) ?_
    · obtain ⟨x, ex, lx, ux⟩ : kInt 0 63 w (ρ (.tmp 9)) := dep_of (d := 9) (by kernel_rfl) hd
      exact ⟨[x, -1, 64, 62], rfl, by simp; omega, by simp only [execOp, hc, ex]; go_simp⟩
    refine ops_cons (gd rfl <| ty_move_out (.inl rfl) rfl (by kernel_rfl) hpt (fun _ _ h => h.next) (Up.refl _)) ?_
    refine ops_cons (gd rfl <| ty_pick rfl rfl (by kernel_rfl) hpt rfl (by decide) (by decide) (by decide) hr1.lt) ?_
    refine ops_cons (gd rfl <| ty_index rfl rfl (by kernel_rfl) (by kernel_rfl) rfl rfl (by decide) (by decide) rfl (fun _ _ h => h.next)) ?_
    refine ops_cons (gd rfl <| ty_load rfl rfl (by kernel_rfl) rfl rfl (fun _ _ h => h.next)) ?_
    refine ops_cons (gd rfl <| ty_build rfl rfl (fun _ _ o h => h.alloc o) (fun _ _ h => h.le) (fun ρ w hc hd => ?_)) ?_
    · exact ⟨[1, 2, 4, 0, 3, -1], rfl, by simp, by simp only [execOp, hc]; go_simp⟩
    refine ops_cons (gd rfl <| ty_move_out (.inl rfl) rfl (by kernel_rfl) hpt (fun _ _ h => h.next) (Up.refl _)) ?_
    refine ops_cons (gd rfl <| ty_pick rfl rfl (by kernel_rfl) hpt rfl (by decide) (by decide) (by decide) hr1.lt) ?_
    refine ops_cons (gd rfl <| ty_index rfl rfl (by kernel_rfl) (by kernel_rfl) rfl rfl (by decide) (by decide) rfl (fun _ _ h => h.next)) ?_
    refine ops_cons (gd rfl <| ty_load rfl rfl (by kernel_rfl) rfl rfl (fun _ _ h => h.next)) ?_
    refine ops_cons (gd rfl <| ty_move_out (.inl rfl) rfl (by kernel_rfl) hpt (fun _ _ h => h.next) (Up.refl _)) ?_
    refine ops_cons (gd rfl <| ty_pick rfl rfl (by kernel_rfl) hpt rfl (by decide) (by decide) (by decide) hr1.lt) ?_
    refine ops_cons (gd rfl <| ty_eqb rfl rfl (by kernel_rfl) rfl rfl (fun _ _ h => h.next)) ?_
    refine ops_cons (gd rfl <| ty_move_dep (.inr rfl) rfl (by kernel_rfl) rfl (fun _ _ h => h.next) (Up.refl _)) ?_
    refine ops_cons (gd rfl <| ty_move_dep (.inr rfl) rfl (by kernel_rfl) rfl (fun _ _ h => h.next) (Up.refl _)) ?_
    refine ops_cons (gd rfl <| ty_move_dep (.inr rfl) rfl (by kernel_rfl) rfl (fun _ _ h => h.next) (Up.refl _)) ?_
    exact ops_nil
  · intro f w2 hC2 hf
    obtain ⟨p2, _, hr2, hK2⟩ := hC2
    obtain ⟨x, hx, hx0, hx1⟩ : kInt (-1) 64 w2 (f 2) := hf 2 (by simp)
    obtain ⟨m, hm, hm0, hm1⟩ : kInt (-1) 4 w2 (f 3) := hf 3 (by simp)
    obtain ⟨b, hb⟩ : kBool w2 (f 4) := hf 4 (by simp)
    have hbl : Below w.heap.size w w2 := hb1.trans (hK2.below (Nat.le_refl _) (by have := hr1.lt; omega))
    clear hf
    simp only [fill]
    go_simp
    go_wp2
    go_ret3
    exact ⟨x, m, b, by simp [hx, hm, hb], hx0, hx1, hm0, hm1, hbl⟩


set_option maxHeartbeats 1000000 in
theorem drawAdrBurst_any (a : Option Addr) (len cap : Nat) (w : World) (hc : len ≤ cap) (hm : cap ≤ 9223372036854775807) (h : Bytes w w.heap.size a len) :
    Calls Try.prog 20 #[.slice a len cap] w fun e w' => ∃ (x m : Int) (b : Bool), e = .returned (.tuple #[.int .i64 x, .int .i64 m, .bool b]) ∧ -1 ≤ x ∧ x ≤ 63 ∧ 1 ≤ m ∧ m ≤ 4 ∧ Below w.heap.size w w' := by
  go_enter Try.func20, Try.ntmps20
  go_wp2_with fail
  refine (open_any a len cap w hc hm h).mono ?_
  rintro e w1 ⟨rfl, hr1, hb1⟩
  go_wp2_with fail
  obtain ⟨pt, hpt⟩ : ∃ pt, pt = kIs (.pointer (some ⟨w.heap.size, 0, none⟩)) := ⟨_, rfl⟩
  refine wp_region_typed (by kernel_rfl) (Up w1.heap.size) (Cls w.heap.size 0 w1)
    (tab [(8, pt), (9, kInt 0 63), (10, pt), (11, kInt 0 63), (12, kRow w1.heap.size 3 (-1) 63), (13, kRow w1.heap.size 5 0 2), (14, pt), (15, kInt 0 4), (16, kCell w1.heap.size 0 2), (17, kInt 0 2),
      (18, kCell w1.heap.size (-1) 63), (19, kInt (-1) 63), (20, kRow w1.heap.size 4 1 4), (21, kRow w1.heap.size 6 0 3), (22, pt), (23, kInt 0 5), (24, kCell w1.heap.size 0 3), (25, kInt 0 3), (26, kCell w1.heap.size 1 4), (27, kInt 1 4),
      (28, pt), (29, kInt 0 1), (30, kBool), (2, kInt (-1) 63), (3, kInt 1 4), (4, kBool)])
    [8, 9, 10, 11, 12, 13, 14, 15, 16, 17, 18, 19, 20, 21, 22, 23, 24, 25, 26, 27, 28, 29, 30, 2, 3, 4] (by kernel_rfl) (by kernel_rfl) (tab_stable (by simp [hpt, stable_any, stable_is, stable_int, stable_bool, stable_row, stable_cell])) ?_ ?_ ?_
  · exact ⟨0, by omega, hr1, (Keep.refl _ _).drew⟩
  · refine ops_cons (gd rfl <| ty_move_out (.inl rfl) rfl (by kernel_rfl) hpt (fun _ _ h => h.next) (Up.refl _)) ?_
    refine ops_cons (gd rfl <| ty_addr rfl rfl (by kernel_rfl) hpt rfl (by decide) hr1.lt) ?_
    refine ops_cons (gd rfl <| ty_move_out (.inl rfl) rfl (by kernel_rfl) hpt (fun _ _ h => h.next) (Up.refl _)) ?_
    refine ops_cons (gd rfl <| ty_pick rfl rfl (by kernel_rfl) hpt rfl (by decide) (by decide) (by decide) hr1.lt) ?_
    refine ops_cons (gd rfl <| ty_build rfl rfl (fun _ _ o h => h.alloc o) (fun _ _ h => h.le) (fun ρ w hc hd => ?_)) ?_
    · obtain ⟨x, ex, lx, ux⟩ : kInt 0 63 w (ρ (.tmp 9)) := dep_of (d := 9) (by kernel_rfl) hd
      obtain ⟨y, ey, ly, uy⟩ : kInt 0 63 w (ρ (.tmp 11)) := dep_of (d := 11) (by kernel_rfl) hd
      exact ⟨[x, y, -1], rfl, by simp; omega, by simp only [execOp, hc, ex, ey]; go_simp⟩
    refine ops_cons (gd rfl <| ty_build rfl rfl (fun _ _ o h => h.alloc o) (fun _ _ h => h.le) (fun ρ w hc hd => ?_)) ?_
    · exact ⟨[0, 0, 1, 1, 2], rfl, by simp, by simp only [execOp, hc]; go_simp⟩
    refine ops_cons (gd rfl <| ty_move_out (.inl rfl) rfl (by kernel_rfl) hpt (fun _ _ h => h.next) (Up.refl _)) ?_
    refine ops_cons (gd rfl <| ty_pick rfl rfl (by kernel_rfl) hpt rfl (by decide) (by decide) (by decide) hr1.lt) ?_
    refine ops_cons (gd rfl <| ty_index rfl rfl (by kernel_rfl) (by kernel_rfl) rfl rfl (by decide) (by decide) rfl (fun _ _ h => h.next)) ?_
    refine ops_cons (gd rfl <| ty_load rfl rfl (by kernel_rfl) rfl rfl (fun _ _ h => h.next)) ?_
    refine ops_cons (gd rfl <| ty_index rfl rfl (by kernel_rfl) (by kernel_rfl) rfl rfl (by decide) (by decide) rfl (fun _ _ h => h.next)) ?_
    refine ops_cons (gd rfl <| ty_load rfl rfl (by kernel_rfl) rfl rfl (fun _ _ h => h.next)) ?_
    refine ops_cons (gd rfl <| ty_build rfl rfl (fun _ _ o h => h.alloc o) (fun _ _ h => h.le) (fun ρ w hc hd => ?_)) ?_
    · exact ⟨[1, 2, 4, 3], rfl, by simp, by simp only [execOp, hc]; go_simp⟩
    refine ops_cons (gd rfl <| ty_build rfl rfl (fun _ _ o h => h.alloc o) (fun _ _ h => h.le) (fun ρ w hc hd => ?_)) ?_
    · exact ⟨[0, 1, 1, 2, 2, 3], rfl, by simp, by simp only [execOp, hc]; go_simp⟩
    refine ops_cons (gd rfl <| ty_move_out (.inl rfl) rfl (by kernel_rfl) hpt (fun _ _ h => h.next) (Up.refl _)) ?_
    refine ops_cons (gd rfl <| ty_pick rfl rfl (by kernel_rfl) hpt rfl (by decide) (by decide) (by decide) hr1.lt) ?_
    refine ops_cons (gd rfl <| ty_index rfl rfl (by kernel_rfl) (by kernel_rfl) rfl rfl (by decide) (by decide) rfl (fun _ _ h => h.next)) ?_
    refine ops_cons (gd rfl <| ty_load rfl rfl (by kernel_rfl) rfl rfl (fun _ _ h => h.next)) ?_
    refine ops_cons (gd rfl <| ty_index rfl rfl (by kernel_rfl) (by kernel_rfl) rfl rfl (by decide) (by decide) rfl (fun _ _ h => h.next)) ?_
    refine ops_cons (gd rfl <| ty_load rfl rfl (by kernel_rfl) rfl rfl (fun _ _ h => h.next)) ?_
    refine ops_cons (gd rfl <| ty_move_out (.inl rfl) rfl (by kernel_rfl) hpt (fun _ _ h => h.next) (Up.refl _)) ?_
    refine ops_cons (gd rfl <| ty_pick rfl rfl (by kernel_rfl) hpt rfl (by decide) (by decide) (by decide) hr1.lt) ?_
    refine ops_cons (gd rfl <| ty_eqb rfl rfl (by kernel_rfl) rfl rfl (fun _ _ h => h.next)) ?_
    refine ops_cons (gd rfl <| ty_move_dep (.inr rfl) rfl (by kernel_rfl) rfl (fun _ _ h => h.next) (Up.refl _)) ?_
    refine ops_cons (gd rfl <| ty_move_dep (.inr rfl) rfl (by kernel_rfl) rfl (fun _ _ h => h.next) (Up.refl _)) ?_
    refine ops_cons (gd rfl <| ty_move_dep (.inr rfl) rfl (by kernel_rfl) rfl (fun _ _ h => h.next) (Up.refl _)) ?_
    exact ops_nil
  · intro f w2 hC2 hf
    obtain ⟨p2, _, hr2, hK2⟩ := hC2
    obtain ⟨x, hx, hx0, hx1⟩ : kInt (-1) 63 w2 (f 2) := hf 2 (by simp)
    obtain ⟨m, hm, hm0, hm1⟩ : kInt 1 4 w2 (f 3) := hf 3 (by simp)
    obtain ⟨b, hb⟩ : kBool w2 (f 4) := hf 4 (by simp)
    have hbl : Below w.heap.size w w2 := hb1.trans (hK2.below (Nat.le_refl _) (by have := hr1.lt; omega))
    clear hf
    simp only [fill]
    go_simp
    go_wp2
    go_ret3
    exact ⟨x, m, b, by simp [hx, hm, hb], hx0, hx1, hm0, hm1, hbl⟩


end Go.Proofs.Ytgfcidpkepnphaa
