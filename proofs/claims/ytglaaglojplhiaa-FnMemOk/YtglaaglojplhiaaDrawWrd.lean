/-
  spec's DrawWrdPut: whatever the code, a word or nearly one, a word, lanes or nearly so; nothing that was there has turned.
-/
import Derived.Test.YtglaaglojplhiaaProg
import Derived.Test.YtglaaglojplhiaaDraw1
namespace Go.Proofs.Ytglaaglojplhiaa
open Go.RowKit
set_option linter.unusedSimpArgs false
set_option linter.unusedVariables false

theorem wrapI {x : Int} (h1 : -9223372036854775808 ≤ x) (h2 : x ≤ 9223372036854775807) : IntKind.i64.wrap x = x := by
  rw [IntKind.wrap_i64]; omega

set_option maxHeartbeats 1000000 in
theorem drawWrdPut_any (a : Option Addr) (len cap : Nat) (w : World) (hc : len ≤ cap) (hm : cap ≤ 9223372036854775807) (h : Bytes w w.heap.size a len) :
    Calls Try.prog 8 #[.slice a len cap] w fun e w' => ∃ (o n l : Int), e = .returned (.tuple #[.int .i64 o, .int .i64 n, .int .i64 l]) ∧ -1 ≤ o ∧ o ≤ 65536 ∧ 0 ≤ n ∧ n ≤ 65535 ∧ -1 ≤ l ∧ l ≤ 4 ∧ Below w.heap.size w w' := by
  go_enter Try.func8, Try.ntmps8
  go_wp2_with fail
  refine (open_any a len cap w hc hm h).mono ?_
  rintro e w1 ⟨rfl, hr1, hb1⟩
  go_wp2_with fail
  refine (pick_at hr1 (by omega) 256 (by omega) (by omega)).mono ?_
  rintro e w2 ⟨k1, ha1, hx1, rfl, hr2, hK2⟩
  go_wp2_with fail
  refine (pick_at hr2 (by omega) 256 (by omega) (by omega)).mono ?_
  rintro e w3 ⟨k2, ha2, hx2, rfl, hr3, hK3⟩
  go_wp2_with fail
  refine (pick_at ((hr3.alloc _).alloc _) (by omega) 8 (by omega) (by omega)).mono ?_
  rintro e w4 ⟨k3, ha3, hx3, rfl, hr4, hK4⟩
  have hB := hr3.lt
  have c1 : ∀ i, w4.cell? ⟨w3.heap.size + 1, i, none⟩ = _ := fun i => (hK4.cell (p := ⟨w3.heap.size + 1, i, none⟩) (by simp) (by simp; omega)).trans (World.cell?_alloc_at _ _ _ _ (by simp))
  have c2 : ∀ i, w4.cell? ⟨w3.heap.size, i, none⟩ = _ := fun i => (hK4.cell (p := ⟨w3.heap.size, i, none⟩) (by simp; omega) (by simp; omega)).trans ((World.cell?_alloc_past _ _ _ (by simp)).trans (World.cell?_alloc_at _ _ _ _ rfl))
  obtain ⟨v, hv0, hv1, hv⟩ := lit_at c1 [0, 0, 0, 0, 1, 2, 3, 4] rfl 0 4 (by simp) k3 ha3 (by simpa using hx3)
  obtain ⟨u, hu0, hu1, hu⟩ := lit_at c2 [k1 * 256 + k2, 65535, 0, -1, 65536] rfl (-1) 65536 (by intro n hn; simp at hn; omega) v hv0 (by simp; omega)
  clear c1 c2
  have hKK : Keep w.heap.size w1 w4 := (hK2.trans hK3).trans (((Keep.refl _ w3).alloc _).alloc _ |>.trans hK4)
  go_wp2_with fail
  obtain ⟨pt, hpt⟩ : ∃ pt, pt = kIs (.pointer (some ⟨w.heap.size, 0, none⟩)) := ⟨_, rfl⟩
  refine wp_region_typed (by kernel_rfl) (Up w4.heap.size) (Cls w.heap.size 3 w4)
    (tab [(23, kIs (.int .i64 u)), (24, pt), (25, kInt 0 255), (26, kInt 0 65280), (27, pt), (28, kInt 0 255), (29, kInt 0 65535), (30, kRow w4.heap.size 6 (-1) 4), (31, kRow w4.heap.size 8 0 5), (32, pt), (33, kInt 0 7),
      (34, kCell w4.heap.size 0 5), (35, kInt 0 5), (36, kCell w4.heap.size (-1) 4), (37, kInt (-1) 4), (2, kIs (.int .i64 u)), (3, kInt 0 65535), (4, kInt (-1) 4)])
    [23, 24, 25, 26, 27, 28, 29, 30, 31, 32, 33, 34, 35, 36, 37, 2, 3, 4] (by kernel_rfl) (by kernel_rfl) (tab_stable (by simp [hpt, stable_any, stable_is, stable_int, stable_bool, stable_row, stable_cell])) ?_ ?_ ?_
  · exact ⟨3, by omega, hr4, (Keep.refl _ _).drew⟩
  · refine ops_cons (gd rfl <| ty_move_out (.inl rfl) rfl (by kernel_rfl) rfl (fun _ _ h => h.next) (Up.refl _)) ?_
    refine ops_cons (gd rfl <| ty_move_out (.inl rfl) rfl (by kernel_rfl) hpt (fun _ _ h => h.next) (Up.refl _)) ?_
    refine ops_cons (gd rfl <| ty_pick rfl rfl (by kernel_rfl) hpt rfl (by decide) (by decide) (by decide) hr4.lt) ?_
    refine ops_cons (gd rfl <| ty_val rfl (fun k ρ W hcn hd hC => ?_)) ?_
    · obtain ⟨x, ex, lx, ux⟩ : kInt 0 255 W (ρ (.tmp 25)) := dep_of (d := 25) (by kernel_rfl) hd
      exact ⟨.int .i64 (x * 256), W, by simp only [execOp, ex, hcn]; go_simp; exact wrapI (by omega) (by omega), hC.next, Up.refl _ _, ⟨_, rfl, by omega, by omega⟩⟩
    refine ops_cons (gd rfl <| ty_move_out (.inl rfl) rfl (by kernel_rfl) hpt (fun _ _ h => h.next) (Up.refl _)) ?_
    refine ops_cons (gd rfl <| ty_pick rfl rfl (by kernel_rfl) hpt rfl (by decide) (by decide) (by decide) hr4.lt) ?_
    refine ops_cons (gd rfl <| ty_val rfl (fun k ρ W hcn hd hC => ?_)) ?_
    · obtain ⟨x, ex, lx, ux⟩ : kInt 0 65280 W (ρ (.tmp 26)) := dep_of (d := 26) (by kernel_rfl) hd
      obtain ⟨y, ey, ly, uy⟩ : kInt 0 255 W (ρ (.tmp 28)) := dep_of (d := 28) (by kernel_rfl) hd
      exact ⟨.int .i64 (x + y), W, by simp only [execOp, ex, ey]; go_simp; exact wrapI (by omega) (by omega), hC.next, Up.refl _ _, ⟨_, rfl, by omega, by omega⟩⟩
    refine ops_cons (gd rfl <| ty_build rfl rfl (fun _ _ o h => h.alloc o) (fun _ _ h => h.le) (fun ρ w hc hd => ?_)) ?_
    · exact ⟨[0, 1, 2, 3, 4, -1], rfl, by simp, by simp only [execOp, hc]; go_simp⟩
    refine ops_cons (gd rfl <| ty_build rfl rfl (fun _ _ o h => h.alloc o) (fun _ _ h => h.le) (fun ρ w hc hd => ?_)) ?_
    · exact ⟨[0, 1, 2, 3, 1, 2, 4, 5], rfl, by simp, by simp only [execOp, hc]; go_simp⟩
    refine ops_cons (gd rfl <| ty_move_out (.inl rfl) rfl (by kernel_rfl) hpt (fun _ _ h => h.next) (Up.refl _)) ?_
    refine ops_cons (gd rfl <| ty_pick rfl rfl (by kernel_rfl) hpt rfl (by decide) (by decide) (by decide) hr4.lt) ?_
    refine ops_cons (gd rfl <| ty_index rfl rfl (by kernel_rfl) (by kernel_rfl) rfl rfl (by decide) (by decide) rfl (fun _ _ h => h.next)) ?_
    refine ops_cons (gd rfl <| ty_load rfl rfl (by kernel_rfl) rfl rfl (fun _ _ h => h.next)) ?_
    refine ops_cons (gd rfl <| ty_index rfl rfl (by kernel_rfl) (by kernel_rfl) rfl rfl (by decide) (by decide) rfl (fun _ _ h => h.next)) ?_
    refine ops_cons (gd rfl <| ty_load rfl rfl (by kernel_rfl) rfl rfl (fun _ _ h => h.next)) ?_
    refine ops_cons (gd rfl <| ty_move_dep (.inr rfl) rfl (by kernel_rfl) rfl (fun _ _ h => h.next) (Up.refl _)) ?_
    refine ops_cons (gd rfl <| ty_move_dep (.inr rfl) rfl (by kernel_rfl) rfl (fun _ _ h => h.next) (Up.refl _)) ?_
    refine ops_cons (gd rfl <| ty_move_dep (.inr rfl) rfl (by kernel_rfl) rfl (fun _ _ h => h.next) (Up.refl _)) ?_
    exact ops_nil
  · intro f w5 hC5 hf
    obtain ⟨p5, _, hr5, hK5⟩ := hC5
    have hx : f 2 = .int .i64 u := hf 2 (by simp)
    obtain ⟨n, hn, hn0, hn1⟩ : kInt 0 65535 w5 (f 3) := hf 3 (by simp)
    obtain ⟨l, hl, hl0, hl1⟩ : kInt (-1) 4 w5 (f 4) := hf 4 (by simp)
    have hbl : Below w.heap.size w w5 := hb1.trans ((hKK.trans hK5).below (Nat.le_refl _) (by have := hr1.lt; omega))
    clear hf
    simp only [fill]
    go_simp
    go_wp2
    go_ret3
    exact ⟨u, n, l, by simp [hx, hn, hl], hu0, hu1, hn0, hn1, hl0, hl1, hbl⟩

end Go.Proofs.Ytglaaglojplhiaa
