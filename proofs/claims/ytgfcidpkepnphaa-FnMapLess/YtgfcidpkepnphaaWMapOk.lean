/-
  The law FnMapOk, walked.
-/
import Derived.Test.YtgfcidpkepnphaaProg
import Derived.Test.YtgfcidpkepnphaaWMapFind
import Derived.Test.YtgfcidpkepnphaaAppR
import Derived.Test.YtgfcidpkepnphaaPureM
namespace Go.Proofs.Ytgfcidpkepnphaa
open Go.RowKit
set_option linter.unusedSimpArgs false
set_option linter.unusedVariables false

theorem RowOf.take {w : World} {a : Option Addr} {xs : List Rng} (h : RowOf w a xs) (n : Nat) (hn : n ≤ xs.length) : RowOf w a (xs.take n) := by
  rcases h with h | ⟨b, off, h1, h2, h3⟩
  · subst h; exact .inl (by simp)
  · exact .inr ⟨b, off, h1, h2, fun k hk => by
      have hk' : k < xs.length := by simp at hk; omega
      simpa using h3 k hk'⟩
theorem RowOf.get0 {w : World} {b : Nat} {xs : List Rng} (h : RowOf w (some ⟨b, 0, none⟩) xs) (k : Nat) (hk : k < xs.length) :
    w.cell? ⟨b, k * 4, none⟩ = some (.int .i64 xs[k].fr) ∧ w.cell? ⟨b, k * 4 + 1, none⟩ = some (.int .i64 xs[k].tt) ∧ w.cell? ⟨b, k * 4 + 2, none⟩ = some (.int .i64 xs[k].sl) ∧ w.cell? ⟨b, k * 4 + 3, none⟩ = some (.bool xs[k].only) := by
  rcases h with h | ⟨b', off, h1, h2, h3⟩
  · subst h; simp at hk
  · cases h1
    simpa using h3 k hk

set_option maxRecDepth 100000 in
set_option maxHeartbeats 2000000 in
theorem walk_FnMapOk (a : Option Addr) (len cap : Nat) (w : World) (hc : len ≤ cap) (hm : cap ≤ 9223372036854775807) (h : Bytes w w.heap.size a len) :
    Calls Try.prog 3 #[.slice a len cap] w fun e w' => e = .returned (.bool true) ∧ Below w.heap.size w w' := by
  by_cases hl : 1048576 < len
  · have hI : (1048576 : Int) < (len : Int) := by omega
    clear h
    go_enter Try.func3, Try.ntmps3
    go_wp2
    go_ret
    exact ⟨rfl, Below.refl _ _⟩
  have hI : ¬ (1048576 : Int) < (len : Int) := by omega
  have HB := Hid.intro h
  clear h
  go_enter Try.func3, Try.ntmps3
  go_wp2_with fail
  refine (drawMapOk_any a len cap w hc hm HB.out).mono ?_
  rintro e w1 ⟨v, rfl, ⟨b, cp, xs, rfl, x1, x7, xc, xm, hR, hBn, hbM⟩, hb1⟩
  go_wp2_with fail
  refine (impl_MapOk _ cp xs w1 hR xc xm).mono ?_
  rintro e w2 ⟨rfl, hb2⟩
  have hR2 := hR.below hb2
  have hb2' := hb1.trans (hb2.mono hb1.size)
  go_wp2_with fail
  refine (spec_MapOk _ cp xs w2 hR2 xc xm).mono ?_
  rintro e w3 ⟨rfl, hb3⟩
  have hR3 := hR2.below hb3
  have hb3' := hb2'.trans (hb3.mono hb2'.size)
  clear hb1 hb2 hb3 hR hR2 hb2' HB
  cases hok : mapOkB xs
  · go_wp2_with (go_at_call 16; refine (crOk_any _).mono ?_; rintro e w' ⟨rfl, rfl⟩)
    go_ret
    exact ⟨rfl, hb3'⟩
  have HOK := Hid.intro hok
  clear hok
  go_wp2_with fail
  go_loopw [5] (fun i wr => ∃ k : Nat, k ≤ xs.length ∧ i = .int .i64 k ∧ Below w.heap.size w wr ∧ RowOf wr (some ⟨b, 0, none⟩) xs) (fun i _ => xs.length - (intOf i).toNat)
  case atStart => exact ⟨0, Nat.zero_le _, rfl, hb3', hR3⟩
  case round =>
    clear hb3' hR3
    obtain ⟨k, hk, rfl, hbl, hRr⟩ := hrel
    by_cases hlt : k < xs.length
    · have hk0 : (0 : Int) ≤ (k : Int) := by omega
      have hk1 : (k : Int) < (xs.length : Int) := by omega
      have hk2 : (k : Int) ≤ (cp : Int) := by omega
      go_wp2_with fail
      have hok := HOK.out
      obtain ⟨LL, hLL⟩ : ∃ LL, LL = [[], xs, [xs[k]], xs ++ [xs[k]]] := ⟨_, rfl⟩
      refine wp_region_typed (by kernel_rfl) (RW wr.heap.size LL) (fun _ W => Below wr.heap.size wr W)
        (tab [(29, kIs (.slice (some ⟨b, 0, none⟩) xs.length cp)), (30, kIs (.int .i64 (k : Int))), (31, kIs (.slice (some ⟨b, 0, none⟩) k cp)), (32, kIs (.bool true)), (33, kIs (.bool false)), (34, kIs (.bool false)), (35, kE wr.heap.size), (36, kIs (.slice (some ⟨b, 0, none⟩) xs.length cp)), (37, kW wr.heap.size xs),
          (38, kIs (.slice (some ⟨b, 0, none⟩) xs.length cp)), (39, kIs (.int .i64 (k : Int))), (40, kIs (.pointer (some ⟨b, k * 4, none⟩))), (41, kIs xs[k].val), (42, kW wr.heap.size [xs[k]]), (43, kW wr.heap.size (xs ++ [xs[k]])), (44, kIs (.bool false)), (45, kIs (.bool false))])
        [29, 30, 31, 32, 33, 34, 35, 36, 37, 38, 39, 40, 41, 42, 43, 44, 45] (by kernel_rfl) (by kernel_rfl) ?_ ?_ ?_ ?_
      · refine tabR_stable ?_
        rw [hLL]
        intro x hx
        simp at hx
        rcases hx with rfl | rfl | rfl | rfl | rfl | rfl | rfl | rfl | rfl | rfl | rfl | rfl | rfl | rfl | rfl | rfl | rfl
        all_goals intro w w' v hr hv
        all_goals first | exact hv | exact stable_kE (by simp) hr hv | exact stable_kW (by simp) hr hv
      · exact (Below.refl _ _).drew
      · refine ops_cons (gd rfl <| ty_move_out (.inl rfl) rfl (by kernel_rfl) rfl (fun _ _ h => h) (RW.refl _ _)) ?_
        refine ops_cons (gd rfl <| ty_move_out (.inl rfl) rfl (by kernel_rfl) rfl (fun _ _ h => h) (RW.refl _ _)) ?_
        refine ops_cons (gd rfl <| ty_pure rfl rfl (fun _ _ h => h) (RW.refl _ _) (fun i ρ W hcn hd hW => ?_)) ?_
        · have e1 : ρ (.tmp 29) = _ := dep_of (d := 29) (by kernel_rfl) hd
          have e2 : ρ (.tmp 30) = _ := dep_of (d := 30) (by kernel_rfl) hd
          simp only [execOp, e1, e2]; go_simp
        refine ops_cons (gd rfl <| ty_enter rfl (fun i ρ W _ hcn hf hd hW => ?_)) ?_
        · have e1 : ρ (.tmp 31) = _ := dep_of (d := 31) (by kernel_rfl) hd
          refine ⟨14, #[.slice (some ⟨b, 0, none⟩) k cp], by simp only [execOp]; go_simp, ?_⟩
          have hRW := (hRr.below hW).take k (by omega)
          have hc0 := impl_MapOk (some ⟨b, 0, none⟩) cp (xs.take k) W hRW (by simp; omega) xm
          rw [List.length_take, Nat.min_eq_left (by omega), mapOk_take hok] at hc0
          refine hc0.mono ?_
          rintro e W' ⟨rfl, hb1⟩
          exact ⟨_, rfl, hW.trans (hb1.mono hW.size), RW.of_below hb1, rfl⟩
        refine ops_cons (gd rfl <| ty_pure rfl rfl (fun _ _ h => h) (RW.refl _ _) (fun i ρ W hcn hd hW => ?_)) ?_
        · have e1 : ρ (.tmp 32) = _ := dep_of (d := 32) (by kernel_rfl) hd
          simp only [execOp, e1]; go_simp
        refine ops_cons (gd rfl <| ty_move_dep (.inl rfl) rfl (by kernel_rfl) rfl (fun _ _ h => h) (RW.refl _ _)) ?_
        refine ops_cons (gdG 5 false rfl _ rfl 34 rfl rfl (by kernel_rfl) <| ty_val rfl (fun i ρ W hcn hd hW => ?_)) ?_
        · refine ⟨.slice (some ⟨W.heap.size, 0, none⟩) 0 0, W.alloc (.cells #[] 28), by simp only [execOp]; go_simp, hW.alloc hW.size _, RW.alloc _ _, W.heap.size, rfl, hW.size, WRow.new (xs := []) rfl⟩
        refine ops_cons (gdG 5 false rfl _ rfl 34 rfl rfl (by kernel_rfl) <| ty_move_out (.inl rfl) rfl (by kernel_rfl) rfl (fun _ _ h => h) (RW.refl _ _)) ?_
        refine ops_cons (gdG 5 false rfl _ rfl 34 rfl rfl (by kernel_rfl) <| ty_app0 rfl rfl (by kernel_rfl) (by kernel_rfl) rfl rfl rfl (by omega) (fun _ _ hW => ⟨hRr.below hW, hW.size⟩) (fun _ _ _ hW hb => hW.trans hb)) ?_
        refine ops_cons (gdG 5 false rfl _ rfl 34 rfl rfl (by kernel_rfl) <| ty_move_out (.inl rfl) rfl (by kernel_rfl) rfl (fun _ _ h => h) (RW.refl _ _)) ?_
        refine ops_cons (gdG 5 false rfl _ rfl 34 rfl rfl (by kernel_rfl) <| ty_move_out (.inl rfl) rfl (by kernel_rfl) rfl (fun _ _ h => h) (RW.refl _ _)) ?_
        refine ops_cons (gdG 5 false rfl _ rfl 34 rfl rfl (by kernel_rfl) <| ty_pure rfl rfl (fun _ _ h => h) (RW.refl _ _) (fun i ρ W hcn hd hW => ?_)) ?_
        · have e1 : ρ (.tmp 38) = _ := dep_of (d := 38) (by kernel_rfl) hd
          have e2 : ρ (.tmp 39) = _ := dep_of (d := 39) (by kernel_rfl) hd
          simp only [execOp, e1, e2]; go_simp
        refine ops_cons (gdG 5 false rfl _ rfl 34 rfl rfl (by kernel_rfl) <| ty_pure rfl rfl (fun _ _ h => h) (RW.refl _ _) (fun i ρ W hcn hd hW => ?_)) ?_
        · have e1 : ρ (.tmp 40) = _ := dep_of (d := 40) (by kernel_rfl) hd
          obtain ⟨c0, c1, c2, c3⟩ := (hRr.below hW).get0 k hlt
          simp only [execOp, e1, Rng.val]; go_simp
        refine ops_cons (gdG 5 false rfl _ rfl 34 rfl rfl (by kernel_rfl) <| ty_val rfl (fun i ρ W hcn hd hW => ?_)) ?_
        · have e1 : ρ (.tmp 41) = .agg #[.int .i64 xs[k].fr, .int .i64 xs[k].tt, .int .i64 xs[k].sl, .bool xs[k].only] := dep_of (d := 41) (by kernel_rfl) hd
          refine ⟨.slice (some ⟨W.heap.size, 0, none⟩) 1 1, W.alloc (.cells (flat [xs[k]]).toArray 28), by simp only [execOp, flat]; go_simp, hW.alloc hW.size _, RW.alloc _ _, W.heap.size, 1, rfl, hW.size, by unfold maxLen; omega, WRow.new (xs := [xs[k]]) rfl⟩
        refine ops_cons (gdG 5 false rfl _ rfl 34 rfl rfl (by kernel_rfl) <| ty_appW rfl rfl (by kernel_rfl) (by kernel_rfl) rfl rfl rfl (by simp; omega) (by intro zs hz; rw [hLL] at hz; simp at hz; rcases hz with rfl | rfl | rfl | rfl <;> simp; omega) (fun _ _ hW => hW.size) (fun _ _ _ hW hb => hW.trans hb)) ?_
        refine ops_cons (gdG 5 false rfl _ rfl 34 rfl rfl (by kernel_rfl) <| ty_enter rfl (fun i ρ W _ hcn hf hd hW => ?_)) ?_
        · obtain ⟨g2, cap2, e2, hg2, hcap2, hW2⟩ : kW wr.heap.size (xs ++ [xs[k]]) W (ρ (.tmp 43)) := dep_of (d := 43) (by kernel_rfl) hd
          refine ⟨14, #[.slice (some ⟨g2, 0, none⟩) (xs ++ [xs[k]]).length cap2], by simp only [execOp]; go_simp, ?_⟩
          have hc2 : (xs ++ [xs[k]]).length ≤ cap2 := by obtain ⟨_, _, _, h, _⟩ := hW2; exact h
          have hc0 := impl_MapOk (some ⟨g2, 0, none⟩) cap2 (xs ++ [xs[k]]) W hW2.row hc2 (by unfold maxLen at hcap2; omega)
          rw [mapOk_twice hok k hlt] at hc0
          refine hc0.mono ?_
          rintro e W' ⟨rfl, hb1⟩
          exact ⟨_, rfl, hW.trans (hb1.mono hW.size), RW.of_below hb1, rfl⟩
        refine ops_cons (gd rfl <| ty_pure rfl rfl (fun _ _ h => h) (RW.refl _ _) (fun i ρ W hcn hd hW => ?_)) ?_
        · have e1 : ρ (.tmp 34) = _ := dep_of (d := 34) (by kernel_rfl) hd
          have e2 : ρ (.tmp 44) = _ := dep_of (d := 44) (by kernel_rfl) hd
          simp only [execOp, e1, e2, hcn]; go_simp
        exact ops_nil
      · intro f W hW hf
        have e45 : f 45 = .bool false := hf 45 (by simp)
        clear hf
        have hRW := hRr.below hW
        have hbW := hbl.trans (hW.mono hbl.size)
        simp only [fill, e45]
        go_simp
        go_wp2
        go_roundw
        case rel => exact ⟨k + 1, by omega, by go_num, hbW, hRW⟩
        case measure => simp [intOf]; omega
    · go_wp2_with fail
      obtain ⟨wo, hwo⟩ : ∃ wo : World, wo = wr := ⟨_, rfl⟩
      subst hwo
      clear hlt
      go_loopw [6] (fun i wq => ∃ x : Nat, x ≤ 64 ∧ i = .int .i64 x ∧ wq = wo) (fun i _ => 64 - (intOf i).toNat)
      case atStart => exact ⟨0, by omega, rfl, rfl⟩
      case round =>
        obtain ⟨x, hx, rfl, rfl⟩ := hrel
        by_cases hx63 : x < 64
        · have hx0 : (x : Int) ≤ 63 := by omega
          go_wp2_with fail
          obtain ⟨wo, hwo⟩ : ∃ wo : World, wo = wr := ⟨_, rfl⟩
          subst hwo
          go_loopw [7, 8] (fun s7 s8 wq => ∃ j : Nat, j ≤ xs.length ∧ s8 = .int .i64 j ∧ s7 = .int .i64 (hits x (xs.take j) : Nat) ∧ wq = wo) (fun _ i _ => xs.length - (intOf i).toNat)
          case atStart => exact ⟨0, by omega, rfl, rfl, rfl⟩
          case round =>
            obtain ⟨j, hj, rfl, rfl, rfl⟩ := hrel
            have hh1 := hits_ok HOK.out (x : Int) j
            by_cases hjl : j < xs.length
            · obtain ⟨c0, c1, c2, c3⟩ := hRr.get0 j hjl
              have hj0 : (0 : Int) ≤ (j : Int) := by omega
              have hj1 : (j : Int) < (xs.length : Int) := by omega
              have HS := Hid.intro (hits_step (n := (x : Int)) hjl)
              obtain ⟨hn, hhn⟩ : ∃ hn, hn = hits x (xs.take j) := ⟨_, rfl⟩
              have HN := Hid.intro hhn
              rw [← hhn] at hh1
              rw [← HN.out]
              clear hhn
              by_cases m1 : xs[j].fr ≤ (x : Int)
              · by_cases m2 : (x : Int) ≤ xs[j].tt
                · have hin : inRngB xs[j] x = true := by simp [inRngB]; omega
                  go_wp2
                  go_roundw
                  case rel => exact ⟨j + 1, by omega, by go_num, by rw [HS.out, hin, ← HN.out]; rfl, by simp⟩
                  case measure => simp [intOf]; omega
                · have hin : inRngB xs[j] x = false := by simp [inRngB]; omega
                  have n2 : decide ((x : Int) ≤ xs[j].tt) = false := by simpa using m2
                  go_wp2
                  go_roundw
                  case rel => exact ⟨j + 1, by omega, by go_num, by rw [HS.out, hin, ← HN.out]; rfl, by simp⟩
                  case measure => simp [intOf]; omega
              · have hin : inRngB xs[j] x = false := by simp [inRngB]; omega
                have n1 : decide (xs[j].fr ≤ (x : Int)) = false := by simpa using m1
                go_wp2
                go_roundw
                case rel => exact ⟨j + 1, by omega, by go_num, by rw [HS.out, hin, ← HN.out]; rfl, by simp⟩
                case measure => simp [intOf]; omega
            · obtain ⟨hn, hhn⟩ : ∃ hn, hn = hits x (xs.take j) := ⟨_, rfl⟩
              rw [← hhn] at hh1 ⊢
              clear hhn
              have hI1 : ¬ (1 : Int) < (hn : Int) := by omega
              go_wp2
              go_roundw
              case rel => exact ⟨x + 1, by omega, by go_num, by simp⟩
              case measure => simp [intOf]; omega
        · have hx0 : ¬ (x : Int) ≤ 63 := by omega
          go_wp2
          go_ret
          exact ⟨rfl, hbl⟩

end Go.Proofs.Ytgfcidpkepnphaa
