/-
  The law FnMapLess, walked.
-/
import Derived.Test.YtgfcidpkepnphaaProg
import Derived.Test.YtgfcidpkepnphaaWMapOk
namespace Go.Proofs.Ytgfcidpkepnphaa
open Go.RowKit
set_option linter.unusedSimpArgs false
set_option linter.unusedVariables false

theorem RowOf.drop {w : World} {b : Nat} {xs : List Rng} (h : RowOf w (some ⟨b, 0, none⟩) xs) (n : Nat) (hn : n ≤ xs.length) : RowOf w (some ⟨b, n * 4, none⟩) (xs.drop n) := by
  rcases h with h | ⟨b', off, h1, h2, h3⟩
  · subst h; exact .inl (by simp)
  · cases h1
    exact .inr ⟨b, n * 4, rfl, h2, fun k hk => by
      have hk' : n + k < xs.length := by simp at hk; omega
      have := h3 (n + k) hk'
      have e : 0 + (n + k) * 4 = n * 4 + k * 4 := by omega
      rw [e] at this
      simpa using this⟩

theorem RowOf.dropAt {w : World} {b : Nat} {xs : List Rng} (h : RowOf w (some ⟨b, 0, none⟩) xs) (n : Nat) (hn : n ≤ xs.length) (cp : Nat) (hc : xs.length ≤ cp) (off : Nat) (ho : (cp = n → off = 0) ∧ (cp ≠ n → off = n * 4)) : RowOf w (some ⟨b, off, none⟩) (xs.drop n) := by
  by_cases e : cp = n
  · exact .inl (by simp; omega)
  · rw [ho.2 e]; exact h.drop n hn

set_option maxRecDepth 100000 in
set_option maxHeartbeats 2000000 in
theorem walk_FnMapLess (a : Option Addr) (len cap : Nat) (w : World) (hc : len ≤ cap) (hm : cap ≤ 9223372036854775807) (h : Bytes w w.heap.size a len) :
    Calls Try.prog 7 #[.slice a len cap] w fun e w' => e = .returned (.bool true) ∧ Below w.heap.size w w' := by
  by_cases hl : 1048576 < len
  · have hI : (1048576 : Int) < (len : Int) := by omega
    clear h
    go_enter Try.func7, Try.ntmps7
    go_wp2
    go_ret
    exact ⟨rfl, Below.refl _ _⟩
  have hI : ¬ (1048576 : Int) < (len : Int) := by omega
  have HB := Hid.intro h
  clear h
  go_enter Try.func7, Try.ntmps7
  go_wp2_with fail
  refine (drawMapFind_any a len cap w hc hm HB.out).mono ?_
  rintro e w1 ⟨v, n, rfl, ⟨b, cp, xs, rfl, x1, x7, xc, xm, hR, hBn, hbM⟩, hn0, hn1, hb1⟩
  go_wp2_with fail
  refine (impl_MapFind _ cp xs n w1 hR xc xm).mono ?_
  rintro e w2 ⟨rfl, hb2⟩
  have hR2 := hR.below hb2
  have hb2' := hb1.trans (hb2.mono hb1.size)
  go_wp2_with fail
  refine (spec_MapFind _ cp xs n w2 hR2 xc xm).mono ?_
  rintro e w3 ⟨rfl, hb3⟩
  have hR3 := hR2.below hb3
  have hb3' := hb2'.trans (hb3.mono hb2'.size)
  go_wp2_with fail
  refine (spec_MapOk _ cp xs w3 hR3 xc xm).mono ?_
  rintro e w4 ⟨rfl, hb4⟩
  have hR4 := hR3.below hb4
  have hb4' := hb3'.trans (hb4.mono hb3'.size)
  clear hb1 hb2 hb3 hb4 hR hR2 hR3 hb2' hb3' HB
  have hlen0 : ((xs.length : Int) == 0) = false := beq_eq_false_iff_ne.2 (by omega)
  cases hok : mapOkB xs
  · go_wp2_with (go_at_call 16; refine (crOk_any _).mono ?_; rintro e w' ⟨rfl, rfl⟩)
    go_ret
    exact ⟨rfl, hb4'⟩
  have HOK := Hid.intro hok
  clear hok
  have hx1 : (1 : Int) ≤ (xs.length : Int) := by omega
  go_wp2_with fail
  obtain ⟨j, hjdef⟩ : ∃ j : Nat, j = len % xs.length := ⟨_, rfl⟩
  have hj : j < xs.length := by rw [hjdef]; exact Nat.mod_lt _ (by omega)
  have hjI : ((len : Int) % (xs.length : Int)) = (j : Int) := by rw [hjdef]; simp
  rw [hjI]
  clear hjdef hjI
  have hj0 : (0 : Int) ≤ (j : Int) := by omega
  have hj1 : (j : Int) < (xs.length : Int) := by omega
  have hj2 : (j : Int) ≤ (cp : Int) := by omega
  have hj3 : (j : Int) + 1 ≤ (xs.length : Int) := by omega
  obtain ⟨off, hoff⟩ : ∃ off : Nat, (cp = j + 1 → off = 0) ∧ (cp ≠ j + 1 → off = (j + 1) * 4) := by
    by_cases hcp : cp = j + 1
    · exact ⟨0, fun _ => rfl, fun h => absurd hcp h⟩
    · exact ⟨(j + 1) * 4, fun h => absurd h hcp, fun _ => rfl⟩
  have HOFF := Hid.intro hoff
  clear hoff
  obtain ⟨LL, hLL⟩ : ∃ LL, LL = [[], xs.take j, without xs j] := ⟨_, rfl⟩
  have hk40 : kIs (.slice (some ⟨b, 0, none⟩) j cp) = kIs (.slice (some ⟨b, 0, none⟩) (xs.take j).length cp) := by simp [Nat.min_eq_left (Nat.le_of_lt hj)]
  have hk45 : kIs (.slice (some ⟨b, off, none⟩) (xs.length - (j + 1)) (cp - (j + 1))) = kIs (.slice (some ⟨b, off, none⟩) (xs.drop (j + 1)).length (cp - (j + 1))) := by simp
  refine wp_region_typed (by kernel_rfl) (RW w4.heap.size LL) (fun _ W => Below w4.heap.size w4 W)
    (tab [(37, kE w4.heap.size), (38, kIs (.slice (some ⟨b, 0, none⟩) xs.length cp)), (39, kIs (.int .i64 (j : Int))), (40, kIs (.slice (some ⟨b, 0, none⟩) j cp)), (41, kW w4.heap.size (xs.take j)), (42, kIs (.slice (some ⟨b, 0, none⟩) xs.length cp)), (43, kIs (.int .i64 (j : Int))),
      (44, kIs (.int .i64 ((j : Int) + 1))), (45, kIs (.slice (some ⟨b, off, none⟩) (xs.length - (j + 1)) (cp - (j + 1)))), (46, kW w4.heap.size (without xs j)), (6, kW w4.heap.size (without xs j))])
    [37, 38, 39, 40, 41, 42, 43, 44, 45, 46, 6] (by kernel_rfl) (by kernel_rfl) ?_ ?_ ?_ ?_
  · refine tabR_stable ?_
    rw [hLL]
    intro x hx
    simp at hx
    rcases hx with rfl | rfl | rfl | rfl | rfl | rfl | rfl | rfl | rfl | rfl | rfl
    all_goals intro w w' v hr hv
    all_goals first | exact hv | exact stable_kE (by simp) hr hv | exact stable_kW (by simp) hr hv
  · exact (Below.refl _ _).drew
  · refine ops_cons (gd rfl <| ty_val rfl (fun i ρ W hcn hd hW => ?_)) ?_
    · refine ⟨.slice (some ⟨W.heap.size, 0, none⟩) 0 0, W.alloc (.cells #[] 28), by simp only [execOp]; go_simp, hW.alloc hW.size _, RW.alloc _ _, W.heap.size, rfl, hW.size, WRow.new (xs := []) rfl⟩
    refine ops_cons (gd rfl <| ty_move_out (.inl rfl) rfl (by kernel_rfl) rfl (fun _ _ h => h) (RW.refl _ _)) ?_
    refine ops_cons (gd rfl <| ty_move_out (.inl rfl) rfl (by kernel_rfl) rfl (fun _ _ h => h) (RW.refl _ _)) ?_
    refine ops_cons (gd rfl <| ty_pure rfl rfl (fun _ _ h => h) (RW.refl _ _) (fun i ρ W hcn hd hW => ?_)) ?_
    · have e1 : ρ (.tmp 38) = _ := dep_of (d := 38) (by kernel_rfl) hd
      have e2 : ρ (.tmp 39) = _ := dep_of (d := 39) (by kernel_rfl) hd
      simp only [execOp, e1, e2]; go_simp
    refine ops_cons (gd rfl <| ty_app0 rfl rfl (by kernel_rfl) (by kernel_rfl) rfl hk40 rfl (by simp; omega) (fun _ _ hW => ⟨(hR4.below hW).take j (by omega), hW.size⟩) (fun _ _ _ hW hb => hW.trans hb)) ?_
    refine ops_cons (gd rfl <| ty_move_out (.inl rfl) rfl (by kernel_rfl) rfl (fun _ _ h => h) (RW.refl _ _)) ?_
    refine ops_cons (gd rfl <| ty_move_out (.inl rfl) rfl (by kernel_rfl) rfl (fun _ _ h => h) (RW.refl _ _)) ?_
    refine ops_cons (gd rfl <| ty_pure rfl rfl (fun _ _ h => h) (RW.refl _ _) (fun i ρ W hcn hd hW => ?_)) ?_
    · have e1 : ρ (.tmp 43) = _ := dep_of (d := 43) (by kernel_rfl) hd
      simp only [execOp, e1, hcn]; go_simp; rw [IntKind.wrap_i64]; omega
    refine ops_cons (gd rfl <| ty_pure rfl rfl (fun _ _ h => h) (RW.refl _ _) (fun i ρ W hcn hd hW => ?_)) ?_
    · have e1 : ρ (.tmp 42) = _ := dep_of (d := 42) (by kernel_rfl) hd
      have e2 : ρ (.tmp 44) = _ := dep_of (d := 44) (by kernel_rfl) hd
      by_cases hcp : cp = j + 1
      · have ho0 := HOFF.out.1 hcp
        subst ho0
        simp only [execOp, e1, e2]; go_simp
        intro hneg; omega
      · have ho0 := HOFF.out.2 hcp
        subst ho0
        simp only [execOp, e1, e2]; go_simp
        intro hneg; omega
    refine ops_cons (gd rfl <| ty_app rfl rfl (by kernel_rfl) (by kernel_rfl) rfl hk45 rfl (by simp; omega) (by intro zs hz; rw [hLL] at hz; simp at hz; rcases hz with rfl | rfl | rfl <;> simp [without]) (fun _ _ hW => ⟨(hR4.below hW).dropAt (j + 1) (by omega) cp xc off HOFF.out, hW.size⟩) (fun _ _ _ hW hb => hW.trans hb)) ?_
    refine ops_cons (gd rfl <| ty_move_dep (.inr rfl) rfl (by kernel_rfl) rfl (fun _ _ h => h) (RW.refl _ _)) ?_
    exact ops_nil
  · intro f W hW hf
    obtain ⟨g, cap6, e6, hg6, hcap6, hW6⟩ : kW w4.heap.size (without xs j) W (f 6) := hf 6 (by simp)
    clear hf hLL hk40 hk45
    have hRW := hR4.below hW
    have hbW := hb4'.trans (hW.mono hb4'.size)
    have hc6 : (without xs j).length ≤ cap6 := by obtain ⟨_, _, _, h, _⟩ := hW6; exact h
    have hcm6 : cap6 ≤ 9223372036854775807 := by unfold maxLen at hcap6; omega
    simp only [fill, e6]
    go_simp
    go_wp2_with fail
    refine (impl_MapFind _ cp xs n W hRW xc xm).mono ?_
    rintro e w5 ⟨rfl, hb5⟩
    have hR5 := hRW.below hb5
    have hW5 := hW6.of (hb5.block g hW6.lt)
    have hb5' := hbW.trans (hb5.mono hbW.size)
    obtain ⟨c0, c1, c2, c3⟩ := hR5.get0 j hj
    clear hW6 hb5 hRW hbW hW hb4' hR4
    by_cases m1 : xs[j].fr ≤ n
    · by_cases m2 : n ≤ xs[j].tt
      · have hin : inRngB xs[j] n = true := by simp [inRngB]; omega
        have HQ := Hid.intro (find_without_in HOK.out hj hin)
        go_wp2_with fail
        refine (impl_MapOk _ cap6 (without xs j) w5 hW5.row hc6 hcm6).mono ?_
        rintro e w6 ⟨rfl, hb6⟩
        have hW7 := hW5.of (hb6.block g hW5.lt)
        have hb6' := hb5'.trans (hb6.mono hb5'.size)
        rw [mapOk_without HOK.out j]
        go_wp2_with fail
        refine (impl_MapFind _ cap6 (without xs j) n w6 hW7.row hc6 hcm6).mono ?_
        rintro e w7 ⟨rfl, hb7⟩
        have hb7' := hb6'.trans (hb7.mono hb6'.size)
        rw [HQ.out]
        go_wp2
        go_ret
        exact ⟨by simp, hb7'⟩
      · have hin : inRngB xs[j] n = false := by simp [inRngB]; omega
        have n2 : decide (n ≤ xs[j].tt) = false := by simpa using m2
        have HQ := Hid.intro (find_without_out hj hin)
        go_wp2_with fail
        refine (impl_MapOk _ cap6 (without xs j) w5 hW5.row hc6 hcm6).mono ?_
        rintro e w6 ⟨rfl, hb6⟩
        have hW7 := hW5.of (hb6.block g hW5.lt)
        have hb6' := hb5'.trans (hb6.mono hb5'.size)
        rw [mapOk_without HOK.out j]
        go_wp2_with fail
        refine (impl_MapFind _ cap6 (without xs j) n w6 hW7.row hc6 hcm6).mono ?_
        rintro e w7 ⟨rfl, hb7⟩
        have hb7' := hb6'.trans (hb7.mono hb6'.size)
        rw [HQ.out]
        go_wp2
        go_ret
        exact ⟨by simp, hb7'⟩
    · have hin : inRngB xs[j] n = false := by simp [inRngB]; omega
      have n1 : decide (xs[j].fr ≤ n) = false := by simpa using m1
      have HQ := Hid.intro (find_without_out hj hin)
      go_wp2_with fail
      refine (impl_MapOk _ cap6 (without xs j) w5 hW5.row hc6 hcm6).mono ?_
      rintro e w6 ⟨rfl, hb6⟩
      have hW7 := hW5.of (hb6.block g hW5.lt)
      have hb6' := hb5'.trans (hb6.mono hb5'.size)
      rw [mapOk_without HOK.out j]
      go_wp2_with fail
      refine (impl_MapFind _ cap6 (without xs j) n w6 hW7.row hc6 hcm6).mono ?_
      rintro e w7 ⟨rfl, hb7⟩
      have hb7' := hb6'.trans (hb7.mono hb6'.size)
      rw [HQ.out]
      go_wp2
      go_ret
      exact ⟨by simp, hb7'⟩

end Go.Proofs.Ytgfcidpkepnphaa
