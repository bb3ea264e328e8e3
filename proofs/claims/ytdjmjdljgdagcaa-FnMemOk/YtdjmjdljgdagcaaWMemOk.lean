/-
  The law FnMemOk, walked.
-/
import Derived.Test.YtdjmjdljgdagcaaProg
import Derived.Test.YtdjmjdljgdagcaaDrawMem
import Derived.Test.YtdjmjdljgdagcaaIntsC
import Derived.Test.YtdjmjdljgdagcaaCrOk
namespace Go.Proofs.Ytdjmjdljgdagcaa
open Go.RowKit
set_option linter.unusedSimpArgs false
set_option linter.unusedVariables false

theorem memOk_noughts : memOkB (noughts 64) = true := by decide +kernel
theorem memOk_big {xs : List Int} {k : Nat} (h : k < xs.length) : memOkB (xs.set k 65536) = false :=
  memOk_hit (k := k) (by simpa using h) (by simp [wrdB, inB])

theorem own_row {w : World} {base g n cap : Nat} {cs : List Value} (h : w.ownsRow base 3 1 (.slice (some ⟨g, 0, none⟩) n cap) n cs) : ORow 3 1 w g cap n cs ∧ base ≤ g ∧ cap ≤ maxLen := by
  obtain ⟨h0, h | ⟨g', cap', cur, hv, h1, h2, h3, h4, h5, h6⟩⟩ := h
  · simp at h
  · simp at hv
    obtain ⟨rfl, rfl⟩ := hv
    exact ⟨⟨cur, h2, h5, h3, h0, h6⟩, h1, h4⟩
theorem ints_news {w : World} {b off : Nat} {xs : List Int} (h : IntsAt w (some ⟨b, off, none⟩) xs) : ∀ (j : Nat) (u : Value), (xs.map (Value.int .i64))[j]? = some u → w.cell? ((⟨b, off, none⟩ : Addr).add j) = some u := by
  intro j u hj
  have hlt : j < xs.length := by have := (List.getElem?_eq_some_iff.1 hj).1; simpa using this
  rcases h with h | ⟨b', off', e, h2, h3⟩
  · subst h; simp at hlt
  · cases e
    have hadd : (⟨b, off, none⟩ : Addr).add j = ⟨b, off + j, none⟩ := by unfold Addr.add; split <;> simp_all
    rw [hadd, h3 j hlt]
    simpa [hlt] using hj

/-- a copy by append: what is known behind it -/
theorem copy_facts {w w5 w6 : World} {A b off g' cap' : Nat} {xs : List Int} {v : Value} (hb : Below w.heap.size w w5) (hA : A < w5.heap.size) (cA : w5.cell? ⟨A, 0, none⟩ = some v) (hi : IntsAt w5 (some ⟨b, off, none⟩) xs)
    (hown : w6.ownsRow w5.heap.size 3 1 (.slice (some ⟨g', 0, none⟩) (0 + 64) cap') (0 + 64) ([] ++ xs.map (Value.int .i64)))
    (hgrow : (w5.alloc (.cells #[] 3)).grownBy w6 (Value.slice (some ⟨w5.heap.size, 0, none⟩) 0 0).ownBlock) (hlt : g' < w6.heap.size) (hx : xs.length = 64) :
    w6.cell? ⟨A, 0, none⟩ = some v ∧ A < w6.heap.size ∧ IntsAt w6 (some ⟨b, off, none⟩) xs ∧ Hid (ORow 3 1 w6 g' cap' 64 (xs.map (Value.int .i64))) ∧ w5.heap.size ≤ g' ∧ cap' ≤ 9223372036854775807 ∧ 64 ≤ cap' ∧ Below w.heap.size w w6 ∧ b < w5.heap.size := by
  have hs := hb.size
  have hbl := (hb.alloc hs (.cells #[] 3)).grown hgrow (by simp; omega) (fun k hk => by simp [Value.ownBlock] at hk; omega)
  obtain ⟨hO, hg, hc⟩ := own_row hown
  have hb6 : Below w5.heap.size w5 w6 := ((Below.refl _ w5).alloc (Nat.le_refl _) (.cells #[] 3)).grown hgrow (by simp) (fun k hk => by simp [Value.ownBlock] at hk; omega)
  have hbb : b < w5.heap.size := by
    rcases hi with h | ⟨b', off', e, h2, h3⟩
    · subst h; simp at hx
    · cases e; exact h2
  have h64 : 64 ≤ cap' := by obtain ⟨cur, _, _, h, _⟩ := hO; omega
  exact ⟨(hb6.cell (p := ⟨A, 0, none⟩) hA).trans cA, by have := hb6.size; omega, hi.below hb6, by simpa [Hid] using hO, hg, by unfold maxLen at hc; omega, h64, hbl, hbb⟩

def kRowV (xs : List Int) : World → Value → Prop := fun w v => ∃ g, v = .slice (some ⟨g, 0, none⟩) xs.length xs.length ∧ ORow 3 1 w g xs.length xs.length (xs.map (Value.int .i64))
theorem stable_rowV {xs : List Int} {w w' : World} {v : Value} (hr : Gr w w') (h : kRowV xs w v) : kRowV xs w' v := by
  obtain ⟨g, h1, h2⟩ := h
  exact ⟨g, h1, h2.of (hr.block g h2.lt)⟩
def kMemV (xs : List Int) : World → Value → Prop := fun w v => ∃ g, v = .agg #[.slice (some ⟨g, 0, none⟩) xs.length xs.length] ∧ ORow 3 1 w g xs.length xs.length (xs.map (Value.int .i64))
theorem stable_memV {xs : List Int} {w w' : World} {v : Value} (hr : Gr w w') (h : kMemV xs w v) : kMemV xs w' v := by
  obtain ⟨g, h1, h2⟩ := h
  exact ⟨g, h1, h2.of (hr.block g h2.lt)⟩

set_option maxRecDepth 100000 in
set_option maxHeartbeats 2000000 in
theorem walk_FnMemOk (a : Option Addr) (len cap : Nat) (w : World) (hc : len ≤ cap) (hm : cap ≤ 9223372036854775807) (h : Bytes w w.heap.size a len) :
    Calls Try.prog 3 #[.slice a len cap] w fun e w' => e = .returned (.bool true) ∧ Below w.heap.size w w' := by
  by_cases hl : 1048576 < len
  · have hI : (1048576 : Int) < (len : Int) := by omega
    clear h
    go_enter Try.func3, Try.ntmps3
    go_wp2
    go_ret
    exact ⟨rfl, Below.refl _ _⟩
  have hI : ¬ (1048576 : Int) < (len : Int) := by omega
  have HB := Hid.intro h
  clear h
  go_enter Try.func3, Try.ntmps3
  go_wp2_with fail
  refine (drawMemOk_any a len cap w hc hm HB.out).mono ?_
  rintro e w1 ⟨b, off, cp, xs, rfl, hi1, h63, h65, hcp, hmp, hb1⟩
  have hs1 := hb1.size
  have hbl : ∀ o, Below w1.heap.size w1 (w1.alloc o) := fun o => (Below.refl _ w1).alloc (Nat.le_refl _) o
  go_wp2_with fail
  refine (impl_MemOk _ cp xs _ (hi1.below (hbl _)) hcp hmp).mono ?_
  rintro e w2 ⟨rfl, hb2⟩
  have hs2 := hb2.size
  simp at hs2
  have cA2 : w2.cell? ⟨w1.heap.size, 0, none⟩ = some (.slice (some ⟨b, off, none⟩) xs.length cp) := (hb2.cell (p := ⟨w1.heap.size, 0, none⟩) (by simp)).trans (by simp)
  have hi2 := (hi1.below (hbl _)).below hb2
  have hb2' := (hb1.trans ((hbl _).mono hb1.size)).trans (hb2.mono (by simp; omega))
  have hA2 : w1.heap.size < w2.heap.size := by omega
  obtain ⟨A, hA⟩ : ∃ A, A = w1.heap.size := ⟨_, rfl⟩
  have hAn : w.heap.size ≤ A := by omega
  rw [← hA] at cA2 hA2 ⊢
  clear hA hbl hb2 hs2 hi1 hb1 hs1 HB
  go_wp2_with fail
  refine (impl_MemNew w2).mono ?_
  rintro e w3 ⟨g, rfl, hO3, hg3, hb3⟩
  have hs3 := hb3.size
  have hl3 := hO3.lt
  have cA3 := (hb3.cell (p := ⟨A, 0, none⟩) hA2).trans cA2
  have hi3 := hi2.below hb3
  have hb3' := hb2'.trans (hb3.mono hb2'.size)
  have hA3 : A < w3.heap.size := by omega
  clear hb3 cA2 hi2 hb2'
  have hbl : ∀ o, Below w3.heap.size w3 (w3.alloc o) := fun o => (Below.refl _ w3).alloc (Nat.le_refl _) o
  go_wp2_with fail
  obtain ⟨C, hC⟩ : ∃ C, C = w3.heap.size := ⟨_, rfl⟩
  have cA4 := ((hbl (.cells #[.slice (some ⟨g, 0, none⟩) 64 64] 25)).cell (p := ⟨A, 0, none⟩) hA3).trans cA3
  have cC4 : (w3.alloc (.cells #[.slice (some ⟨g, 0, none⟩) 64 64] 25)).cell? ⟨C, 0, none⟩ = some (.slice (some ⟨g, 0, none⟩) 64 64) := by rw [hC]; simp
  have hi4 := hi3.below (hbl (.cells #[.slice (some ⟨g, 0, none⟩) 64 64] 25))
  have hO4 := hO3.of ((hbl (.cells #[.slice (some ⟨g, 0, none⟩) 64 64] 25)).block g hl3)
  have hb4 := hb3'.trans ((hbl (.cells #[.slice (some ⟨g, 0, none⟩) 64 64] 25)).mono hb3'.size)
  have hC4 : C < (w3.alloc (.cells #[.slice (some ⟨g, 0, none⟩) 64 64] 25)).heap.size := by simp [hC]
  rw [← hC] at hA3 hl3 ⊢
  have hAC : A < C := hA3
  clear hC hbl hO3 hi3 cA3 hb3' hs3
  generalize w3.alloc (.cells #[.slice (some ⟨g, 0, none⟩) 64 64] 25) = w4 at *
  have hn64 : (noughts 64).length = 64 := by simp [noughts]
  have hz4 : IntsAt w4 (some ⟨g, 0, none⟩) (noughts 64) := by rw [← hn64] at hO4; exact hO4.ints
  have hA4 : A < w4.heap.size := by omega
  obtain ⟨Z, hZ⟩ : ∃ Z, Z = noughts 64 := ⟨_, rfl⟩
  have hzo : memOkB Z = true := by rw [hZ]; exact memOk_noughts
  have hNew := fun W => spec_MemNew W
  rw [← hZ] at hz4 hn64 hNew
  clear hZ hO4
  refine wp_region_typed (by kernel_rfl) Gr (fun _ W => Below w4.heap.size w4 W)
    (tab [(15, kIs (.bool (memOkB xs))), (16, kIs (.agg #[.slice (some ⟨b, off, none⟩) xs.length cp])), (17, kIs (.bool (memOkB xs))), (18, kIs (.bool false)), (19, kIs (.bool false)), (20, kIs (.pointer (some ⟨C, 0, none⟩))), (21, kIs (.slice (some ⟨g, 0, none⟩) 64 64)),
      (22, kMemV Z), (23, kRowV Z), (24, kIs (.bool true)), (25, kIs (.bool false)), (26, kIs (.bool false)), (27, kIs (.bool false)), (28, kIs (.agg #[.slice (some ⟨g, 0, none⟩) 64 64])), (29, kIs (.bool true)), (30, kIs (.bool false)), (31, kIs (.bool false))])
    [15, 16, 17, 18, 19, 20, 21, 22, 23, 24, 25, 26, 27, 28, 29, 30, 31] (by kernel_rfl) (by kernel_rfl) ?_ ?_ ?_ ?_
  · refine tabR_stable ?_
    intro x hx
    simp at hx
    rcases hx with rfl | rfl | rfl | rfl | rfl | rfl | rfl | rfl | rfl | rfl | rfl | rfl | rfl | rfl | rfl | rfl | rfl
    all_goals intro w w' v hr hv
    all_goals first | exact hv | exact stable_memV hr hv | exact stable_rowV hr hv
  · exact (Below.refl _ _).drew
  · refine ops_cons (gd rfl <| ty_move_out (.inl rfl) rfl (by kernel_rfl) rfl (fun _ _ h => h) Gr.refl) ?_
    refine ops_cons (gd rfl <| tx_pure rfl rfl (fun _ _ h => h) Gr.refl (fun i ρ W hat hW => ?_)) ?_
    · have e1 := (hW.cell (p := ⟨A, 0, none⟩) hA4).trans cA4
      have e2 := hat.out 3 (by kernel_rfl)
      simp [Act.eval] at e2
      simp only [execOp, e2]; go_simp
    refine ops_cons (gd rfl <| tx_call rfl (fun i ρ W _ hat hW => ?_)) ?_
    · have e1 : ρ (.tmp 16) = _ := hat.dep 16 (by kernel_rfl)
      have hf := hat.fn
      refine ⟨16, #[.agg #[.slice (some ⟨b, off, none⟩) xs.length cp]], by simp only [execOp]; go_simp, ?_⟩
      refine (spec_MemOk _ cp xs W (hi4.below hW) hcp hmp).mono ?_
      rintro e W' ⟨rfl, hb⟩
      exact ⟨_, rfl, hW.trans (hb.mono hW.size), hb, rfl⟩
    refine ops_cons (gd rfl <| tx_pure rfl rfl (fun _ _ h => h) Gr.refl (fun i ρ W hat hW => ?_)) ?_
    · have e1 : ρ (.tmp 15) = _ := hat.dep 15 (by kernel_rfl)
      have e2 : ρ (.tmp 17) = _ := hat.dep 17 (by kernel_rfl)
      simp only [execOp, e1, e2]; go_simp
    refine ops_cons (gd rfl <| ty_move_dep (.inl rfl) rfl (by kernel_rfl) rfl (fun _ _ h => h) Gr.refl) ?_
    refine ops_cons (gdG 4 false rfl _ rfl 19 rfl rfl (by kernel_rfl) <| tx_pure rfl rfl (fun _ _ h => h) Gr.refl (fun i ρ W hat hW => ?_)) ?_
    · have e2 := hat.out 5 (by kernel_rfl)
      simp [Act.eval] at e2
      simp only [execOp, e2]; go_simp
    refine ops_cons (gdG 4 false rfl _ rfl 19 rfl rfl (by kernel_rfl) <| tx_pure rfl rfl (fun _ _ h => h) Gr.refl (fun i ρ W hat hW => ?_)) ?_
    · have e1 := (hW.cell (p := ⟨C, 0, none⟩) hC4).trans cC4
      have e2 : ρ (.tmp 20) = _ := hat.dep 20 (by kernel_rfl)
      simp only [execOp, e2]; go_simp
    refine ops_cons (gdG 4 false rfl _ rfl 19 rfl rfl (by kernel_rfl) <| tx_call rfl (fun i ρ W _ hat hW => ?_)) ?_
    · have hf := hat.fn
      refine ⟨18, #[], by simp only [execOp]; go_simp, ?_⟩
      refine (hNew W).mono ?_
      rintro e W' ⟨g', rfl, hO, hg, hb⟩
      refine ⟨_, rfl, hW.trans (hb.mono hW.size), hb, g', by rw [hn64], by rw [hn64]; exact hO⟩
    refine ops_cons (gdG 4 false rfl _ rfl 19 rfl rfl (by kernel_rfl) <| tx_val rfl (fun i ρ W _ hat hW => ?_)) ?_
    · obtain ⟨g', e1, hO⟩ : kMemV Z W (ρ (.tmp 22)) := hat.dep 22 (by kernel_rfl)
      have hfd : ∀ (W : World) (v : Value), (Instr.field 25 (.agg #[.slice (some ⟨g', 0, none⟩) 64 64]) 0).run Try.prog W = .ok (.slice (some ⟨g', 0, none⟩) 64 64) W := fun _ _ => by kernel_rfl
      exact ⟨.slice (some ⟨g', 0, none⟩) Z.length Z.length, W, by simp only [execOp, e1, hn64]; go_simp; rw [hfd _ undef]; rfl, hW, Gr.refl _, g', rfl, hO⟩
    refine ops_cons (gdG 4 false rfl _ rfl 19 rfl rfl (by kernel_rfl) <| tx_call rfl (fun i ρ W _ hat hW => ?_)) ?_
    · have e1 : ρ (.tmp 21) = _ := hat.dep 21 (by kernel_rfl)
      obtain ⟨g', e2, hO⟩ : kRowV Z W (ρ (.tmp 23)) := hat.dep 23 (by kernel_rfl)
      have hf := hat.fn
      refine ⟨17, #[.slice (some ⟨g, 0, none⟩) 64 64, .slice (some ⟨g', 0, none⟩) Z.length Z.length], by simp only [execOp]; go_simp, ?_⟩
      have hcr := crInts_same (some ⟨g, 0, none⟩) (some ⟨g', 0, none⟩) 64 Z.length Z W (hz4.below hW) hO.ints (by omega) (by omega) (by omega) (by omega)
      rw [hn64] at hcr ⊢
      refine hcr.mono ?_
      rintro e W' ⟨rfl, hb⟩
      exact ⟨_, rfl, hW.trans (hb.mono hW.size), hb, rfl⟩
    refine ops_cons (gdG 4 false rfl _ rfl 19 rfl rfl (by kernel_rfl) <| tx_pure rfl rfl (fun _ _ h => h) Gr.refl (fun i ρ W hat hW => ?_)) ?_
    · have e1 : ρ (.tmp 24) = _ := hat.dep 24 (by kernel_rfl)
      simp only [execOp, e1]; go_simp
    refine ops_cons (gd rfl <| tx_pure rfl rfl (fun _ _ h => h) Gr.refl (fun i ρ W hat hW => ?_)) ?_
    · have e1 : ρ (.tmp 19) = _ := hat.dep 19 (by kernel_rfl)
      have e2 : ρ (.tmp 25) = _ := hat.dep 25 (by kernel_rfl)
      simp only [execOp, e1, e2, hat.con]; go_simp
    refine ops_cons (gd rfl <| ty_move_dep (.inl rfl) rfl (by kernel_rfl) rfl (fun _ _ h => h) Gr.refl) ?_
    refine ops_cons (gdG 12 false rfl _ rfl 27 rfl rfl (by kernel_rfl) <| tx_pure rfl rfl (fun _ _ h => h) Gr.refl (fun i ρ W hat hW => ?_)) ?_
    · have e1 := (hW.cell (p := ⟨C, 0, none⟩) hC4).trans cC4
      have e2 := hat.out 5 (by kernel_rfl)
      simp [Act.eval] at e2
      simp only [execOp, e2]; go_simp
    refine ops_cons (gdG 12 false rfl _ rfl 27 rfl rfl (by kernel_rfl) <| tx_call rfl (fun i ρ W _ hat hW => ?_)) ?_
    · have e1 : ρ (.tmp 28) = _ := hat.dep 28 (by kernel_rfl)
      have hf := hat.fn
      refine ⟨14, #[.agg #[.slice (some ⟨g, 0, none⟩) 64 64]], by simp only [execOp]; go_simp, ?_⟩
      have hcr := impl_MemOk (some ⟨g, 0, none⟩) 64 Z W (hz4.below hW) (by omega) (by omega)
      rw [hn64, hzo] at hcr
      refine hcr.mono ?_
      rintro e W' ⟨rfl, hb⟩
      exact ⟨_, rfl, hW.trans (hb.mono hW.size), hb, rfl⟩
    refine ops_cons (gdG 12 false rfl _ rfl 27 rfl rfl (by kernel_rfl) <| tx_pure rfl rfl (fun _ _ h => h) Gr.refl (fun i ρ W hat hW => ?_)) ?_
    · have e1 : ρ (.tmp 29) = _ := hat.dep 29 (by kernel_rfl)
      simp only [execOp, e1]; go_simp
    refine ops_cons (gd rfl <| tx_pure rfl rfl (fun _ _ h => h) Gr.refl (fun i ρ W hat hW => ?_)) ?_
    · have e1 : ρ (.tmp 27) = _ := hat.dep 27 (by kernel_rfl)
      have e2 : ρ (.tmp 30) = _ := hat.dep 30 (by kernel_rfl)
      simp only [execOp, e1, e2, hat.con]; go_simp
    exact ops_nil
  intro f w5 hW hf
  have e31 : f 31 = .bool false := hf 31 (by simp)
  clear hf
  have hb5 := hb4.trans (hW.mono hb4.size)
  have hs5 := hW.size
  have hi5 := hi4.below hW
  have cA5 := (hW.cell (p := ⟨A, 0, none⟩) hA4).trans cA4
  have hA5 : A < w5.heap.size := by omega
  clear hW hb4 hi4 cA4 cC4 hz4 hNew hzo
  simp only [fill, e31]
  go_simp
  cases hok : memOkB xs
  · go_wp2_with (go_at_call 19; refine (crOk_any _).mono ?_; rintro e w' ⟨rfl, rfl⟩)
    go_ret
    exact ⟨rfl, hb5⟩
  have h64 := memOk_len hok
  have HOK := Hid.intro hok
  clear hok
  rw [h64] at cA5
  obtain ⟨i0, hi, hz0, hz1, hz2⟩ := info_parts Try.infoInt
  have hown0 : (w5.alloc (.cells #[] 3)).ownsRow w5.heap.size 3 1 (.slice (some ⟨w5.heap.size, 0, none⟩) 0 0) 0 [] := ⟨rfl, .inr ⟨w5.heap.size, 0, #[], rfl, Nat.le_refl _, by show (w5.heap.push _)[w5.heap.size]? = _; simp, Nat.le_refl _, Nat.zero_le _, rfl, rfl⟩⟩
  have hi5' : IntsAt (w5.alloc (.cells #[] 3)) (some ⟨b, off, none⟩) xs := hi5.below ((Below.refl _ w5).alloc (Nat.le_refl _) _)
  have HN := Hid.intro (ints_news hi5')
  have HI := Hid.intro hi5
  have HL := Hid.intro h64
  clear hi5 hi5' h64
  go_wp2_with (at_builtin; refine wpList_append_lies _ rfl _ _ _ rfl w5.heap.size 3 i0 _ 1 8 Try.underlying23 hi hz0 hz1 hz2 rfl (by omega) (.slice (some ⟨w5.heap.size, 0, none⟩) 0 0) 0 _ rfl hown0 ⟨b, off, none⟩ 64 cp (xs.map (Value.int .i64)) rfl (by simp [HL.out]) HN.out (by simp [Value.oneCell']) (by omega) (by unfold maxLen; omega) (by omega) (by simp) (w5.heap.size + 1) (by simp) ?_; intro g' cap' w6 hown6 hgrow6 hat6 hlt6; obtain ⟨cA6, hA6, hi6, HO6, hg6, hcm6, hc6, hb6, hbg⟩ := copy_facts hb5 hA5 cA5 HI.out hown6 hgrow6 hlt6 HL.out; clear hown6 hgrow6 hat6 hown0 HN HI hb5 cA5)
  obtain ⟨D, hD⟩ : ∃ D, D = w6.heap.size := ⟨_, rfl⟩
  have hbl : ∀ o, Below w6.heap.size w6 (w6.alloc o) := fun o => (Below.refl _ w6).alloc (Nat.le_refl _) o
  have hO6 := HO6.out
  have hl6 := hO6.lt
  have cA7 := ((hbl (.cells #[.slice (some ⟨g', 0, none⟩) 64 cap'] 25)).cell (p := ⟨A, 0, none⟩) hA6).trans cA6
  have cD7 : (w6.alloc (.cells #[.slice (some ⟨g', 0, none⟩) 64 cap'] 25)).cell? ⟨D, 0, none⟩ = some (.slice (some ⟨g', 0, none⟩) 64 cap') := by rw [hD]; simp
  have hi7 := hi6.below (hbl (.cells #[.slice (some ⟨g', 0, none⟩) 64 cap'] 25))
  have hO7 := hO6.of ((hbl (.cells #[.slice (some ⟨g', 0, none⟩) 64 cap'] 25)).block g' hl6)
  have hb7 := hb6.trans ((hbl (.cells #[.slice (some ⟨g', 0, none⟩) 64 cap'] 25)).mono hb6.size)
  have hs7 : (w6.alloc (.cells #[.slice (some ⟨g', 0, none⟩) 64 cap'] 25)).heap.size = D + 1 := by simp [hD]
  rw [← hD] at hA6 hl6 ⊢
  clear hD hbl hO6 HO6 hi6 cA6 hb6
  generalize w6.alloc (.cells #[.slice (some ⟨g', 0, none⟩) 64 cap'] 25) = w7 at *
  have hlen0 : (0 : Int) ≤ (len : Int) := by omega
  have hj0 : (0 : Int) ≤ (len : Int) % 64 := Int.emod_nonneg _ (by omega)
  have hj1 : (len : Int) % 64 < 64 := Int.emod_lt_of_pos _ (by omega)
  have hjn : ((len : Int) % 64).toNat = len % 64 := by omega
  have hjl : len % 64 < xs.length := by have := HL.out; omega
  have cj : w7.cell? ⟨g', len % 64, none⟩ = some (.int .i64 xs[len % 64]) := hO7.get (len % 64) _ (by simp [hjl])
  have fj : w7.frozen? ⟨g', len % 64, none⟩ = false := by
    obtain ⟨cur, e1, _⟩ := hO7
    simp [World.frozen?, e1]
  go_region
  obtain ⟨ys, hys⟩ : ∃ ys, ys = xs.set (len % 64) 65536 := ⟨_, rfl⟩
  have hny : memOkB ys = false := by rw [hys]; exact memOk_big hjl
  have hly : ys.length = 64 := by rw [hys]; simp [HL.out]
  have hO8 := hO7.set (len % 64) (by omega) 65536
  rw [← hys] at hO8
  have hne8 : ∀ k, k ≠ g' → (w7.setCell ⟨g', len % 64, none⟩ (.int .i64 65536)).drew.heap[k]? = w7.heap[k]? := fun k hk => Below.heap_setCell _ _ _ _ (by simpa using hk)
  have cA8 := (World.cell?_of_block (w := w7) (a := ⟨A, 0, none⟩) (hne8 A (by omega))).trans cA7
  have cD8 := (World.cell?_of_block (w := w7) (a := ⟨D, 0, none⟩) (hne8 D (by omega))).trans cD7
  have hi8 : IntsAt (w7.setCell ⟨g', len % 64, none⟩ (.int .i64 65536)).drew (some ⟨b, off, none⟩) xs := hi7.of (by simp) (fun b' off' e _ => by cases e; exact hne8 b (by omega))
  have hI8 : IntsAt (w7.setCell ⟨g', len % 64, none⟩ (.int .i64 65536)).drew (some ⟨g', 0, none⟩) ys := by
    have h8 : ORow 3 1 (w7.setCell ⟨g', len % 64, none⟩ (.int .i64 65536)).drew g' cap' ys.length (ys.map (Value.int .i64)) := by rw [hly]; exact hO8
    exact h8.ints
  have hb8 : Below w.heap.size w (w7.setCell ⟨g', len % 64, none⟩ (.int .i64 65536)).drew := (hb7.setCell (p := ⟨g', len % 64, none⟩) (by have := hb7.size; have := hAn; simp; omega) _).drew
  have hs8 : (w7.setCell ⟨g', len % 64, none⟩ (.int .i64 65536)).drew.heap.size = D + 1 := by simpa using hs7
  have hlx := HL.out
  have hLX := Hid.intro hlx
  clear hO8 hO7 cA7 cD7 hi7 hb7 hs7 cj fj hne8 hlx
  generalize (w7.setCell ⟨g', len % 64, none⟩ (.int .i64 65536)).drew = w8 at *
  go_wp2_with fail
  have hM1 := impl_MemOk (some ⟨g', 0, none⟩) cap' ys w8 hI8 (by omega) (by omega)
  rw [hly, hny] at hM1
  refine hM1.mono ?_
  rintro e w9 ⟨rfl, hb9⟩
  have hs9 := hb9.size
  have cA9 := (hb9.cell (p := ⟨A, 0, none⟩) (by simp; omega)).trans cA8
  have hi9 := hi8.below hb9
  have hb9' := hb8.trans (hb9.mono hb8.size)
  have hcp1 : (1 : Int) ≤ (cp : Int) := by omega
  clear hM1 hb9 hb8 hi8 hI8 cA8 cD8
  have hd9 := hi9.drop 1
  have hld : (xs.drop 1).length = 63 := by simp [hLX.out]
  have hnd : memOkB (xs.drop 1) = false := memOk_no (by omega)
  have hM2 := impl_MemOk (some ⟨b, off + 1, none⟩) (cp - 1) (xs.drop 1) w9 hd9 (by have := hLX.out; omega) (by omega)
  rw [hld, hnd] at hM2
  have HM2 := Hid.intro hM2
  clear hM2 hd9 hi9 hnd hld
  go_wp2_with fail
  refine HM2.out.mono ?_
  rintro e w10 ⟨rfl, hb10⟩
  have cA10 := (hb10.cell (p := ⟨A, 0, none⟩) (by simp; omega)).trans cA9
  have hb10' := hb9'.trans (hb10.mono hb9'.size)
  clear hb10 hb9' HM2
  go_wp2
  go_ret
  exact ⟨rfl, hb10'⟩

end Go.Proofs.Ytdjmjdljgdagcaa
