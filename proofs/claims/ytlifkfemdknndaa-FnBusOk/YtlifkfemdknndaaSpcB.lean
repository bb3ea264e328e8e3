/-
  l4Copy of the model: the same store, and what is held, in new memory.
-/
import Derived.Test.YtlifkfemdknndaaSpcA
namespace Go.Proofs.Ytlifkfemdknndaa
open Go.RowKit
set_option linter.unusedSimpArgs false
set_option linter.unusedVariables false

/-- the class of worlds of a region that stores into one box of two cells: all else of what lay lies as it lay -/
structure CB2 (R : Nat) (T : TypeId) (W0 W : World) : Prop where
  kept : Kept (fun k => k = R) W0 W
  box : ∃ v0 v1, W.heap[R]? = some (.cells #[v0, v1] T (0, 0))
theorem CB2.gr {R : Nat} {T : TypeId} {W0 W W' : World} (h : CB2 R T W0 W) (hg : Gr W W') : CB2 R T W0 W' := by
  obtain ⟨hk, v0, v1, hb⟩ := h
  exact ⟨hk.trans (Kept.of_below hg), v0, v1, hg.cells hb⟩
theorem CB2.set {R : Nat} {T : TypeId} {W0 W : World} (h : CB2 R T W0 W) (v0 v1 : Value) : CB2 R T W0 ((W.setCell ⟨R, 0, none⟩ v0).setCell ⟨R, 1, none⟩ v1) := by
  obtain ⟨hk, u0, u1, hb⟩ := h
  exact ⟨(hk.trans (Kept.setCell (D := fun k => k = R) (p := ⟨R, 0, none⟩) _ rfl _)).trans (Kept.setCell (D := fun k => k = R) (p := ⟨R, 1, none⟩) _ rfl _), v0, v1, (heap_set (heap_set hb 0 v0) 1 v1).trans rfl⟩
theorem CB2.ints {R : Nat} {T : TypeId} {w W0 W : World} {p : Option Addr} {l : List Int} (h : CB2 R T W0 W) (hbw : Below w.heap.size w W0) (hR : w.heap.size ≤ R) (hi : IntsAt w p l) : IntsAt W p l := by
  rcases hi with hx | ⟨b, off, rfl, hb, hc⟩
  · exact .inl hx
  · have hs1 := hbw.size
    have hs2 := h.kept.size
    exact .inr ⟨b, off, rfl, by omega, fun k hk => (h.kept.cell (p := ⟨b, off + k, none⟩) (by show b < _; omega) (by show ¬ b = _; omega)).trans ((hbw.cell (p := ⟨b, off + k, none⟩) hb).trans (hc k hk))⟩

theorem below_nw (w : World) (o : Obj) : Gr w (w.alloc o) := (Below.refl _ w).alloc (Nat.le_refl _) o

def k3_l4Copy (M B R : Nat) (ws hs : List Int) (pw ph : Option Addr) (cw ch : Nat) : World → Value → Prop := fun w v => ∃ g, v = .slice (some ⟨g, 0, none⟩) 0 0 ∧ M ≤ g ∧ w.heap[g]? = some (.cells #[] 3 (0, 0))
def k6_l4Copy (M B R : Nat) (ws hs : List Int) (pw ph : Option Addr) (cw ch : Nat) : World → Value → Prop := fun w v => ∃ g c, v = .slice (some ⟨g, 0, none⟩) hs.length c ∧ M ≤ g ∧ ORow 3 1 w g c hs.length (hs.map (Value.int .i64)) ∧ hs.length ≤ c ∧ c ≤ 9223372036854775807
def k7_l4Copy (M B R : Nat) (ws hs : List Int) (pw ph : Option Addr) (cw ch : Nat) : World → Value → Prop := fun w v => ∃ g c g' c', v = .agg #[.slice (some ⟨g, 0, none⟩) ws.length c, .slice (some ⟨g', 0, none⟩) hs.length c'] ∧ M ≤ g ∧ ORow 3 1 w g c ws.length (ws.map (Value.int .i64)) ∧ ws.length ≤ c ∧ c ≤ 9223372036854775807 ∧ M ≤ g' ∧ ORow 3 1 w g' c' hs.length (hs.map (Value.int .i64)) ∧ hs.length ≤ c' ∧ c' ≤ 9223372036854775807 ∧ (hs ≠ [] → g ≠ g')

def fl_l4Copy (M B R : Nat) (ws hs : List Int) (pw ph : Option Addr) (cw ch : Nat) : List Fact := [
  fIs 3 (.pointer (some ⟨B, 0, none⟩)),
  fIs 4 (.agg #[.slice pw ws.length cw]),
  ⟨[5, 9], [6], fun s d w => ∃ g c, s 5 = .agg #[.slice (some ⟨g, 0, none⟩) ws.length c] ∧ M ≤ g ∧ ORow 3 1 w g c ws.length (ws.map (Value.int .i64)) ∧ ws.length ≤ c ∧ c ≤ 9223372036854775807 ∧ (d 6 = true → hs ≠ [] → ∀ g' c', s 9 = .slice (some ⟨g', 0, none⟩) hs.length c' → g ≠ g')⟩,
  fK 6 (k3_l4Copy M B R ws hs pw ph cw ch),
  fIs 7 (.pointer (some ⟨B, 1, none⟩)),
  fIs 8 (.slice ph hs.length ch),
  fK 9 (k6_l4Copy M B R ws hs pw ph cw ch),
  fK 10 (k7_l4Copy M B R ws hs pw ph cw ch),
  ⟨[10], [], fun s _ w => ∃ cs, s 10 = .agg cs ∧ w.heap[R]? = some (.cells cs 45 (0, 0))⟩]

theorem st_l4Copy (M B R : Nat) (ws hs : List Int) (pw ph : Option Addr) (cw ch : Nat) : ∀ F ∈ fl_l4Copy M B R ws hs pw ph cw ch, F.Stab :=
  stab_cons (fIs_stab _ _) <|
  stab_cons (fIs_stab _ _) <|
  stab_cons (by rintro s d w w' hg ⟨g, c, h1, h2, h3, h4⟩; exact ⟨g, c, h1, h2, h3.gr hg, h4⟩) <|
  stab_cons (fK_stab (by rintro w w' v hg ⟨g, h1, h2, h3⟩; exact ⟨g, h1, h2, hg.cells h3⟩)) <|
  stab_cons (fIs_stab _ _) <|
  stab_cons (fIs_stab _ _) <|
  stab_cons (fK_stab (by rintro w w' v hg ⟨g, c, h1, h2, h3, h4⟩; exact ⟨g, c, h1, h2, h3.gr hg, h4⟩)) <|
  stab_cons (fK_stab (by rintro w w' v hg ⟨g, c, g', c', h1, h2, h3, h4, h5, h6, h7, h8⟩; exact ⟨g, c, g', c', h1, h2, h3.gr hg, h4, h5, h6, h7.gr hg, h8⟩)) <|
  stab_cons (by rintro s d w w' hg ⟨cs, h1, h2⟩; exact ⟨cs, h1, hg.cells h2⟩) stab_nil

theorem ktl_l4Copy (M B R : Nat) (ws hs : List Int) (pw ph : Option Addr) (cw ch : Nat) : ∀ j, [8].contains j = false → ∀ s d w w', KT 45 w w' → (factsOf (fl_l4Copy M B R ws hs pw ph cw ch) j).body s d w → (factsOf (fl_l4Copy M B R ws hs pw ph cw ch) j).body s d w' := by
  intro j hj s d w w' hk hb
  rcases j with _ | _ | _ | _ | _ | _ | _ | _ | _ | j
  · exact hb
  · exact hb
  · obtain ⟨g, c, h1, h2, h3, h4⟩ := hb
    exact ⟨g, c, h1, h2, h3.kt hk (by decide), h4⟩
  · obtain ⟨g, h1, h2, h3⟩ := hb
    exact ⟨g, h1, h2, hk.cells h3 (by decide)⟩
  · exact hb
  · exact hb
  · obtain ⟨g, c, h1, h2, h3, h4⟩ := hb
    exact ⟨g, c, h1, h2, h3.kt hk (by decide), h4⟩
  · obtain ⟨g, c, g', c', h1, h2, h3, h4, h5, h6, h7, h8⟩ := hb
    exact ⟨g, c, g', c', h1, h2, h3.kt hk (by decide), h4, h5, h6, h7.kt hk (by decide), h8⟩
  · simp at hj
  · trivial

theorem ask_l4Copy {M B R : Nat} {ws hs : List Int} {pw ph : Option Addr} {cw ch : Nat} (j : Nat) (hj : j < 9) (h : (factsOf (fl_l4Copy M B R ws hs pw ph cw ch) j).dones.contains 6 = true) : j = 2 := by
  rcases j with _ | _ | _ | _ | _ | _ | _ | _ | _ | j
  all_goals first | rfl | exact absurd (show false = true from h) (by decide) | omega

theorem asks8_l4Copy {M B R : Nat} {ws hs : List Int} {pw ph : Option Addr} {cw ch : Nat} (j : Nat) (hj : j < 9) (h : [8].contains j = true ∨ (factsOf (fl_l4Copy M B R ws hs pw ph cw ch) j).dones.contains 8 = true) : j = 8 := by
  rcases j with _ | _ | _ | _ | _ | _ | _ | _ | _ | j
  all_goals first | rfl | (rcases h with h | h <;> exact absurd (show false = true from h) (by decide)) | omega

set_option maxRecDepth 100000 in
set_option maxHeartbeats 2000000 in
theorem spec_l4Copy (s : Stt) (pw ph : Option Addr) (cw ch : Nat) (w : World) (h : StAt w s pw cw ph ch) (hlw : s.words.length ≤ 100000) (hlh : s.holds.length ≤ 100000) :
    Calls Try.prog 59 #[stV s pw cw ph ch] w fun e w' => ∃ g c g' c', e = .returned (stV s (some ⟨g, 0, none⟩) c (some ⟨g', 0, none⟩) c') ∧ ORow 3 1 w' g c s.words.length (s.words.map (Value.int .i64)) ∧ s.words.length ≤ c ∧ c ≤ 9223372036854775807 ∧ ORow 3 1 w' g' c' s.holds.length (s.holds.map (Value.int .i64)) ∧ s.holds.length ≤ c' ∧ c' ≤ 9223372036854775807 ∧ w.heap.size ≤ g ∧ w.heap.size ≤ g' ∧ (s.holds ≠ [] → g ≠ g') ∧ Below w.heap.size w w' := by
  obtain ⟨ws, hs⟩ := s
  have HA := Hid.intro h
  clear h
  simp only at hlw hlh
  unfold stV
  have hb2 : ∀ o o', Below w.heap.size w ((w.alloc o).alloc o') := fun o o' => ((Below.refl _ w).alloc (Nat.le_refl _) o).alloc (by simp) o'
  go_enter Try.func59, Try.ntmps59
  go_wp2_with fail
  obtain ⟨W0, hW0⟩ : ∃ W0, (w.alloc (.cells #[.slice pw ws.length cw, .slice ph hs.length ch] 45)).alloc (.cells #[.slice none 0 0, .slice none 0 0] 45) = W0 := ⟨_, rfl⟩
  have hs0 : W0.heap.size = w.heap.size + 2 := by rw [← hW0]; simp
  have hB0 : W0.heap[w.heap.size]? = some (.cells #[.slice pw ws.length cw, .slice ph hs.length ch] 45 (0, 0)) := by rw [← hW0]; exact (Below.heap_alloc _ _ _ (by simp)).trans (nw_at _ rfl)
  have hR0 : W0.heap[w.heap.size + 1]? = some (.cells #[.slice none 0 0, .slice none 0 0] 45 (0, 0)) := by rw [← hW0]; exact nw_at _ (by simp)
  have hbw : Below w.heap.size w W0 := by rw [← hW0]; exact hb2 _ _
  rw [hW0]
  clear hW0 hb2
  have hA0 := HA.out.below hbw
  have hBc : ∀ W, CB2 (w.heap.size + 1) 45 W0 W → W.heap[w.heap.size]? = some (.cells #[.slice pw ws.length cw, .slice ph hs.length ch] 45 (0, 0)) := fun W hC => (hC.kept.block _ (by omega) (by omega)).trans hB0
  have hCM : ∀ W, CB2 (w.heap.size + 1) 45 W0 W → w.heap.size + 2 ≤ W.heap.size := fun W hC => by have := hC.kept.size; omega
  have hCg : ∀ W W', CB2 (w.heap.size + 1) 45 W0 W → Gr W W' → CB2 (w.heap.size + 1) 45 W0 W' := fun W W' hC hg => hC.gr hg
  have hCs : ∀ W v0 v1, CB2 (w.heap.size + 1) 45 W0 W → CB2 (w.heap.size + 1) 45 W0 ((W.setCell ⟨w.heap.size + 1, 0, none⟩ v0).setCell ⟨w.heap.size + 1, 1, none⟩ v1) := fun W v0 v1 hC => hC.set v0 v1
  have hRc : ∀ W, CB2 (w.heap.size + 1) 45 W0 W → ∃ v0 v1, W.heap[w.heap.size + 1]? = some (.cells #[v0, v1] 45 (0, 0)) := fun W hC => hC.box
  have hWs : ∀ W, CB2 (w.heap.size + 1) 45 W0 W → IntsAt W pw ws := fun W hC => hC.ints hbw (by omega) HA.out.words
  have hHs : ∀ W, CB2 (w.heap.size + 1) 45 W0 W → IntsAt W ph hs := fun W hC => hC.ints hbw (by omega) HA.out.holds
  obtain ⟨R, hR⟩ : ∃ R, R = w.heap.size + 1 := ⟨_, rfl⟩
  obtain ⟨B, hB⟩ : ∃ B, B = w.heap.size := ⟨_, rfl⟩
  obtain ⟨M, hM⟩ : ∃ M, M = w.heap.size + 2 := ⟨_, rfl⟩
  rw [← hR] at hBc hCM hCg hCs hRc hWs hHs hR0 ⊢
  rw [← hM] at hCM
  rw [← hB] at hBc ⊢
  have hMw : w.heap.size ≤ M := by omega
  have hRw : w.heap.size ≤ R := by omega
  have hMR : R < M := by omega
  clear hB hR hM hB0
  refine wp_region_fl (by kernel_rfl) (fl_l4Copy M B R ws hs pw ph cw ch) (fun _ => CB2 R 45 W0) [3, 4, 5, 6, 7, 8, 9, 10] (by kernel_rfl) (by kernel_rfl) (by kernel_rfl) ?c0 ?looks ?done
  case looks =>
    intro hcl i o ho
    rcases i with _ | _ | _ | _ | _ | _ | _ | _ | _ | i
    · simp at ho; subst ho
      refine fo_det (st_l4Copy M B R ws hs pw ph cw ch) hcl rfl rfl rfl rfl (by kernel_rfl) (fun _ _ h => h) (fun done ρ W hat => ?_)
      have e1 : ρ (.tmp 1) = .pointer (some ⟨B, 0, none⟩) := hat.out 1 (by kernel_rfl)
      have hC := hat.cls
      have hc := hat.con
      simp only [execOp, e1]
      go_simp
    · simp at ho; subst ho
      refine fo_det (st_l4Copy M B R ws hs pw ph cw ch) hcl rfl rfl rfl rfl (by kernel_rfl) (fun _ _ h => h) (fun done ρ W hat => ?_)
      have e3 : ρ (.tmp 3) = .pointer (some ⟨B, 0, none⟩) := fIs_at (d := 3) (v := .pointer (some ⟨B, 0, none⟩)) (hat.fact 0 (by kernel_rfl))
      have hC := hat.cls
      have hx := hBc W hC
      have c0 : W.cell? ⟨B, 0, none⟩ = some (.slice pw ws.length cw) := heap_cell hx 0
      have hc := hat.con
      simp only [execOp, e3]
      go_simp
    · simp at ho; subst ho
      refine fo_grow (st_l4Copy M B R ws hs pw ph cw ch) hcl rfl rfl (fun done ρ W hat => ?_)
      have e4 : ρ (.tmp 4) = .agg #[.slice pw ws.length cw] := fIs_at (d := 4) (v := .agg #[.slice pw ws.length cw]) (hat.fact 1 (by kernel_rfl))
      have hC := hat.cls
      have hf := hat.fn
      refine up_call 89 #[.agg #[.slice pw ws.length cw]] (by simp only [execOp]; go_simp) ?_
      refine (spec_l2Copy pw cw ws W (hWs W hC) hlw).mono ?_
      rintro e W1 ⟨g, c, rfl, hO, hc1, hc2, hg, hb⟩
      refine ⟨_, rfl, hCg W W1 hC hb, hb, ⟨g, c, ?_, Nat.le_trans (hCM W hC) hg, hO, hc1, hc2, fun hd hne g' c' hs9 => ?_⟩, free_spec (by kernel_rfl) hat.lt⟩
      · exact rfl
      · have hd6 : done 6 = true := hd
        obtain ⟨g2, c2, k1, _, k3, _⟩ := (fK_at (d := 9) (K := k6_l4Copy M B R ws hs pw ph cw ch) (hat.all 6 hd6))
        have : ρ (.tmp 9) = .slice (some ⟨g', 0, none⟩) hs.length c' := hs9
        have hlt := k3.lt
        have k1' : ρ (.tmp 9) = _ := k1
        rw [k1'] at this
        cases this
        omega
    · simp at ho; subst ho
      refine fo_grow (st_l4Copy M B R ws hs pw ph cw ch) hcl rfl rfl (fun done ρ W hat => ?_)
      have hC := hat.cls
      refine up_val (.slice (some ⟨W.heap.size, 0, none⟩) 0 0) (W.alloc (.cells #[] 3)) (by simp only [execOp]; go_simp) ?_
      refine ⟨hCg W _ hC (below_nw _ _), below_nw _ _, fK_mk (K := k3_l4Copy M B R ws hs pw ph cw ch) ⟨W.heap.size, updV_same _ _ _, hCM W hC, nw_at _ rfl⟩, free_spec (by kernel_rfl) hat.lt⟩
    · simp at ho; subst ho
      refine fo_det (st_l4Copy M B R ws hs pw ph cw ch) hcl rfl rfl rfl rfl (by kernel_rfl) (fun _ _ h => h) (fun done ρ W hat => ?_)
      have e1 : ρ (.tmp 1) = .pointer (some ⟨B, 0, none⟩) := hat.out 1 (by kernel_rfl)
      have hC := hat.cls
      have hc := hat.con
      simp only [execOp, e1]
      go_simp
    · simp at ho; subst ho
      refine fo_det (st_l4Copy M B R ws hs pw ph cw ch) hcl rfl rfl rfl rfl (by kernel_rfl) (fun _ _ h => h) (fun done ρ W hat => ?_)
      have e7 : ρ (.tmp 7) = .pointer (some ⟨B, 1, none⟩) := fIs_at (d := 7) (v := .pointer (some ⟨B, 1, none⟩)) (hat.fact 4 (by kernel_rfl))
      have hC := hat.cls
      have hx := hBc W hC
      have c1 : W.cell? ⟨B, 1, none⟩ = some (.slice ph hs.length ch) := heap_cell hx 1
      have hc := hat.con
      simp only [execOp, e7]
      go_simp
    · simp at ho; subst ho
      refine fo_grow (st_l4Copy M B R ws hs pw ph cw ch) hcl rfl rfl (fun done ρ W hat => ?_)
      have e8 : ρ (.tmp 8) = .slice ph hs.length ch := fIs_at (d := 8) (v := .slice ph hs.length ch) (hat.fact 5 (by kernel_rfl))
      have hC := hat.cls
      obtain ⟨g, k1, k2, k3⟩ := (fK_at (d := 6) (K := k3_l4Copy M B R ws hs pw ph cw ch) (hat.fact 3 (by kernel_rfl)))
      refine ty_app_new rfl k1 k3 e8 (hHs W hC) hlh ?_
      intro g' c' W1 hO hc1 hc2 hge hgo hb
      refine ⟨hCg W W1 hC hb, hb, fK_mk (K := k6_l4Copy M B R ws hs pw ph cw ch) ⟨g', c', updV_same _ _ _, ?_, hO, hc1, hc2⟩, fun j hj hcj => ?_⟩
      · rcases hgo with rfl | h
        · exact k2
        · exact Nat.le_trans (hCM W hC) h
      · have hj2 : j = 2 := ask_l4Copy j (hat.lt j hj) hcj
        subst hj2
        obtain ⟨g2, c2, h1, h2, h3, h4, h5, h6⟩ := hat.all 2 hj
        refine ⟨g2, c2, ?_, h2, h3.gr hb, h4, h5, fun _ hne g3 c3 hs9 => ?_⟩
        · exact h1
        · have : Value.slice (some ⟨g', 0, none⟩) hs.length c' = Value.slice (some ⟨g3, 0, none⟩) hs.length c3 := hs9
          cases this
          have := hge hne
          have := h3.lt
          omega
    · simp at ho; subst ho
      refine fo_grow (st_l4Copy M B R ws hs pw ph cw ch) hcl rfl rfl (fun done ρ W hat => ?_)
      have hC := hat.cls
      obtain ⟨g, c, h1, h2, h3, h4, h5, h6⟩ := hat.fact 2 (by kernel_rfl)
      obtain ⟨g', c', k1, k2, k3, k4, k5⟩ := (fK_at (d := 9) (K := k6_l4Copy M B R ws hs pw ph cw ch) (hat.fact 6 (by kernel_rfl)))
      have h1' : ρ (.tmp 5) = .agg #[.slice (some ⟨g, 0, none⟩) ws.length c] := h1
      refine up_val (.agg #[.slice (some ⟨g, 0, none⟩) ws.length c, .slice (some ⟨g', 0, none⟩) hs.length c']) W (by simp only [execOp]; go_simp) ?_
      refine ⟨hC, Gr.refl _, fK_mk (K := k7_l4Copy M B R ws hs pw ph cw ch) ⟨g, c, g', c', updV_same _ _ _, h2, h3, h4, h5, k2, k3, k4, k5, fun hne => ?_⟩, free_spec (by kernel_rfl) hat.lt⟩
      exact h6 (show done 6 = true from hat.dn 6 (by kernel_rfl)) hne g' c' k1
    · simp at ho; subst ho
      refine fo_rel (S := KT 45) (E := [8]) (ktl_l4Copy M B R ws hs pw ph cw ch) hcl rfl rfl (fun done ρ W hat => ?_)
      have e2 : ρ (.tmp 2) = .pointer (some ⟨R, 0, none⟩) := hat.out 2 (by kernel_rfl)
      have hC := hat.cls
      obtain ⟨g, c, g', c', k1, _⟩ := (fK_at (d := 10) (K := k7_l4Copy M B R ws hs pw ph cw ch) (hat.fact 7 (by kernel_rfl)))
      obtain ⟨v0, v1, hR⟩ := hRc W hC
      have r0 := (heap_cell hR 0).trans rfl
      have r1 := (heap_cell hR 1).trans rfl
      have f0 := heap_free hR 0
      have f1 := heap_free hR 1
      refine up_skip ((W.setCell ⟨R, 0, none⟩ (.slice (some ⟨g, 0, none⟩) ws.length c)).setCell ⟨R, 1, none⟩ (.slice (some ⟨g', 0, none⟩) hs.length c')) (by simp only [execOp]; go_simp) ?_
      have hR1 := heap_set hR 0 (.slice (some ⟨g, 0, none⟩) ws.length c)
      refine ⟨hCs W _ _ hC, (KT.set hR _).trans (KT.set hR1 _), ⟨_, k1, (heap_set hR1 1 _).trans rfl⟩, fun j hj hcj => ?_⟩
      have hj8 : j = 8 := asks8_l4Copy j (hat.lt j hj) hcj
      subst hj8
      have := hat.new
      rw [hj] at this; cases this
    · simp at ho
  case c0 => exact ⟨Kept.drew _ _, _, _, hR0⟩
  case done =>
    intro f W hC hf hout
    obtain ⟨g, c, g', c', k1, k2, k3, k4, k5, k6, k7, k8, k9, k10⟩ := fK_at (d := 10) (K := k7_l4Copy M B R ws hs pw ph cw ch) (hf 7 (by decide))
    obtain ⟨cs, h1, h2⟩ := hf 8 (by decide)
    have h1' : f 10 = .agg cs := h1
    have k1' : f 10 = _ := k1
    rw [k1'] at h1'
    cases h1'
    have r0 : W.cell? ⟨R, 0, none⟩ = some (.slice (some ⟨g, 0, none⟩) ws.length c) := heap_cell h2 0
    have r1 : W.cell? ⟨R, 1, none⟩ = some (.slice (some ⟨g', 0, none⟩) hs.length c') := heap_cell h2 1
    simp only [fill]
    go_simp
    go_wp2
    refine bodyPost_ret (v := .agg #[.slice (some ⟨g, 0, none⟩) ws.length c, .slice (some ⟨g', 0, none⟩) hs.length c']) (by simp [results, Try.results59, go_sem, r0, r1]) rfl ⟨g, c, g', c', rfl, k3, k4, k5, k7, k8, k9, by omega, by omega, k10, ?_⟩
    exact hbw.trans ⟨hC.kept.os, hC.kept.tape, hC.kept.output, hC.kept.size, fun k hk => hC.kept.block k (by omega) (by omega)⟩

end Go.Proofs.Ytlifkfemdknndaa
