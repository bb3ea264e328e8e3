/-
  A range over a function within a round of another one; and one whose loop variable lies in a box.
-/
import Derived.Test.YtgjlkmhbaimjpaaImplUM
namespace Go.Proofs.Ytgjlkmhbaimjpaa
open Go.RowKit Go.Shelf
set_option linter.unusedSimpArgs false
set_option linter.unusedVariables false
attribute [local go_sem] Oper.semAt_some

theorem wpIn_rangeSB {α : Type} {P : Program} {n : Nat} {g : Operand} {ps : Array Tmp} {assign body : Code} {Q : Exit → Act → World → Prop} {a : Act} {w : World}
    {gf : Nat} {lb : Array Value} (hg : a.eval g = .func (.func gf) #[] lb) (eg : ∀ args w, (callFunc gf args).run P w = .ok (.enter gf args) w)
    {enc : α → Value} {Cap : World → Prop} {CB : Nat → Prop} {xs : List α} (hseq : ItSt P gf lb enc Cap CB xs) (hcap : ∀ W, Below w.heap.size w W → Cap W) (D : Nat → Prop)
    (hD : ∀ k, D k → k < w.heap.size) (hCB : ∀ k, CB k → ¬ D k ∧ k < w.heap.size) (hps : ps.size = 1) (stop : α → Bool)
    (I : List α → World → Prop) (S : World → Prop) (hI : Loc w.heap.size I) (hS : LocW w.heap.size S) (h0 : I [] w) (T : TypeId) (a₁ : α → Nat → Act)
    (hassign : ∀ (l : Nat) (x : α) (W : World) (m : Nat) (K : Act → World → Prop), K (a₁ x W.heap.size) (W.alloc (.cells #[enc x] T)) →
      assign.wpIn (Fence.wide.inRound l) m P (Exit.then K (fun _ _ _ => False)) { tmps := (ps.zip #[enc x]).foldl (fun t (p, v) => t.setIfInBounds p v) a.tmps, defers := [] } W)
    (hbody : ∀ (l : Nat) (pre : List α) (x : α) (B : Nat) (W : World) (m : Nat), w.heap.size ≤ l → l < B → (∃ r, W.heap[l]? = some (.loop r)) → W.heap[B]? = some (.cells #[enc x] T (0, 0)) → I pre W → pre ++ [x] <+: xs → body.wpIn (Fence.wide.inRound l) m P (stPost D I S (pre ++ [x]) (stop x) W) (a₁ x B) W)
    (hdone : ∀ (B : Nat) (W : World), w.heap.size ≤ B → xs.any stop = false → I xs W → W.heap[B]? = some (.deferred (some [])) → Q .normal { a with defers := { target := .collected B, args := #[] } :: a.defers } W)
    (hstop : ∀ (B : Nat) (W : World), w.heap.size ≤ B → xs.any stop = true → S W → W.heap[B]? = some (.deferred (some [])) → Code.ret.wpIn Fence.wide n P Q { a with defers := { target := .collected B, args := #[] } :: a.defers } W) :
    (Code.rangeFunc g ps assign body).wpIn Fence.wide n P Q a w := by
  refine wpIn_rangeFunc ?_
  intro fn hfn
  show ∃ l mark w₁ d w₁' f args w₂, (Instr.enterLoop fn a.tmps ps assign body none).run P w = _ ∧ _
  obtain ⟨rec, hrec⟩ : ∃ rec : LoopState → Option Code → Loop, rec = fun st pe => { state := st, pending := pe, fn, tmps := a.tmps, params := ps, assign, body, defers := w.heap.size } := ⟨_, rfl⟩
  obtain ⟨W1, hW1⟩ : ∃ W1, (w.alloc (.deferred (some []))).alloc (.loop (rec .ready none)) = W1 := ⟨_, rfl⟩
  have hL1 : W1.heap[w.heap.size + 1]? = some (.loop (rec .ready none)) := by
    rw [← hW1]; have := World.alloc_heap_new (w.alloc (.deferred (some []))) (.loop (rec .ready none)); rwa [World.size_alloc] at this
  have hK1 : W1.heap[w.heap.size]? = some (.deferred (some [])) := by
    rw [← hW1]; exact (Below.heap_alloc _ _ _ (by simp)).trans (World.alloc_heap_new w _)
  have hb1 : Below w.heap.size w W1 := by
    rw [← hW1]; exact (((Below.refl _ w).alloc (Nat.le_refl _) _).alloc (by simp) _)
  have hI1 : I [] W1 := hI _ _ _ h0 hb1
  have hs1 : W1.heap.size = w.heap.size + 2 := by rw [← hW1]; simp
  refine ⟨w.heap.size + 1, [{ target := .collected w.heap.size, args := #[] }], W1, { target := .fn (.func gf) lb, args := #[.func (.yield (w.heap.size + 1)) #[] #[]] }, W1, gf,
    #[.func (.yield (w.heap.size + 1)) #[] #[]] ++ lb, W1, ?_, ?_, ?_, ?_, ?_, ?_⟩
  · rw [← hW1, hrec]; exact run_enterLoop_outer _ _ _ _ _
  · simp only [resolve, hg]
    simp [go_sem]
  · intro f' hf'; trivial
  · simp [invoke, go_sem, eg]
  · intro h; cases h
  · refine (hseq (fun k => D k ∨ k = w.heap.size + 1) (w.heap.size + 1) stop
      (fun pre W => I pre W ∧ W.heap[w.heap.size + 1]? = some (.loop (rec .ready none)) ∧ W.heap[w.heap.size]? = some (.deferred (some [])))
      (fun W => S W ∧ W.heap[w.heap.size + 1]? = some (.loop (rec .done (some .ret))) ∧ W.heap[w.heap.size]? = some (.deferred (some [])))
      W1 (fun k hk => by rcases hk with hk | rfl; · have := hD k hk; omega
                         · omega)
      (fun k hk => ⟨fun e => by rcases e with e | rfl; · exact (hCB k hk).1 e
                                · have := (hCB _ hk).2; omega, by have := (hCB k hk).2; omega⟩) (hcap _ hb1)
      (fun s A B hs hb => ⟨hI s A B hs.1 (hb.mono (by omega)), (hb.block _ (by omega)).trans hs.2.1, (hb.block _ (by omega)).trans hs.2.2⟩)
      (fun A B hs hb => ⟨hS A B hs.1 (hb.mono (by omega)), (hb.block _ (by omega)).trans hs.2.1, (hb.block _ (by omega)).trans hs.2.2⟩)
      ?_ ⟨hI1, hL1, hK1⟩ (n - 1)).mono ?_
    · rintro pre x W m ⟨hi, hl, hk⟩ hpre
      have hlt : w.heap.size + 1 < W.heap.size := (Array.getElem?_eq_some_iff.1 hl).1
      have hy := run_yield (P := P) (args := #[enc x]) hl (by rw [hrec]; exact hps.symm)
      rw [hrec] at hy
      obtain ⟨V, hV⟩ : ∃ V, V = W.alloc (.cells #[enc x] T) := ⟨_, rfl⟩
      have hbV : Below W.heap.size W V := by rw [hV]; exact (Below.refl _ _).alloc (Nat.le_refl _) _
      have hVB : V.heap[W.heap.size]? = some (.cells #[enc x] T (0, 0)) := by rw [hV]; exact World.alloc_heap_new W _
      have hkV : Kept D W V := Kept.of_below hbV
      have hlV := (hbV.block _ hlt).trans hl
      have hkkV := (hbV.block _ (by omega)).trans hk
      have hiV := hI _ _ _ hi (hbV.mono (by omega))
      refine ⟨fn, _, assign, body, hy, roundIn_of_wpIn hfn (hassign _ x W m _ ?_)⟩
      rw [← hV]
      refine ⟨_, run_beginRound hlV (by rw [hrec]), ?_⟩
      have hltV : w.heap.size + 1 < V.heap.size := Nat.lt_of_lt_of_le hlt hbV.size
      have hl2 : (V.putObj (w.heap.size + 1) (.loop { rec .ready none with state := .busy })).heap[w.heap.size + 1]? = some (.loop { rec .ready none with state := .busy }) := World.putObj_heap_same hltV
      have hk2 : (V.putObj (w.heap.size + 1) (.loop { rec .ready none with state := .busy })).heap[w.heap.size]? = some (.deferred (some [])) := (World.putObj_heap_other (by omega)).trans hkkV
      refine wpIn_mono (hbody _ pre x W.heap.size _ m (by omega) hlt ⟨_, hl2⟩ ((World.putObj_heap_other (by omega)).trans hVB) (hI _ _ _ hiV (below_putObj _ (by omega) _)) hpre) ?_
      rintro e a3 W3 hp
      cases e with
      | normal =>
        obtain ⟨hst, hk3, hi3⟩ := hp
        have hl3 := (hk3.block _ (by simpa using hltV) (fun e => by have := hD _ e; omega)).trans hl2
        have hkk := (hk3.block _ (by simp <;> omega) (fun e => by have := hD _ e; omega)).trans hk2
        have hr := run_endRound (P := P) none hl3
        refine ⟨_, _, hr, by rw [hst]; rfl, ⟨fun _ => ⟨hI _ _ _ hi3 (below_putObj _ (by omega) _), ?_, (World.putObj_heap_other (by omega)).trans hkk⟩, fun h => (by rw [hst] at h; cases h)⟩, ?_⟩
        · rw [World.putObj_heap_same (Array.getElem?_eq_some_iff.1 hl3).1]
          rw [hrec]; rfl
        · exact (((hkV.mono (fun k hk => .inl hk)).trans (Kept.putObj V (D := fun k => D k ∨ k = w.heap.size + 1) (.inr rfl) _)).trans (hk3.mono (fun k hk => .inl hk))).trans (Kept.putObj W3 (.inr rfl) _)
      | ret =>
        obtain ⟨hst, hk3, hi3⟩ := hp
        have hl3 := (hk3.block _ (by simpa using hltV) (fun e => by have := hD _ e; omega)).trans hl2
        have hkk := (hk3.block _ (by simp <;> omega) (fun e => by have := hD _ e; omega)).trans hk2
        have hr := run_endRound (P := P) (some .ret) hl3
        refine ⟨_, _, hr, by rw [hst]; rfl, ⟨fun h => (by rw [hst] at h; cases h), fun _ => ⟨hS _ _ hi3 (below_putObj _ (by omega) _), ?_, (World.putObj_heap_other (by omega)).trans hkk⟩⟩, ?_⟩
        · rw [World.putObj_heap_same (Array.getElem?_eq_some_iff.1 hl3).1]
          rw [hrec]; rfl
        · exact (((hkV.mono (fun k hk => .inl hk)).trans (Kept.putObj V (D := fun k => D k ∨ k = w.heap.size + 1) (.inr rfl) _)).trans (hk3.mono (fun k hk => .inl hk))).trans (Kept.putObj W3 (.inr rfl) _)
      | exit id => exact hp.elim
      | goto t => exact hp.elim
      | panic ch => exact hp.elim
      | outgrown => exact hp.elim
    · rintro e W2 ⟨⟨v, rfl⟩, ⟨hno, hyes⟩, _⟩
      cases hany : xs.any stop
      · obtain ⟨hi, hl, hk⟩ := hno hany
        exact ⟨none, _, by have := run_endLoop (P := P) hl (by rw [hrec]; simp); rw [hrec] at this; exact this, hdone _ _ (Nat.le_refl _) hany (hI _ _ _ hi (below_putObj _ (by omega) _)) ((World.putObj_heap_other (by omega)).trans hk)⟩
      · obtain ⟨hi, hl, hk⟩ := hyes hany
        exact ⟨some .ret, _, by have := run_endLoop (P := P) hl (by rw [hrec]; simp); rw [hrec] at this; exact this, hstop _ _ (Nat.le_refl _) hany (hS _ _ hi (below_putObj _ (by omega) _)) ((World.putObj_heap_other (by omega)).trans hk)⟩

theorem wpIn_rangeSN {α : Type} {P : Program} {n : Nat} {g : Operand} {ps : Array Tmp} {assign body : Code} {Q : Exit → Act → World → Prop} {a : Act} {w : World} {l0 : Nat} {r0 : Loop} (hl0 : w.heap[l0]? = some (.loop r0))
    {gf : Nat} {lb : Array Value} (hg : a.eval g = .func (.func gf) #[] lb) (eg : ∀ args w, (callFunc gf args).run P w = .ok (.enter gf args) w)
    {enc : α → Value} {Cap : World → Prop} {CB : Nat → Prop} {xs : List α} (hseq : ItSt P gf lb enc Cap CB xs) (hcap : ∀ W, Below w.heap.size w W → Cap W) (D : Nat → Prop)
    (hD : ∀ k, D k → k < w.heap.size) (hCB : ∀ k, CB k → ¬ D k ∧ k < w.heap.size) (hps : ps.size = 1) (stop : α → Bool)
    (I : List α → World → Prop) (S : World → Prop) (hI : Loc w.heap.size I) (hS : LocW w.heap.size S) (h0 : I [] w) (a₁ : α → Act)
    (hassign : ∀ (l : Nat) (x : α) (W : World) (m : Nat) (K : Act → World → Prop), K (a₁ x) W →
      assign.wpIn (Fence.wide.inRound l) m P (Exit.then K (fun _ _ _ => False)) { tmps := (ps.zip #[enc x]).foldl (fun t (p, v) => t.setIfInBounds p v) a.tmps, defers := [] } W)
    (hbody : ∀ (l : Nat) (pre : List α) (x : α) (W : World) (m : Nat), I pre W → pre ++ [x] <+: xs → body.wpIn (Fence.wide.inRound l) m P (stPost D I S (pre ++ [x]) (stop x) W) (a₁ x) W)
    (hdone : ∀ (W : World), xs.any stop = false → I xs W → Kept D w W → Q .normal a W)
    (hstop : ∀ (W : World), xs.any stop = true → S W → Kept D w W → Code.ret.wpIn (Fence.wide.inRound l0) n P Q a W) :
    (Code.rangeFunc g ps assign body).wpIn (Fence.wide.inRound l0) n P Q a w := by
  refine wpIn_rangeFunc ?_
  intro fn hfn
  show ∃ l mark w₁ d w₁' f args w₂, (Instr.enterLoop fn a.tmps ps assign body (some l0)).run P w = _ ∧ _
  obtain ⟨rec, hrec⟩ : ∃ rec : LoopState → Option Code → Loop, rec = fun st pe => { state := st, pending := pe, fn, tmps := a.tmps, params := ps, assign, body, defers := r0.defers } := ⟨_, rfl⟩
  obtain ⟨W1, hW1⟩ : ∃ W1, w.alloc (.loop (rec .ready none)) = W1 := ⟨_, rfl⟩
  have hL1 : W1.heap[w.heap.size]? = some (.loop (rec .ready none)) := by rw [← hW1]; exact World.alloc_heap_new w _
  have hb1 : Below w.heap.size w W1 := by rw [← hW1]; exact (Below.refl _ w).alloc (Nat.le_refl _) _
  have hI1 : I [] W1 := hI _ _ _ h0 hb1
  have hs1 : W1.heap.size = w.heap.size + 1 := by rw [← hW1]; simp
  refine ⟨w.heap.size, [], W1, { target := .fn (.func gf) lb, args := #[.func (.yield w.heap.size) #[] #[]] }, W1, gf,
    #[.func (.yield w.heap.size) #[] #[]] ++ lb, W1, ?_, ?_, ?_, ?_, ?_, ?_⟩
  · rw [← hW1, hrec]; exact run_enterLoop_inner hl0 _ _ _ _ _
  · simp only [resolve, hg]
    simp [go_sem]
  · intro f' hf'; trivial
  · simp [invoke, go_sem, eg]
  · intro h; cases h
  · refine ((hseq (fun k => D k ∨ k = w.heap.size) w.heap.size stop
      (fun pre W => (I pre W ∧ Kept D w W) ∧ W.heap[w.heap.size]? = some (.loop (rec .ready none)))
      (fun W => (S W ∧ Kept D w W) ∧ W.heap[w.heap.size]? = some (.loop (rec .done (some .ret))))
      W1 (fun k hk => by rcases hk with hk | rfl; · have := hD k hk; omega
                         · omega)
      (fun k hk => ⟨fun e => by rcases e with e | rfl; · exact (hCB k hk).1 e
                                · have := (hCB _ hk).2; omega, by have := (hCB k hk).2; omega⟩) (hcap _ hb1)
      (fun s A B hs hb => ⟨⟨hI s A B hs.1.1 (hb.mono (by omega)), hs.1.2.below hb (by omega)⟩, (hb.block _ (by omega)).trans hs.2⟩)
      (fun A B hs hb => ⟨⟨hS A B hs.1.1 (hb.mono (by omega)), hs.1.2.below hb (by omega)⟩, (hb.block _ (by omega)).trans hs.2⟩)
      ?_ ⟨⟨hI1, Kept.of_below hb1⟩, hL1⟩ (n - 1)).inRound l0).mono ?_
    · rintro pre x W m ⟨⟨hi, hkw⟩, hl⟩ hpre
      have hlt : w.heap.size < W.heap.size := (Array.getElem?_eq_some_iff.1 hl).1
      have hy := run_yield (P := P) (args := #[enc x]) hl (by rw [hrec]; exact hps.symm)
      rw [hrec] at hy
      refine ⟨fn, _, assign, body, hy, roundIn_of_wpIn hfn (hassign _ x W m _ ⟨_, run_beginRound hl (by rw [hrec]), ?_⟩)⟩
      have hl2 : (W.putObj w.heap.size (.loop { rec .ready none with state := .busy })).heap[w.heap.size]? = some (.loop { rec .ready none with state := .busy }) := World.putObj_heap_same hlt
      have hkp : Kept D w (W.putObj w.heap.size (.loop { rec .ready none with state := .busy })) := hkw.below (below_putObj _ (Nat.le_refl _) _) (Nat.le_refl _)
      refine wpIn_mono (hbody _ pre x _ m (hI _ _ _ hi (below_putObj _ (by omega) _)) hpre) ?_
      rintro e a3 W3 hp
      cases e with
      | normal =>
        obtain ⟨hst, hk3, hi3⟩ := hp
        have hl3 := (hk3.block _ (by simpa using hlt) (fun e => by have := hD _ e; omega)).trans hl2
        have hr := run_endRound (P := P) none hl3
        refine ⟨_, _, hr, by rw [hst]; rfl, ⟨fun _ => ⟨⟨hI _ _ _ hi3 (below_putObj _ (by omega) _), (hkp.trans hk3).below (below_putObj _ (Nat.le_refl _) _) (Nat.le_refl _)⟩, ?_⟩, fun h => (by rw [hst] at h; cases h)⟩, ?_⟩
        · rw [World.putObj_heap_same (Array.getElem?_eq_some_iff.1 hl3).1]
          rw [hrec]; rfl
        · exact ((Kept.putObj W (D := fun k => D k ∨ k = w.heap.size) (.inr rfl) _).trans (hk3.mono (fun k hk => .inl hk))).trans (Kept.putObj W3 (.inr rfl) _)
      | ret =>
        obtain ⟨hst, hk3, hi3⟩ := hp
        have hl3 := (hk3.block _ (by simpa using hlt) (fun e => by have := hD _ e; omega)).trans hl2
        have hr := run_endRound (P := P) (some .ret) hl3
        refine ⟨_, _, hr, by rw [hst]; rfl, ⟨fun h => (by rw [hst] at h; cases h), fun _ => ⟨⟨hS _ _ hi3 (below_putObj _ (by omega) _), (hkp.trans hk3).below (below_putObj _ (Nat.le_refl _) _) (Nat.le_refl _)⟩, ?_⟩⟩, ?_⟩
        · rw [World.putObj_heap_same (Array.getElem?_eq_some_iff.1 hl3).1]
          rw [hrec]; rfl
        · exact ((Kept.putObj W (D := fun k => D k ∨ k = w.heap.size) (.inr rfl) _).trans (hk3.mono (fun k hk => .inl hk))).trans (Kept.putObj W3 (.inr rfl) _)
      | exit id => exact hp.elim
      | goto t => exact hp.elim
      | panic ch => exact hp.elim
      | outgrown => exact hp.elim
    · rintro e W2 ⟨⟨v, rfl⟩, ⟨hno, hyes⟩, _⟩
      cases hany : xs.any stop
      · obtain ⟨⟨hi, hkw⟩, hl⟩ := hno hany
        exact ⟨none, _, by have := run_endLoop (P := P) hl (by rw [hrec]; simp); rw [hrec] at this; exact this, hdone _ hany (hI _ _ _ hi (below_putObj _ (by omega) _)) (hkw.below (below_putObj _ (Nat.le_refl _) _) (Nat.le_refl _))⟩
      · obtain ⟨⟨hi, hkw⟩, hl⟩ := hyes hany
        exact ⟨some .ret, _, by have := run_endLoop (P := P) hl (by rw [hrec]; simp); rw [hrec] at this; exact this, hstop _ hany (hS _ _ hi (below_putObj _ (by omega) _)) (hkw.below (below_putObj _ (Nat.le_refl _) _) (Nat.le_refl _))⟩

end Go.Proofs.Ytgjlkmhbaimjpaa
