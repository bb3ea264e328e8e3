/-
  trcBurstsMeet of the program: a range over a burst within one over another.
-/
import Derived.Test.YtgjlkmhbaimjpaaImplUM
import Derived.Test.YtgjlkmhbaimjpaaTrA
/-
  A range over a function within a round of another one; and one whose loop variable lies in a box.
-/
namespace Go.Proofs.Ytgjlkmhbaimjpaa
open Go.RowKit Go.Shelf
set_option linter.unusedSimpArgs false
set_option linter.unusedVariables false
attribute [local go_sem] Oper.semAt_some

theorem wpIn_rangeSB {α : Type} {P : Program} {n : Nat} {g : Operand} {ps : Array Tmp} {assign body : Code} {Q : Exit → Act → World → Prop} {a : Act} {w : World}
    {gf : Nat} {lb : Array Value} (hg : a.eval g = .func (.func gf) #[] lb) (eg : ∀ args w, (callFunc gf args).run P w = .ok (.enter gf args) w)
    {enc : α → Value} {Cap : World → Prop} {CB : Nat → Prop} {xs : List α} (hseq : ItSt P gf lb enc Cap CB xs) (hcap : ∀ W, Below w.heap.size w W → Cap W) (D : Nat → Prop)
    (hD : ∀ k, D k → k < w.heap.size) (hCB : ∀ k, CB k → ¬ D k ∧ k < w.heap.size) (hps : ps.size = 1) (stop : α → Bool)
    (I : List α → World → Prop) (S : World → Prop) (hI : Loc w.heap.size I) (hS : LocW w.heap.size S) (h0 : I [] w) (T : TypeId) (a₁ : α → Nat → Act)
    (hassign : ∀ (l : Nat) (x : α) (W : World) (m : Nat) (K : Act → World → Prop), K (a₁ x W.heap.size) (W.alloc (.cells #[enc x] T)) →
      assign.wpIn (Fence.wide.inRound l) m P (Exit.then K (fun _ _ _ => False)) { tmps := (ps.zip #[enc x]).foldl (fun t (p, v) => t.setIfInBounds p v) a.tmps, defers := [] } W)
    (hbody : ∀ (l : Nat) (pre : List α) (x : α) (B : Nat) (W : World) (m : Nat), w.heap.size ≤ l → l < B → (∃ r, W.heap[l]? = some (.loop r)) → W.heap[B]? = some (.cells #[enc x] T (0, 0)) → I pre W → pre ++ [x] <+: xs → body.wpIn (Fence.wide.inRound l) m P (stPost D I S (pre ++ [x]) (stop x) W) (a₁ x B) W)
    (hdone : ∀ (B : Nat) (W : World), w.heap.size ≤ B → xs.any stop = false → I xs W → W.heap[B]? = some (.deferred (some [])) → Q .normal { a with defers := { target := .collected B, args := #[] } :: a.defers } W)
    (hstop : ∀ (B : Nat) (W : World), w.heap.size ≤ B → xs.any stop = true → S W → W.heap[B]? = some (.deferred (some [])) → Code.ret.wpIn Fence.wide n P Q { a with defers := { target := .collected B, args := #[] } :: a.defers } W) :
    (Code.rangeFunc g ps assign body).wpIn Fence.wide n P Q a w := by
  refine wpIn_rangeFunc ?_
  intro fn hfn
  show ∃ l mark w₁ d w₁' f args w₂, (Instr.enterLoop fn a.tmps ps assign body none).run P w = _ ∧ _
  obtain ⟨rec, hrec⟩ : ∃ rec : LoopState → Option Code → Loop, rec = fun st pe => { state := st, pending := pe, fn, tmps := a.tmps, params := ps, assign, body, defers := w.heap.size } := ⟨_, rfl⟩
  obtain ⟨W1, hW1⟩ : ∃ W1, (w.alloc (.deferred (some []))).alloc (.loop (rec .ready none)) = W1 := ⟨_, rfl⟩
  have hL1 : W1.heap[w.heap.size + 1]? = some (.loop (rec .ready none)) := by
    rw [← hW1]; have := World.alloc_heap_new (w.alloc (.deferred (some []))) (.loop (rec .ready none)); rwa [World.size_alloc] at this
  have hK1 : W1.heap[w.heap.size]? = some (.deferred (some [])) := by
    rw [← hW1]; exact (Below.heap_alloc _ _ _ (by simp)).trans (World.alloc_heap_new w _)
  have hb1 : Below w.heap.size w W1 := by
    rw [← hW1]; exact (((Below.refl _ w).alloc (Nat.le_refl _) _).alloc (by simp) _)
  have hI1 : I [] W1 := hI _ _ _ h0 hb1
  have hs1 : W1.heap.size = w.heap.size + 2 := by rw [← hW1]; simp
  refine ⟨w.heap.size + 1, [{ target := .collected w.heap.size, args := #[] }], W1, { target := .fn (.func gf) lb, args := #[.func (.yield (w.heap.size + 1)) #[] #[]] }, W1, gf,
    #[.func (.yield (w.heap.size + 1)) #[] #[]] ++ lb, W1, ?_, ?_, ?_, ?_, ?_, ?_⟩
  · rw [← hW1, hrec]; exact run_enterLoop_outer _ _ _ _ _
  · simp only [resolve, hg]
    simp [go_sem]
  · intro f' hf'; trivial
  · simp [invoke, go_sem, eg]
  · intro h; cases h
  · refine (hseq (fun k => D k ∨ k = w.heap.size + 1) (w.heap.size + 1) stop
      (fun pre W => I pre W ∧ W.heap[w.heap.size + 1]? = some (.loop (rec .ready none)) ∧ W.heap[w.heap.size]? = some (.deferred (some [])))
      (fun W => S W ∧ W.heap[w.heap.size + 1]? = some (.loop (rec .done (some .ret))) ∧ W.heap[w.heap.size]? = some (.deferred (some [])))
      W1 (fun k hk => by rcases hk with hk | rfl; · have := hD k hk; omega
                         · omega)
      (fun k hk => ⟨fun e => by rcases e with e | rfl; · exact (hCB k hk).1 e
                                · have := (hCB _ hk).2; omega, by have := (hCB k hk).2; omega⟩) (hcap _ hb1)
      (fun s A B hs hb => ⟨hI s A B hs.1 (hb.mono (by omega)), (hb.block _ (by omega)).trans hs.2.1, (hb.block _ (by omega)).trans hs.2.2⟩)
      (fun A B hs hb => ⟨hS A B hs.1 (hb.mono (by omega)), (hb.block _ (by omega)).trans hs.2.1, (hb.block _ (by omega)).trans hs.2.2⟩)
      ?_ ⟨hI1, hL1, hK1⟩ (n - 1)).mono ?_
    · rintro pre x W m ⟨hi, hl, hk⟩ hpre
      have hlt : w.heap.size + 1 < W.heap.size := (Array.getElem?_eq_some_iff.1 hl).1
      have hy := run_yield (P := P) (args := #[enc x]) hl (by rw [hrec]; exact hps.symm)
      rw [hrec] at hy
      obtain ⟨V, hV⟩ : ∃ V, V = W.alloc (.cells #[enc x] T) := ⟨_, rfl⟩
      have hbV : Below W.heap.size W V := by rw [hV]; exact (Below.refl _ _).alloc (Nat.le_refl _) _
      have hVB : V.heap[W.heap.size]? = some (.cells #[enc x] T (0, 0)) := by rw [hV]; exact World.alloc_heap_new W _
      have hkV : Kept D W V := Kept.of_below hbV
      have hlV := (hbV.block _ hlt).trans hl
      have hkkV := (hbV.block _ (by omega)).trans hk
      have hiV := hI _ _ _ hi (hbV.mono (by omega))
      refine ⟨fn, _, assign, body, hy, roundIn_of_wpIn hfn (hassign _ x W m _ ?_)⟩
      rw [← hV]
      refine ⟨_, run_beginRound hlV (by rw [hrec]), ?_⟩
      have hltV : w.heap.size + 1 < V.heap.size := Nat.lt_of_lt_of_le hlt hbV.size
      have hl2 : (V.putObj (w.heap.size + 1) (.loop { rec .ready none with state := .busy })).heap[w.heap.size + 1]? = some (.loop { rec .ready none with state := .busy }) := World.putObj_heap_same hltV
      have hk2 : (V.putObj (w.heap.size + 1) (.loop { rec .ready none with state := .busy })).heap[w.heap.size]? = some (.deferred (some [])) := (World.putObj_heap_other (by omega)).trans hkkV
      refine wpIn_mono (hbody _ pre x W.heap.size _ m (by omega) hlt ⟨_, hl2⟩ ((World.putObj_heap_other (by omega)).trans hVB) (hI _ _ _ hiV (below_putObj _ (by omega) _)) hpre) ?_
      rintro e a3 W3 hp
      cases e with
      | normal =>
        obtain ⟨hst, hk3, hi3⟩ := hp
        have hl3 := (hk3.block _ (by simpa using hltV) (fun e => by have := hD _ e; omega)).trans hl2
        have hkk := (hk3.block _ (by simp <;> omega) (fun e => by have := hD _ e; omega)).trans hk2
        have hr := run_endRound (P := P) none hl3
        refine ⟨_, _, hr, by rw [hst]; rfl, ⟨fun _ => ⟨hI _ _ _ hi3 (below_putObj _ (by omega) _), ?_, (World.putObj_heap_other (by omega)).trans hkk⟩, fun h => (by rw [hst] at h; cases h)⟩, ?_⟩
        · rw [World.putObj_heap_same (Array.getElem?_eq_some_iff.1 hl3).1]
          rw [hrec]; rfl
        · exact (((hkV.mono (fun k hk => .inl hk)).trans (Kept.putObj V (D := fun k => D k ∨ k = w.heap.size + 1) (.inr rfl) _)).trans (hk3.mono (fun k hk => .inl hk))).trans (Kept.putObj W3 (.inr rfl) _)
      | ret =>
        obtain ⟨hst, hk3, hi3⟩ := hp
        have hl3 := (hk3.block _ (by simpa using hltV) (fun e => by have := hD _ e; omega)).trans hl2
        have hkk := (hk3.block _ (by simp <;> omega) (fun e => by have := hD _ e; omega)).trans hk2
        have hr := run_endRound (P := P) (some .ret) hl3
        refine ⟨_, _, hr, by rw [hst]; rfl, ⟨fun h => (by rw [hst] at h; cases h), fun _ => ⟨hS _ _ hi3 (below_putObj _ (by omega) _), ?_, (World.putObj_heap_other (by omega)).trans hkk⟩⟩, ?_⟩
        · rw [World.putObj_heap_same (Array.getElem?_eq_some_iff.1 hl3).1]
          rw [hrec]; rfl
        · exact (((hkV.mono (fun k hk => .inl hk)).trans (Kept.putObj V (D := fun k => D k ∨ k = w.heap.size + 1) (.inr rfl) _)).trans (hk3.mono (fun k hk => .inl hk))).trans (Kept.putObj W3 (.inr rfl) _)
      | exit id => exact hp.elim
      | goto t => exact hp.elim
      | panic ch => exact hp.elim
      | outgrown => exact hp.elim
    · rintro e W2 ⟨⟨v, rfl⟩, ⟨hno, hyes⟩, _⟩
      cases hany : xs.any stop
      · obtain ⟨hi, hl, hk⟩ := hno hany
        exact ⟨none, _, by have := run_endLoop (P := P) hl (by rw [hrec]; simp); rw [hrec] at this; exact this, hdone _ _ (Nat.le_refl _) hany (hI _ _ _ hi (below_putObj _ (by omega) _)) ((World.putObj_heap_other (by omega)).trans hk)⟩
      · obtain ⟨hi, hl, hk⟩ := hyes hany
        exact ⟨some .ret, _, by have := run_endLoop (P := P) hl (by rw [hrec]; simp); rw [hrec] at this; exact this, hstop _ _ (Nat.le_refl _) hany (hS _ _ hi (below_putObj _ (by omega) _)) ((World.putObj_heap_other (by omega)).trans hk)⟩

theorem wpIn_rangeSN {α : Type} {P : Program} {n : Nat} {g : Operand} {ps : Array Tmp} {assign body : Code} {Q : Exit → Act → World → Prop} {a : Act} {w : World} {l0 : Nat} {r0 : Loop} (hl0 : w.heap[l0]? = some (.loop r0))
    {gf : Nat} {lb : Array Value} (hg : a.eval g = .func (.func gf) #[] lb) (eg : ∀ args w, (callFunc gf args).run P w = .ok (.enter gf args) w)
    {enc : α → Value} {Cap : World → Prop} {CB : Nat → Prop} {xs : List α} (hseq : ItSt P gf lb enc Cap CB xs) (hcap : ∀ W, Below w.heap.size w W → Cap W) (D : Nat → Prop)
    (hD : ∀ k, D k → k < w.heap.size) (hCB : ∀ k, CB k → ¬ D k ∧ k < w.heap.size) (hps : ps.size = 1) (stop : α → Bool)
    (I : List α → World → Prop) (S : World → Prop) (hI : Loc w.heap.size I) (hS : LocW w.heap.size S) (h0 : I [] w) (a₁ : α → Act)
    (hassign : ∀ (l : Nat) (x : α) (W : World) (m : Nat) (K : Act → World → Prop), K (a₁ x) W →
      assign.wpIn (Fence.wide.inRound l) m P (Exit.then K (fun _ _ _ => False)) { tmps := (ps.zip #[enc x]).foldl (fun t (p, v) => t.setIfInBounds p v) a.tmps, defers := [] } W)
    (hbody : ∀ (l : Nat) (pre : List α) (x : α) (W : World) (m : Nat), I pre W → pre ++ [x] <+: xs → body.wpIn (Fence.wide.inRound l) m P (stPost D I S (pre ++ [x]) (stop x) W) (a₁ x) W)
    (hdone : ∀ (W : World), xs.any stop = false → I xs W → Kept D w W → Q .normal a W)
    (hstop : ∀ (W : World), xs.any stop = true → S W → Kept D w W → Code.ret.wpIn (Fence.wide.inRound l0) n P Q a W) :
    (Code.rangeFunc g ps assign body).wpIn (Fence.wide.inRound l0) n P Q a w := by
  refine wpIn_rangeFunc ?_
  intro fn hfn
  show ∃ l mark w₁ d w₁' f args w₂, (Instr.enterLoop fn a.tmps ps assign body (some l0)).run P w = _ ∧ _
  obtain ⟨rec, hrec⟩ : ∃ rec : LoopState → Option Code → Loop, rec = fun st pe => { state := st, pending := pe, fn, tmps := a.tmps, params := ps, assign, body, defers := r0.defers } := ⟨_, rfl⟩
  obtain ⟨W1, hW1⟩ : ∃ W1, w.alloc (.loop (rec .ready none)) = W1 := ⟨_, rfl⟩
  have hL1 : W1.heap[w.heap.size]? = some (.loop (rec .ready none)) := by rw [← hW1]; exact World.alloc_heap_new w _
  have hb1 : Below w.heap.size w W1 := by rw [← hW1]; exact (Below.refl _ w).alloc (Nat.le_refl _) _
  have hI1 : I [] W1 := hI _ _ _ h0 hb1
  have hs1 : W1.heap.size = w.heap.size + 1 := by rw [← hW1]; simp
  refine ⟨w.heap.size, [], W1, { target := .fn (.func gf) lb, args := #[.func (.yield w.heap.size) #[] #[]] }, W1, gf,
    #[.func (.yield w.heap.size) #[] #[]] ++ lb, W1, ?_, ?_, ?_, ?_, ?_, ?_⟩
  · rw [← hW1, hrec]; exact run_enterLoop_inner hl0 _ _ _ _ _
  · simp only [resolve, hg]
    simp [go_sem]
  · intro f' hf'; trivial
  · simp [invoke, go_sem, eg]
  · intro h; cases h
  · refine ((hseq (fun k => D k ∨ k = w.heap.size) w.heap.size stop
      (fun pre W => (I pre W ∧ Kept D w W) ∧ W.heap[w.heap.size]? = some (.loop (rec .ready none)))
      (fun W => (S W ∧ Kept D w W) ∧ W.heap[w.heap.size]? = some (.loop (rec .done (some .ret))))
      W1 (fun k hk => by rcases hk with hk | rfl; · have := hD k hk; omega
                         · omega)
      (fun k hk => ⟨fun e => by rcases e with e | rfl; · exact (hCB k hk).1 e
                                · have := (hCB _ hk).2; omega, by have := (hCB k hk).2; omega⟩) (hcap _ hb1)
      (fun s A B hs hb => ⟨⟨hI s A B hs.1.1 (hb.mono (by omega)), hs.1.2.below hb (by omega)⟩, (hb.block _ (by omega)).trans hs.2⟩)
      (fun A B hs hb => ⟨⟨hS A B hs.1.1 (hb.mono (by omega)), hs.1.2.below hb (by omega)⟩, (hb.block _ (by omega)).trans hs.2⟩)
      ?_ ⟨⟨hI1, Kept.of_below hb1⟩, hL1⟩ (n - 1)).inRound l0).mono ?_
    · rintro pre x W m ⟨⟨hi, hkw⟩, hl⟩ hpre
      have hlt : w.heap.size < W.heap.size := (Array.getElem?_eq_some_iff.1 hl).1
      have hy := run_yield (P := P) (args := #[enc x]) hl (by rw [hrec]; exact hps.symm)
      rw [hrec] at hy
      refine ⟨fn, _, assign, body, hy, roundIn_of_wpIn hfn (hassign _ x W m _ ⟨_, run_beginRound hl (by rw [hrec]), ?_⟩)⟩
      have hl2 : (W.putObj w.heap.size (.loop { rec .ready none with state := .busy })).heap[w.heap.size]? = some (.loop { rec .ready none with state := .busy }) := World.putObj_heap_same hlt
      have hkp : Kept D w (W.putObj w.heap.size (.loop { rec .ready none with state := .busy })) := hkw.below (below_putObj _ (Nat.le_refl _) _) (Nat.le_refl _)
      refine wpIn_mono (hbody _ pre x _ m (hI _ _ _ hi (below_putObj _ (by omega) _)) hpre) ?_
      rintro e a3 W3 hp
      cases e with
      | normal =>
        obtain ⟨hst, hk3, hi3⟩ := hp
        have hl3 := (hk3.block _ (by simpa using hlt) (fun e => by have := hD _ e; omega)).trans hl2
        have hr := run_endRound (P := P) none hl3
        refine ⟨_, _, hr, by rw [hst]; rfl, ⟨fun _ => ⟨⟨hI _ _ _ hi3 (below_putObj _ (by omega) _), (hkp.trans hk3).below (below_putObj _ (Nat.le_refl _) _) (Nat.le_refl _)⟩, ?_⟩, fun h => (by rw [hst] at h; cases h)⟩, ?_⟩
        · rw [World.putObj_heap_same (Array.getElem?_eq_some_iff.1 hl3).1]
          rw [hrec]; rfl
        · exact ((Kept.putObj W (D := fun k => D k ∨ k = w.heap.size) (.inr rfl) _).trans (hk3.mono (fun k hk => .inl hk))).trans (Kept.putObj W3 (.inr rfl) _)
      | ret =>
        obtain ⟨hst, hk3, hi3⟩ := hp
        have hl3 := (hk3.block _ (by simpa using hlt) (fun e => by have := hD _ e; omega)).trans hl2
        have hr := run_endRound (P := P) (some .ret) hl3
        refine ⟨_, _, hr, by rw [hst]; rfl, ⟨fun h => (by rw [hst] at h; cases h), fun _ => ⟨⟨hS _ _ hi3 (below_putObj _ (by omega) _), (hkp.trans hk3).below (below_putObj _ (Nat.le_refl _) _) (Nat.le_refl _)⟩, ?_⟩⟩, ?_⟩
        · rw [World.putObj_heap_same (Array.getElem?_eq_some_iff.1 hl3).1]
          rw [hrec]; rfl
        · exact ((Kept.putObj W (D := fun k => D k ∨ k = w.heap.size) (.inr rfl) _).trans (hk3.mono (fun k hk => .inl hk))).trans (Kept.putObj W3 (.inr rfl) _)
      | exit id => exact hp.elim
      | goto t => exact hp.elim
      | panic ch => exact hp.elim
      | outgrown => exact hp.elim
    · rintro e W2 ⟨⟨v, rfl⟩, ⟨hno, hyes⟩, _⟩
      cases hany : xs.any stop
      · obtain ⟨⟨hi, hkw⟩, hl⟩ := hno hany
        exact ⟨none, _, by have := run_endLoop (P := P) hl (by rw [hrec]; simp); rw [hrec] at this; exact this, hdone _ hany (hI _ _ _ hi (below_putObj _ (by omega) _)) (hkw.below (below_putObj _ (Nat.le_refl _) _) (Nat.le_refl _))⟩
      · obtain ⟨⟨hi, hkw⟩, hl⟩ := hyes hany
        exact ⟨some .ret, _, by have := run_endLoop (P := P) hl (by rw [hrec]; simp); rw [hrec] at this; exact this, hstop _ hany (hS _ _ hi (below_putObj _ (by omega) _)) (hkw.below (below_putObj _ (Nat.le_refl _) _) (Nat.le_refl _))⟩

end Go.Proofs.Ytgjlkmhbaimjpaa

namespace Go.Proofs.Ytgjlkmhbaimjpaa
open Go.RowKit Go.Shelf
set_option linter.unusedSimpArgs false
set_option linter.unusedVariables false
attribute [local go_sem] Oper.semAt_some

set_option maxRecDepth 100000 in
set_option maxHeartbeats 2000000 in
theorem meet_ints (q_0 q_1 r_0 r_1 : Int) (q_5 q_6 r_5 r_6 : Lst Int) (a c : Int) (n m : Nat) (wq wr : Bool) (w : World) (ha : 0 ≤ a) (ha2 : a ≤ 63) (hn : 1 ≤ n) (hn4 : n ≤ 4) (hc : 0 ≤ c) (hc2 : c ≤ 63) (hm : 1 ≤ m) (hm4 : m ≤ 4) :
    Calls Try.prog 115 #[.agg #[.int .i64 q_0, .int .i64 q_1, .int .i64 a, .int .i64 n, .bool wq, .slice q_5.p q_5.l.length q_5.c, .slice q_6.p q_6.l.length q_6.c], .agg #[.int .i64 r_0, .int .i64 r_1, .int .i64 c, .int .i64 m, .bool wr, .slice r_5.p r_5.l.length r_5.c, .slice r_6.p r_6.l.length r_6.c]] w fun e w' => e = .returned (.bool ((itL a n wq).any (fun x => (itL c m wr).any (fun y => x == y)))) ∧ Below w.heap.size w w' := by
  refine (callsIn_wide (n := 9)).1 ?_
  refine callsIn_of_wp_marks Try.func115 rfl trivial ?_ rfl
  simp only [Try.ntmps115, List.size_toArray, List.length_cons, List.length_nil, Nat.reduceAdd, Nat.reduceSub, Array.replicate_succ, Array.replicate_zero, List.push_toArray, List.append_toArray, List.nil_append, List.cons_append]
  gi_wp2_with (show Fence.wide.fn 132 ∧ _; refine ⟨trivial, ?_⟩; refine (callsIn_wide.2 (burst_any a n wq _)).mono ?_; rintro e w' ⟨rfl, hw⟩; subst hw)
  obtain ⟨W0, hW0⟩ : ∃ W0, (((((w.alloc (.cells #[.int .i64 q_0, .int .i64 q_1, .int .i64 a, .int .i64 n, .bool wq, .slice q_5.p q_5.l.length q_5.c, .slice q_6.p q_6.l.length q_6.c] 107)).alloc (.cells #[.int .i64 r_0, .int .i64 r_1, .int .i64 c, .int .i64 m, .bool wr, .slice r_5.p r_5.l.length r_5.c, .slice r_6.p r_6.l.length r_6.c] 107)).alloc (.cells #[.bool false] 4)).alloc (.cells #[.int .i64 a] 158)).alloc (.cells #[.int .i64 n] 3)) = W0 := ⟨_, rfl⟩
  have hs0 : W0.heap.size = w.heap.size + 5 := by rw [← hW0]; simp
  have hb0 : Below w.heap.size w W0 := by
    rw [← hW0]
    exact (((((Below.refl _ w).alloc (Nat.le_refl _) _).alloc (by simp) _).alloc (by simp; omega) _).alloc (by simp; omega) _).alloc (by simp; omega) _
  have hg0 : W0.heap[w.heap.size + 1]? = some (.cells #[.int .i64 r_0, .int .i64 r_1, .int .i64 c, .int .i64 m, .bool wr, .slice r_5.p r_5.l.length r_5.c, .slice r_6.p r_6.l.length r_6.c] 107 (0, 0)) := by
    rw [← hW0]
    exact (Below.heap_alloc _ _ _ (by simp <;> omega)).trans ((Below.heap_alloc _ _ _ (by simp <;> omega)).trans ((Below.heap_alloc _ _ _ (by simp)).trans (by have := World.alloc_heap_new (w.alloc (.cells #[.int .i64 q_0, .int .i64 q_1, .int .i64 a, .int .i64 n, .bool wq, .slice q_5.p q_5.l.length q_5.c, .slice q_6.p q_6.l.length q_6.c] 107)) (.cells #[.int .i64 r_0, .int .i64 r_1, .int .i64 c, .int .i64 m, .bool wr, .slice r_5.p r_5.l.length r_5.c, .slice r_6.p r_6.l.length r_6.c] 107); rwa [World.size_alloc] at this)))
  have hr0 : W0.heap[w.heap.size + 1 + 1]? = some (.cells #[.bool false] 4 (0, 0)) := by
    rw [← hW0]
    exact (Below.heap_alloc _ _ _ (by simp <;> omega)).trans ((Below.heap_alloc _ _ _ (by simp)).trans (by have := World.alloc_heap_new ((w.alloc (.cells #[.int .i64 q_0, .int .i64 q_1, .int .i64 a, .int .i64 n, .bool wq, .slice q_5.p q_5.l.length q_5.c, .slice q_6.p q_6.l.length q_6.c] 107)).alloc (.cells #[.int .i64 r_0, .int .i64 r_1, .int .i64 c, .int .i64 m, .bool wr, .slice r_5.p r_5.l.length r_5.c, .slice r_6.p r_6.l.length r_6.c] 107)) (.cells #[.bool false] 4); rwa [World.size_alloc, World.size_alloc] at this))
  have c2 : W0.cell? ⟨w.heap.size + 1 + 1 + 1, 0, none⟩ = some (.int .i64 a) := by
    rw [← hW0]; exact cell_al _ (by rw [World.cell?_alloc_at _ _ _ _ (by simp)]; rfl)
  have c3 : W0.cell? ⟨w.heap.size + 1 + 1 + 1 + 1, 0, none⟩ = some (.int .i64 n) := by
    rw [← hW0]; rw [World.cell?_alloc_at _ _ _ _ (by simp)]; rfl
  rw [hW0]
  clear hW0
  obtain ⟨gf, lb, hgf, heg, hit⟩ := burst_st a n (w.heap.size + 1 + 1 + 1) wq ha ha2 hn hn4
  rw [hgf]
  refine wpIn_rangeSB (gf := gf) (lb := lb) rfl heg hit
    (fun W' hb => ⟨(hb.cell (p := ⟨_, 0, none⟩) (by show w.heap.size + 1 + 1 + 1 < _; omega)).trans c2, (hb.cell (p := ⟨_, 0, none⟩) (by show w.heap.size + 1 + 1 + 1 + 1 < _; omega)).trans c3⟩)
    (fun k => k = w.heap.size + 1 + 1) (fun k hk => by omega)
    (fun k hk => ⟨fun e => by omega, by omega⟩) rfl (fun x => (itL c m wr).any (fun y => x == y))
    (fun pre W' => W'.heap[w.heap.size + 1]? = some (.cells #[.int .i64 r_0, .int .i64 r_1, .int .i64 c, .int .i64 m, .bool wr, .slice r_5.p r_5.l.length r_5.c, .slice r_6.p r_6.l.length r_6.c] 107 (0, 0)) ∧ W'.heap[w.heap.size + 1 + 1]? = some (.cells #[.bool false] 4 (0, 0)) ∧ Below w.heap.size w W')
    (fun W' => W'.heap[w.heap.size + 1 + 1]? = some (.cells #[.bool true] 4 (0, 0)) ∧ Below w.heap.size w W')
    (fun s A B hs hb => ⟨(hb.block _ (by omega)).trans hs.1, (hb.block _ (by omega)).trans hs.2.1, hs.2.2.trans (hb.mono (by omega))⟩)
    (fun A B hs hb => ⟨(hb.block _ (by omega)).trans hs.1, hs.2.trans (hb.mono (by omega))⟩)
    ⟨hg0, hr0, hb0⟩ 158
    (fun x B => { tmps := #[.agg #[.int .i64 q_0, .int .i64 q_1, .int .i64 a, .int .i64 n, .bool wq, .slice q_5.p q_5.l.length q_5.c, .slice q_6.p q_6.l.length q_6.c], .agg #[.int .i64 r_0, .int .i64 r_1, .int .i64 c, .int .i64 m, .bool wr, .slice r_5.p r_5.l.length r_5.c, .slice r_6.p r_6.l.length r_6.c], .pointer (some ⟨w.heap.size, 0, none⟩), .pointer (some ⟨w.heap.size + 1, 0, none⟩), .pointer (some ⟨w.heap.size + 1 + 1, 0, none⟩), .pointer (some ⟨B, 0, none⟩), undef, .pointer (some ⟨w.heap.size, 2, none⟩), .int .i64 a, .pointer (some ⟨w.heap.size, 3, none⟩), .int .i64 n, .pointer (some ⟨w.heap.size, 4, none⟩), .bool wq, .func (.func gf) #[] lb, .int .i64 x, undef, undef, undef, undef, undef, undef, undef, undef, undef, undef, undef], defers := [] }) ?assign ?body ?done ?stop
  case assign =>
    intro l' x W' m' K hK
    gi_wp2
    exact hK
  case body =>
    rintro l' pre x BX W' m' hl1 hl2 ⟨r0, hr0'⟩ hBX ⟨hg1, hr1, hbl⟩ hpre
    have hgl := heap_lt hg1
    have hrl := heap_lt hr1
    have hxl := heap_lt hBX
    have g0 : W'.cell? ⟨w.heap.size + 1, 0, none⟩ = some (.int .i64 r_0) := (heap_cell hg1 0).trans rfl
    have g1 : W'.cell? ⟨w.heap.size + 1, 1, none⟩ = some (.int .i64 r_1) := (heap_cell hg1 1).trans rfl
    have g2 : W'.cell? ⟨w.heap.size + 1, 2, none⟩ = some (.int .i64 c) := (heap_cell hg1 2).trans rfl
    have g3 : W'.cell? ⟨w.heap.size + 1, 3, none⟩ = some (.int .i64 m) := (heap_cell hg1 3).trans rfl
    have g4 : W'.cell? ⟨w.heap.size + 1, 4, none⟩ = some (.bool wr) := (heap_cell hg1 4).trans rfl
    have g5 : W'.cell? ⟨w.heap.size + 1, 5, none⟩ = some (.slice r_5.p r_5.l.length r_5.c) := (heap_cell hg1 5).trans rfl
    have g6 : W'.cell? ⟨w.heap.size + 1, 6, none⟩ = some (.slice r_6.p r_6.l.length r_6.c) := (heap_cell hg1 6).trans rfl
    have HBX := Hid.intro hBX
    have HG1 := Hid.intro hg1
    have HR1 := Hid.intro hr1
    clear hg1 hr1 hBX
    gi_wp2_with fail
    refine ⟨trivial, fun h => (by cases h), ?_⟩
    refine ((callsIn_wide.2 (burst_any c m wr W')).inRound l').mono ?_
    rintro e W2 ⟨rfl, hw⟩
    have hb2 : Below W'.heap.size W' W2 := by rw [hw]; exact ((Below.refl _ W').alloc (Nat.le_refl _) _).alloc (by simp) _
    have hs2 : W2.heap.size = W'.heap.size + 2 := by rw [hw]; simp
    have d2 : W2.cell? ⟨W'.heap.size, 0, none⟩ = some (.int .i64 c) := by
      rw [hw]; exact cell_al _ (by rw [World.cell?_alloc_at _ _ _ _ (by simp)]; rfl)
    have d3 : W2.cell? ⟨W'.heap.size + 1, 0, none⟩ = some (.int .i64 m) := by
      rw [hw]; rw [World.cell?_alloc_at _ _ _ _ (by simp)]; rfl
    have hX2 := (hb2.block _ hxl).trans HBX.out
    have hG2 := (hb2.block _ hgl).trans HG1.out
    have hR2 := (hb2.block _ hrl).trans HR1.out
    have hL2 := (hb2.block _ (by omega)).trans hr0'
    clear hw g0 g1 g2 g3 g4 g5 g6
    obtain ⟨gf2, lb2, hgf2, heg2, hit2⟩ := burst_st c m W'.heap.size wr hc hc2 hm hm4
    gi_wp2
    try rw [hgf2]
    refine wpIn_rangeSN hL2 (gf := gf2) (lb := lb2) rfl heg2 hit2
      (fun V hb => ⟨(hb.cell (p := ⟨_, 0, none⟩) (by show W'.heap.size < _; omega)).trans d2, (hb.cell (p := ⟨_, 0, none⟩) (by show W'.heap.size + 1 < _; omega)).trans d3⟩)
      (fun k => k = w.heap.size + 1 + 1) (fun k hk => by omega)
      (fun k hk => ⟨fun e => by omega, by omega⟩) rfl (fun y => x == y)
      (fun pre V => V.heap[w.heap.size + 1]? = some (.cells #[.int .i64 r_0, .int .i64 r_1, .int .i64 c, .int .i64 m, .bool wr, .slice r_5.p r_5.l.length r_5.c, .slice r_6.p r_6.l.length r_6.c] 107 (0, 0)) ∧ V.heap[w.heap.size + 1 + 1]? = some (.cells #[.bool false] 4 (0, 0)) ∧ V.heap[BX]? = some (.cells #[.int .i64 x] 158 (0, 0)) ∧ Below w.heap.size w V)
      (fun V => V.heap[w.heap.size + 1 + 1]? = some (.cells #[.bool true] 4 (0, 0)) ∧ Below w.heap.size w V)
      (fun s A B hs hb => ⟨(hb.block _ (by omega)).trans hs.1, (hb.block _ (by omega)).trans hs.2.1, (hb.block _ (by omega)).trans hs.2.2.1, hs.2.2.2.trans (hb.mono (by omega))⟩)
      (fun A B hs hb => ⟨(hb.block _ (by omega)).trans hs.1, hs.2.trans (hb.mono (by omega))⟩)
      ⟨hG2, hR2, hX2, hbl.trans (hb2.mono hbl.size)⟩
      (fun y => { tmps := #[.agg #[.int .i64 q_0, .int .i64 q_1, .int .i64 a, .int .i64 n, .bool wq, .slice q_5.p q_5.l.length q_5.c, .slice q_6.p q_6.l.length q_6.c], .agg #[.int .i64 r_0, .int .i64 r_1, .int .i64 c, .int .i64 m, .bool wr, .slice r_5.p r_5.l.length r_5.c, .slice r_6.p r_6.l.length r_6.c], .pointer (some ⟨w.heap.size, 0, none⟩), .pointer (some ⟨w.heap.size + 1, 0, none⟩), .pointer (some ⟨w.heap.size + 1 + 1, 0, none⟩), .pointer (some ⟨BX, 0, none⟩), .int .i64 y, .pointer (some ⟨w.heap.size, 2, none⟩), .int .i64 a, .pointer (some ⟨w.heap.size, 3, none⟩), .int .i64 n, .pointer (some ⟨w.heap.size, 4, none⟩), .bool wq, .func (.func gf) #[] lb, .int .i64 x, .pointer (some ⟨w.heap.size + 1, 2, none⟩), .int .i64 c, .pointer (some ⟨w.heap.size + 1, 3, none⟩), .int .i64 m, .pointer (some ⟨w.heap.size + 1, 4, none⟩), .bool wr, .func (.func gf2) #[] lb2, .int .i64 y, undef, undef, undef], defers := [] }) ?assign2 ?body2 ?done2 ?stop2
    case assign2 =>
      intro l2 y V m2 K hK
      gi_wp2
      exact hK
    case body2 =>
      rintro l2 pre2 y V m2 ⟨hg3, hr3, hx3, hbl3⟩ hpre2
      have x0 : V.cell? ⟨BX, 0, none⟩ = some (.int .i64 x) := (heap_cell hx3 0).trans rfl
      have z0 : V.cell? ⟨w.heap.size + 1 + 1, 0, none⟩ = some (.bool false) := (heap_cell hr3 0).trans rfl
      have zf := heap_free hr3 0
      have HH := Hid.intro (And.intro hg3 (And.intro hr3 (And.intro hx3 hbl3)))
      have hlt := heap_lt hr3
      clear hg3 hr3 hx3 hbl3
      cases hxy : (x == y)
      · have HXY := Hid.intro hxy
        have hne : ¬ x = y := by simpa using hxy
        clear hxy
        gi_wp2
        exact ⟨by first | exact HXY.out | rfl, Kept.refl _ _, HH.out⟩
      · have HXY := Hid.intro hxy
        have he : x = y := by simpa using hxy
        subst he
        clear hxy
        gi_wp2
        exact ⟨by first | exact HXY.out | rfl, Kept.setCell (D := fun k => k = w.heap.size + 1 + 1) (p := ⟨w.heap.size + 1 + 1, 0, none⟩) _ rfl _, (heap_set HH.out.2.1 0 _).trans rfl, HH.out.2.2.2.setCell (by show w.heap.size ≤ w.heap.size + 1 + 1; omega) _⟩
    case done2 =>
      rintro V hany ⟨hg3, hr3, hx3, hbl3⟩ hk3
      gi_wp2
      exact ⟨hany, (Kept.of_below hb2).trans hk3, hg3, hr3, hbl3⟩
    case stop2 =>
      rintro V hany ⟨hr3, hbl3⟩ hk3
      gi_wp2
      exact ⟨hany, (Kept.of_below hb2).trans hk3, hr3, hbl3⟩
  case done =>
    rintro B W' hB hany ⟨hg1, hr1, hbl⟩ hK
    have HN := Hid.intro hany
    have hc2 : W'.cell? ⟨w.heap.size + 1 + 1, 0, none⟩ = some (.bool false) := (heap_cell hr1 0).trans rfl
    have hf2 := heap_free hr1 0
    have hK2 : (W'.setCell ⟨w.heap.size + 1 + 1, 0, none⟩ (.bool false)).heap[B]? = some (.deferred (some [])) := (heap_set_ne (by omega)).trans hK
    have hr2 := (heap_set hr1 0 (.bool false))
    have hr3 := (World.putObj_heap_other (o := .deferred none) (show w.heap.size + 1 + 1 ≠ B by omega)).trans hr2
    have hc3 : ((W'.setCell ⟨w.heap.size + 1 + 1, 0, none⟩ (.bool false)).putObj B (.deferred none)).cell? ⟨w.heap.size + 1 + 1, 0, none⟩ = some (.bool false) := (heap_cell hr3 0).trans rfl
    clear hany
    gi_wp2
    refine ⟨by simp, .inl ⟨_, _, rfl, run_takeDeferred hK2, ?_⟩⟩
    refine ⟨.bool false, ?_, by rw [HN.out], (hbl.setCell (p := ⟨w.heap.size + 1 + 1, 0, none⟩) (by show w.heap.size ≤ w.heap.size + 1 + 1; omega) _).trans (below_putObj _ (by omega) _)⟩
    simp [results, Try.results115, go_sem, hc3]
  case stop =>
    rintro B W' hB hany ⟨hr1, hbl⟩ hK
    have HN := Hid.intro hany
    have hr3 := (World.putObj_heap_other (o := .deferred none) (show w.heap.size + 1 + 1 ≠ B by omega)).trans hr1
    have hc3 : (W'.putObj B (.deferred none)).cell? ⟨w.heap.size + 1 + 1, 0, none⟩ = some (.bool true) := (heap_cell hr3 0).trans rfl
    clear hany
    gi_wp2
    refine ⟨by simp, .inl ⟨_, _, rfl, run_takeDeferred hK, ?_⟩⟩
    refine ⟨.bool true, ?_, by rw [HN.out], hbl.trans (below_putObj _ (by omega) _)⟩
    simp [results, Try.results115, go_sem, hc3]

theorem trcMeet_any (q r : (Int × Int × Int × Int × Bool × (Lst Int) × (Lst Int))) (hq : adrOkB q.2.2.1 q.2.2.2.1 q.2.2.2.2.1 = true) (hr : adrOkB r.2.2.1 r.2.2.2.1 r.2.2.2.2.1 = true) (w : World) :
    Calls Try.prog 115 #[yReqReq.val q, yReqReq.val r] w fun e w' => e = .returned (.bool (meetP (reqOf (yReqReq.pl q)) (reqOf (yReqReq.pl r)))) ∧ Below w.heap.size w w' := by
  obtain ⟨q_0, q_1, q_2, q_3, q_4, q_5, q_6⟩ := q
  obtain ⟨r_0, r_1, r_2, r_3, r_4, r_5, r_6⟩ := r
  simp only at hq hr
  obtain ⟨h1, h2, h3, _⟩ := (adrOk_iff _ _ _).1 hq
  obtain ⟨k1, k2, k3, _⟩ := (adrOk_iff _ _ _).1 hr
  obtain ⟨n, rfl⟩ := Int.eq_ofNat_of_zero_le (show 0 ≤ q_3 by omega)
  obtain ⟨m, rfl⟩ := Int.eq_ofNat_of_zero_le (show 0 ≤ r_3 by omega)
  have := meet_ints q_0 q_1 r_0 r_1 q_5 q_6 r_5 r_6 q_2 r_2 n m q_4 r_4 w h1 h2 (by omega) (by omega) k1 k2 (by omega) (by omega)
  rw [itL_burst hq, itL_burst hr] at this
  exact this

end Go.Proofs.Ytgjlkmhbaimjpaa
