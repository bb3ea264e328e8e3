/-
  roundAbout's iterator, told to a body that may leave.
-/
import Derived.Test.YtdjmjdljgdagcaaRFun
import Derived.Test.YtdjmjdljgdagcaaItRow
import Derived.Test.YtdjmjdljgdagcaaIRow
import Derived.Test.YtdjmjdljgdagcaaItRound
/-
  A range over a function whose body may leave by a return: which element makes it leave is known ('stop').
-/
namespace Go.Proofs.Ytdjmjdljgdagcaa
open Go.RowKit Go.Shelf
set_option linter.unusedSimpArgs false
set_option linter.unusedVariables false
attribute [local go_sem] Oper.semAt_some

/-- what an invariant says, it says of blocks below M -/
def LocW (M : Nat) (S : World → Prop) : Prop := ∀ A B, S A → Below M A B → S B

/-- an iterator that tells xs to a body that leaves at the first x with 'stop x' -/
def ItSt {α : Type} (P : Program) (gf : Nat) (lb : Array Value) (enc : α → Value) (Cap : World → Prop) (CB : Nat → Prop) (xs : List α) : Prop :=
  ∀ (D : Nat → Prop) (l : Nat) (stop : α → Bool) (J : List α → World → Prop) (S : World → Prop) (W : World),
    (∀ k, D k → k < W.heap.size) → (∀ k, CB k → ¬ D k ∧ k < W.heap.size) → Cap W → Loc W.heap.size J → LocW W.heap.size S →
    (∀ pre x W1 m, J pre W1 → pre ++ [x] <+: xs → YieldAt Fence.wide m P l #[enc x] W1 fun e W' => e = .returned (.bool (!stop x)) ∧ ((stop x = false → J (pre ++ [x]) W') ∧ (stop x = true → S W')) ∧ Kept D W1 W') →
    J [] W → ∀ n, CallsIn Fence.wide n P gf (#[.func (.yield l) #[] #[]] ++ lb) W fun e W' => (∃ v, e = .returned v) ∧ ((xs.any stop = false → J xs W') ∧ (xs.any stop = true → S W')) ∧ Kept D W W'

def stPost {α : Type} (D : Nat → Prop) (I : List α → World → Prop) (S : World → Prop) (xs : List α) (b : Bool) (W : World) : Exit → Act → World → Prop
  | .normal, _, W' => b = false ∧ Kept D W W' ∧ I xs W'
  | .ret, _, W' => b = true ∧ Kept D W W' ∧ S W'
  | .exit _, _, _ => False
  | .goto _, _, _ => False
  | .panic _, _, _ => False
  | .outgrown, _, _ => False

theorem wpIn_rangeS {α : Type} {P : Program} {n : Nat} {g : Operand} {ps : Array Tmp} {assign body : Code} {Q : Exit → Act → World → Prop} {a : Act} {w : World}
    {gf : Nat} {lb : Array Value} (hg : a.eval g = .func (.func gf) #[] lb) (eg : ∀ args w, (callFunc gf args).run P w = .ok (.enter gf args) w)
    {enc : α → Value} {Cap : World → Prop} {CB : Nat → Prop} {xs : List α} (hseq : ItSt P gf lb enc Cap CB xs) (hcap : ∀ W, Below w.heap.size w W → Cap W) (D : Nat → Prop)
    (hD : ∀ k, D k → k < w.heap.size) (hCB : ∀ k, CB k → ¬ D k ∧ k < w.heap.size) (hps : ps.size = 1) (stop : α → Bool)
    (I : List α → World → Prop) (S : World → Prop) (hI : Loc w.heap.size I) (hS : LocW w.heap.size S) (h0 : I [] w) (a₁ : α → Act)
    (hassign : ∀ (l : Nat) (x : α) (W : World) (m : Nat) (K : Act → World → Prop), K (a₁ x) W →
      assign.wpIn (Fence.wide.inRound l) m P (Exit.then K (fun _ _ _ => False)) { tmps := (ps.zip #[enc x]).foldl (fun t (p, v) => t.setIfInBounds p v) a.tmps, defers := [] } W)
    (hbody : ∀ (l : Nat) (pre : List α) (x : α) (W : World) (m : Nat), I pre W → pre ++ [x] <+: xs → body.wpIn (Fence.wide.inRound l) m P (stPost D I S (pre ++ [x]) (stop x) W) (a₁ x) W)
    (hdone : ∀ (B : Nat) (W : World), w.heap.size ≤ B → xs.any stop = false → I xs W → W.heap[B]? = some (.deferred (some [])) → Q .normal { a with defers := { target := .collected B, args := #[] } :: a.defers } W)
    (hstop : ∀ (B : Nat) (W : World), w.heap.size ≤ B → xs.any stop = true → S W → W.heap[B]? = some (.deferred (some [])) → Code.ret.wpIn Fence.wide n P Q { a with defers := { target := .collected B, args := #[] } :: a.defers } W) :
    (Code.rangeFunc g ps assign body).wpIn Fence.wide n P Q a w := by
  refine wpIn_rangeFunc ?_
  intro fn hfn
  show ∃ l mark w₁ d w₁' f args w₂, (Instr.enterLoop fn a.tmps ps assign body none).run P w = _ ∧ _
  obtain ⟨rec, hrec⟩ : ∃ rec : LoopState → Option Code → Loop, rec = fun st pe => { state := st, pending := pe, fn, tmps := a.tmps, params := ps, assign, body, defers := w.heap.size } := ⟨_, rfl⟩
  obtain ⟨W1, hW1⟩ : ∃ W1, (w.alloc (.deferred (some []))).alloc (.loop (rec .ready none)) = W1 := ⟨_, rfl⟩
  have hL1 : W1.heap[w.heap.size + 1]? = some (.loop (rec .ready none)) := by
    rw [← hW1]; have := World.alloc_heap_new (w.alloc (.deferred (some []))) (.loop (rec .ready none)); rwa [World.size_alloc] at this
  have hK1 : W1.heap[w.heap.size]? = some (.deferred (some [])) := by
    rw [← hW1]; exact (Below.heap_alloc _ _ _ (by simp)).trans (World.alloc_heap_new w _)
  have hb1 : Below w.heap.size w W1 := by
    rw [← hW1]; exact (((Below.refl _ w).alloc (Nat.le_refl _) _).alloc (by simp) _)
  have hI1 : I [] W1 := hI _ _ _ h0 hb1
  have hs1 : W1.heap.size = w.heap.size + 2 := by rw [← hW1]; simp
  refine ⟨w.heap.size + 1, [{ target := .collected w.heap.size, args := #[] }], W1, { target := .fn (.func gf) lb, args := #[.func (.yield (w.heap.size + 1)) #[] #[]] }, W1, gf,
    #[.func (.yield (w.heap.size + 1)) #[] #[]] ++ lb, W1, ?_, ?_, ?_, ?_, ?_, ?_⟩
  · rw [← hW1, hrec]; exact run_enterLoop_outer _ _ _ _ _
  · simp only [resolve, hg]
    simp [go_sem]
  · intro f' hf'; trivial
  · simp [invoke, go_sem, eg]
  · intro h; cases h
  · refine (hseq (fun k => D k ∨ k = w.heap.size + 1) (w.heap.size + 1) stop
      (fun pre W => I pre W ∧ W.heap[w.heap.size + 1]? = some (.loop (rec .ready none)) ∧ W.heap[w.heap.size]? = some (.deferred (some [])))
      (fun W => S W ∧ W.heap[w.heap.size + 1]? = some (.loop (rec .done (some .ret))) ∧ W.heap[w.heap.size]? = some (.deferred (some [])))
      W1 (fun k hk => by rcases hk with hk | rfl; · have := hD k hk; omega
                         · omega)
      (fun k hk => ⟨fun e => by rcases e with e | rfl; · exact (hCB k hk).1 e
                                · have := (hCB _ hk).2; omega, by have := (hCB k hk).2; omega⟩) (hcap _ hb1)
      (fun s A B hs hb => ⟨hI s A B hs.1 (hb.mono (by omega)), (hb.block _ (by omega)).trans hs.2.1, (hb.block _ (by omega)).trans hs.2.2⟩)
      (fun A B hs hb => ⟨hS A B hs.1 (hb.mono (by omega)), (hb.block _ (by omega)).trans hs.2.1, (hb.block _ (by omega)).trans hs.2.2⟩)
      ?_ ⟨hI1, hL1, hK1⟩ (n - 1)).mono ?_
    · rintro pre x W m ⟨hi, hl, hk⟩ hpre
      have hlt : w.heap.size + 1 < W.heap.size := (Array.getElem?_eq_some_iff.1 hl).1
      have hy := run_yield (P := P) (args := #[enc x]) hl (by rw [hrec]; exact hps.symm)
      rw [hrec] at hy
      refine ⟨fn, _, assign, body, hy, roundIn_of_wpIn hfn (hassign _ x W m _ ⟨_, run_beginRound hl (by rw [hrec]), ?_⟩)⟩
      have hl2 : (W.putObj (w.heap.size + 1) (.loop { rec .ready none with state := .busy })).heap[w.heap.size + 1]? = some (.loop { rec .ready none with state := .busy }) := World.putObj_heap_same hlt
      have hk2 : (W.putObj (w.heap.size + 1) (.loop { rec .ready none with state := .busy })).heap[w.heap.size]? = some (.deferred (some [])) := (World.putObj_heap_other (by omega)).trans hk
      refine wpIn_mono (hbody _ pre x _ m (hI _ _ _ hi (below_putObj _ (by omega) _)) hpre) ?_
      rintro e a3 W3 hp
      cases e with
      | normal =>
        obtain ⟨hst, hk3, hi3⟩ := hp
        have hl3 := (hk3.block _ (by simpa using hlt) (fun e => by have := hD _ e; omega)).trans hl2
        have hkk := (hk3.block _ (by simp; omega) (fun e => by have := hD _ e; omega)).trans hk2
        have hr := run_endRound (P := P) none hl3
        refine ⟨_, _, hr, by rw [hst]; rfl, ⟨fun _ => ⟨hI _ _ _ hi3 (below_putObj _ (by omega) _), ?_, (World.putObj_heap_other (by omega)).trans hkk⟩, fun h => (by rw [hst] at h; cases h)⟩, ?_⟩
        · rw [World.putObj_heap_same (Array.getElem?_eq_some_iff.1 hl3).1]
          rw [hrec]; rfl
        · exact ((Kept.putObj W (D := fun k => D k ∨ k = w.heap.size + 1) (.inr rfl) _).trans (hk3.mono (fun k hk => .inl hk))).trans (Kept.putObj W3 (.inr rfl) _)
      | ret =>
        obtain ⟨hst, hk3, hi3⟩ := hp
        have hl3 := (hk3.block _ (by simpa using hlt) (fun e => by have := hD _ e; omega)).trans hl2
        have hkk := (hk3.block _ (by simp; omega) (fun e => by have := hD _ e; omega)).trans hk2
        have hr := run_endRound (P := P) (some .ret) hl3
        refine ⟨_, _, hr, by rw [hst]; rfl, ⟨fun h => (by rw [hst] at h; cases h), fun _ => ⟨hS _ _ hi3 (below_putObj _ (by omega) _), ?_, (World.putObj_heap_other (by omega)).trans hkk⟩⟩, ?_⟩
        · rw [World.putObj_heap_same (Array.getElem?_eq_some_iff.1 hl3).1]
          rw [hrec]; rfl
        · exact ((Kept.putObj W (D := fun k => D k ∨ k = w.heap.size + 1) (.inr rfl) _).trans (hk3.mono (fun k hk => .inl hk))).trans (Kept.putObj W3 (.inr rfl) _)
      | exit id => exact hp.elim
      | goto t => exact hp.elim
      | panic ch => exact hp.elim
      | outgrown => exact hp.elim
    · rintro e W2 ⟨⟨v, rfl⟩, ⟨hno, hyes⟩, _⟩
      cases hany : xs.any stop
      · obtain ⟨hi, hl, hk⟩ := hno hany
        exact ⟨none, _, by have := run_endLoop (P := P) hl (by rw [hrec]; simp); rw [hrec] at this; exact this, hdone _ _ (Nat.le_refl _) hany (hI _ _ _ hi (below_putObj _ (by omega) _)) ((World.putObj_heap_other (by omega)).trans hk)⟩
      · obtain ⟨hi, hl, hk⟩ := hyes hany
        exact ⟨some .ret, _, by have := run_endLoop (P := P) hl (by rw [hrec]; simp); rw [hrec] at this; exact this, hstop _ _ (Nat.le_refl _) hany (hS _ _ hi (below_putObj _ (by omega) _)) ((World.putObj_heap_other (by omega)).trans hk)⟩

end Go.Proofs.Ytdjmjdljgdagcaa

/-
  The program's iterators over addresses, told to a body that may leave: inRow.
-/
namespace Go.Proofs.Ytdjmjdljgdagcaa
open Go.RowKit Go.Shelf
set_option linter.unusedSimpArgs false
set_option linter.unusedVariables false
attribute [local go_sem] Oper.semAt_some

theorem any_at {α : Type} {stop : α → Bool} {pre : List α} {x : α} {xs : List α} (hp : pre ++ [x] <+: xs) (hs : stop x = true) : xs.any stop = true := by
  obtain ⟨t, rfl⟩ := hp
  simp [hs]

set_option maxRecDepth 100000 in
set_option maxHeartbeats 1000000 in
theorem inRow1_st (a : Int) (n ba bm : Nat) (ha : 0 ≤ a) (ha2 : a ≤ 63) (hn : 1 ≤ n) (hn4 : n ≤ 4) :
    ItSt Try.prog 84 #[.pointer (some ⟨bm, 0, none⟩), .pointer (some ⟨ba, 0, none⟩)] (Value.int .i64)
      (fun W => W.cell? ⟨ba, 0, none⟩ = some (.int .i64 a) ∧ W.cell? ⟨bm, 0, none⟩ = some (.int .i64 n)) (fun k => k = ba ∨ k = bm) (rowL a n) := by
  intro D l stop J S W hD hCB hcap hJ hS hY h0 n'
  obtain ⟨hca, hcm⟩ := hcap
  refine callsIn_of_wp Try.func84 rfl trivial ?_ rfl
  simp only [Try.ntmps84, List.size_toArray, List.length_cons, List.length_nil, Nat.reduceAdd, Nat.reduceSub, Array.replicate_succ, Array.replicate_zero, List.push_toArray, List.append_toArray, List.nil_append, List.cons_append]
  gi_wp2
  gi_loopw [6] (fun i wr => ∃ (k : Nat), k ≤ n ∧ i = .int .i64 k ∧ J (rowL a k) wr ∧ Kept D W wr ∧ Hid ((rowL a k).any stop = false))
    (fun i wr => n - (intOf i).toNat)
  case atStart => exact ⟨0, Nat.zero_le _, rfl, h0, Kept.refl _ _, rfl⟩
  case round =>
    obtain ⟨k, hk, rfl, hj, hkp, HA⟩ := hrel
    have hca' : wr.cell? ⟨ba, 0, none⟩ = some (.int .i64 a) := (hkp.cell (p := ⟨ba, 0, none⟩) (hCB ba (.inl rfl)).2 (hCB ba (.inl rfl)).1).trans hca
    by_cases hlt : k < n
    · have hkI : (k : Int) < (n : Int) := by omega
      have hsp := rowL_split (a := a) hlt
      obtain ⟨fn, tmps, assign, body, hy, hR⟩ := hY (rowL a k) (a + (k : Int)) wr (n' - 1) hj hsp
      cases hst : stop (a + (k : Int))
      · have HN : Hid ((rowL a (k + 1)).any stop = false) := Hid.intro (by rw [← rowL_succ, List.any_append, HA.out]; simp [hst])
        rw [hst] at hR
        gi_wp2
        refine ⟨fun h => (by cases h), hR.mono ?_⟩
        rintro e W3 ⟨rfl, hJ3, hk3⟩
        replace hJ3 := hJ3.1 trivial
        gi_wp2
        go_roundw
        case rel => exact ⟨k + 1, by omega, by go_num, by rw [← rowL_succ]; exact hJ3, hkp.trans hk3, HN⟩
        case measure => simp [intOf]; omega
      · have HN := Hid.intro (any_at hsp hst)
        rw [hst] at hR
        gi_wp2
        refine ⟨fun h => (by cases h), hR.mono ?_⟩
        rintro e W3 ⟨rfl, hJ3, hk3⟩
        gi_wp2
        refine bodyPost_ret (results_none rfl _ _ _) rfl ?_
        exact ⟨⟨_, rfl⟩, ⟨fun h => (by rw [HN.out] at h; cases h), fun _ => hJ3.2 trivial⟩, hkp.trans hk3⟩
    · have hk' : k = n := by omega
      subst hk'
      gi_wp2
      go_end0
      exact ⟨⟨_, rfl⟩, ⟨fun _ => hj, fun h => (by rw [HA.out] at h; cases h)⟩, hkp⟩

end Go.Proofs.Ytdjmjdljgdagcaa

namespace Go.Proofs.Ytdjmjdljgdagcaa
open Go.RowKit Go.Shelf
set_option linter.unusedSimpArgs false
set_option linter.unusedVariables false
attribute [local go_sem] Oper.semAt_some

def rfS (l : Nat) (fst x : Int) (n : Nat) (b : Bool) : Nat → Value
  | 13 => .func (.yield l) #[] #[]
  | 14 => .int .i64 fst
  | 15 => .int .i64 x
  | 16 => .int .i64 fst
  | 17 => .int .i64 (x - fst)
  | 18 => .int .i64 n
  | 19 => .int .i64 ((x - fst) % (n : Int))
  | 20 => .int .i64 (fst + (x - fst) % (n : Int))
  | 21 => .bool (!b)
  | 22 => .bool b
  | _ => undef

set_option maxRecDepth 100000 in
set_option maxHeartbeats 400000 in
theorem round1_st (a : Int) (n ba bm : Nat) (ha : 0 ≤ a) (ha2 : a ≤ 63) (hn : 1 ≤ n) (hn4 : n ≤ 4) :
    ItSt Try.prog 82 #[.pointer (some ⟨ba, 0, none⟩), .pointer (some ⟨bm, 0, none⟩)] (Value.int .i64)
      (fun W => W.cell? ⟨ba, 0, none⟩ = some (.int .i64 a) ∧ W.cell? ⟨bm, 0, none⟩ = some (.int .i64 n)) (fun k => k = ba ∨ k = bm) ((rowL a n).map (rnd a n)) := by
  intro D l stop J S W hD hCB hcap hJ hS hY h0 n'
  obtain ⟨hca, hcm⟩ := hcap
  have hba := hCB ba (.inl rfl)
  have hbm := hCB bm (.inr rfl)
  have q1 : (0 : Int) ≤ a % (n : Int) := Int.emod_nonneg _ (by omega)
  have q2 : a % (n : Int) < (n : Int) := Int.emod_lt_of_pos _ (by omega)
  obtain ⟨fst, hfst⟩ : ∃ fst, a - a % (n : Int) = fst := ⟨_, rfl⟩
  have f1 : -4 ≤ fst := by omega
  have f2 : fst ≤ 63 := by omega
  have hca1 : (W.alloc (.cells #[.func (.yield l) #[] #[]] 112)).cell? ⟨ba, 0, none⟩ = some (.int .i64 a) := cell_al _ hca
  have hcm1 : (W.alloc (.cells #[.func (.yield l) #[] #[]] 112)).cell? ⟨bm, 0, none⟩ = some (.int .i64 n) := cell_al _ hcm
  refine callsIn_of_wp_marks Try.func82 rfl trivial ?_ rfl
  simp only [Try.ntmps82, List.size_toArray, List.length_cons, List.length_nil, Nat.reduceAdd, Nat.reduceSub, Array.replicate_succ, Array.replicate_zero, List.push_toArray, List.append_toArray, List.nil_append, List.cons_append]
  gi_wp2_with (first
    | (show Fence.wide.fn 83 ∧ _ ∧ _; refine ⟨trivial, fun h => (by cases h), ?_⟩; refine (callsIn_wide.2 (block_any a n _ ha ha2 hn hn4)).mono ?_; rintro e w' ⟨rfl, rfl⟩; rw [hfst])
    | (show Fence.wide.fn 81 ∧ _ ∧ _; refine ⟨trivial, fun h => (by cases h), ?_⟩; refine (callsIn_wide.2 (inRow_any a n _)).mono ?_; rintro e w' ⟨rfl, rfl⟩))
  obtain ⟨W0, hW0⟩ : ∃ W0, ((((W.alloc (.cells #[.func (.yield l) #[] #[]] 112)).alloc (.cells #[.int .i64 fst] 92)).alloc (.cells #[.int .i64 a] 92)).alloc (.cells #[.int .i64 n] 3)) = W0 := ⟨_, rfl⟩
  have hs0 : W0.heap.size = W.heap.size + 4 := by rw [← hW0]; simp
  have hb0 : Below W.heap.size W W0 := by
    rw [← hW0]
    exact ((((Below.refl _ W).alloc (by simp) _).alloc (by simp) _).alloc (by simp; omega) _).alloc (by simp; omega) _
  have c1 : W0.cell? ⟨W.heap.size, 0, none⟩ = some (.func (.yield l) #[] #[]) := by
    rw [← hW0]; exact cell_al _ (cell_al _ (cell_al _ (by simp)))
  have c2 : W0.cell? ⟨W.heap.size + 1, 0, none⟩ = some (.int .i64 fst) := by
    rw [← hW0]; exact cell_al _ (cell_al _ (by rw [World.cell?_alloc_at _ _ _ _ (by simp)]; rfl))
  have c3 : W0.cell? ⟨W.heap.size + 1 + 1, 0, none⟩ = some (.int .i64 a) := by
    rw [← hW0]; exact cell_al _ (by rw [World.cell?_alloc_at _ _ _ _ (by simp)]; rfl)
  have c4 : W0.cell? ⟨W.heap.size + 1 + 1 + 1, 0, none⟩ = some (.int .i64 n) := by
    rw [← hW0]; rw [World.cell?_alloc_at _ _ _ _ (by simp)]; rfl
  have c5 : W0.cell? ⟨bm, 0, none⟩ = some (.int .i64 n) := (hb0.cell (p := ⟨bm, 0, none⟩) hbm.2).trans hcm
  rw [hW0]
  clear hca1 hcm1 hW0
  refine wpIn_rangeS (gf := 84) (lb := #[.pointer (some ⟨W.heap.size + 1 + 1 + 1, 0, none⟩), .pointer (some ⟨W.heap.size + 1 + 1, 0, none⟩)]) rfl (enters_of Try.func84 (by kernel_rfl) rfl)
    (inRow1_st a n (W.heap.size + 1 + 1) (W.heap.size + 1 + 1 + 1) ha ha2 hn hn4)
    (fun W' hb => ⟨(hb.cell (p := ⟨_, 0, none⟩) (by show W.heap.size + 1 + 1 < _; omega)).trans c3, (hb.cell (p := ⟨_, 0, none⟩) (by show W.heap.size + 1 + 1 + 1 < _; omega)).trans c4⟩)
    D (fun k hk => by have := hD k hk; omega)
    (fun k hk => ⟨fun e => by have := hD k e; omega, by omega⟩) rfl (fun x => stop (rnd a n x))
    (fun pre W' => J (pre.map (rnd a n)) W' ∧ W'.cell? ⟨W.heap.size, 0, none⟩ = some (.func (.yield l) #[] #[]) ∧ W'.cell? ⟨W.heap.size + 1, 0, none⟩ = some (.int .i64 fst) ∧ W'.cell? ⟨bm, 0, none⟩ = some (.int .i64 n) ∧ Kept D W W' ∧ W.heap.size + 4 ≤ W'.heap.size)
    (fun W' => S W' ∧ Kept D W W')
    (fun s A B hs hb => ⟨hJ _ _ _ hs.1 (hb.mono (by omega)), (hb.cell (p := ⟨_, 0, none⟩) (by show W.heap.size < _; omega)).trans hs.2.1, (hb.cell (p := ⟨_, 0, none⟩) (by show W.heap.size + 1 < _; omega)).trans hs.2.2.1, (hb.cell (p := ⟨_, 0, none⟩) (by show bm < _; omega)).trans hs.2.2.2.1, hs.2.2.2.2.1.below hb (by omega), Nat.le_trans hs.2.2.2.2.2 hb.size⟩)
    (fun A B hs hb => ⟨hS _ _ hs.1 (hb.mono (by omega)), hs.2.below hb (by omega)⟩)
    ⟨hJ _ _ _ h0 hb0, c1, c2, c5, (Kept.refl D W).below hb0 (Nat.le_refl _), by omega⟩
    (fun x => { tmps := #[Value.func (Fn.yield l) #[] #[], Value.pointer (some { block := ba, off := 0 }),
          Value.pointer (some { block := bm, off := 0 }), Value.pointer (some { block := W.heap.size, off := 0 }),
          Value.pointer (some { block := W.heap.size + 1, off := 0 }), Value.int IntKind.i64 x, Value.int IntKind.i64 a,
          Value.int IntKind.i64 n, Value.int IntKind.i64 fst, Value.int IntKind.i64 a, Value.int IntKind.i64 n,
          Value.func (Fn.func 84) #[]
            #[Value.pointer (some { block := W.heap.size + 1 + 1 + 1, off := 0 }),
              Value.pointer (some { block := W.heap.size + 1 + 1, off := 0 })],
          Value.int IntKind.i64 x, undef, undef, undef, undef, undef, undef, undef, undef, undef, undef], defers := [] }) ?assign ?body ?done ?stop
  case assign =>
    intro l' x W' m K hK
    gi_wp2
    exact hK
  case body =>
    rintro l' pre x W' m ⟨hj, d1, d2, d3, d4, d5⟩ hpre
    obtain ⟨x1, x2⟩ := rowL_mem hpre
    have q3 : (0 : Int) ≤ (x - fst) % (n : Int) := Int.emod_nonneg _ (by omega)
    have q4 : (x - fst) % (n : Int) < (n : Int) := Int.emod_lt_of_pos _ (by omega)
    have q5 : (0 : Int) ≤ x - fst := by omega
    have erx : rnd a n x = fst + (x - fst) % (n : Int) := by unfold rnd; rw [hfst]
    have hpre' : pre.map (rnd a n) ++ [fst + (x - fst) % (n : Int)] <+: (rowL a n).map (rnd a n) := by
      have := List.IsPrefix.map (rnd a n) hpre
      rw [List.map_append] at this
      simpa [erx] using this
    obtain ⟨fn, tmps, assign, body, hy, hR⟩ := hY (pre.map (rnd a n)) (fst + (x - fst) % (n : Int)) W'.drew (m - 1) (hJ _ _ _ hj ((Below.refl _ _).drew)) hpre'
    have f3 : (0 : Int) ≤ fst := by have := fst_nonneg a n ha; omega
    have hws := wrap_small (x - fst) q5 (by omega)
    have q6 : fst + (x - fst) % (n : Int) ≤ 70 := by omega
    have q7 : 0 ≤ fst + (x - fst) % (n : Int) := by omega
    have hwr := wrap_small _ q7 q6
    have d1' : W'.drew.cell? ⟨W.heap.size, 0, none⟩ = some (.func (.yield l) #[] #[]) := d1
    have d2' : W'.drew.cell? ⟨W.heap.size + 1, 0, none⟩ = some (.int .i64 fst) := d2
    have d3' : W'.drew.cell? ⟨bm, 0, none⟩ = some (.int .i64 n) := d3
    gi_wp2
    have cells : ∀ w, (w = W'.drew ∨ (((stop (fst + (x - fst) % (n : Int)) = false → J (pre.map (rnd a n) ++ [fst + (x - fst) % (n : Int)]) w) ∧ (stop (fst + (x - fst) % (n : Int)) = true → S w)) ∧ Kept D W'.drew w)) → w.cell? ⟨W.heap.size, 0, none⟩ = some (.func (.yield l) #[] #[]) ∧ w.cell? ⟨W.heap.size + 1, 0, none⟩ = some (.int .i64 fst) ∧ w.cell? ⟨bm, 0, none⟩ = some (.int .i64 n) := by
      rintro w (rfl | ⟨_, hk3⟩)
      · exact ⟨d1', d2', d3'⟩
      · exact ⟨(hk3.cell (p := ⟨_, 0, none⟩) (by show W.heap.size < W'.heap.size; omega) (fun e => by have := hD _ e; simp at this)).trans d1, (hk3.cell (p := ⟨_, 0, none⟩) (by show W.heap.size + 1 < W'.heap.size; omega) (fun e => by have := hD _ e; simp at this; omega)).trans d2, (hk3.cell (p := ⟨bm, 0, none⟩) (by show bm < W'.heap.size; omega) hbm.1).trans d3⟩
    refine wpIn_region_det (by kernel_rfl) (rfS l fst x n (stop (fst + (x - fst) % (n : Int)))) 8 (fun w => ((stop (fst + (x - fst) % (n : Int)) = false → J (pre.map (rnd a n) ++ [fst + (x - fst) % (n : Int)]) w) ∧ (stop (fst + (x - fst) % (n : Int)) = true → S w)) ∧ Kept D W'.drew w) [13, 14, 15, 16, 17, 18, 19, 20, 21, 22] (by kernel_rfl) (by kernel_rfl) ?_ (by decide) ?_
    · intro i o ho
      rcases i with _ | _ | _ | _ | _ | _ | _ | _ | _ | _ | i
      · simp at ho; subst ho
        refine ⟨rfl, (by intro y h; cases h), 13, rfl, fun ρ hs => ⟨fun _ w hw => ?_, fun h => by omega⟩⟩
        obtain ⟨e1, e2, e3⟩ := cells w hw
        have h3 : ρ (.tmp 3) = .pointer (some ⟨W.heap.size, 0, none⟩) := hs.2.1 3 (by kernel_rfl)
        simp only [execOp, h3, rfS]
        go_simp
      · simp at ho; subst ho
        refine ⟨rfl, (by intro y h; cases h), 14, rfl, fun ρ hs => ⟨fun _ w hw => ?_, fun h => by omega⟩⟩
        obtain ⟨e1, e2, e3⟩ := cells w hw
        have h3 : ρ (.tmp 4) = .pointer (some ⟨W.heap.size + 1, 0, none⟩) := hs.2.1 4 (by kernel_rfl)
        simp only [execOp, h3, rfS]
        go_simp
      · simp at ho; subst ho
        refine ⟨rfl, (by intro y h; cases h), 15, rfl, fun ρ hs => ⟨fun _ w hw => ?_, fun h => by omega⟩⟩
        have h3 : ρ (.tmp 5) = .int .i64 x := hs.2.1 5 (by kernel_rfl)
        simp only [execOp, h3, rfS]
        go_simp
      · simp at ho; subst ho
        refine ⟨rfl, (by intro y h; cases h), 16, rfl, fun ρ hs => ⟨fun _ w hw => ?_, fun h => by omega⟩⟩
        obtain ⟨e1, e2, e3⟩ := cells w hw
        have h3 : ρ (.tmp 4) = .pointer (some ⟨W.heap.size + 1, 0, none⟩) := hs.2.1 4 (by kernel_rfl)
        simp only [execOp, h3, rfS]
        go_simp
      · simp at ho; subst ho
        refine ⟨rfl, (by intro y h; cases h), 17, rfl, fun ρ hs => ⟨fun _ w hw => ?_, fun h => by omega⟩⟩
        have h3 : ρ (.tmp 15) = .int .i64 x := hs.2.2 15 (by kernel_rfl)
        have h4 : ρ (.tmp 16) = .int .i64 fst := hs.2.2 16 (by kernel_rfl)
        simp only [execOp, h3, h4, rfS]
        go_simp
        try exact hws
      · simp at ho; subst ho
        refine ⟨rfl, (by intro y h; cases h), 18, rfl, fun ρ hs => ⟨fun _ w hw => ?_, fun h => by omega⟩⟩
        obtain ⟨e1, e2, e3⟩ := cells w hw
        have h3 : ρ (.tmp 2) = .pointer (some ⟨bm, 0, none⟩) := hs.2.1 2 (by kernel_rfl)
        simp only [execOp, h3, rfS]
        go_simp
      · simp at ho; subst ho
        refine ⟨rfl, (by intro y h; cases h), 19, rfl, fun ρ hs => ⟨fun _ w hw => ?_, fun h => by omega⟩⟩
        have h3 : ρ (.tmp 17) = .int .i64 (x - fst) := hs.2.2 17 (by kernel_rfl)
        have h4 : ρ (.tmp 18) = .int .i64 n := hs.2.2 18 (by kernel_rfl)
        simp only [execOp, h3, h4, rfS]
        go_simp
        rw [if_neg (by omega), Int.tmod_eq_emod_of_nonneg q5]
      · simp at ho; subst ho
        refine ⟨rfl, (by intro y h; cases h), 20, rfl, fun ρ hs => ⟨fun _ w hw => ?_, fun h => by omega⟩⟩
        have h3 : ρ (.tmp 14) = .int .i64 fst := hs.2.2 14 (by kernel_rfl)
        have h4 : ρ (.tmp 19) = .int .i64 ((x - fst) % (n : Int)) := hs.2.2 19 (by kernel_rfl)
        simp only [execOp, h3, h4, rfS]
        go_simp
      · simp at ho; subst ho
        refine ⟨rfl, (by intro y h; cases h), 21, rfl, fun ρ hs => ⟨fun h => by omega, fun _ => ⟨l, fn, tmps, assign, body, ?_, fun m' => ?_⟩⟩⟩
        · have h3 : ρ (.tmp 13) = .func (.yield l) #[] #[] := hs.2.2 13 (by kernel_rfl)
          have h4 : ρ (.tmp 20) = .int .i64 (fst + (x - fst) % (n : Int)) := hs.2.2 20 (by kernel_rfl)
          simp only [execOp, h3, h4]
          go_simp
        · exact round_any rfl (RoundIn.mono hR (fun e w' h => h))
      · simp at ho; subst ho
        refine ⟨rfl, (by intro y h; cases h), 22, rfl, fun ρ hs => ⟨fun _ w hw => ?_, fun h => by omega⟩⟩
        have h3 : ρ (.tmp 21) = .bool (!stop (fst + (x - fst) % (n : Int))) := hs.2.2 21 (by kernel_rfl)
        simp only [execOp, h3, rfS]
        go_simp
      · simp at ho
    · rintro W3 ⟨hJ3, hk3⟩
      obtain ⟨e1, e2, e3⟩ := cells W3 (.inr ⟨hJ3, hk3⟩)
      clear cells hy hR hY
      simp only [fill, rfS, Act.put, List.setIfInBounds_toArray, List.set_cons_zero, List.set_cons_succ]
      cases hst : stop (fst + (x - fst) % (n : Int))
      · have hj3 := hJ3.1 hst
        gi_wp2
        exact ⟨by rw [erx]; exact hst, (Kept.drew D W').trans hk3, by simpa [erx] using hj3, e1, e2, e3, d4.trans ((Kept.drew D W').trans hk3), Nat.le_trans d5 hk3.size⟩
      · have hj3 := hJ3.2 hst
        gi_wp2
        exact ⟨by rw [erx]; exact hst, (Kept.drew D W').trans hk3, hj3, d4.trans ((Kept.drew D W').trans hk3)⟩
  case done =>
    rintro B W' hB hany ⟨hj, d1, d2, d3, d4, d5⟩ hK
    have HN := Hid.intro (show ((rowL a n).map (rnd a n)).any stop = false by rw [List.any_map]; exact hany)
    gi_wp2
    refine ⟨by simp, .inl ⟨_, _, rfl, run_takeDeferred hK, ?_⟩⟩
    exact ⟨_, results_none rfl _ _ _, ⟨_, rfl⟩, ⟨fun _ => hJ _ _ _ hj (below_putObj _ (by omega) _), fun h => (by rw [HN.out] at h; cases h)⟩, d4.below (below_putObj _ (show W.heap.size ≤ B by omega) _) (Nat.le_refl _)⟩
  case stop =>
    rintro B W' hB hany ⟨hj, d4⟩ hK
    have HN := Hid.intro (show ((rowL a n).map (rnd a n)).any stop = true by rw [List.any_map]; exact hany)
    gi_wp2
    refine ⟨by simp, .inl ⟨_, _, rfl, run_takeDeferred hK, ?_⟩⟩
    exact ⟨_, results_none rfl _ _ _, ⟨_, rfl⟩, ⟨fun h => (by rw [HN.out] at h; cases h), fun _ => hS _ _ hj (below_putObj _ (by omega) _)⟩, d4.below (below_putObj _ (show W.heap.size ≤ B by omega) _) (Nat.le_refl _)⟩

end Go.Proofs.Ytdjmjdljgdagcaa
