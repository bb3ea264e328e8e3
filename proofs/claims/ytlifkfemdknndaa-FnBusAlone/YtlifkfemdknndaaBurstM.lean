/-
  AdrBurst of the program.
-/
import Derived.RangeFuncNested
import Derived.RangeFuncBound
import Derived.RangeFuncCalls
import Derived.RangeFuncLeaves
import Derived.Shelf.Abstract
import Derived.RegionIn
import Derived.Stop.RegionWithIn
import Derived.BigRegionIn
import Derived.WalkKit
import Derived.OwnWalkIn
import Derived.TacticsInMore
import Derived.LoopNIn
import Derived.LoopIn
import Derived.Test.YtlifkfemdknndaaProg
import Derived.Test.YtlifkfemdknndaaKept
import Derived.Test.YtlifkfemdknndaaOpsXM
import Derived.Test.YtlifkfemdknndaaFacts
import Derived.Test.YtlifkfemdknndaaAdr
import Derived.Test.YtlifkfemdknndaaIRow
/-
  A range over a function whose body never leaves early: the law with the written blocks named.
-/
namespace Go.Proofs.Ytlifkfemdknndaa
open Go.RowKit Go.Shelf
set_option linter.unusedSimpArgs false
set_option linter.unusedVariables false
attribute [local go_sem] Oper.semAt_some

theorem room_any {F : Fence} (hd : F.depth = none) (k : Nat) : F.room k := fun d h => by rw [hd] at h; cases h
theorem round_any {F : Fence} (hd : F.depth = none) {m m' : Nat} {P : Program} {l : Nat} {f : FuncId} {tmps : Array Value} {assign body : Code} {w : World} {R : Ending → World → Prop}
    (h : RoundIn F m P l f tmps assign body w R) : RoundIn F m' P l f tmps assign body w R := ⟨h.1, fun c cs _ => h.2 c cs (room_any hd _)⟩

theorem Kept.putObj {D : Nat → Prop} (A : World) {r : Nat} (hr : D r) (o : Obj) : Kept D A (A.putObj r o) :=
  ⟨rfl, rfl, rfl, by simp, fun k _ hd => World.putObj_heap_other (fun e => hd (e ▸ hr))⟩
theorem below_putObj {M : Nat} (A : World) {r : Nat} (hr : M ≤ r) (o : Obj) : Below M A (A.putObj r o) :=
  ⟨rfl, rfl, rfl, by simp, fun k hk => World.putObj_heap_other (by omega)⟩

/-- what an invariant says, it says of blocks below M -/
def Loc {α : Type} (M : Nat) (J : List α → World → Prop) : Prop := ∀ s A B, J s A → Below M A B → J s B
theorem Loc.mono {α : Type} {M M' : Nat} {J : List α → World → Prop} (h : Loc M J) (hM : M ≤ M') : Loc M' J := fun s A B hs hb => h s A B hs (hb.mono hM)

/-- an iterator that tells xs to a body that never leaves -/
def ItOk {α : Type} (P : Program) (gf : Nat) (lb : Array Value) (enc : α → Value) (Cap : World → Prop) (CB : Nat → Prop) (xs : List α) : Prop :=
  ∀ (D : Nat → Prop) (l : Nat) (J : List α → World → Prop) (W : World),
    (∀ k, D k → k < W.heap.size) → (∀ k, CB k → ¬ D k ∧ k < W.heap.size) → Cap W → Loc W.heap.size J →
    (∀ pre x W1 m, J pre W1 → pre ++ [x] <+: xs → YieldAt Fence.wide m P l #[enc x] W1 fun e W' => e = .returned (.bool true) ∧ J (pre ++ [x]) W' ∧ Kept D W1 W') →
    J [] W → ∀ n, CallsIn Fence.wide n P gf (#[.func (.yield l) #[] #[]] ++ lb) W fun e W' => (∃ v, e = .returned v) ∧ J xs W' ∧ Kept D W W'

def goPost {α : Type} (D : Nat → Prop) (I : List α → World → Prop) (xs : List α) (W : World) : Exit → Act → World → Prop
  | .normal, _, W' => Kept D W W' ∧ I xs W'
  | .ret, _, _ => False
  | .exit _, _, _ => False
  | .goto _, _, _ => False
  | .panic _, _, _ => False
  | .outgrown, _, _ => False

theorem wpIn_range {α : Type} {P : Program} {n : Nat} {g : Operand} {ps : Array Tmp} {assign body : Code} {Q : Exit → Act → World → Prop} {a : Act} {w : World}
    {gf : Nat} {lb : Array Value} (hg : a.eval g = .func (.func gf) #[] lb) (eg : ∀ args w, (callFunc gf args).run P w = .ok (.enter gf args) w)
    {enc : α → Value} {Cap : World → Prop} {CB : Nat → Prop} {xs : List α} (hseq : ItOk P gf lb enc Cap CB xs) (hcap : ∀ W, Below w.heap.size w W → Cap W) (D : Nat → Prop)
    (hD : ∀ k, D k → k < w.heap.size) (hCB : ∀ k, CB k → ¬ D k ∧ k < w.heap.size) (hps : ps.size = 1)
    (I : List α → World → Prop) (hI : Loc w.heap.size I) (h0 : I [] w) (a₁ : α → Act)
    (hassign : ∀ (l : Nat) (x : α) (W : World) (m : Nat) (K : Act → World → Prop), K (a₁ x) W →
      assign.wpIn (Fence.wide.inRound l) m P (Exit.then K (fun _ _ _ => False)) { tmps := (ps.zip #[enc x]).foldl (fun t (p, v) => t.setIfInBounds p v) a.tmps, defers := [] } W)
    (hbody : ∀ (l : Nat) (pre : List α) (x : α) (W : World) (m : Nat), I pre W → pre ++ [x] <+: xs → body.wpIn (Fence.wide.inRound l) m P (goPost D I (pre ++ [x]) W) (a₁ x) W)
    (hdone : ∀ (B : Nat) (W : World), w.heap.size ≤ B → I xs W → W.heap[B]? = some (.deferred (some [])) → Q .normal { a with defers := { target := .collected B, args := #[] } :: a.defers } W) :
    (Code.rangeFunc g ps assign body).wpIn Fence.wide n P Q a w := by
  refine wpIn_rangeFunc ?_
  intro fn hfn
  show ∃ l mark w₁ d w₁' f args w₂, (Instr.enterLoop fn a.tmps ps assign body none).run P w = _ ∧ _
  obtain ⟨rec, hrec⟩ : ∃ rec : LoopState → Option Code → Loop, rec = fun st pe => { state := st, pending := pe, fn, tmps := a.tmps, params := ps, assign, body, defers := w.heap.size } := ⟨_, rfl⟩
  obtain ⟨W1, hW1⟩ : ∃ W1, (w.alloc (.deferred (some []))).alloc (.loop (rec .ready none)) = W1 := ⟨_, rfl⟩
  have hL1 : W1.heap[w.heap.size + 1]? = some (.loop (rec .ready none)) := by
    rw [← hW1]; have := World.alloc_heap_new (w.alloc (.deferred (some []))) (.loop (rec .ready none)); rwa [World.size_alloc] at this
  have hK1 : W1.heap[w.heap.size]? = some (.deferred (some [])) := by
    rw [← hW1]; exact (Below.heap_alloc _ _ _ (by simp)).trans (World.alloc_heap_new w _)
  have hb1 : Below w.heap.size w W1 := by
    rw [← hW1]; exact (((Below.refl _ w).alloc (Nat.le_refl _) _).alloc (by simp) _)
  have hI1 : I [] W1 := hI _ _ _ h0 hb1
  have hs1 : W1.heap.size = w.heap.size + 2 := by rw [← hW1]; simp
  refine ⟨w.heap.size + 1, [{ target := .collected w.heap.size, args := #[] }], W1, { target := .fn (.func gf) lb, args := #[.func (.yield (w.heap.size + 1)) #[] #[]] }, W1, gf,
    #[.func (.yield (w.heap.size + 1)) #[] #[]] ++ lb, W1, ?_, ?_, ?_, ?_, ?_, ?_⟩
  · rw [← hW1, hrec]; exact run_enterLoop_outer _ _ _ _ _
  · simp only [resolve, hg]
    simp [go_sem]
  · intro f' hf'; trivial
  · simp [invoke, go_sem, eg]
  · intro h; cases h
  · refine (hseq (fun k => D k ∨ k = w.heap.size + 1) (w.heap.size + 1)
      (fun pre W => I pre W ∧ W.heap[w.heap.size + 1]? = some (.loop (rec .ready none)) ∧ W.heap[w.heap.size]? = some (.deferred (some [])))
      W1 (fun k hk => by rcases hk with hk | rfl; · have := hD k hk; omega
                         · omega)
      (fun k hk => ⟨fun e => by rcases e with e | rfl; · exact (hCB k hk).1 e
                                · have := (hCB _ hk).2; omega, by have := (hCB k hk).2; omega⟩) (hcap _ hb1)
      (fun s A B hs hb => ⟨hI s A B hs.1 (hb.mono (by omega)), (hb.block _ (by omega)).trans hs.2.1, (hb.block _ (by omega)).trans hs.2.2⟩)
      ?_ ⟨hI1, hL1, hK1⟩ (n - 1)).mono ?_
    · rintro pre x W m ⟨hi, hl, hk⟩ hpre
      have hlt : w.heap.size + 1 < W.heap.size := (Array.getElem?_eq_some_iff.1 hl).1
      have hy := run_yield (P := P) (args := #[enc x]) hl (by rw [hrec]; exact hps.symm)
      rw [hrec] at hy
      refine ⟨fn, _, assign, body, hy, roundIn_of_wpIn hfn (hassign _ x W m _ ⟨_, run_beginRound hl (by rw [hrec]), ?_⟩)⟩
      have hl2 : (W.putObj (w.heap.size + 1) (.loop { rec .ready none with state := .busy })).heap[w.heap.size + 1]? = some (.loop { rec .ready none with state := .busy }) := World.putObj_heap_same hlt
      have hk2 : (W.putObj (w.heap.size + 1) (.loop { rec .ready none with state := .busy })).heap[w.heap.size]? = some (.deferred (some [])) := (World.putObj_heap_other (by omega)).trans hk
      refine wpIn_mono (hbody _ pre x _ m (hI _ _ _ hi (below_putObj _ (by omega) _)) hpre) ?_
      rintro e a3 W3 hp
      cases e with
      | normal =>
        obtain ⟨hk3, hi3⟩ := hp
        have hl3 := (hk3.block _ (by simpa using hlt) (fun e => by have := hD _ e; omega)).trans hl2
        have hkk := (hk3.block _ (by simp; omega) (fun e => by have := hD _ e; omega)).trans hk2
        have hr := run_endRound (P := P) none hl3
        refine ⟨_, _, hr, rfl, ⟨hI _ _ _ hi3 (below_putObj _ (by omega) _), ?_, (World.putObj_heap_other (by omega)).trans hkk⟩, ?_⟩
        · rw [World.putObj_heap_same (Array.getElem?_eq_some_iff.1 hl3).1]
          rw [hrec]; rfl
        · exact ((Kept.putObj W (D := fun k => D k ∨ k = w.heap.size + 1) (.inr rfl) _).trans (hk3.mono (fun k hk => .inl hk))).trans (Kept.putObj W3 (.inr rfl) _)
      | ret => exact hp.elim
      | exit id => exact hp.elim
      | goto t => exact hp.elim
      | panic ch => exact hp.elim
      | outgrown => exact hp.elim
    · rintro e W2 ⟨⟨v, rfl⟩, ⟨hi, hl, hk⟩, _⟩
      exact ⟨none, _, by have := run_endLoop (P := P) hl (by rw [hrec]; simp); rw [hrec] at this; exact this, hdone _ _ (Nat.le_refl _) (hI _ _ _ hi (below_putObj _ (by omega) _)) ((World.putObj_heap_other (by omega)).trans hk)⟩

end Go.Proofs.Ytlifkfemdknndaa

/-
  A region in a round that draws its order, of which one operation calls yield and all others read: walked once.
-/
namespace Go.Proofs.Ytlifkfemdknndaa
open Go.RowKit Go.Shelf
set_option linter.unusedSimpArgs false
set_option linter.unusedVariables false

/-- what is known of the slots when an operation comes up -/
def Seen (ops : Array Oper) (a0 : Act) (f : Nat → Value) (o : Oper) (ρ : Operand → Value) : Prop :=
  (∀ v, ρ (.const v) = v) ∧ (∀ t, outB ops t = true → ρ (.tmp t) = a0.eval (.tmp t)) ∧ (∀ t, depB ops o t = true → ρ (.tmp t) = f t)

theorem any_det {P : Program} {ops : Array Oper} {a0 : Act} {Q : Exit → Act → World → Prop} {l' m : Nat} (f : Nat → Value) (c : Nat) (W1 : World) (Post : World → Prop)
    (hform : formB ops a0.tmps.size = true)
    (hop : ∀ (i : Nat) (o : Oper), ops[i]? = some o → o.guard = none ∧ (∀ x, o.op ≠ .defer x) ∧ ∃ d, o.dst = some d ∧ ∀ ρ, Seen ops a0 f o ρ →
      ((i ≠ c → ∀ w, (w = W1 ∨ Post w) → (execOp ρ o).run P w = .ok (.value (f d)) w) ∧
       (i = c → ∃ l f' tmps assign body, (execOp ρ o).run P W1 = .ok (.round l f' tmps assign body) W1 ∧ ∀ m, RoundIn Fence.wide m P l f' tmps assign body W1 (fun e w'' => e = .returned (f d) ∧ Post w''))))
    (hc : c < ops.size)
    (hQ : ∀ a w, Inv ops a0 (fun _ _ => True) (fun d _ v => v = f d) ops.size (Array.replicate ops.size true) a w → Post w → Q .normal a w) :
    ∀ (fuel k : Nat) (listed : Array Bool) (a : Act) (w : World), listed.size = ops.size → cnt listed = k → k + fuel = ops.size → Inv ops a0 (fun _ _ => True) (fun d _ v => v = f d) k listed a w →
      ((listed.getD c true = false → w = W1) ∧ (listed.getD c true = true → Post w)) → wpAnyIn (Fence.wide.inRound l') m P .any ops Q fuel listed a w := by
  have done : ∀ (listed : Array Bool) (a : Act) (w : World), listed.size = ops.size → cnt listed = ops.size → Inv ops a0 (fun _ _ => True) (fun d _ v => v = f d) ops.size listed a w → (listed.getD c true = true → Post w) → Q .normal a w := by
    intro listed a w hls hcn hI hp
    obtain ⟨h1, h2, h3, h4, h5⟩ := hI
    have hall : ∀ j, j < ops.size → listed.getD j false = true := fun j hj => cnt_all listed (by omega) j (by omega)
    refine hQ a w ⟨h1, h2, h3, h4, fun j o d hj _ hd => h5 j o d hj (hall j (Array.getElem?_eq_some_iff.1 hj).1) hd⟩ (hp ?_)
    have := hall c hc
    have hl : c < listed.size := by omega
    simpa [hl] using this
  have allc : ∀ (listed : Array Bool), listed.size = ops.size → (∀ i, i < ops.size → listed.getD i false = true) → cnt listed = ops.size := by
    intro listed hls hall
    obtain ⟨l⟩ := listed
    simp at hls
    simp only [cnt]
    rw [← hls]
    have : ∀ b ∈ l, b = true := by
      intro b hb
      obtain ⟨n, hn, rfl⟩ := List.mem_iff_getElem.1 hb
      have := hall n (by omega)
      simpa [hn] using this
    rw [List.filter_eq_self.2 (by simpa using this)]
  intro fuel
  induction fuel with
  | zero =>
    intro k listed a w hls hcn hk hI hp
    have hk' : k = ops.size := by omega
    subst hk'
    refine ⟨?_, done listed a w hls (by omega) hI hp.2⟩
    rw [List.eq_nil_iff_forall_not_mem]
    intro j hj
    obtain ⟨h0, o, ho, _⟩ := mem_ready.1 hj
    have hlt := (Array.getElem?_eq_some_iff.1 ho).1
    have h1 := cnt_all listed (by omega) j (by omega)
    have hl : j < listed.size := by omega
    simp [hl] at h0 h1
    rw [h0] at h1
    cases h1
  | succ fuel ih =>
    intro k listed a w hls hcn hk hI hp
    refine ⟨fun hr => ?_, fun i hi => ?_⟩
    · have hall := allc listed hls (ready_of_form hform listed hls hr)
      have hk' : k = ops.size := by omega
      subst hk'
      exact done listed a w hls hall hI hp.2
    · obtain ⟨h0, o, ho, hafter⟩ := mem_ready.1 hi
      have hI' := hI
      obtain ⟨hC, hd, hs, hout, hty⟩ := hI
      obtain ⟨hg, hnd, d, hod, hrun⟩ := hop i o ho
      have hlt := (Array.getElem?_eq_some_iff.1 ho).1
      have hseen : Seen ops a0 f o a.eval := by
        refine ⟨fun _ => rfl, fun t ht => hout t (out_of ht), fun t ht => ?_⟩
        exact dep_of (T := fun d _ v => v = f d) (w := w) ht (fun e he hb oe d' hoe hde => hty e.on oe d' hoe (hafter e (by simpa using he) hb) hde)
      obtain ⟨r1, r2⟩ := hrun a.eval hseen
      have hnext : ∀ (w' : World), (((listed.setIfInBounds i true).getD c true = false → w' = W1) ∧ ((listed.setIfInBounds i true).getD c true = true → Post w')) → wpAnyIn (Fence.wide.inRound l') m P .any ops Q fuel (listed.setIfInBounds i true) (a.put o.dst (f d)) w' := fun w' g =>
        ih (k + 1) _ _ _ (by simp [hls]) (by rw [cnt_set _ _ h0, hcn]) (by omega) (hI'.put (R := fun _ _ => True) hform hls (fun _ _ _ _ _ h => h) ho trivial trivial (fun d' hd' => by rw [hod] at hd'; cases hd'; rfl)) g
      have hw : Region.wanted o (yielded ops a.tmps) = true := by simp [Region.wanted, hg]
      unfold wpOpIn
      simp only [ho, hw, if_true]
      unfold Oper.wpIn
      refine ⟨fun _ _ => trivial, ?_⟩
      rw [Oper.semAt_eq _ _ _ hnd]
      by_cases hic : i = c
      · subst hic
        have hw1 : w = W1 := hp.1 h0
        subst hw1
        obtain ⟨l, f', tmps, assign, body, he, hR⟩ := r2 rfl
        rw [he]
        refine ⟨fun h => (by cases h), RoundIn.mono (hR (m - 1)) ?_⟩
        rintro e w'' ⟨rfl, hP⟩
        refine hnext w'' ⟨fun h => ?_, fun _ => hP⟩
        have hl : i < listed.size := by omega
        simp [hl] at h
      · have hw1 : w = W1 ∨ Post w := by
          cases hcl : listed.getD c true
          · exact .inl (hp.1 hcl)
          · exact .inr (hp.2 hcl)
        rw [r1 hic w hw1]
        refine hnext w ?_
        rw [getD_set_ne true hic]
        exact hp

theorem wpIn_region_det {P : Program} {ops : Array Oper} {a0 : Act} {Q : Exit → Act → World → Prop} {l' m id : Nat} {w0 : World} (hm : P.follows .mixedOrders = true) (f : Nat → Value) (c : Nat) (Post : World → Prop) (dsts : List Nat)
    (hds : ops.toList.filterMap (·.dst) = dsts) (hform : formB ops a0.tmps.size = true)
    (hop : ∀ (i : Nat) (o : Oper), ops[i]? = some o → o.guard = none ∧ (∀ x, o.op ≠ .defer x) ∧ ∃ d, o.dst = some d ∧ ∀ ρ, Seen ops a0 f o ρ →
      ((i ≠ c → ∀ w, (w = w0.drew ∨ Post w) → (execOp ρ o).run P w = .ok (.value (f d)) w) ∧
       (i = c → ∃ l f' tmps assign body, (execOp ρ o).run P w0.drew = .ok (.round l f' tmps assign body) w0.drew ∧ ∀ m, RoundIn Fence.wide m P l f' tmps assign body w0.drew (fun e w'' => e = .returned (f d) ∧ Post w''))))
    (hc : c < ops.size)
    (hQ : ∀ (w : World), Post w → Q .normal (fill a0 f dsts) w) : (Code.region id ops true).wpIn (Fence.wide.inRound l') m P Q a0 w0 := by
  refine wpIn_region_any hm (any_det f c w0.drew Post hform hop hc ?_ ops.size 0 _ a0 _ (by simp) (cnt_none _) (by omega) ⟨trivial, rfl, rfl, fun _ _ => rfl, fun j o d hj hl _ => ?_⟩ ⟨fun _ => rfl, fun h => ?_⟩)
  · rintro a w ⟨h1, h2, h3, h4, h5⟩ hP
    have hfill : a = fill a0 f dsts := by
      have hz := fill_size a0 f dsts
      obtain ⟨at1, ad⟩ := a
      have e1 : at1 = (fill a0 f dsts).tmps := by
        refine Array.ext_getElem? fun j => ?_
        by_cases hj : j < a0.tmps.size
        · rw [fill_at _ _ _ hj]
          have hj' : j < at1.size := by simpa [h3] using hj
          by_cases hm : j ∈ dsts
          · have hm' := hm
            rw [← hds] at hm'
            obtain ⟨o, ho, hod⟩ := List.mem_filterMap.1 hm'
            obtain ⟨i, hi, rfl⟩ := List.mem_iff_getElem.1 ho
            have := h5 i _ j (by simp at hi; simp [hi]) (by simp at hi; simp [hi]) hod
            simp [Act.eval, hj'] at this
            simp [hm, hj', this]
          · have := h4 j (fun x hx e => hm (by rw [← hds]; exact List.mem_filterMap.2 ⟨x, hx, e⟩))
            simp [Act.eval, hj, hj'] at this
            simp [hm, hj, hj', this]
        · rw [Array.getElem?_eq_none (by simp at h3; omega), Array.getElem?_eq_none (by rw [hz.1]; omega)]
      have e2 : ad = (fill a0 f dsts).defers := by rw [hz.2]; exact h2
      generalize fill a0 f dsts = x at *
      cases x
      simp_all
    rw [hfill]
    exact hQ w hP
  · exfalso
    have hlt := (Array.getElem?_eq_some_iff.1 hj).1
    simp [hlt] at hl
  · exfalso
    simp [hc] at h

end Go.Proofs.Ytlifkfemdknndaa

/-
  A region in a round that draws its order, walked once, by facts.
-/
namespace Go.Proofs.Ytlifkfemdknndaa
open Go.RowKit Go.Shelf
set_option linter.unusedSimpArgs false
set_option linter.unusedVariables false

/-- no operation defers -/
def nodB (ops : Array Oper) : Bool := ops.toList.all (fun o => match o.op with | .defer _ => false | _ => true)
theorem nod_spec {ops : Array Oper} (h : nodB ops = true) : ∀ (i : Nat) (o : Oper), ops[i]? = some o → ∀ x, o.op ≠ .defer x := by
  intro i o ho x e
  simp only [nodB, List.all_eq_true] at h
  have := h o (Array.mem_toList_iff.2 (Array.mem_of_getElem? ho))
  rw [e] at this; cases this

section
variable {P : Program} {ops : Array Oper} {a0 : Act} {facts : Nat → Fact} {C : (Nat → Bool) → World → Prop} {Q : Exit → Act → World → Prop}

theorem any_factsIn {l' m : Nat} (hnd : ∀ (i : Nat) (o : Oper), ops[i]? = some o → ∀ x, o.op ≠ .defer x) (hform : formB ops a0.tmps.size = true) (hop : ∀ i o, ops[i]? = some o → FOp P ops a0 facts C i o)
    (hQ : ∀ a w, InvF ops a0 facts C (Array.replicate ops.size true) a w → Q .normal a w) :
    ∀ (fuel k : Nat) (listed : Array Bool) (a : Act) (w : World), listed.size = ops.size → cnt listed = k → k + fuel = ops.size → InvF ops a0 facts C listed a w → wpAnyIn (Fence.wide.inRound l') m P .any ops Q fuel listed a w := by
  have eqAll : ∀ (listed : Array Bool), listed.size = ops.size → (∀ i, i < ops.size → listed.getD i false = true) → listed = Array.replicate ops.size true := by
    intro listed hls hall
    apply Array.ext
    · simp [hls]
    · intro i h1 h2
      have := hall i (by omega)
      simp [h1] at this
      simp [this]
  have done : ∀ (listed : Array Bool) (a : Act) (w : World), listed.size = ops.size → cnt listed = ops.size → InvF ops a0 facts C listed a w → Q .normal a w := by
    intro listed a w hls hc hI
    rw [eqAll listed hls (fun i hi => cnt_all listed (by omega) i (by omega))] at hI
    exact hQ a w hI
  intro fuel
  induction fuel with
  | zero =>
    intro k listed a w hls hc hk hI
    refine ⟨?_, done listed a w hls (by omega) hI⟩
    rw [List.eq_nil_iff_forall_not_mem]
    intro j hj
    obtain ⟨h0, o, ho, _⟩ := mem_ready.1 hj
    have hlt := (Array.getElem?_eq_some_iff.1 ho).1
    have h1 := cnt_all listed (by omega) j (by omega)
    have hl : j < listed.size := by omega
    simp [hl] at h0 h1
    rw [h0] at h1
    cases h1
  | succ fuel ih =>
    intro k listed a w hls hc hk hI
    refine ⟨fun hr => ?_, fun i hi => ?_⟩
    · have hall := ready_of_form hform listed hls hr
      rw [eqAll listed hls hall] at hI
      exact hQ a w hI
    · obtain ⟨h0, o, ho, hafter⟩ := mem_ready.1 hi
      obtain ⟨hC, hd, hs, hout, hcl, hf⟩ := hI
      have hlt := (Array.getElem?_eq_some_iff.1 ho).1
      have hnew : listed.getD i false = false := by
        have hl : i < listed.size := by omega
        simp [hl] at h0 ⊢; exact h0
      have hdir : ∀ e ∈ o.after.toList, Region.binds .any e = true → (fun i => listed.getD i false) e.on = true := fun e he hb => hafter e (by simpa using he) hb
      have hat : AtF ops a0 facts C i (fun i => listed.getD i false) a.eval w :=
        ⟨fun _ => rfl, fun _ => rfl, fun t ht => hout t (fun j o ho hd => absurd hd (out_of ht o (Array.mem_toList_iff.2 (Array.mem_of_getElem? ho)))), hout, hnew, fun j hj => by
          by_cases hl : j < listed.size
          · omega
          · simp [hl] at hj, hcl, fun j hj => reach_done hcl ops.size i j o ho hdir hj, hf, hC⟩
      have hgetD : (fun t => (listed.setIfInBounds i true).getD t false) = updB (fun i => listed.getD i false) i := by
        funext t
        unfold updB
        by_cases hti : t = i
        · subst hti
          have hl : t < listed.size := by omega
          simp [hl]
        · rw [if_neg hti, getD_set_ne false (Ne.symm hti)]
      have hslots : ∀ v, (∀ d, o.dst = some d → d < a.tmps.size) → (fun t => (a.put o.dst v).eval (.tmp t)) = updV (fun t => a.eval (.tmp t)) o.dst v := by
        intro v hsz
        funext t
        unfold updV
        cases hod : o.dst with
        | none => simp [Act.put]
        | some d =>
          by_cases hdt : d = t
          · subst hdt
            simp only [if_true]
            exact eval_put_same (hsz d hod)
          · rw [if_neg (by simpa using hdt)]
            exact eval_put_ne hdt
      obtain ⟨hin, huniq, _⟩ := form_spec hform
      have hnext : ∀ (w' : World) (v : Value), FLeaves facts C i o (fun i => listed.getD i false) a.eval w' v → wpAnyIn (Fence.wide.inRound l') m P .any ops Q fuel (listed.setIfInBounds i true) (a.put o.dst v) w' := by
        rintro w' v ⟨g1, g2⟩
        refine ih (k + 1) _ _ _ (by simp [hls]) (by rw [cnt_set _ _ h0, hc]) (by omega) ⟨by rw [hgetD]; exact g1, ?_, ?_, fun d hnot => ?_, ?_, fun j hj => ?_⟩
        · cases o.dst <;> exact hd
        · cases o.dst <;> simp [Act.put, hs]
        · have hnot' : ∀ (j : Nat) (o : Oper), ops[j]? = some o → o.dst = some d → listed.getD j false = false := by
            intro j oj hoj hdj
            have := hnot j oj hoj hdj
            by_cases hji : i = j
            · subst hji
              have hl : i < listed.size := by omega
              simp [hl] at this
            · rwa [getD_set_ne false hji] at this
          cases hod : o.dst with
          | none => exact hout d hnot'
          | some d' =>
            have : d' ≠ d := fun e => by
              have h1 := hnot i o ho (by rw [hod, e])
              have hl : i < listed.size := by omega
              simp [hl] at h1
            rw [eval_put_ne this]
            exact hout d hnot'
        · rw [hgetD]
          intro j oj hj hoj e he hb
          unfold updB at hj ⊢
          by_cases hei : e.on = i
          · simp [hei]
          · rw [if_neg hei]
            by_cases hji : j = i
            · subst hji
              rw [ho] at hoj; cases hoj
              exact hdir e he hb
            · rw [if_neg hji] at hj
              exact hcl j oj hj hoj e he hb
        · rw [hgetD, hslots v (fun d hd' => by rw [hs]; exact hin i o d ho hd')]
          refine g2 j ?_
          by_cases hji : j = i
          · exact .inr hji
          · left
            rw [getD_set_ne false (Ne.symm hji)] at hj
            exact hj
      have cases2 : (Region.wanted o (yielded ops a.tmps) = true ∧ tyUpon P (FLeaves facts C i o (fun i => listed.getD i false) a.eval) ((execOp a.eval o).run P w)) ∨ (Region.wanted o (yielded ops a.tmps) = false ∧ FLeaves facts C i o (fun i => listed.getD i false) a.eval w undef) := by
        rcases hop i o ho _ _ _ hat with ⟨hg, hH⟩ | ⟨g, b, c, og, d, hg, hog, hod, hv, hcase⟩
        · exact .inl ⟨by simp [Region.wanted, hg], hH⟩
        · have hy : yielded ops a.tmps g = some c := by
            simp only [Act.eval] at hv
            simp [yielded, hog, hod]
            simp at hv
            cases hx : a.tmps[d]? with
            | none => rw [hx] at hv; cases hv
            | some x => rw [hx] at hv; simp at hv; subst hv; rfl
          rcases hcase with ⟨hcb, hH⟩ | ⟨hcb, hH⟩
          · exact .inl ⟨by simp [Region.wanted, hg, hy, hcb], hH⟩
          · exact .inr ⟨by simp [Region.wanted, hg, hy]; exact hcb, hH⟩
      unfold wpOpIn
      simp only [ho]
      rcases cases2 with ⟨hw, H⟩ | ⟨hw, H⟩
      rotate_left
      · rw [if_neg (by rw [hw]; decide)]
        exact ⟨fun _ _ => trivial, hnext w undef H⟩
      simp only [hw, if_true]
      unfold Oper.wpIn
      refine ⟨fun _ _ => trivial, ?_⟩
      rw [Oper.semAt_eq _ _ _ (hnd i o ho)]
      generalize (execOp a.eval o).run P w = r at H
      cases r with
      | ok n w' =>
        cases n <;> simp only [tyUpon] at H <;> simp only [Oper.uponIn]
        case value v => exact hnext _ _ H
        case skip => exact hnext _ _ H
        case enter f args =>
          refine ⟨fun h => (by cases h), CallsIn.mono (show CallsIn (Fence.wide.inRound l') (m - 1) P f args w' _ from callsIn_wide.2 H) ?_⟩
          rintro e w'' ⟨v, rfl, hG⟩
          exact hnext _ _ hG
      | halt x w' => simp only [tyUpon] at H

/-- THE LAW -/
theorem wpIn_region_facts {id l' m : Nat} {w0 : World} (hm : P.follows .mixedOrders = true) (hnd : ∀ (i : Nat) (o : Oper), ops[i]? = some o → ∀ x, o.op ≠ .defer x) (facts : Nat → Fact) (C : (Nat → Bool) → World → Prop) (dsts : List Nat)
    (hds : ops.toList.filterMap (·.dst) = dsts) (hform : formB ops a0.tmps.size = true) (h0 : C (fun _ => false) { w0 with drawn := w0.drawn + 1 })
    (hop : ∀ i o, ops[i]? = some o → FOp P ops a0 facts C i o)
    (hQ : ∀ (f : Nat → Value) (w : World), C (fun i => decide (i < ops.size)) w → (∀ j, j < ops.size → (facts j).at f (fun i => decide (i < ops.size)) w) → (∀ t, outB ops t = true → f t = a0.eval (.tmp t)) → Q .normal (fill a0 f dsts) w) : (Code.region id ops true).wpIn (Fence.wide.inRound l') m P Q a0 w0 := by
  have hz0 : (fun i => (Array.replicate ops.size false).getD i false) = (fun _ => false) := by
    funext i
    by_cases hi : i < ops.size <;> simp [hi]
  refine wpIn_region_any hm (any_factsIn hnd (facts := facts) (C := C) hform hop ?_ ops.size 0 _ a0 _ (by simp) (cnt_none _) (by omega) ⟨by rw [hz0]; exact h0, rfl, rfl, fun _ _ => rfl, fun j o hj => ?_, fun j hj => ?_⟩)
  · rintro a w ⟨h1, h2, h3, h4, h5, h6⟩
    have hfill : a = fill a0 (fun d => a.eval (.tmp d)) dsts := by
      have hz := fill_size a0 (fun d => a.eval (.tmp d)) dsts
      obtain ⟨at1, ad⟩ := a
      have e1 : at1 = (fill a0 (fun d => (Act.mk at1 ad).eval (.tmp d)) dsts).tmps := by
        refine Array.ext_getElem? fun j => ?_
        by_cases hj : j < a0.tmps.size
        · rw [fill_at _ _ _ hj]
          have hj' : j < at1.size := by simpa [h3] using hj
          by_cases hm : j ∈ dsts
          · simp [hm, Act.eval, hj']
          · have := h4 j (fun i o ho e => absurd (by rw [← hds]; exact List.mem_filterMap.2 ⟨o, Array.mem_toList_iff.2 (Array.mem_of_getElem? ho), e⟩) hm)
            simp [Act.eval, hj, hj'] at this
            simp [hm, hj, hj', this]
        · rw [Array.getElem?_eq_none (by simp at h3; omega), Array.getElem?_eq_none (by rw [hz.1]; omega)]
      have e2 : ad = (fill a0 (fun d => (Act.mk at1 ad).eval (.tmp d)) dsts).defers := by rw [hz.2]; exact h2
      generalize fill a0 (fun d => (Act.mk at1 ad).eval (.tmp d)) dsts = x at *
      cases x
      simp_all
    have hd : (fun i => (Array.replicate ops.size true).getD i false) = (fun i => decide (i < ops.size)) := by
      funext i
      by_cases hi : i < ops.size <;> simp [hi]
    rw [hd] at h6 h1
    rw [hfill]
    refine hQ _ w h1 (fun j hj => ?_) (fun t ht => h4 t (fun i o ho e => absurd e (out_of ht o (Array.mem_toList_iff.2 (Array.mem_of_getElem? ho)))))
    exact h6 j (by simp [hj])
  · exfalso
    have : (Array.replicate ops.size false).getD j false = false := by
      by_cases hl : j < ops.size <;> simp [hl]
    have hj' : (Array.replicate ops.size false).getD j false = true := hj
    rw [this] at hj'; cases hj'
  · exfalso
    have : (Array.replicate ops.size false).getD j false = false := by
      by_cases hl : j < ops.size <;> simp [hl]
    rw [this] at hj; cases hj
theorem wpIn_region_fl {id l' m : Nat} {w0 : World} (hm : P.follows .mixedOrders = true) (hnd : nodB ops = true) (l : List Fact) (C : (Nat → Bool) → World → Prop) (dsts : List Nat)
    (hds : ops.toList.filterMap (·.dst) = dsts) (hform : formB ops a0.tmps.size = true) (hcl : closedB ops (factsOf l) = true) (h0 : C (fun _ => false) { w0 with drawn := w0.drawn + 1 })
    (hop : closedB ops (factsOf l) = true → ∀ i o, ops[i]? = some o → FOp P ops a0 (factsOf l) C i o)
    (hQ : ∀ (f : Nat → Value) (w : World), C (fun i => decide (i < ops.size)) w → (∀ j, j < ops.size → (factsOf l j).at f (fun i => decide (i < ops.size)) w) → (∀ t, outB ops t = true → f t = a0.eval (.tmp t)) → Q .normal (fill a0 f dsts) w) : (Code.region id ops true).wpIn (Fence.wide.inRound l') m P Q a0 w0 :=
  wpIn_region_facts hm (nod_spec hnd) (factsOf l) C dsts hds hform h0 (hop hcl) hQ

end

end Go.Proofs.Ytlifkfemdknndaa

/-
  The program's iterators over addresses: inRow, roundAbout, burst.
-/
namespace Go.Proofs.Ytlifkfemdknndaa
open Go.RowKit Go.Shelf
set_option linter.unusedSimpArgs false
set_option linter.unusedVariables false
attribute [local go_sem] Oper.semAt_some

def rowL (a : Int) (n : Nat) : List Int := (List.range n).map (fun k : Nat => a + (k : Int))
theorem rowL_split {a : Int} {n k : Nat} (h : k < n) : rowL a k ++ [a + (k : Int)] <+: rowL a n := by
  have e : rowL a k ++ [a + (k : Int)] = rowL a (k + 1) := by simp [rowL, List.range_succ]
  rw [e]
  unfold rowL
  exact (List.IsPrefix.map _ ⟨_, show List.range (k + 1) ++ (List.range (n - (k+1))).map (fun i => k + 1 + i) = List.range n by
    rw [← List.range_add]; congr 1; omega⟩)
theorem rowL_succ (a : Int) (k : Nat) : rowL a k ++ [a + (k : Int)] = rowL a (k + 1) := by simp [rowL, List.range_succ]

set_option maxRecDepth 100000 in
set_option maxHeartbeats 1000000 in
theorem inRow1_it (a : Int) (n ba bm : Nat) (ha : 0 ≤ a) (ha2 : a ≤ 63) (hn : 1 ≤ n) (hn4 : n ≤ 4) :
    ItOk Try.prog 101 #[.pointer (some ⟨bm, 0, none⟩), .pointer (some ⟨ba, 0, none⟩)] (Value.int .i64)
      (fun W => W.cell? ⟨ba, 0, none⟩ = some (.int .i64 a) ∧ W.cell? ⟨bm, 0, none⟩ = some (.int .i64 n)) (fun k => k = ba ∨ k = bm) (rowL a n) := by
  intro D l J W hD hCB hcap hJ hY h0 n'
  obtain ⟨hca, hcm⟩ := hcap
  refine callsIn_of_wp Try.func101 rfl trivial ?_ rfl
  simp only [Try.ntmps101, List.size_toArray, List.length_cons, List.length_nil, Nat.reduceAdd, Nat.reduceSub, Array.replicate_succ, Array.replicate_zero, List.push_toArray, List.append_toArray, List.nil_append, List.cons_append]
  gi_wp2
  gi_loopw [6] (fun i wr => ∃ (k : Nat), k ≤ n ∧ i = .int .i64 k ∧ J (rowL a k) wr ∧ Kept D W wr)
    (fun i wr => n - (intOf i).toNat)
  case atStart => exact ⟨0, Nat.zero_le _, rfl, h0, Kept.refl _ _⟩
  case round =>
    obtain ⟨k, hk, rfl, hj, hkp⟩ := hrel
    have hca' : wr.cell? ⟨ba, 0, none⟩ = some (.int .i64 a) := (hkp.cell (p := ⟨ba, 0, none⟩) (hCB ba (.inl rfl)).2 (hCB ba (.inl rfl)).1).trans hca
    by_cases hlt : k < n
    · have hkI : (k : Int) < (n : Int) := by omega
      obtain ⟨fn, tmps, assign, body, hy, hR⟩ := hY (rowL a k) (a + (k : Int)) wr (n' - 1) hj (rowL_split hlt)
      gi_wp2
      refine ⟨fun h => (by cases h), hR.mono ?_⟩
      rintro e W3 ⟨rfl, hJ3, hk3⟩
      gi_wp2
      go_roundw
      case rel => exact ⟨k + 1, by omega, by go_num, by rw [← rowL_succ]; exact hJ3, hkp.trans hk3⟩
      case measure => simp [intOf]; omega
    · have hk' : k = n := by omega
      subst hk'
      gi_wp2
      go_end0
      exact ⟨⟨_, rfl⟩, hj, hkp⟩

theorem block_any (a : Int) (n : Nat) (w : World) (ha : 0 ≤ a) (ha2 : a ≤ 63) (hn : 1 ≤ n) (hn4 : n ≤ 4) :
    Calls Try.prog 100 #[.int .i64 a, .int .i64 n] w fun e w' => e = .returned (.int .i64 (a - a % (n : Int))) ∧ w' = w := by
  have q1 : (0 : Int) ≤ a % (n : Int) := Int.emod_nonneg _ (by omega)
  have q2 : a % (n : Int) < (n : Int) := Int.emod_lt_of_pos _ (by omega)
  go_enter Try.func100, Try.ntmps100
  go_wp2
  go_ret
  exact ⟨rfl, rfl⟩

theorem inRow_any (a : Int) (n : Int) (w : World) :
    Calls Try.prog 91 #[.int .i64 a, .int .i64 n] w fun e w' => e = .returned (.func (.func 101) #[] #[.pointer (some ⟨w.heap.size + 1, 0, none⟩), .pointer (some ⟨w.heap.size, 0, none⟩)]) ∧ w' = (w.alloc (.cells #[.int .i64 a] 92)).alloc (.cells #[.int .i64 n] 3) := by
  go_enter Try.func91, Try.ntmps91
  go_wp2
  go_ret
  exact ⟨rfl, rfl⟩

theorem roundAbout_any (a : Int) (n : Int) (w : World) :
    Calls Try.prog 90 #[.int .i64 a, .int .i64 n] w fun e w' => e = .returned (.func (.func 99) #[] #[.pointer (some ⟨w.heap.size, 0, none⟩), .pointer (some ⟨w.heap.size + 1, 0, none⟩)]) ∧ w' = (w.alloc (.cells #[.int .i64 a] 92)).alloc (.cells #[.int .i64 n] 3) := by
  go_enter Try.func90, Try.ntmps90
  go_wp2
  go_ret
  exact ⟨rfl, rfl⟩

/-- what burst hands back -/
def itV (b : Nat) : Bool → Value
  | true => .func (.func 99) #[] #[.pointer (some ⟨b, 0, none⟩), .pointer (some ⟨b + 1, 0, none⟩)]
  | false => .func (.func 101) #[] #[.pointer (some ⟨b + 1, 0, none⟩), .pointer (some ⟨b, 0, none⟩)]

theorem burst_any (a : Int) (n : Int) (wrap : Bool) (w : World) :
    Calls Try.prog 60 #[.int .i64 a, .int .i64 n, .bool wrap] w fun e w' => e = .returned (itV w.heap.size wrap) ∧ w' = (w.alloc (.cells #[.int .i64 a] 92)).alloc (.cells #[.int .i64 n] 3) := by
  cases wrap
  · go_enter Try.func60, Try.ntmps60
    go_wp2_with (go_at_call 91; refine (inRow_any _ _ _).mono ?_; rintro e w' ⟨rfl, rfl⟩)
    go_ret
    exact ⟨rfl, rfl⟩
  · go_enter Try.func60, Try.ntmps60
    go_wp2_with (go_at_call 90; refine (roundAbout_any _ _ _).mono ?_; rintro e w' ⟨rfl, rfl⟩)
    go_ret
    exact ⟨rfl, rfl⟩

end Go.Proofs.Ytlifkfemdknndaa

/-
  roundAbout's iterator: an iterator that ranges over an iterator.
-/
namespace Go.Proofs.Ytlifkfemdknndaa
open Go.RowKit Go.Shelf
set_option linter.unusedSimpArgs false
set_option linter.unusedVariables false
attribute [local go_sem] Oper.semAt_some

theorem cell_al {W : World} {a : Addr} {v : Value} (o : Obj) (h : W.cell? a = some v) : (W.alloc o).cell? a = some v := cell_kept h (World.grownBy_alloc W o none) (fun r e => by cases e)
theorem Kept.below {D : Nat → Prop} {A B C : World} {M : Nat} (h : Kept D A B) (hb : Below M B C) (hM : A.heap.size ≤ M) : Kept D A C :=
  ⟨hb.os.trans h.os, hb.tape.trans h.tape, hb.output.trans h.output, Nat.le_trans h.size hb.size, fun k hk hd => (hb.block k (by omega)).trans (h.block k hk hd)⟩

def rf (l : Nat) (fst x : Int) (n : Nat) : Nat → Value
  | 13 => .func (.yield l) #[] #[]
  | 14 => .int .i64 fst
  | 15 => .int .i64 x
  | 16 => .int .i64 fst
  | 17 => .int .i64 (x - fst)
  | 18 => .int .i64 n
  | 19 => .int .i64 ((x - fst) % (n : Int))
  | 20 => .int .i64 (fst + (x - fst) % (n : Int))
  | 21 => .bool true
  | 22 => .bool false
  | _ => undef

theorem wrap_small (y : Int) (h0 : 0 ≤ y) (h1 : y ≤ 70) : IntKind.i64.wrap y = y := by
  rw [IntKind.wrap_i64]; omega
theorem fst_nonneg (a : Int) (n : Nat) (ha : 0 ≤ a) : 0 ≤ a - a % (n : Int) := by
  have h1 := Int.mul_ediv_add_emod a (n : Int)
  have h2 : 0 ≤ a / (n : Int) := Int.ediv_nonneg ha (by omega)
  have h3 : 0 ≤ (n : Int) * (a / (n : Int)) := Int.mul_nonneg (by omega) h2
  omega

def rnd (a : Int) (n : Nat) (x : Int) : Int := (a - a % (n : Int)) + (x - (a - a % (n : Int))) % (n : Int)
theorem rowL_mem {a : Int} {n : Nat} {pre : List Int} {x : Int} (h : pre ++ [x] <+: rowL a n) : a ≤ x ∧ x < a + n := by
  obtain ⟨t, ht⟩ := h
  have hx : x ∈ rowL a n := by rw [← ht]; simp
  simp [rowL] at hx
  obtain ⟨k, hk, rfl⟩ := hx
  omega

set_option maxRecDepth 100000 in
set_option maxHeartbeats 400000 in
theorem round1_it (a : Int) (n ba bm : Nat) (ha : 0 ≤ a) (ha2 : a ≤ 63) (hn : 1 ≤ n) (hn4 : n ≤ 4) :
    ItOk Try.prog 99 #[.pointer (some ⟨ba, 0, none⟩), .pointer (some ⟨bm, 0, none⟩)] (Value.int .i64)
      (fun W => W.cell? ⟨ba, 0, none⟩ = some (.int .i64 a) ∧ W.cell? ⟨bm, 0, none⟩ = some (.int .i64 n)) (fun k => k = ba ∨ k = bm) ((rowL a n).map (rnd a n)) := by
  intro D l J W hD hCB hcap hJ hY h0 n'
  obtain ⟨hca, hcm⟩ := hcap
  have hba := hCB ba (.inl rfl)
  have hbm := hCB bm (.inr rfl)
  have q1 : (0 : Int) ≤ a % (n : Int) := Int.emod_nonneg _ (by omega)
  have q2 : a % (n : Int) < (n : Int) := Int.emod_lt_of_pos _ (by omega)
  obtain ⟨fst, hfst⟩ : ∃ fst, a - a % (n : Int) = fst := ⟨_, rfl⟩
  have f1 : -4 ≤ fst := by omega
  have f2 : fst ≤ 63 := by omega
  have hca1 : (W.alloc (.cells #[.func (.yield l) #[] #[]] 135)).cell? ⟨ba, 0, none⟩ = some (.int .i64 a) := cell_al _ hca
  have hcm1 : (W.alloc (.cells #[.func (.yield l) #[] #[]] 135)).cell? ⟨bm, 0, none⟩ = some (.int .i64 n) := cell_al _ hcm
  refine callsIn_of_wp_marks Try.func99 rfl trivial ?_ rfl
  simp only [Try.ntmps99, List.size_toArray, List.length_cons, List.length_nil, Nat.reduceAdd, Nat.reduceSub, Array.replicate_succ, Array.replicate_zero, List.push_toArray, List.append_toArray, List.nil_append, List.cons_append]
  gi_wp2_with (first
    | (show Fence.wide.fn 100 ∧ _ ∧ _; refine ⟨trivial, fun h => (by cases h), ?_⟩; refine (callsIn_wide.2 (block_any a n _ ha ha2 hn hn4)).mono ?_; rintro e w' ⟨rfl, rfl⟩; rw [hfst])
    | (show Fence.wide.fn 91 ∧ _ ∧ _; refine ⟨trivial, fun h => (by cases h), ?_⟩; refine (callsIn_wide.2 (inRow_any a n _)).mono ?_; rintro e w' ⟨rfl, rfl⟩))
  obtain ⟨W0, hW0⟩ : ∃ W0, ((((W.alloc (.cells #[.func (.yield l) #[] #[]] 135)).alloc (.cells #[.int .i64 fst] 92)).alloc (.cells #[.int .i64 a] 92)).alloc (.cells #[.int .i64 n] 3)) = W0 := ⟨_, rfl⟩
  have hs0 : W0.heap.size = W.heap.size + 4 := by rw [← hW0]; simp
  have hb0 : Below W.heap.size W W0 := by
    rw [← hW0]
    exact ((((Below.refl _ W).alloc (by simp) _).alloc (by simp) _).alloc (by simp; omega) _).alloc (by simp; omega) _
  have c1 : W0.cell? ⟨W.heap.size, 0, none⟩ = some (.func (.yield l) #[] #[]) := by
    rw [← hW0]; exact cell_al _ (cell_al _ (cell_al _ (by simp)))
  have c2 : W0.cell? ⟨W.heap.size + 1, 0, none⟩ = some (.int .i64 fst) := by
    rw [← hW0]; exact cell_al _ (cell_al _ (by rw [World.cell?_alloc_at _ _ _ _ (by simp)]; rfl))
  have c3 : W0.cell? ⟨W.heap.size + 1 + 1, 0, none⟩ = some (.int .i64 a) := by
    rw [← hW0]; exact cell_al _ (by rw [World.cell?_alloc_at _ _ _ _ (by simp)]; rfl)
  have c4 : W0.cell? ⟨W.heap.size + 1 + 1 + 1, 0, none⟩ = some (.int .i64 n) := by
    rw [← hW0]; rw [World.cell?_alloc_at _ _ _ _ (by simp)]; rfl
  have c5 : W0.cell? ⟨bm, 0, none⟩ = some (.int .i64 n) := (hb0.cell (p := ⟨bm, 0, none⟩) hbm.2).trans hcm
  rw [hW0]
  clear hca1 hcm1 hW0
  refine wpIn_range (gf := 101) (lb := #[.pointer (some ⟨W.heap.size + 1 + 1 + 1, 0, none⟩), .pointer (some ⟨W.heap.size + 1 + 1, 0, none⟩)]) rfl (enters_of Try.func101 (by kernel_rfl) rfl)
    (inRow1_it a n (W.heap.size + 1 + 1) (W.heap.size + 1 + 1 + 1) ha ha2 hn hn4)
    (fun W' hb => ⟨(hb.cell (p := ⟨_, 0, none⟩) (by show W.heap.size + 1 + 1 < _; omega)).trans c3, (hb.cell (p := ⟨_, 0, none⟩) (by show W.heap.size + 1 + 1 + 1 < _; omega)).trans c4⟩)
    D (fun k hk => by have := hD k hk; omega)
    (fun k hk => ⟨fun e => by have := hD k e; omega, by omega⟩) rfl
    (fun pre W' => J (pre.map (rnd a n)) W' ∧ W'.cell? ⟨W.heap.size, 0, none⟩ = some (.func (.yield l) #[] #[]) ∧ W'.cell? ⟨W.heap.size + 1, 0, none⟩ = some (.int .i64 fst) ∧ W'.cell? ⟨bm, 0, none⟩ = some (.int .i64 n) ∧ Kept D W W' ∧ W.heap.size + 4 ≤ W'.heap.size)
    (fun s A B hs hb => ⟨hJ _ _ _ hs.1 (hb.mono (by omega)), (hb.cell (p := ⟨_, 0, none⟩) (by show W.heap.size < _; omega)).trans hs.2.1, (hb.cell (p := ⟨_, 0, none⟩) (by show W.heap.size + 1 < _; omega)).trans hs.2.2.1, (hb.cell (p := ⟨_, 0, none⟩) (by show bm < _; omega)).trans hs.2.2.2.1, hs.2.2.2.2.1.below hb (by omega), Nat.le_trans hs.2.2.2.2.2 hb.size⟩)
    ⟨hJ _ _ _ h0 hb0, c1, c2, c5, (Kept.refl D W).below hb0 (Nat.le_refl _), by omega⟩
    (fun x => { tmps := #[Value.func (Fn.yield l) #[] #[], Value.pointer (some { block := ba, off := 0 }),
          Value.pointer (some { block := bm, off := 0 }), Value.pointer (some { block := W.heap.size, off := 0 }),
          Value.pointer (some { block := W.heap.size + 1, off := 0 }), Value.int IntKind.i64 x, Value.int IntKind.i64 a,
          Value.int IntKind.i64 n, Value.int IntKind.i64 fst, Value.int IntKind.i64 a, Value.int IntKind.i64 n,
          Value.func (Fn.func 101) #[]
            #[Value.pointer (some { block := W.heap.size + 1 + 1 + 1, off := 0 }),
              Value.pointer (some { block := W.heap.size + 1 + 1, off := 0 })],
          Value.int IntKind.i64 x, undef, undef, undef, undef, undef, undef, undef, undef, undef, undef], defers := [] }) ?assign ?body ?done
  case assign =>
    intro l' x W' m K hK
    gi_wp2
    exact hK
  case body =>
    rintro l' pre x W' m ⟨hj, d1, d2, d3, d4, d5⟩ hpre
    obtain ⟨x1, x2⟩ := rowL_mem hpre
    have q3 : (0 : Int) ≤ (x - fst) % (n : Int) := Int.emod_nonneg _ (by omega)
    have q4 : (x - fst) % (n : Int) < (n : Int) := Int.emod_lt_of_pos _ (by omega)
    have q5 : (0 : Int) ≤ x - fst := by omega
    have erx : rnd a n x = fst + (x - fst) % (n : Int) := by unfold rnd; rw [hfst]
    have hpre' : pre.map (rnd a n) ++ [fst + (x - fst) % (n : Int)] <+: (rowL a n).map (rnd a n) := by
      have := List.IsPrefix.map (rnd a n) hpre
      rw [List.map_append] at this
      simpa [erx] using this
    obtain ⟨fn, tmps, assign, body, hy, hR⟩ := hY (pre.map (rnd a n)) (fst + (x - fst) % (n : Int)) W'.drew (m - 1) (hJ _ _ _ hj ((Below.refl _ _).drew)) hpre'
    have f3 : (0 : Int) ≤ fst := by have := fst_nonneg a n ha; omega
    have hws := wrap_small (x - fst) q5 (by omega)
    have q6 : fst + (x - fst) % (n : Int) ≤ 70 := by omega
    have q7 : 0 ≤ fst + (x - fst) % (n : Int) := by omega
    have hwr := wrap_small _ q7 q6
    have d1' : W'.drew.cell? ⟨W.heap.size, 0, none⟩ = some (.func (.yield l) #[] #[]) := d1
    have d2' : W'.drew.cell? ⟨W.heap.size + 1, 0, none⟩ = some (.int .i64 fst) := d2
    have d3' : W'.drew.cell? ⟨bm, 0, none⟩ = some (.int .i64 n) := d3
    gi_wp2
    have cells : ∀ w, (w = W'.drew ∨ (J (pre.map (rnd a n) ++ [fst + (x - fst) % (n : Int)]) w ∧ Kept D W'.drew w)) → w.cell? ⟨W.heap.size, 0, none⟩ = some (.func (.yield l) #[] #[]) ∧ w.cell? ⟨W.heap.size + 1, 0, none⟩ = some (.int .i64 fst) ∧ w.cell? ⟨bm, 0, none⟩ = some (.int .i64 n) := by
      rintro w (rfl | ⟨_, hk3⟩)
      · exact ⟨d1', d2', d3'⟩
      · exact ⟨(hk3.cell (p := ⟨_, 0, none⟩) (by show W.heap.size < W'.heap.size; omega) (fun e => by have := hD _ e; simp at this)).trans d1, (hk3.cell (p := ⟨_, 0, none⟩) (by show W.heap.size + 1 < W'.heap.size; omega) (fun e => by have := hD _ e; simp at this; omega)).trans d2, (hk3.cell (p := ⟨bm, 0, none⟩) (by show bm < W'.heap.size; omega) hbm.1).trans d3⟩
    refine wpIn_region_det (by kernel_rfl) (rf l fst x n) 8 (fun w => J (pre.map (rnd a n) ++ [fst + (x - fst) % (n : Int)]) w ∧ Kept D W'.drew w) [13, 14, 15, 16, 17, 18, 19, 20, 21, 22] (by kernel_rfl) (by kernel_rfl) ?_ (by decide) ?_
    · intro i o ho
      rcases i with _ | _ | _ | _ | _ | _ | _ | _ | _ | _ | i
      · simp at ho; subst ho
        refine ⟨rfl, (by intro y h; cases h), 13, rfl, fun ρ hs => ⟨fun _ w hw => ?_, fun h => by omega⟩⟩
        obtain ⟨e1, e2, e3⟩ := cells w hw
        have h3 : ρ (.tmp 3) = .pointer (some ⟨W.heap.size, 0, none⟩) := hs.2.1 3 (by kernel_rfl)
        simp only [execOp, h3, rf]
        go_simp
      · simp at ho; subst ho
        refine ⟨rfl, (by intro y h; cases h), 14, rfl, fun ρ hs => ⟨fun _ w hw => ?_, fun h => by omega⟩⟩
        obtain ⟨e1, e2, e3⟩ := cells w hw
        have h3 : ρ (.tmp 4) = .pointer (some ⟨W.heap.size + 1, 0, none⟩) := hs.2.1 4 (by kernel_rfl)
        simp only [execOp, h3, rf]
        go_simp
      · simp at ho; subst ho
        refine ⟨rfl, (by intro y h; cases h), 15, rfl, fun ρ hs => ⟨fun _ w hw => ?_, fun h => by omega⟩⟩
        have h3 : ρ (.tmp 5) = .int .i64 x := hs.2.1 5 (by kernel_rfl)
        simp only [execOp, h3, rf]
        go_simp
      · simp at ho; subst ho
        refine ⟨rfl, (by intro y h; cases h), 16, rfl, fun ρ hs => ⟨fun _ w hw => ?_, fun h => by omega⟩⟩
        obtain ⟨e1, e2, e3⟩ := cells w hw
        have h3 : ρ (.tmp 4) = .pointer (some ⟨W.heap.size + 1, 0, none⟩) := hs.2.1 4 (by kernel_rfl)
        simp only [execOp, h3, rf]
        go_simp
      · simp at ho; subst ho
        refine ⟨rfl, (by intro y h; cases h), 17, rfl, fun ρ hs => ⟨fun _ w hw => ?_, fun h => by omega⟩⟩
        have h3 : ρ (.tmp 15) = .int .i64 x := hs.2.2 15 (by kernel_rfl)
        have h4 : ρ (.tmp 16) = .int .i64 fst := hs.2.2 16 (by kernel_rfl)
        simp only [execOp, h3, h4, rf]
        go_simp
        try exact hws
      · simp at ho; subst ho
        refine ⟨rfl, (by intro y h; cases h), 18, rfl, fun ρ hs => ⟨fun _ w hw => ?_, fun h => by omega⟩⟩
        obtain ⟨e1, e2, e3⟩ := cells w hw
        have h3 : ρ (.tmp 2) = .pointer (some ⟨bm, 0, none⟩) := hs.2.1 2 (by kernel_rfl)
        simp only [execOp, h3, rf]
        go_simp
      · simp at ho; subst ho
        refine ⟨rfl, (by intro y h; cases h), 19, rfl, fun ρ hs => ⟨fun _ w hw => ?_, fun h => by omega⟩⟩
        have h3 : ρ (.tmp 17) = .int .i64 (x - fst) := hs.2.2 17 (by kernel_rfl)
        have h4 : ρ (.tmp 18) = .int .i64 n := hs.2.2 18 (by kernel_rfl)
        simp only [execOp, h3, h4, rf]
        go_simp
        rw [if_neg (by omega), Int.tmod_eq_emod_of_nonneg q5]
      · simp at ho; subst ho
        refine ⟨rfl, (by intro y h; cases h), 20, rfl, fun ρ hs => ⟨fun _ w hw => ?_, fun h => by omega⟩⟩
        have h3 : ρ (.tmp 14) = .int .i64 fst := hs.2.2 14 (by kernel_rfl)
        have h4 : ρ (.tmp 19) = .int .i64 ((x - fst) % (n : Int)) := hs.2.2 19 (by kernel_rfl)
        simp only [execOp, h3, h4, rf]
        go_simp
      · simp at ho; subst ho
        refine ⟨rfl, (by intro y h; cases h), 21, rfl, fun ρ hs => ⟨fun h => by omega, fun _ => ⟨l, fn, tmps, assign, body, ?_, fun m' => ?_⟩⟩⟩
        · have h3 : ρ (.tmp 13) = .func (.yield l) #[] #[] := hs.2.2 13 (by kernel_rfl)
          have h4 : ρ (.tmp 20) = .int .i64 (fst + (x - fst) % (n : Int)) := hs.2.2 20 (by kernel_rfl)
          simp only [execOp, h3, h4]
          go_simp
        · exact round_any rfl (RoundIn.mono hR (fun e w' h => h))
      · simp at ho; subst ho
        refine ⟨rfl, (by intro y h; cases h), 22, rfl, fun ρ hs => ⟨fun _ w hw => ?_, fun h => by omega⟩⟩
        have h3 : ρ (.tmp 21) = .bool true := hs.2.2 21 (by kernel_rfl)
        simp only [execOp, h3, rf]
        go_simp
      · simp at ho
    · rintro W3 ⟨hJ3, hk3⟩
      obtain ⟨e1, e2, e3⟩ := cells W3 (.inr ⟨hJ3, hk3⟩)
      clear cells hy hR hY
      simp only [fill, rf, Act.put, List.setIfInBounds_toArray, List.set_cons_zero, List.set_cons_succ]
      gi_wp2
      exact ⟨(Kept.drew D W').trans hk3, by simpa [erx] using hJ3, e1, e2, e3, d4.trans ((Kept.drew D W').trans hk3), Nat.le_trans d5 hk3.size⟩
  case done =>
    rintro B W' hB ⟨hj, d1, d2, d3, d4, d5⟩ hK
    gi_wp2
    refine ⟨by simp, .inl ⟨_, _, rfl, run_takeDeferred hK, ?_⟩⟩
    exact ⟨_, results_none rfl _ _ _, ⟨_, rfl⟩, hJ _ _ _ hj (below_putObj _ (by omega) _), d4.below (below_putObj _ (show W.heap.size ≤ B by omega) _) (Nat.le_refl _)⟩

end Go.Proofs.Ytlifkfemdknndaa

namespace Go.Proofs.Ytlifkfemdknndaa
open Go.RowKit Go.Shelf
set_option linter.unusedSimpArgs false
set_option linter.unusedVariables false
attribute [local go_sem] Oper.semAt_some

theorem run_append_in {P : Program} {ρ : Operand → Value} {o : Oper} {w : World} {s x g cap n b c : Nat} {xs : List Value} {u : Value} (T E : TypeId) (i : TypeInfo)
    (ht : P.underlying T = some (.slice E)) (hi : P.info? E = some i) (hsz : i.size = 1)
    (ho : o.op = .call { callee := .builtin .append, args := #[.tmp s, .tmp x], argTypes := #[T, T] })
    (hs : ρ (.tmp s) = .slice (some ⟨g, 0, none⟩) n cap) (hW : ORow E 1 w g cap n xs) (hx : ρ (.tmp x) = .slice (some ⟨b, 0, none⟩) 1 c)
    (hu : w.cell? ⟨b, 0, none⟩ = some u) (h1 : u.oneCell' = true) (hr : n + 1 ≤ cap) :
    ∃ w', (execOp ρ o).run P w = .ok (.value (.slice (some ⟨g, 0, none⟩) (n + 1) cap)) w' ∧ ORow E 1 w' g cap (n + 1) (xs ++ [u]) ∧ Grew w w' g := by
  obtain ⟨cur, c1, c2, c3, c4, c5⟩ := hW
  have hrun := run_append_room (P := P) w T o.type E i ht hi g n cap cur c1 ⟨b, 0, none⟩ 1 c [u] (by rw [hsz]; rfl) (by
      intro j v hj
      rcases j with _ | j
      · simp at hj; subst hj; rw [Addr.add_lit]; simpa using hu
      · simp at hj) (by simpa using h1) hr (by rw [hsz]; simp; omega)
  rw [hsz] at hrun
  have hheap := setRow_heap w g cur (cur.toList.take (n * 1) ++ [u] ++ cur.toList.drop (n * 1 + [u].length)).toArray E (0, 0) c1
  have hlen : (cur.toList.take (n * 1)).length = n * 1 := by rw [c5]; exact c4
  refine ⟨_, ?_, ⟨_, hheap, ?_, hr, ?_, ?_⟩, ⟨rfl, rfl, rfl, by simp, fun k _ hk => setRow_other w g k _ hk⟩⟩
  · unfold execOp
    simp only [ho, resolve, invoke, builtin, Sem.run_bind, Sem.run_pure, Result.andThen_ok, List.map_toArray, List.map_cons, List.map_nil, hs, hx, hrun]
  · simp only [List.size_toArray, List.length_append, hlen, List.length_drop, Array.length_toList, c2, List.length_cons, List.length_nil]
    omega
  · simp [c4]
  · have hxy : (cur.toList.take (n * 1) ++ [u]).length = (n + 1) * 1 := by rw [List.length_append, hlen]; simp
    show (cur.toList.take (n * 1) ++ [u] ++ cur.toList.drop (n * 1 + [u].length)).take ((n + 1) * 1) = xs ++ [u]
    rw [List.take_append_of_le_length (by rw [hxy]; exact Nat.le_refl _), ← hxy, List.take_length, c5]

theorem wpListIn_append_in {F : Fence} {m : Nat} {P : Program} (w : World) {ops : Array Oper} {rest : List Oper} {o : Oper} {a : Act} {Q : Exit → Act → World → Prop}
    (hg : o.guard = none) {s x g cap n b c : Nat} {xs : List Value} {u : Value} (T E : TypeId) (i : TypeInfo)
    (ht : P.underlying T = some (.slice E)) (hi : P.info? E = some i) (hsz : i.size = 1)
    (ho : o.op = .call { callee := .builtin .append, args := #[.tmp s, .tmp x], argTypes := #[T, T] })
    (hs : a.eval (.tmp s) = .slice (some ⟨g, 0, none⟩) n cap) (hW : ORow E 1 w g cap n xs) (hx : a.eval (.tmp x) = .slice (some ⟨b, 0, none⟩) 1 c)
    (hu : w.cell? ⟨b, 0, none⟩ = some u) (h1 : u.oneCell' = true) (hr : n + 1 ≤ cap)
    (hK : ∀ w', ORow E 1 w' g cap (n + 1) (xs ++ [u]) → Grew w w' g → wpListIn F m P ops Q rest (a.put o.dst (.slice (some ⟨g, 0, none⟩) (n + 1) cap)) w') : wpListIn F m P ops Q (o :: rest) a w := by
  refine wpListIn_plain hg fun K hK' => ?_
  obtain ⟨w', hrun, r1, r2⟩ := run_append_in (P := P) T E i ht hi hsz ho hs hW hx hu h1 hr
  unfold Oper.wpIn
  refine ⟨?_, ?_⟩
  · simp [Oper.about, ho, resolve, Target.leads, Sem.run_pure]
  · rw [Oper.semAt_plain _ _ _ (by rw [ho]; intro c h; cases h), hrun]
    exact hK' _ _ (hK w' r1 r2)

theorem ORow.of_own {w : World} {base g n cap : Nat} {l : List Value} {E : Nat} (h : w.ownsRow base E 1 (.slice (some ⟨g, 0, none⟩) n cap) n l) : ORow E 1 w g cap n l := by
  obtain ⟨hl, h | ⟨g', cap', cur, hv, h1, h2, h3, h4, h5, h6⟩⟩ := h
  · simp at h
  · simp at hv
    obtain ⟨rfl, rfl⟩ := hv
    exact ⟨cur, h2, h5, h3, hl, h6⟩
theorem ORow.below {E s : Nat} {w w' : World} {b cap n : Nat} {cs : List Value} {M : Nat} (h : ORow E s w b cap n cs) (hb : Below M w w') (hM : b < M) : ORow E s w' b cap n cs := h.of (hb.block b hM)

/-- the addresses of a burst, as the program's iterators tell them -/
def itL (a : Int) (n : Nat) (wrap : Bool) : List Int := if wrap then (rowL a n).map (rnd a n) else rowL a n
theorem itL_len (a : Int) (n : Nat) (wrap : Bool) : (itL a n wrap).length = n := by cases wrap <;> simp [itL, rowL]
theorem itL_burst {a : Int} {n : Nat} {wrap : Bool} (h : adrOkB a n wrap = true) : itL a n wrap = burst a n wrap := by
  rw [burst_ok h]
  cases wrap
  · simp [itL, rowL, burstAt]
  · simp only [itL, rowL, if_true, List.map_map]
    refine List.map_congr_left fun k _ => ?_
    simp [rnd, burstAt]

theorem burst_it (a : Int) (n b : Nat) (wrap : Bool) (ha : 0 ≤ a) (ha2 : a ≤ 63) (hn : 1 ≤ n) (hn4 : n ≤ 4) :
    ∃ gf lb, itV b wrap = .func (.func gf) #[] lb ∧
      (∀ args w, (callFunc gf args).run Try.prog w = .ok (.enter gf args) w) ∧
      ItOk Try.prog gf lb (Value.int .i64) (fun W => W.cell? ⟨b, 0, none⟩ = some (.int .i64 a) ∧ W.cell? ⟨b + 1, 0, none⟩ = some (.int .i64 n)) (fun k => k = b ∨ k = b + 1) (itL a n wrap) := by
  cases wrap
  · exact ⟨_, _, rfl, enters_of Try.func101 (by kernel_rfl) rfl, inRow1_it a n b (b + 1) ha ha2 hn hn4⟩
  · exact ⟨_, _, rfl, enters_of Try.func99 (by kernel_rfl) rfl, round1_it a n b (b + 1) ha ha2 hn hn4⟩

set_option maxRecDepth 100000 in
set_option maxHeartbeats 400000 in
theorem impl_AdrBurst (a m : Int) (wrap : Bool) (w : World) :
    Calls Try.prog 24 #[.int .i64 a, .int .i64 m, .bool wrap] w fun e w' => ∃ p cap, e = .returned (.slice p (burst a m wrap).length cap) ∧ IntsAt w' p (burst a m wrap) ∧ (∀ g off, p = some ⟨g, off, none⟩ → w.heap.size ≤ g) ∧ (burst a m wrap).length ≤ cap ∧ cap ≤ 9223372036854775807 ∧ Below w.heap.size w w' ∧ (burst a m wrap = [] ∨ ∃ g, p = some ⟨g, 0, none⟩ ∧ w.heap.size ≤ g ∧ ORow 3 1 w' g cap (burst a m wrap).length ((burst a m wrap).map (Value.int .i64))) := by
  cases hok : adrOkB a m wrap
  · have hb := burst_no hok
    have HB := Hid.intro hb
    clear hb
    go_enter Try.func24, Try.ntmps24
    go_wp2_with (go_at_call 36; refine (impl_AdrOk _ _ _ _).mono ?_; rintro e w' ⟨rfl, rfl⟩)
    go_ret
    refine ⟨none, 0, ?_, .inl HB.out, (by intro g off h; cases h), by rw [HB.out]; simp, by omega, Below.refl _ _, .inl HB.out⟩
    rw [HB.out]; rfl
  · obtain ⟨h1, h2, h3, h4⟩ := (adrOk_iff a m wrap).1 hok
    obtain ⟨n, rfl⟩ := Int.eq_ofNat_of_zero_le (show 0 ≤ m by omega)
    have hn1 : 1 ≤ n := by omega
    have hn4 : n ≤ 4 := by omega
    have HIB := Hid.intro (itL_burst hok)
    have HOK := Hid.intro hok
    clear h3 h4
    obtain ⟨i0, hi, hz0, hz1, hz2⟩ := info_parts Try.infoInt
    refine (callsIn_wide (n := 9)).1 ?_
    refine callsIn_of_wp_marks Try.func24 rfl trivial ?_ rfl
    simp only [Try.ntmps24, List.size_toArray, List.length_cons, List.length_nil, Nat.reduceAdd, Nat.reduceSub, Array.replicate_succ, Array.replicate_zero, List.push_toArray, List.append_toArray, List.nil_append, List.cons_append]
    gi_wp2_with (first
      | (show Fence.wide.fn 36 ∧ _; refine ⟨trivial, ?_⟩; refine (callsIn_wide.2 (impl_AdrOk _ _ _ _)).mono ?_; rintro e w' ⟨rfl, hw⟩; replace hw := hw.symm; subst hw)
      | (gi_at_make; refine wpListIn_make_own _ rfl _ _ 24 rfl w.heap.size 3 i0 (.int .i64 0) 1 Try.underlying24 hi hz0 hz1 .i64 .i64 n n rfl rfl rfl (by rw [hz2]; omega) (by unfold maxLen; omega) (Nat.le_refl _) ?_; intro w1 hown1 hgrow1)
      | (show Fence.wide.fn 60 ∧ _; refine ⟨trivial, ?_⟩; refine (callsIn_wide.2 (burst_any a n wrap _)).mono ?_; rintro e w' ⟨rfl, hw⟩; subst hw))
    have hORow1 := ORow.of_own hown1
    have hs1 : w.heap.size < w1.heap.size := hORow1.lt
    have hb1 : Below w.heap.size w w1 := (Below.refl _ w).grown hgrow1 (Nat.le_refl _) (fun k h => by cases h)
    obtain ⟨W0, hW0⟩ : ∃ W0, (((w1.alloc (.cells #[.slice (some ⟨w.heap.size, 0, none⟩) 0 n] 24)).alloc (.cells #[.int .i64 a] 92)).alloc (.cells #[.int .i64 n] 3)) = W0 := ⟨_, rfl⟩
    have hs0 : W0.heap.size = w1.heap.size + 3 := by rw [← hW0]; simp
    have hb0 : Below w1.heap.size w1 W0 := by
      rw [← hW0]
      exact (((Below.refl _ w1).alloc (by simp) _).alloc (by simp) _).alloc (by simp; omega) _
    have c1 : Boxed W0 w1.heap.size 24 (.slice (some ⟨w.heap.size, 0, none⟩) 0 n) := by
      rw [← hW0]; exact ((Boxed.new w1 _ _).alloc _).alloc _
    have c2 : W0.cell? ⟨w1.heap.size + 1, 0, none⟩ = some (.int .i64 a) := by
      rw [← hW0]; exact cell_al _ (by rw [World.cell?_alloc_at _ _ _ _ (by simp)]; rfl)
    have c3 : W0.cell? ⟨w1.heap.size + 1 + 1, 0, none⟩ = some (.int .i64 n) := by
      rw [← hW0]; rw [World.cell?_alloc_at _ _ _ _ (by simp)]; rfl
    rw [hW0]
    clear hW0
    obtain ⟨gf, lb, hgf, heg, hit⟩ := burst_it a n (w1.heap.size + 1) wrap h1 h2 hn1 hn4
    refine wpIn_range (gf := gf) (lb := lb) hgf heg hit
      (fun W' hb => ⟨(hb.cell (p := ⟨_, 0, none⟩) (by show w1.heap.size + 1 < _; omega)).trans c2, (hb.cell (p := ⟨_, 0, none⟩) (by show w1.heap.size + 1 + 1 < _; omega)).trans c3⟩)
      (fun k => k = w.heap.size ∨ k = w1.heap.size) (fun k hk => by omega)
      (fun k hk => ⟨fun e => by omega, by omega⟩) rfl
      (fun pre W' => Boxed W' w1.heap.size 24 (.slice (some ⟨w.heap.size, 0, none⟩) pre.length n) ∧ ORow 3 1 W' w.heap.size n pre.length (pre.map (Value.int .i64)) ∧ Below w.heap.size w W')
      (fun s A B hs hb => ⟨(hb.block _ (by omega)).trans hs.1, hs.2.1.below hb (by omega), hs.2.2.trans (hb.mono (by omega))⟩)
      ⟨c1, hORow1.below hb0 hs1, hb1.trans (hb0.mono (by omega))⟩
      (fun x => { tmps := #[Value.int IntKind.i64 a, Value.int IntKind.i64 n, Value.bool wrap, undef, undef, undef,
          Value.slice none 0 0, Value.pointer (some { block := w1.heap.size, off := 0 }), Value.int IntKind.i64 x,
          Value.int IntKind.i64 a, Value.int IntKind.i64 n, Value.bool wrap, Value.bool true, Value.bool false,
          Value.int IntKind.i64 n, Value.slice (some { block := w.heap.size, off := 0 }) 0 n, Value.int IntKind.i64 a,
          Value.int IntKind.i64 n, Value.bool wrap, Value.func (Fn.func gf) #[] lb,
          Value.int IntKind.i64 x, undef, undef, undef, undef, undef], defers := [] }) ?assign ?body ?done
    case assign =>
      intro l' x W' m K hK
      gi_wp2
      exact hK
    case body =>
      rintro l' pre x W' m ⟨hbx, hrow, hbl⟩ hpre
      have hlen : pre.length + 1 ≤ n := by
        have := hpre.length_le
        rw [itL_len] at this
        simpa using this
      have hcell := hbx.cell
      have hfr := hbx.frozen
      have hbxlt := hbx.lt
      have hrlt := hrow.lt
      gi_wp2_with (gi_at_builtin; refine wpListIn_append_in _ rfl 24 3 i0 Try.underlying24 hi hz1 rfl (g := w.heap.size) (cap := n) (n := pre.length) (b := W'.heap.size) (c := 1) (u := .int .i64 x) rfl (hrow.of (Below.heap_alloc _ _ _ hrlt)) rfl (by simp) rfl hlen ?_; intro w2 hrow2 hgr2; have hbx2 : Boxed w2 w1.heap.size 24 (.slice (some ⟨w.heap.size, 0, none⟩) pre.length n) := (hgr2.block _ (by simp; omega) (by omega)).trans (hbx.alloc _); have hc2 := hbx2.cell; have hf2 := hbx2.frozen)
      have hkp : Kept (fun k => k = w.heap.size ∨ k = w1.heap.size) W' (w2.setCell ⟨w1.heap.size, 0, none⟩ (.slice (some ⟨w.heap.size, 0, none⟩) (pre.length + 1) n)) := by
        refine Kept.trans (B := w2) ⟨hgr2.os, hgr2.tape, hgr2.output, Nat.le_trans (by simp) hgr2.size, fun k hk hd => (hgr2.block k (by simp; omega) (fun e => hd (.inl e))).trans (Below.heap_alloc _ _ _ hk)⟩ ?_
        exact Kept.setCell _ (.inr rfl) _
      refine ⟨hkp, ?_, ?_, ?_⟩
      · rw [List.length_append]
        exact hbx2.set _
      · rw [List.length_append, List.map_append]
        exact hrow2.of (Below.heap_setCell _ _ _ _ (by show w.heap.size ≠ w1.heap.size; omega))
      · refine hbl.trans ⟨hkp.os, hkp.tape, hkp.output, hkp.size, fun k hk => hkp.block k (by have := hbl.size; omega) (by omega)⟩
    case done =>
      rintro B W' hB ⟨hbx, hrow, hbl⟩ hK
      have hcell := hbx.cell
      have hfr := hbx.frozen
      gi_wp2
      refine ⟨by simp, .inl ⟨_, _, rfl, run_takeDeferred hK, ?_⟩⟩
      have hput : Below w.heap.size W' (W'.putObj B (.deferred none)) := below_putObj _ (by omega) _
      have hE := HIB.out
      refine ⟨_, results_tmp rfl _ _ _, some ⟨w.heap.size, 0, none⟩, n, ?_, ?_, ?_, ?_, by omega, hbl.trans hput, ?_⟩
      · rw [← hE]; rfl
      · rw [← hE]
        refine .inr ⟨w.heap.size, 0, rfl, by have := hrow.lt; simpa using this, fun k hk => ?_⟩
        have := (hrow.of (World.putObj_heap_other (o := .deferred none) (show w.heap.size ≠ B by omega))).get k (.int .i64 (itL a n wrap)[k]) (by simp [hk])
        simpa using this
      · intro g off h
        simp at h
        omega
      · rw [← hE, itL_len]; exact Nat.le_refl _
      · rw [← hE]
        exact .inr ⟨w.heap.size, rfl, Nat.le_refl _, hrow.of (World.putObj_heap_other (o := .deferred none) (show w.heap.size ≠ B by omega))⟩

end Go.Proofs.Ytlifkfemdknndaa
