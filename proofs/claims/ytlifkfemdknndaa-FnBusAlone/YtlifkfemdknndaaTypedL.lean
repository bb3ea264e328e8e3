/-
  A region that draws its order and whose last operation waits for all others: the others walked once, by kinds; the last one as any operation.
-/
import Derived.Test.YtlifkfemdknndaaOpsXM
namespace Go.Proofs.Ytlifkfemdknndaa
open Go.RowKit
set_option linter.unusedSimpArgs false
set_option linter.unusedVariables false

/-- the operation at n waits for all below n -/
def lastB (ops : Array Oper) (n : Nat) : Bool := match ops[n]? with
  | some o => (List.range n).all (fun i => o.after.toList.any (fun e => Region.binds .any e && e.on == i))
  | none => false

theorem last_of {ops : Array Oper} {n : Nat} (h : lastB ops n = true) {o : Oper} (ho : ops[n]? = some o) (i : Nat) (hi : i < n) : ∃ e ∈ o.after.toList, Region.binds .any e = true ∧ e.on = i := by
  simp only [lastB, ho, List.all_eq_true, List.mem_range, List.any_eq_true, Bool.and_eq_true, beq_iff_eq] at h
  obtain ⟨e, h1, h2, h3⟩ := h i hi
  exact ⟨e, h1, h2, h3⟩

theorem cnt_lt (listed : Array Bool) (n : Nat) (hn : n < listed.size) (h : listed.getD n true = false) : cnt listed < listed.size := by
  rcases Nat.lt_or_ge (cnt listed) listed.size with h' | h'
  · exact h'
  · have h1 := cnt_all listed (Nat.le_antisymm (cnt_le listed) h') n hn
    have h2 : listed.getD n true = true := by simp [hn] at h1 ⊢; exact h1
    rw [h] at h2; cases h2

theorem cnt_full (listed : Array Bool) (n : Nat) (hs : listed.size = n + 1) (h : ∀ i, i < n → listed.getD i false = true) : n ≤ cnt listed := by
  obtain ⟨l⟩ := listed
  simp at hs
  simp only [cnt]
  have : l.take n = List.replicate n true := by
    apply List.ext_getElem
    · simp; omega
    · intro i h1 h2
      have hi : i < n := by simp at h2; exact h2
      have := h i hi
      have hl : i < l.length := by omega
      simp [hl] at this
      simp [this]
  have h2 : n = ((l.take n).filter (fun b => b)).length := by rw [this]; simp
  have h3 : ((l.take n).filter (fun b => b)).length ≤ (l.filter (fun b => b)).length := by
    conv => rhs; rw [← List.take_append_drop n l, List.filter_append]
    simp
  omega

section
variable {P : Program} {ops : Array Oper} {a0 : Act} {R : World → World → Prop} {C : Nat → World → Prop} {T : Nat → World → Value → Prop} {Q : Exit → Act → World → Prop}

theorem any_typedL {n : Nat} {last : Oper} (hsz : ops.size = n + 1) (hlast : ops[n]? = some last) (hall : lastB ops n = true)
    (hform : formB ops a0.tmps.size = true) (hT : ∀ d w w' v, R w w' → T d w v → T d w' v) (hop : ∀ o ∈ ops.toList.take n, OpTyG P ops a0 R C T o)
    (hQ : ∀ listed a w, (∀ i, i < n → listed.getD i false = true) → Inv ops a0 C T n listed a w → wpList P ops Q [last] a w) :
    ∀ (fuel k : Nat) (listed : Array Bool) (a : Act) (w : World), listed.size = ops.size → cnt listed = k → k + fuel = ops.size → listed.getD n true = false → Inv ops a0 C T k listed a w → wpAny P .any ops Q fuel listed a w := by
  intro fuel
  induction fuel with
  | zero =>
    intro k listed a w hls hc hk hn hI
    exfalso
    have := cnt_lt listed n (by omega) hn
    omega
  | succ fuel ih =>
    intro k listed a w hls hc hk hn hI
    refine ⟨fun hr => ?_, fun i hi => ?_⟩
    · exfalso
      have h1 := ready_of_form hform listed hls hr n (by omega)
      have hl : n < listed.size := by omega
      simp [hl] at h1 hn
      rw [hn] at h1; cases h1
    · obtain ⟨h0, o, ho, hafter⟩ := mem_ready.1 hi
      have hI' := hI
      obtain ⟨hC, hd, hs, hout, hty⟩ := hI
      have hin : i < ops.size := (Array.getElem?_eq_some_iff.1 ho).1
      by_cases hin' : i = n
      · subst hin'
        rw [hlast] at ho; cases ho
        have hl : ∀ j, j < i → listed.getD j false = true := fun j hj => by
          obtain ⟨e, h1, h2, h3⟩ := last_of hall hlast j hj
          have := hafter e (by simpa using h1) h2
          rwa [h3] at this
        have hfull := cnt_full listed i (by omega) hl
        have hlt := cnt_lt listed i (by omega) hn
        have hki : k = i := by omega
        subst hki
        have hw := hQ listed a w hl hI'
        have hf : fuel = 0 := by omega
        subst hf
        have hready : Region.ready .any ops (listed.setIfInBounds k true) = [] := by
          rw [List.eq_nil_iff_forall_not_mem]
          intro j hj
          obtain ⟨g0, oj, goj, _⟩ := mem_ready.1 hj
          have hjlt := (Array.getElem?_eq_some_iff.1 goj).1
          by_cases hjk : j = k
          · subst hjk
            have : j < listed.size := by omega
            simp [this] at g0
          · rw [getD_set_ne true (Ne.symm hjk)] at g0
            have := hl j (by omega)
            have hjl : j < listed.size := by omega
            simp [hjl] at g0 this
            rw [g0] at this; cases this
        have hK : ∀ a w, Q .normal a w → wpAny P .any ops Q 0 (listed.setIfInBounds k true) a w := fun a w h => ⟨hready, h⟩
        unfold wpOp
        simp only [hlast]
        simp only [wpList] at hw
        by_cases hwt : Region.wanted last (yielded ops a.tmps) = true
        · rw [if_pos hwt] at hw ⊢
          exact hw.imp (fun h => Oper.wp_mono hK h) id
        · rw [if_neg hwt] at hw ⊢
          exact hK _ _ hw
      · have hlt : i < n := by omega
        have mem : o ∈ ops.toList.take n := by
          obtain ⟨hlt', rfl⟩ := Array.getElem?_eq_some_iff.1 ho
          exact List.mem_take_iff_getElem.2 ⟨i, by simp; omega, by simp⟩
        have hguard := hop o mem
        have hnext : ∀ (w' : World) (v : Value), (C (k + 1) w' ∧ R w w' ∧ ∀ d, o.dst = some d → T d w' v) → wpAny P .any ops Q fuel (listed.setIfInBounds i true) (a.put o.dst v) w' := fun w' v ⟨g1, g2, g3⟩ =>
          ih (k + 1) _ _ _ (by simp [hls]) (by rw [cnt_set _ _ h0, hc]) (by omega) (by rw [getD_set_ne true hin']; exact hn) (hI'.put hform hls hT ho g1 g2 g3)
        have cases2 : (Region.wanted o (yielded ops a.tmps) = true ∧ OpTy P ops a0 R C T o) ∨ (Region.wanted o (yielded ops a.tmps) = false ∧ (∀ w, R w w) ∧ (∀ k w, C k w → C (k + 1) w) ∧ ∀ d', o.dst = some d' → ∀ w, T d' w undef) := by
          rcases hguard with ⟨hg, hH⟩ | ⟨g, b, c, og, d, hg, hog, hod, hTd, ⟨e, he, hbd, heg⟩, hcase⟩
          · exact .inl ⟨by simp [Region.wanted, hg], hH⟩
          · have hv := hty g og d hog (by rw [← heg]; exact hafter e (by simpa using he) hbd) hod
            rw [hTd] at hv
            have hv : a.eval (.tmp d) = .bool c := hv
            have hy : yielded ops a.tmps g = some c := by
              simp only [Act.eval] at hv
              simp [yielded, hog, hod]
              simp at hv
              cases hx : a.tmps[d]? with
              | none => rw [hx] at hv; cases hv
              | some x => rw [hx] at hv; simp at hv; subst hv; rfl
            rcases hcase with ⟨hcb, hH⟩ | ⟨hcb, hrr, h1, h2⟩
            · exact .inl ⟨by simp [Region.wanted, hg, hy, hcb], hH⟩
            · exact .inr ⟨by simp [Region.wanted, hg, hy]; exact hcb, hrr, h1, h2⟩
        unfold wpOp
        simp only [ho]
        rcases cases2 with ⟨hw, hoty⟩ | ⟨hw, hrr, hCn, hun⟩
        rotate_left
        · simp only [hw]
          exact hnext w undef ⟨hCn k w hC, hrr w, fun d' hd' => hun d' hd' w⟩
        have H := hoty k a.eval w (fun _ => rfl) (fun _ => rfl) hout (fun e he hb oe d hoe hde => hty e.on oe d hoe (hafter e (by simpa using he) hb) hde) (by omega) hC
        simp only [hw, if_true]
        refine .inl ?_
        unfold Oper.wp
        generalize (execOp a.eval o).run P w = r at H
        cases r with
        | ok nx w' =>
          cases nx <;> simp only [tyUpon] at H <;> simp only [Oper.upon]
          case value v => exact hnext _ _ H
          case skip => exact hnext _ _ H
          case enter f args =>
            refine H.mono ?_
            rintro e w'' ⟨v, rfl, hG⟩
            exact hnext _ _ hG
        | halt x w' => simp only [tyUpon] at H

/-- THE LAW: one look at each operation but the last serves every order; the last one is walked as it stands. -/
theorem wp_region_then {id : Nat} {w0 : World} (hm : P.follows .mixedOrders = true) (R : World → World → Prop) (C : Nat → World → Prop) (T : Nat → World → Value → Prop) (n : Nat) (last : Oper) (dsts : List Nat)
    (hsz : ops.size = n + 1) (hlast : ops[n]? = some last) (hall : lastB ops n = true) (hds : (ops.toList.take n).filterMap (·.dst) = dsts) (hnd : last.dst = none)
    (hform : formB ops a0.tmps.size = true) (hT : ∀ d w w' v, R w w' → T d w v → T d w' v) (h0 : C 0 { w0 with drawn := w0.drawn + 1 })
    (hop : ∀ o ∈ ops.toList.take n, OpTyG P ops a0 R C T o)
    (hQ : ∀ (f : Nat → Value) (w : World), C n w → (∀ d ∈ dsts, T d w (f d)) → wpList P ops Q [last] (fill a0 f dsts) w) : (Code.region id ops true).wp P Q a0 w0 := by
  have hall' : ops.toList.filterMap (·.dst) = dsts := by
    have e : ops.toList = ops.toList.take n ++ [last] := by
      obtain ⟨hlt, hl⟩ := Array.getElem?_eq_some_iff.1 hlast
      have h1 : ops.toList.take (n + 1) = ops.toList.take n ++ [last] := by rw [List.take_succ_eq_append_getElem (by simpa using hlt)]; simp [hl]
      rw [← h1, List.take_of_length_le (by simp; omega)]
    rw [e, List.filterMap_append, hds]; simp [hnd]
  refine wp_region_any hm (any_typedL hsz hlast hall hform hT hop ?_ ops.size 0 _ a0 _ (by simp) (cnt_none _) (by omega) (by simp [hsz]) ⟨h0, rfl, rfl, fun _ _ => rfl, fun j o d hj hl _ => ?_⟩)
  · rintro listed a w hl ⟨h1, h2, h3, h4, h5⟩
    have hfill : a = fill a0 (fun d => a.eval (.tmp d)) dsts := by
      have hz := fill_size a0 (fun d => a.eval (.tmp d)) dsts
      obtain ⟨at1, ad⟩ := a
      have e1 : at1 = (fill a0 (fun d => (Act.mk at1 ad).eval (.tmp d)) dsts).tmps := by
        refine Array.ext_getElem? fun j => ?_
        by_cases hj : j < a0.tmps.size
        · rw [fill_at _ _ _ hj]
          have hj' : j < at1.size := by simpa [h3] using hj
          by_cases hm : j ∈ dsts
          · simp [hm, Act.eval, hj']
          · have := h4 j (fun x hx e => hm (by rw [← hall']; exact List.mem_filterMap.2 ⟨x, hx, e⟩))
            simp [Act.eval, hj, hj'] at this
            simp [hm, hj, hj', this]
        · rw [Array.getElem?_eq_none (by simp at h3; omega), Array.getElem?_eq_none (by rw [hz.1]; omega)]
      have e2 : ad = (fill a0 (fun d => (Act.mk at1 ad).eval (.tmp d)) dsts).defers := by rw [hz.2]; exact h2
      generalize fill a0 (fun d => (Act.mk at1 ad).eval (.tmp d)) dsts = x at *
      cases x
      simp_all
    rw [hfill]
    refine hQ _ w h1 (fun d hd => ?_)
    rw [← hds] at hd
    obtain ⟨o, ho, hod⟩ := List.mem_filterMap.1 hd
    obtain ⟨j, hj, rfl⟩ := List.mem_take_iff_getElem.1 ho
    have hjn : j < n := by omega
    have hjs : j < ops.size := by omega
    exact h5 j ops[j] d (by simp [hjs]) (hl j hjn) (by simpa using hod)
  · exfalso
    have hlt := (Array.getElem?_eq_some_iff.1 hj).1
    simp [hlt] at hl
end

end Go.Proofs.Ytlifkfemdknndaa
