/-
  A region in a round that draws its order, of which one operation calls yield and all others read: walked once.
-/
import Derived.Test.YtdjmjdljgdagcaaRFun
import Derived.Test.YtdjmjdljgdagcaaOps
namespace Go.Proofs.Ytdjmjdljgdagcaa
open Go.RowKit Go.Shelf
set_option linter.unusedSimpArgs false
set_option linter.unusedVariables false

/-- what is known of the slots when an operation comes up -/
def Seen (ops : Array Oper) (a0 : Act) (f : Nat → Value) (o : Oper) (ρ : Operand → Value) : Prop :=
  (∀ v, ρ (.const v) = v) ∧ (∀ t, outB ops t = true → ρ (.tmp t) = a0.eval (.tmp t)) ∧ (∀ t, depB ops o t = true → ρ (.tmp t) = f t)

theorem any_det {P : Program} {ops : Array Oper} {a0 : Act} {Q : Exit → Act → World → Prop} {l' m : Nat} (f : Nat → Value) (c : Nat) (W1 : World) (Post : World → Prop)
    (hform : formB ops a0.tmps.size = true)
    (hop : ∀ (i : Nat) (o : Oper), ops[i]? = some o → o.guard = none ∧ (∀ x, o.op ≠ .defer x) ∧ ∃ d, o.dst = some d ∧ ∀ ρ, Seen ops a0 f o ρ →
      ((i ≠ c → ∀ w, (w = W1 ∨ Post w) → (execOp ρ o).run P w = .ok (.value (f d)) w) ∧
       (i = c → ∃ l f' tmps assign body, (execOp ρ o).run P W1 = .ok (.round l f' tmps assign body) W1 ∧ ∀ m, RoundIn Fence.wide m P l f' tmps assign body W1 (fun e w'' => e = .returned (f d) ∧ Post w''))))
    (hc : c < ops.size)
    (hQ : ∀ a w, Inv ops a0 (fun _ _ => True) (fun d _ v => v = f d) ops.size (Array.replicate ops.size true) a w → Post w → Q .normal a w) :
    ∀ (fuel k : Nat) (listed : Array Bool) (a : Act) (w : World), listed.size = ops.size → cnt listed = k → k + fuel = ops.size → Inv ops a0 (fun _ _ => True) (fun d _ v => v = f d) k listed a w →
      ((listed.getD c true = false → w = W1) ∧ (listed.getD c true = true → Post w)) → wpAnyIn (Fence.wide.inRound l') m P .any ops Q fuel listed a w := by
  have done : ∀ (listed : Array Bool) (a : Act) (w : World), listed.size = ops.size → cnt listed = ops.size → Inv ops a0 (fun _ _ => True) (fun d _ v => v = f d) ops.size listed a w → (listed.getD c true = true → Post w) → Q .normal a w := by
    intro listed a w hls hcn hI hp
    obtain ⟨h1, h2, h3, h4, h5⟩ := hI
    have hall : ∀ j, j < ops.size → listed.getD j false = true := fun j hj => cnt_all listed (by omega) j (by omega)
    refine hQ a w ⟨h1, h2, h3, h4, fun j o d hj _ hd => h5 j o d hj (hall j (Array.getElem?_eq_some_iff.1 hj).1) hd⟩ (hp ?_)
    have := hall c hc
    have hl : c < listed.size := by omega
    simpa [hl] using this
  have allc : ∀ (listed : Array Bool), listed.size = ops.size → (∀ i, i < ops.size → listed.getD i false = true) → cnt listed = ops.size := by
    intro listed hls hall
    obtain ⟨l⟩ := listed
    simp at hls
    simp only [cnt]
    rw [← hls]
    have : ∀ b ∈ l, b = true := by
      intro b hb
      obtain ⟨n, hn, rfl⟩ := List.mem_iff_getElem.1 hb
      have := hall n (by omega)
      simpa [hn] using this
    rw [List.filter_eq_self.2 (by simpa using this)]
  intro fuel
  induction fuel with
  | zero =>
    intro k listed a w hls hcn hk hI hp
    have hk' : k = ops.size := by omega
    subst hk'
    refine ⟨?_, done listed a w hls (by omega) hI hp.2⟩
    rw [List.eq_nil_iff_forall_not_mem]
    intro j hj
    obtain ⟨h0, o, ho, _⟩ := mem_ready.1 hj
    have hlt := (Array.getElem?_eq_some_iff.1 ho).1
    have h1 := cnt_all listed (by omega) j (by omega)
    have hl : j < listed.size := by omega
    simp [hl] at h0 h1
    rw [h0] at h1
    cases h1
  | succ fuel ih =>
    intro k listed a w hls hcn hk hI hp
    refine ⟨fun hr => ?_, fun i hi => ?_⟩
    · have hall := allc listed hls (ready_of_form hform listed hls hr)
      have hk' : k = ops.size := by omega
      subst hk'
      exact done listed a w hls hall hI hp.2
    · obtain ⟨h0, o, ho, hafter⟩ := mem_ready.1 hi
      have hI' := hI
      obtain ⟨hC, hd, hs, hout, hty⟩ := hI
      obtain ⟨hg, hnd, d, hod, hrun⟩ := hop i o ho
      have hlt := (Array.getElem?_eq_some_iff.1 ho).1
      have hseen : Seen ops a0 f o a.eval := by
        refine ⟨fun _ => rfl, fun t ht => hout t (out_of ht), fun t ht => ?_⟩
        exact dep_of (T := fun d _ v => v = f d) (w := w) ht (fun e he hb oe d' hoe hde => hty e.on oe d' hoe (hafter e (by simpa using he) hb) hde)
      obtain ⟨r1, r2⟩ := hrun a.eval hseen
      have hnext : ∀ (w' : World), (((listed.setIfInBounds i true).getD c true = false → w' = W1) ∧ ((listed.setIfInBounds i true).getD c true = true → Post w')) → wpAnyIn (Fence.wide.inRound l') m P .any ops Q fuel (listed.setIfInBounds i true) (a.put o.dst (f d)) w' := fun w' g =>
        ih (k + 1) _ _ _ (by simp [hls]) (by rw [cnt_set _ _ h0, hcn]) (by omega) (hI'.put (R := fun _ _ => True) hform hls (fun _ _ _ _ _ h => h) ho trivial trivial (fun d' hd' => by rw [hod] at hd'; cases hd'; rfl)) g
      have hw : Region.wanted o (yielded ops a.tmps) = true := by simp [Region.wanted, hg]
      unfold wpOpIn
      simp only [ho, hw, if_true]
      unfold Oper.wpIn
      refine ⟨fun _ _ => trivial, ?_⟩
      rw [Oper.semAt_eq _ _ _ hnd]
      by_cases hic : i = c
      · subst hic
        have hw1 : w = W1 := hp.1 h0
        subst hw1
        obtain ⟨l, f', tmps, assign, body, he, hR⟩ := r2 rfl
        rw [he]
        refine ⟨fun h => (by cases h), RoundIn.mono (hR (m - 1)) ?_⟩
        rintro e w'' ⟨rfl, hP⟩
        refine hnext w'' ⟨fun h => ?_, fun _ => hP⟩
        have hl : i < listed.size := by omega
        simp [hl] at h
      · have hw1 : w = W1 ∨ Post w := by
          cases hcl : listed.getD c true
          · exact .inl (hp.1 hcl)
          · exact .inr (hp.2 hcl)
        rw [r1 hic w hw1]
        refine hnext w ?_
        rw [getD_set_ne true hic]
        exact hp

theorem wpIn_region_det {P : Program} {ops : Array Oper} {a0 : Act} {Q : Exit → Act → World → Prop} {l' m id : Nat} {w0 : World} (hm : P.follows .mixedOrders = true) (f : Nat → Value) (c : Nat) (Post : World → Prop) (dsts : List Nat)
    (hds : ops.toList.filterMap (·.dst) = dsts) (hform : formB ops a0.tmps.size = true)
    (hop : ∀ (i : Nat) (o : Oper), ops[i]? = some o → o.guard = none ∧ (∀ x, o.op ≠ .defer x) ∧ ∃ d, o.dst = some d ∧ ∀ ρ, Seen ops a0 f o ρ →
      ((i ≠ c → ∀ w, (w = w0.drew ∨ Post w) → (execOp ρ o).run P w = .ok (.value (f d)) w) ∧
       (i = c → ∃ l f' tmps assign body, (execOp ρ o).run P w0.drew = .ok (.round l f' tmps assign body) w0.drew ∧ ∀ m, RoundIn Fence.wide m P l f' tmps assign body w0.drew (fun e w'' => e = .returned (f d) ∧ Post w''))))
    (hc : c < ops.size)
    (hQ : ∀ (w : World), Post w → Q .normal (fill a0 f dsts) w) : (Code.region id ops true).wpIn (Fence.wide.inRound l') m P Q a0 w0 := by
  refine wpIn_region_any hm (any_det f c w0.drew Post hform hop hc ?_ ops.size 0 _ a0 _ (by simp) (cnt_none _) (by omega) ⟨trivial, rfl, rfl, fun _ _ => rfl, fun j o d hj hl _ => ?_⟩ ⟨fun _ => rfl, fun h => ?_⟩)
  · rintro a w ⟨h1, h2, h3, h4, h5⟩ hP
    have hfill : a = fill a0 f dsts := by
      have hz := fill_size a0 f dsts
      obtain ⟨at1, ad⟩ := a
      have e1 : at1 = (fill a0 f dsts).tmps := by
        refine Array.ext_getElem? fun j => ?_
        by_cases hj : j < a0.tmps.size
        · rw [fill_at _ _ _ hj]
          have hj' : j < at1.size := by simpa [h3] using hj
          by_cases hm : j ∈ dsts
          · have hm' := hm
            rw [← hds] at hm'
            obtain ⟨o, ho, hod⟩ := List.mem_filterMap.1 hm'
            obtain ⟨i, hi, rfl⟩ := List.mem_iff_getElem.1 ho
            have := h5 i _ j (by simp at hi; simp [hi]) (by simp at hi; simp [hi]) hod
            simp [Act.eval, hj'] at this
            simp [hm, hj', this]
          · have := h4 j (fun x hx e => hm (by rw [← hds]; exact List.mem_filterMap.2 ⟨x, hx, e⟩))
            simp [Act.eval, hj, hj'] at this
            simp [hm, hj, hj', this]
        · rw [Array.getElem?_eq_none (by simp at h3; omega), Array.getElem?_eq_none (by rw [hz.1]; omega)]
      have e2 : ad = (fill a0 f dsts).defers := by rw [hz.2]; exact h2
      generalize fill a0 f dsts = x at *
      cases x
      simp_all
    rw [hfill]
    exact hQ w hP
  · exfalso
    have hlt := (Array.getElem?_eq_some_iff.1 hj).1
    simp [hlt] at hl
  · exfalso
    simp [hc] at h

end Go.Proofs.Ytdjmjdljgdagcaa
