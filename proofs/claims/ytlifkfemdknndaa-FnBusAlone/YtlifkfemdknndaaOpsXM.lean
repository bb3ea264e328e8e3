/-
  More looks of 'wp_region_typed': operations that read slots from outside of the region.
-/
import Derived.Test.YtlifkfemdknndaaWld
import Derived.Orders
import Derived.Test.YtlifkfemdknndaaProg
/-
  A region that draws its order, walked once: each operation, in whatever world of the class it comes up, leaves in its slot a value of that slot's kind ('T'), and a world of the class; kinds abide what happens to other blocks than B.
-/
namespace Go.Proofs.Ytlifkfemdknndaa
open Go.RowKit
set_option linter.unusedSimpArgs false
set_option linter.unusedVariables false

/-- of the blocks from M on nothing has turned -/
structure Up (M : Nat) (w w' : World) : Prop where
  size : w.heap.size ≤ w'.heap.size
  block : ∀ k, M ≤ k → k < w.heap.size → w'.heap[k]? = w.heap[k]?
theorem Up.refl (M : Nat) (w : World) : Up M w w := ⟨Nat.le_refl _, fun _ _ _ => rfl⟩
theorem Up.alloc (M : Nat) (w : World) (o : Obj) : Up M w (w.alloc o) := ⟨by simp, fun k _ hk => Below.heap_alloc _ _ _ hk⟩
theorem Up.of_keep {M B : Nat} {w w' : World} (h : Keep B w w') (hB : B < M) : Up M w w' := ⟨h.size, fun k hM hk => h.block k hk (by omega)⟩
theorem Up.of_below {M : Nat} {w w' : World} (h : Below w.heap.size w w') : Up M w w' := ⟨h.size, fun k _ hk => h.block k hk⟩
theorem Up.setCell {M : Nat} {w : World} {a : Addr} (h : a.block < M) (v : Value) : Up M w (w.setCell a v) := ⟨by simp, fun k hM _ => Below.heap_setCell _ _ _ _ (by omega)⟩
theorem Up.cell {M : Nat} {w w' : World} (h : Up M w w') {p : Addr} (h1 : M ≤ p.block) (h2 : p.block < w.heap.size) : w'.cell? p = w.cell? p := World.cell?_of_block (w := w) (h.block p.block h1 h2)

def tyUpon (P : Program) (G : World → Value → Prop) : Result Next → Prop
  | .ok (.value v) w' => G w' v
  | .ok .skip w' => G w' undef
  | .ok (.enter f args) w' => Calls P f args w' fun e w'' => ∃ v, e = .returned v ∧ G w'' v
  | _ => False

/-- what is asked of one operation -/
def OpTy (P : Program) (ops : Array Oper) (a0 : Act) (R : World → World → Prop) (C : Nat → World → Prop) (T : Nat → World → Value → Prop) (o : Oper) : Prop :=
  ∀ (k : Nat) (ρ : Operand → Value) (w : World), (∀ v, ρ (.const v) = v) → (∀ f, ρ (.func f) = .func (.func f) #[] #[]) →
    (∀ d, (∀ x ∈ ops.toList, x.dst ≠ some d) → ρ (.tmp d) = a0.eval (.tmp d)) →
    (∀ e ∈ o.after.toList, Region.binds .any e = true → ∀ (oe : Oper) (d : Nat), ops[e.on]? = some oe → oe.dst = some d → T d w (ρ (.tmp d))) →
    k < ops.size → C k w → tyUpon P (fun w' v => C (k + 1) w' ∧ R w w' ∧ ∀ d, o.dst = some d → T d w' v) ((execOp ρ o).run P w)

/-- what is asked of one operation that may be guarded: how its guard came out is known -/
def OpTyG (P : Program) (ops : Array Oper) (a0 : Act) (R : World → World → Prop) (C : Nat → World → Prop) (T : Nat → World → Value → Prop) (o : Oper) : Prop :=
  (o.guard = none ∧ OpTy P ops a0 R C T o) ∨
  ∃ (g : Nat) (b c : Bool) (og : Oper) (d : Nat), o.guard = some (g, b) ∧ ops[g]? = some og ∧ og.dst = some d ∧ T d = (fun _ v => v = .bool c) ∧ (∃ e ∈ o.after.toList, Region.binds .any e = true ∧ e.on = g) ∧
    ((c = b ∧ OpTy P ops a0 R C T o) ∨ (c ≠ b ∧ (∀ w, R w w) ∧ (∀ k w, C k w → C (k + 1) w) ∧ ∀ d', o.dst = some d' → ∀ w, T d' w undef))

/-- the region's form: each slot written once, and there; edges lead back -/
def formB (ops : Array Oper) (n : Nat) : Bool :=
  ops.toList.all (fun o => (match o.dst with | some d => decide (d < n) | none => true)) &&
  decide (ops.toList.filterMap (·.dst)).Nodup &&
  (List.range ops.size).all (fun i => match ops[i]? with | some o => o.after.toList.all (fun e => !Region.binds .any e || decide (e.on < i)) | none => true)

def Inv (ops : Array Oper) (a0 : Act) (C : Nat → World → Prop) (T : Nat → World → Value → Prop) (k : Nat) (listed : Array Bool) (a : Act) (w : World) : Prop :=
  C k w ∧ a.defers = a0.defers ∧ a.tmps.size = a0.tmps.size ∧ (∀ d, (∀ x ∈ ops.toList, x.dst ≠ some d) → a.eval (.tmp d) = a0.eval (.tmp d)) ∧
    (∀ (j : Nat) (o : Oper) (d : Nat), ops[j]? = some o → listed.getD j false = true → o.dst = some d → T d w (a.eval (.tmp d)))

def cnt (listed : Array Bool) : Nat := (listed.toList.filter (fun b => b)).length

theorem cnt_set (listed : Array Bool) (i : Nat) (h : listed.getD i true = false) : cnt (listed.setIfInBounds i true) = cnt listed + 1 := by
  obtain ⟨l⟩ := listed
  simp only [cnt, List.setIfInBounds_toArray]
  simp at h
  induction l generalizing i with
  | nil => simp at h
  | cons b l ih =>
    cases i with
    | zero => simp at h; subst h; simp
    | succ i =>
      simp at h
      have := ih i h
      cases b <;> simp at this ⊢ <;> omega

theorem cnt_le (listed : Array Bool) : cnt listed ≤ listed.size := by
  simp only [cnt]; exact Nat.le_trans (List.length_filter_le _ _) (by simp)

theorem cnt_all (listed : Array Bool) (h : cnt listed = listed.size) (i : Nat) (hi : i < listed.size) : listed.getD i false = true := by
  obtain ⟨l⟩ := listed
  simp only [cnt] at h
  simp at h hi ⊢
  simp [hi]
  cases hb : l[i] with
  | true => rfl
  | false => exact absurd (hb ▸ List.getElem_mem hi) h

theorem cnt_none (n : Nat) : cnt (Array.replicate n false) = 0 := by
  simp [cnt]

theorem form_spec {ops : Array Oper} {n : Nat} (h : formB ops n = true) :
    (∀ (i : Nat) (o : Oper) (d : Nat), ops[i]? = some o → o.dst = some d → d < n) ∧
    (∀ (i j : Nat) (o o' : Oper) (d : Nat), ops[i]? = some o → ops[j]? = some o' → o.dst = some d → o'.dst = some d → i = j) ∧
    (∀ (i : Nat) (o : Oper), ops[i]? = some o → ∀ e ∈ o.after.toList, Region.binds .any e = true → e.on < i) := by
  simp only [formB, Bool.and_eq_true, List.all_eq_true, decide_eq_true_eq] at h
  obtain ⟨⟨h1, h2⟩, h3⟩ := h
  have mem : ∀ {i : Nat} {o : Oper}, ops[i]? = some o → o ∈ ops.toList := fun {i o} ho => by
    obtain ⟨hlt, rfl⟩ := Array.getElem?_eq_some_iff.1 ho
    exact Array.getElem_mem_toList hlt
  refine ⟨fun i o d ho hd => ?_, fun i j o o' d ho ho' hd hd' => ?_, fun i o ho e he hbd => ?_⟩
  · have := h1 o (mem ho)
    rw [hd] at this
    simpa using this
  · obtain ⟨l⟩ := ops
    simp at ho ho' h2
    clear h1 h3 mem
    induction l generalizing i j with
    | nil => simp at ho
    | cons x l ih =>
      have key : ∀ (k : Nat) (y : Oper), l[k]? = some y → y.dst = some d → d ∈ l.filterMap (·.dst) := fun k y hk hy =>
        List.mem_filterMap.2 ⟨y, List.mem_of_getElem? hk, hy⟩
      cases i with
      | zero =>
        simp at ho; subst ho
        cases j with
        | zero => rfl
        | succ j =>
          simp at ho'
          simp [List.filterMap_cons, hd] at h2
          exact absurd hd' (h2.1 _ (List.mem_of_getElem? ho'))
      | succ i =>
        simp at ho
        cases j with
        | zero =>
          simp at ho'; subst ho'
          simp [List.filterMap_cons, hd'] at h2
          exact absurd hd (h2.1 _ (List.mem_of_getElem? ho))
        | succ j =>
          simp at ho'
          have h2' : (l.filterMap (·.dst)).Nodup := by
            cases hx : x.dst with
            | none => simpa [List.filterMap_cons, hx] using h2
            | some dx => simp [List.filterMap_cons, hx] at h2; exact h2.2
          exact congrArg (· + 1) (ih i j h2' ho ho')
  · have hlt := (Array.getElem?_eq_some_iff.1 ho).1
    have := h3 i (List.mem_range.2 hlt)
    rw [ho] at this
    simp only [List.all_eq_true, decide_eq_true_eq] at this
    have := this e he
    simpa [hbd] using this

theorem ready_of_form {ops : Array Oper} {n : Nat} (h : formB ops n = true) (listed : Array Bool) (hs : listed.size = ops.size)
    (hr : Region.ready .any ops listed = []) : ∀ i, i < ops.size → listed.getD i false = true := by
  obtain ⟨_, _, hback⟩ := form_spec h
  intro i
  induction i using Nat.strongRecOn with
  | ind i ih =>
    intro hi
    cases hb : listed.getD i false with
    | true => rfl
    | false =>
      exfalso
      have : i ∈ Region.ready .any ops listed := by
        rw [mem_ready]
        refine ⟨?_, ops[i], by simp [hi], fun e he hbd => ?_⟩
        · have hlt : i < listed.size := by omega
          simp [hlt] at hb ⊢
          exact hb
        · have hlt := hback i ops[i] (by simp [hi]) e (by simpa using he) hbd
          exact ih e.on hlt (by omega)
      rw [hr] at this
      cases this

theorem eval_put_same {a : Act} {d : Nat} {v : Value} (h : d < a.tmps.size) : (a.put (some d) v).eval (.tmp d) = v := by
  simp [Act.put, Act.eval, h]
theorem eval_put_ne {a : Act} {d d' : Nat} {v : Value} (h : d ≠ d') : (a.put (some d) v).eval (.tmp d') = a.eval (.tmp d') := by
  simp [Act.put, Act.eval, Array.getElem?_setIfInBounds_ne h]

section
variable {P : Program} {ops : Array Oper} {a0 : Act} {R : World → World → Prop} {C : Nat → World → Prop} {T : Nat → World → Value → Prop} {Q : Exit → Act → World → Prop}

theorem Inv.put {k : Nat} {listed : Array Bool} {a : Act} {w w' : World} {i : Nat} {o : Oper} {v : Value} (hform : formB ops a0.tmps.size = true) (hls : listed.size = ops.size)
    (hT : ∀ d w w' v, R w w' → T d w v → T d w' v) (ho : ops[i]? = some o) (hI : Inv ops a0 C T k listed a w)
    (hC : C (k + 1) w') (hK : R w w') (hv : ∀ d, o.dst = some d → T d w' v) : Inv ops a0 C T (k + 1) (listed.setIfInBounds i true) (a.put o.dst v) w' := by
  obtain ⟨_, hd, hs, hout, hty⟩ := hI
  obtain ⟨hin, huniq, _⟩ := form_spec hform
  have mem : o ∈ ops.toList := by
    obtain ⟨hlt, rfl⟩ := Array.getElem?_eq_some_iff.1 ho
    exact Array.getElem_mem_toList hlt
  refine ⟨hC, ?_, ?_, fun d hnot => ?_, fun j oj d hj hl hdj => ?_⟩
  · cases o.dst <;> exact hd
  · cases o.dst <;> simp [Act.put, hs]
  · cases hod : o.dst with
    | none => exact hout d hnot
    | some d' =>
      have : d' ≠ d := fun e => hnot o mem (by rw [hod, e])
      rw [eval_put_ne this]
      exact hout d hnot
  · by_cases hij : i = j
    · subst hij
      rw [ho] at hj; cases hj
      rw [hdj, eval_put_same (by rw [hs]; exact hin i o d ho hdj)]
      exact hv d hdj
    · rw [getD_set_ne false hij] at hl
      have old := hT d w w' _ hK (hty j oj d hj hl hdj)
      cases hod : o.dst with
      | none => exact old
      | some d' =>
        have : d' ≠ d := fun e => hij (huniq i j o oj d ho hj (by rw [hod, e]) hdj)
        rw [eval_put_ne this]
        exact old

theorem any_typed (hform : formB ops a0.tmps.size = true) (hT : ∀ d w w' v, R w w' → T d w v → T d w' v) (hop : ∀ o ∈ ops.toList, OpTyG P ops a0 R C T o)
    (hQ : ∀ a w, Inv ops a0 C T ops.size (Array.replicate ops.size true) a w → Q .normal a w) :
    ∀ (fuel k : Nat) (listed : Array Bool) (a : Act) (w : World), listed.size = ops.size → cnt listed = k → k + fuel = ops.size → Inv ops a0 C T k listed a w → wpAny P .any ops Q fuel listed a w := by
  have done : ∀ (listed : Array Bool) (a : Act) (w : World), listed.size = ops.size → cnt listed = ops.size → Inv ops a0 C T ops.size listed a w → Q .normal a w := by
    intro listed a w hls hc hI
    obtain ⟨h1, h2, h3, h4, h5⟩ := hI
    refine hQ a w ⟨h1, h2, h3, h4, fun j o d hj _ hd => h5 j o d hj ?_ hd⟩
    have hlt := (Array.getElem?_eq_some_iff.1 hj).1
    exact cnt_all listed (by omega) j (by omega)
  have allc : ∀ (listed : Array Bool), listed.size = ops.size → (∀ i, i < ops.size → listed.getD i false = true) → cnt listed = ops.size := by
    intro listed hls hall
    obtain ⟨l⟩ := listed
    simp at hls
    simp only [cnt]
    rw [← hls]
    have : ∀ b ∈ l, b = true := by
      intro b hb
      obtain ⟨n, hn, rfl⟩ := List.mem_iff_getElem.1 hb
      have := hall n (by omega)
      simpa [hn] using this
    rw [List.filter_eq_self.2 (by simpa using this)]
  intro fuel
  induction fuel with
  | zero =>
    intro k listed a w hls hc hk hI
    have hk' : k = ops.size := by omega
    subst hk'
    refine ⟨?_, done listed a w hls (by omega) hI⟩
    rw [List.eq_nil_iff_forall_not_mem]
    intro j hj
    obtain ⟨h0, o, ho, _⟩ := mem_ready.1 hj
    have hlt := (Array.getElem?_eq_some_iff.1 ho).1
    have h1 := cnt_all listed (by omega) j (by omega)
    have hl : j < listed.size := by omega
    simp [hl] at h0 h1
    rw [h0] at h1
    cases h1
  | succ fuel ih =>
    intro k listed a w hls hc hk hI
    refine ⟨fun hr => ?_, fun i hi => ?_⟩
    · have hall := allc listed hls (ready_of_form hform listed hls hr)
      have hk' : k = ops.size := by omega
      subst hk'
      exact done listed a w hls hall hI
    · obtain ⟨h0, o, ho, hafter⟩ := mem_ready.1 hi
      have hI' := hI
      obtain ⟨hC, hd, hs, hout, hty⟩ := hI
      have mem : o ∈ ops.toList := by
        obtain ⟨hlt, rfl⟩ := Array.getElem?_eq_some_iff.1 ho
        exact Array.getElem_mem_toList hlt
      have hguard := hop o mem
      have hnext : ∀ (w' : World) (v : Value), (C (k + 1) w' ∧ R w w' ∧ ∀ d, o.dst = some d → T d w' v) → wpAny P .any ops Q fuel (listed.setIfInBounds i true) (a.put o.dst v) w' := fun w' v ⟨g1, g2, g3⟩ =>
        ih (k + 1) _ _ _ (by simp [hls]) (by rw [cnt_set _ _ h0, hc]) (by omega) (hI'.put hform hls hT ho g1 g2 g3)
      have cases2 : (Region.wanted o (yielded ops a.tmps) = true ∧ OpTy P ops a0 R C T o) ∨ (Region.wanted o (yielded ops a.tmps) = false ∧ (∀ w, R w w) ∧ (∀ k w, C k w → C (k + 1) w) ∧ ∀ d', o.dst = some d' → ∀ w, T d' w undef) := by
        rcases hguard with ⟨hg, hH⟩ | ⟨g, b, c, og, d, hg, hog, hod, hTd, ⟨e, he, hbd, heg⟩, hcase⟩
        · exact .inl ⟨by simp [Region.wanted, hg], hH⟩
        · have hv := hty g og d hog (by rw [← heg]; exact hafter e (by simpa using he) hbd) hod
          rw [hTd] at hv
          have hv : a.eval (.tmp d) = .bool c := hv
          have hy : yielded ops a.tmps g = some c := by
            simp only [Act.eval] at hv
            simp [yielded, hog, hod]
            simp at hv
            cases hx : a.tmps[d]? with
            | none => rw [hx] at hv; cases hv
            | some x => rw [hx] at hv; simp at hv; subst hv; rfl
          rcases hcase with ⟨hcb, hH⟩ | ⟨hcb, hrr, h1, h2⟩
          · exact .inl ⟨by simp [Region.wanted, hg, hy, hcb], hH⟩
          · exact .inr ⟨by simp [Region.wanted, hg, hy]; exact hcb, hrr, h1, h2⟩
      unfold wpOp
      simp only [ho]
      rcases cases2 with ⟨hw, hoty⟩ | ⟨hw, hrr, hCn, hun⟩
      rotate_left
      · simp only [hw]
        exact hnext w undef ⟨hCn k w hC, hrr w, fun d' hd' => hun d' hd' w⟩
      have H := hoty k a.eval w (fun _ => rfl) (fun _ => rfl) hout (fun e he hb oe d hoe hde => hty e.on oe d hoe (hafter e (by simpa using he) hb) hde) (by omega) hC
      simp only [hw, if_true]
      refine .inl ?_
      unfold Oper.wp
      generalize (execOp a.eval o).run P w = r at H
      cases r with
      | ok n w' =>
        cases n <;> simp only [tyUpon] at H <;> simp only [Oper.upon]
        case value v => exact hnext _ _ H
        case skip => exact hnext _ _ H
        case enter f args =>
          refine H.mono ?_
          rintro e w'' ⟨v, rfl, hG⟩
          exact hnext _ _ hG
      | halt x w' => simp only [tyUpon] at H

/-- a0 with these slots filled -/
def fill (a0 : Act) (f : Nat → Value) : List Nat → Act
  | [] => a0
  | d :: l => (fill a0 f l).put (some d) (f d)

theorem fill_size (a0 : Act) (f : Nat → Value) : ∀ l, (fill a0 f l).tmps.size = a0.tmps.size ∧ (fill a0 f l).defers = a0.defers
  | [] => ⟨rfl, rfl⟩
  | d :: l => by have := fill_size a0 f l; exact ⟨by simp [fill, Act.put, this.1], by simp [fill, Act.put, this.2]⟩
theorem fill_at (a0 : Act) (f : Nat → Value) (j : Nat) (hj : j < a0.tmps.size) : ∀ l, (fill a0 f l).tmps[j]? = if j ∈ l then some (f j) else a0.tmps[j]?
  | [] => by simp [fill]
  | d :: l => by
    have ih := fill_at a0 f j hj l
    have hs := (fill_size a0 f l).1
    by_cases h : d = j
    · subst h
      simp [fill, Act.put, hs, hj]
    · simp only [fill, Act.put]
      rw [Array.getElem?_setIfInBounds_ne h, ih]
      simp [Ne.symm h]

/-- THE LAW: one look at each operation serves every order. -/
theorem wp_region_typed {id : Nat} {w0 : World} (hm : P.follows .mixedOrders = true) (R : World → World → Prop) (C : Nat → World → Prop) (T : Nat → World → Value → Prop) (dsts : List Nat)
    (hds : ops.toList.filterMap (·.dst) = dsts) (hform : formB ops a0.tmps.size = true) (hT : ∀ d w w' v, R w w' → T d w v → T d w' v) (h0 : C 0 { w0 with drawn := w0.drawn + 1 })
    (hop : ∀ o ∈ ops.toList, OpTyG P ops a0 R C T o)
    (hQ : ∀ (f : Nat → Value) (w : World), C ops.size w → (∀ d ∈ dsts, T d w (f d)) → Q .normal (fill a0 f dsts) w) : (Code.region id ops true).wp P Q a0 w0 := by
  refine wp_region_any hm (any_typed hform hT hop ?_ ops.size 0 _ a0 _ (by simp) (cnt_none _) (by omega) ⟨h0, rfl, rfl, fun _ _ => rfl, fun j o d hj hl _ => ?_⟩)
  · rintro a w ⟨h1, h2, h3, h4, h5⟩
    have hfill : a = fill a0 (fun d => a.eval (.tmp d)) dsts := by
      have hz := fill_size a0 (fun d => a.eval (.tmp d)) dsts
      obtain ⟨at1, ad⟩ := a
      have e1 : at1 = (fill a0 (fun d => (Act.mk at1 ad).eval (.tmp d)) dsts).tmps := by
        refine Array.ext_getElem? fun j => ?_
        by_cases hj : j < a0.tmps.size
        · rw [fill_at _ _ _ hj]
          have hj' : j < at1.size := by simpa [h3] using hj
          by_cases hm : j ∈ dsts
          · simp [hm, Act.eval, hj']
          · have := h4 j (fun x hx e => hm (by rw [← hds]; exact List.mem_filterMap.2 ⟨x, hx, e⟩))
            simp [Act.eval, hj, hj'] at this
            simp [hm, hj, hj', this]
        · rw [Array.getElem?_eq_none (by simp at h3; omega), Array.getElem?_eq_none (by rw [hz.1]; omega)]
      have e2 : ad = (fill a0 (fun d => (Act.mk at1 ad).eval (.tmp d)) dsts).defers := by rw [hz.2]; exact h2
      generalize fill a0 (fun d => (Act.mk at1 ad).eval (.tmp d)) dsts = x at *
      cases x
      simp_all
    rw [hfill]
    refine hQ _ w h1 (fun d hd => ?_)
    rw [← hds] at hd
    obtain ⟨o, ho, hod⟩ := List.mem_filterMap.1 hd
    obtain ⟨j, hj, rfl⟩ := List.mem_iff_getElem.1 ho
    refine h5 j _ d (by simp at hj; simp [hj]) ?_ hod
    simp at hj
    simp [hj]
  · exfalso
    have hlt := (Array.getElem?_eq_some_iff.1 hj).1
    simp [hlt] at hl

theorem gd {o : Oper} (hg : o.guard = none) (h : OpTy P ops a0 R C T o) : OpTyG P ops a0 R C T o := .inl ⟨hg, h⟩
theorem gdG {o : Oper} (g : Nat) (b : Bool) (hg : o.guard = some (g, b)) (og : Oper) (hog : ops[g]? = some og) (d : Nat) (hd : og.dst = some d) (hT : T d = (fun _ v => v = .bool b)) (he : o.after.toList.any (fun e => Region.binds .any e && e.on == g) = true) (h : OpTy P ops a0 R C T o) : OpTyG P ops a0 R C T o := by
  obtain ⟨e, h1, h2⟩ := List.any_eq_true.1 he
  simp at h2
  exact .inr ⟨g, b, b, og, d, hg, hog, hd, hT, ⟨e, h1, h2.1, h2.2⟩, .inl ⟨rfl, h⟩⟩
theorem ops_nil {Pr : Oper → Prop} : ∀ o ∈ ([] : List Oper), Pr o := fun _ h => by cases h
theorem ops_cons {Pr : Oper → Prop} {x : Oper} {l : List Oper} (h : Pr x) (hl : ∀ o ∈ l, Pr o) : ∀ o ∈ x :: l, Pr o := fun o ho => by
  rcases List.mem_cons.1 ho with rfl | ho
  · exact h
  · exact hl o ho

end

/-! ### kinds of values -/
def Stable (M : Nat) (K : World → Value → Prop) : Prop := ∀ w w' v, Up M w w' → K w v → K w' v
def kAny : World → Value → Prop := fun _ _ => True
def kIs (u : Value) : World → Value → Prop := fun _ v => v = u
def kInt (lo hi : Int) : World → Value → Prop := fun _ v => ∃ n, v = .int .i64 n ∧ lo ≤ n ∧ n ≤ hi
def kBool : World → Value → Prop := fun _ v => ∃ b, v = .bool b
def kRow (M n : Nat) (lo hi : Int) : World → Value → Prop := fun w v =>
  ∃ blk, v = .slice (some ⟨blk, 0, none⟩) n n ∧ M ≤ blk ∧ blk < w.heap.size ∧ ∀ i, i < n → ∃ x, lo ≤ x ∧ x ≤ hi ∧ w.cell? ⟨blk, i, none⟩ = some (.int .i64 x)
def kCell (M : Nat) (lo hi : Int) : World → Value → Prop := fun w v =>
  ∃ blk i, v = .pointer (some ⟨blk, i, none⟩) ∧ M ≤ blk ∧ blk < w.heap.size ∧ ∃ x, lo ≤ x ∧ x ≤ hi ∧ w.cell? ⟨blk, i, none⟩ = some (.int .i64 x)

theorem stable_any (M : Nat) : Stable M kAny := fun _ _ _ _ h => h
theorem stable_is (M : Nat) (u : Value) : Stable M (kIs u) := fun _ _ _ _ h => h
theorem stable_int (M : Nat) (lo hi : Int) : Stable M (kInt lo hi) := fun _ _ _ _ h => h
theorem stable_bool (M : Nat) : Stable M kBool := fun _ _ _ _ h => h
theorem stable_row (M n : Nat) (lo hi : Int) : Stable M (kRow M n lo hi) := fun w w' v hk ⟨blk, h1, h2, h3, h4⟩ =>
  ⟨blk, h1, h2, Nat.lt_of_lt_of_le h3 hk.size, fun i hi => by
    obtain ⟨x, g1, g2, g3⟩ := h4 i hi
    exact ⟨x, g1, g2, (hk.cell (p := ⟨blk, i, none⟩) h2 h3).trans g3⟩⟩
theorem stable_cell (M : Nat) (lo hi : Int) : Stable M (kCell M lo hi) := fun w w' v hk ⟨blk, i, h1, h2, h3, x, g1, g2, g3⟩ =>
  ⟨blk, i, h1, h2, Nat.lt_of_lt_of_le h3 hk.size, x, g1, g2, (hk.cell (p := ⟨blk, i, none⟩) h2 h3).trans g3⟩

/-- kinds by slots -/
def tab : List (Nat × (World → Value → Prop)) → Nat → World → Value → Prop
  | [], _ => kAny
  | (d, K) :: l, x => if x = d then K else tab l x
theorem tab_stable {M : Nat} : ∀ {l : List (Nat × (World → Value → Prop))}, (∀ x ∈ l, Stable M x.2) → ∀ d w w' v, Up M w w' → tab l d w v → tab l d w' v
  | [], _, _, _, _, _, _, h => h
  | (d, K) :: l, hl, x, w, w', v, hk, h => by
    simp only [tab] at h ⊢
    split
    · rename_i e; simp only [e, if_true] at h; exact hl (d, K) (by simp) w w' v hk h
    · rename_i e; simp only [e, if_false] at h; exact tab_stable (fun y hy => hl y (by simp [hy])) x w w' v hk h

theorem tabR_stable {R : World → World → Prop} : ∀ {l : List (Nat × (World → Value → Prop))}, (∀ x ∈ l, ∀ w w' v, R w w' → x.2 w v → x.2 w' v) → ∀ d w w' v, R w w' → tab l d w v → tab l d w' v
  | [], _, _, _, _, _, _, h => h
  | (d, K) :: l, hl, x, w, w', v, hk, h => by
    simp only [tab] at h ⊢
    split
    · rename_i e; simp only [e, if_true] at h; exact hl (d, K) (by simp) w w' v hk h
    · rename_i e; simp only [e, if_false] at h; exact tabR_stable (fun y hy => hl y (by simp [hy])) x w w' v hk h

/-- the class: a reader in block B, not far read; of what lay in w0 nothing has turned but it -/
def Cls (B p0 : Nat) (w0 : World) (k : Nat) (w : World) : Prop := ∃ p, p ≤ p0 + 40 * k ∧ Rd w B p ∧ Keep B w0 w
theorem Cls.next {B p0 : Nat} {w0 w : World} {k : Nat} (h : Cls B p0 w0 k w) : Cls B p0 w0 (k + 1) w := by
  obtain ⟨p, h1, h2, h3⟩ := h; exact ⟨p, by omega, h2, h3⟩
theorem Cls.alloc {B p0 : Nat} {w0 w : World} {k : Nat} (h : Cls B p0 w0 k w) (o : Obj) : Cls B p0 w0 (k + 1) (w.alloc o) := by
  obtain ⟨p, h1, h2, h3⟩ := h; exact ⟨p, by omega, h2.alloc o, h3.alloc o⟩

end Go.Proofs.Ytlifkfemdknndaa

/-
  What single operations do to values of known kinds: the looks that 'wp_region_typed' asks.
-/
namespace Go.Proofs.Ytlifkfemdknndaa
open Go.RowKit
set_option linter.unusedSimpArgs false
set_option linter.unusedVariables false

def depB (ops : Array Oper) (o : Oper) (d : Nat) : Bool := o.after.toList.any (fun e => Region.binds .any e && (match ops[e.on]? with | some oe => decide (oe.dst = some d) | none => false))
def outB (ops : Array Oper) (d : Nat) : Bool := ops.toList.all (fun x => decide (x.dst ≠ some d))

theorem dep_of {ops : Array Oper} {o : Oper} {d : Nat} (h : depB ops o d = true) {T : Nat → World → Value → Prop} {w : World} {ρ : Operand → Value}
    (hd : ∀ e ∈ o.after.toList, Region.binds .any e = true → ∀ (oe : Oper) (d : Nat), ops[e.on]? = some oe → oe.dst = some d → T d w (ρ (.tmp d))) : T d w (ρ (.tmp d)) := by
  simp only [depB, List.any_eq_true, Bool.and_eq_true] at h
  obtain ⟨e, he, hb, hx⟩ := h
  cases ho : ops[e.on]? with
  | none => rw [ho] at hx; cases hx
  | some oe => rw [ho] at hx; exact hd e he hb oe d ho (by simpa using hx)
theorem out_of {ops : Array Oper} {d : Nat} (h : outB ops d = true) : ∀ x ∈ ops.toList, x.dst ≠ some d := by
  intro x hx
  simp only [outB, List.all_eq_true, decide_eq_true_eq] at h
  exact h x hx

section
variable {P : Program} {ops : Array Oper} {a0 : Act} {M : Nat} {R : World → World → Prop} {C : Nat → World → Prop} {T : Nat → World → Value → Prop} {o : Oper} {d t t2 : Nat}

theorem ty_move_out (ho : o.op = .move (.tmp t) ∨ o.op = .assign (.tmp t)) (hdst : o.dst = some d) (hout : outB ops t = true) (hk : T d = kIs (a0.eval (.tmp t))) (hC : ∀ k w, C k w → C (k + 1) w) (hR : ∀ w, R w w) : OpTy P ops a0 R C T o := by
  intro k ρ w hc hf hx hd hkk hCk
  have e : (execOp ρ o).run P w = .ok (.value (ρ (.tmp t))) w := by rcases ho with ho | ho <;> simp only [execOp, ho] <;> rfl
  rw [e]
  refine ⟨hC k w hCk, hR _, fun d' hd' => ?_⟩
  rw [hdst] at hd'; cases hd'
  rw [hk]; exact hx t (out_of hout)

theorem ty_move_dep (ho : o.op = .move (.tmp t) ∨ o.op = .assign (.tmp t)) (hdst : o.dst = some d) (hdep : depB ops o t = true) (hk : T d = T t) (hC : ∀ k w, C k w → C (k + 1) w) (hR : ∀ w, R w w) : OpTy P ops a0 R C T o := by
  intro k ρ w hc hf hx hd hkk hCk
  have e : (execOp ρ o).run P w = .ok (.value (ρ (.tmp t))) w := by rcases ho with ho | ho <;> simp only [execOp, ho] <;> rfl
  rw [e]
  refine ⟨hC k w hCk, hR _, fun d' hd' => ?_⟩
  rw [hdst] at hd'; cases hd'
  rw [hk]; exact dep_of hdep hd
end

section
variable {ops : Array Oper} {a0 : Act} {M : Nat} {R : World → World → Prop} {C : Nat → World → Prop} {T : Nat → World → Value → Prop} {o : Oper} {d t t2 : Nat}

theorem ty_load {lo hi : Int} (ho : o.op = .load 3 (.tmp t)) (hdst : o.dst = some d) (hdep : depB ops o t = true) (hkt : T t = kCell M lo hi) (hk : T d = kInt lo hi) (hC : ∀ k w, C k w → C (k + 1) w) : OpTy Try.prog ops a0 (Up M) C T o := by
  intro k ρ w hc hf hx hd hkk hCk
  have hv := dep_of hdep hd
  rw [hkt] at hv
  obtain ⟨blk, i, hv, h1, h2, x, h3, h4, h5⟩ := hv
  have e : (execOp ρ o).run Try.prog w = .ok (.value (.int .i64 x)) w := by
    simp only [execOp, ho, hv]
    go_simp
  rw [e]
  refine ⟨hC k w hCk, Up.refl _ _, fun d' hd' => ?_⟩
  rw [hdst] at hd'; cases hd'
  rw [hk]; exact ⟨x, rfl, h3, h4⟩

theorem ty_index {n : Nat} {lo hi lo2 hi2 : Int} (ho : o.op = .indexAddr 24 (.tmp t) (.tmp t2)) (hdst : o.dst = some d) (hdep : depB ops o t = true) (hdep2 : depB ops o t2 = true)
    (hkt : T t = kRow M n lo hi) (hkt2 : T t2 = kInt lo2 hi2) (hlo : 0 ≤ lo2) (hhi : hi2 < n) (hk : T d = kCell M lo hi) (hC : ∀ k w, C k w → C (k + 1) w) : OpTy Try.prog ops a0 (Up M) C T o := by
  intro k ρ w hc hf hx hd hkk hCk
  have hv := dep_of hdep hd
  have hv2 := dep_of hdep2 hd
  rw [hkt] at hv
  rw [hkt2] at hv2
  obtain ⟨blk, hv, h1, h2, h3⟩ := hv
  obtain ⟨j, hv2, h4, h5⟩ := hv2
  have hj0 : (0 : Int) ≤ j := by omega
  have hjn : j < (n : Int) := by omega
  have e : (execOp ρ o).run Try.prog w = .ok (.value (.pointer (some ⟨blk, j.toNat, none⟩))) w := by
    simp only [execOp, ho, hv, hv2]
    go_simp
  rw [e]
  refine ⟨hC k w hCk, Up.refl _ _, fun d' hd' => ?_⟩
  rw [hdst] at hd'; cases hd'
  rw [hk]; exact ⟨blk, j.toNat, rfl, h1, h2, h3 _ (by omega)⟩

theorem ty_build {n : Nat} {lo hi : Int} (hdst : o.dst = some d) (hk : T d = kRow M n lo hi) (hC : ∀ k w o, C k w → C (k + 1) (w.alloc o)) (hB : ∀ k w, C k w → M ≤ w.heap.size)
    (hrun : ∀ (ρ : Operand → Value) (w : World), (∀ v, ρ (.const v) = v) →
      (∀ e ∈ o.after.toList, Region.binds .any e = true → ∀ (oe : Oper) (d : Nat), ops[e.on]? = some oe → oe.dst = some d → T d w (ρ (.tmp d))) →
      ∃ ns : List Int, ns.length = n ∧ (∀ x ∈ ns, lo ≤ x ∧ x ≤ hi) ∧ (execOp ρ o).run Try.prog w = .ok (.value (.slice (some ⟨w.heap.size, 0, none⟩) n n)) (w.alloc (.cells (ns.map (Value.int .i64)).toArray 3))) : OpTy Try.prog ops a0 (Up M) C T o := by
  intro k ρ w hc hf hx hd hkk hCk
  obtain ⟨ns, h1, h2, e⟩ := hrun ρ w hc hd
  rw [e]
  refine ⟨hC k w _ hCk, Up.alloc _ _ _, fun d' hd' => ?_⟩
  rw [hdst] at hd'; cases hd'
  rw [hk]
  refine ⟨w.heap.size, rfl, hB k w hCk, by simp, fun i hi => ?_⟩
  have hi' : i < ns.length := by omega
  refine ⟨ns[i], (h2 _ (List.getElem_mem hi')).1, (h2 _ (List.getElem_mem hi')).2, ?_⟩
  rw [World.cell?_alloc_new]
  simp [hi']

theorem ty_pure {u : Value} (hdst : o.dst = some d) (hk : T d = kIs u) (hC : ∀ k w, C k w → C (k + 1) w) (hR : ∀ w, R w w)
    (hrun : ∀ (k : Nat) (ρ : Operand → Value) (w : World), (∀ v, ρ (.const v) = v) →
      (∀ e ∈ o.after.toList, Region.binds .any e = true → ∀ (oe : Oper) (d : Nat), ops[e.on]? = some oe → oe.dst = some d → T d w (ρ (.tmp d))) → C k w →
      (execOp ρ o).run Try.prog w = .ok (.value u) w) : OpTy Try.prog ops a0 R C T o := by
  intro k ρ w hc hf hx hd hkk hCk
  rw [hrun k ρ w hc hd hCk]
  refine ⟨hC k w hCk, hR _, fun d' hd' => ?_⟩
  rw [hdst] at hd'; cases hd'
  rw [hk]; rfl
theorem ty_enter (hdst : o.dst = some d)
    (hrun : ∀ (k : Nat) (ρ : Operand → Value) (w : World), k < ops.size → (∀ v, ρ (.const v) = v) → (∀ f, ρ (.func f) = .func (.func f) #[] #[]) →
      (∀ e ∈ o.after.toList, Region.binds .any e = true → ∀ (oe : Oper) (d : Nat), ops[e.on]? = some oe → oe.dst = some d → T d w (ρ (.tmp d))) → C k w →
      ∃ f args, (execOp ρ o).run Try.prog w = .ok (.enter f args) w ∧ Calls Try.prog f args w fun e w' => ∃ v, e = .returned v ∧ C (k + 1) w' ∧ R w w' ∧ T d w' v) : OpTy Try.prog ops a0 R C T o := by
  intro k ρ w hc hf hx hd hkk hCk
  obtain ⟨f, args, e, hcall⟩ := hrun k ρ w hkk hc hf hd hCk
  rw [e]
  refine hcall.mono ?_
  rintro e w' ⟨v, rfl, h1, h2, h3⟩
  refine ⟨v, rfl, h1, h2, fun d' hd' => ?_⟩
  rw [hdst] at hd'; cases hd'
  exact h3

theorem ty_val (hdst : o.dst = some d)
    (hrun : ∀ (k : Nat) (ρ : Operand → Value) (w : World), (∀ v, ρ (.const v) = v) →
      (∀ e ∈ o.after.toList, Region.binds .any e = true → ∀ (oe : Oper) (d : Nat), ops[e.on]? = some oe → oe.dst = some d → T d w (ρ (.tmp d))) → C k w →
      ∃ v w', (execOp ρ o).run Try.prog w = .ok (.value v) w' ∧ C (k + 1) w' ∧ R w w' ∧ T d w' v) : OpTy Try.prog ops a0 R C T o := by
  intro k ρ w hc hf hx hd hkk hCk
  obtain ⟨v, w', e, h1, h2, h3⟩ := hrun k ρ w hc hd hCk
  rw [e]
  refine ⟨h1, h2, fun d' hd' => ?_⟩
  rw [hdst] at hd'; cases hd'
  exact h3
theorem ty_skip (hdst : o.dst = none)
    (hrun : ∀ (k : Nat) (ρ : Operand → Value) (w : World), (∀ v, ρ (.const v) = v) →
      (∀ e ∈ o.after.toList, Region.binds .any e = true → ∀ (oe : Oper) (d : Nat), ops[e.on]? = some oe → oe.dst = some d → T d w (ρ (.tmp d))) → C k w →
      ∃ w', (execOp ρ o).run Try.prog w = .ok .skip w' ∧ C (k + 1) w' ∧ R w w') : OpTy Try.prog ops a0 R C T o := by
  intro k ρ w hc hf hx hd hkk hCk
  obtain ⟨w', e, h1, h2⟩ := hrun k ρ w hc hd hCk
  rw [e]
  refine ⟨h1, h2, fun d' hd' => ?_⟩
  rw [hdst] at hd'; cases hd'

theorem ty_eqb {lo hi : Int} {c : Int} (ho : o.op = .binOp .eql 3 (.tmp t) (.const (.int .i64 c)) 3) (hdst : o.dst = some d) (hdep : depB ops o t = true) (hkt : T t = kInt lo hi) (hk : T d = kBool) (hC : ∀ k w, C k w → C (k + 1) w) : OpTy Try.prog ops a0 (Up M) C T o := by
  intro k ρ w hc hf hx hd hkk hCk
  have hv := dep_of hdep hd
  rw [hkt] at hv
  obtain ⟨j, hv, h4, h5⟩ := hv
  have e : (execOp ρ o).run Try.prog w = .ok (.value (.bool (j == c))) w := by
    simp only [execOp, ho, hv, hc]
    go_simp
  rw [e]
  refine ⟨hC k w hCk, Up.refl _ _, fun d' hd' => ?_⟩
  rw [hdst] at hd'; cases hd'
  rw [hk]; exact ⟨_, rfl⟩
end

end Go.Proofs.Ytlifkfemdknndaa

namespace Go.Proofs.Ytlifkfemdknndaa
open Go.RowKit
set_option linter.unusedSimpArgs false
set_option linter.unusedVariables false

/-- nothing that lay has turned -/
def Gr (w w' : World) : Prop := Below w.heap.size w w'
theorem Gr.refl (w : World) : Gr w w := Below.refl _ _
theorem Gr.trans {a b c : World} (h : Gr a b) (k : Gr b c) : Gr a c := Below.trans h (k.mono h.size)

/-- what is known of the slots when an operation comes up -/
structure At (ops : Array Oper) (a0 : Act) (T : Nat → World → Value → Prop) (o : Oper) (ρ : Operand → Value) (w : World) : Prop where
  con : ∀ v, ρ (.const v) = v
  fn : ∀ f, ρ (.func f) = .func (.func f) #[] #[]
  out : ∀ t, outB ops t = true → ρ (.tmp t) = a0.eval (.tmp t)
  dep : ∀ t, depB ops o t = true → T t w (ρ (.tmp t))

section
variable {ops : Array Oper} {a0 : Act} {R : World → World → Prop} {C : Nat → World → Prop} {T : Nat → World → Value → Prop} {o : Oper} {d : Nat}

theorem tx_val (hdst : o.dst = some d)
    (hrun : ∀ (k : Nat) (ρ : Operand → Value) (w : World), k < ops.size → At ops a0 T o ρ w → C k w →
      ∃ v w', (execOp ρ o).run Try.prog w = .ok (.value v) w' ∧ C (k + 1) w' ∧ R w w' ∧ T d w' v) : OpTy Try.prog ops a0 R C T o := by
  intro k ρ w hc hf hx hd hkk hCk
  obtain ⟨v, w', e, h1, h2, h3⟩ := hrun k ρ w hkk ⟨hc, hf, fun t ht => hx t (out_of ht), fun t ht => dep_of ht hd⟩ hCk
  rw [e]
  refine ⟨h1, h2, fun d' hd' => ?_⟩
  rw [hdst] at hd'; cases hd'
  exact h3
theorem tx_pure {u : Value} (hdst : o.dst = some d) (hk : T d = kIs u) (hC : ∀ k w, C k w → C (k + 1) w) (hR : ∀ w, R w w)
    (hrun : ∀ (k : Nat) (ρ : Operand → Value) (w : World), At ops a0 T o ρ w → C k w → (execOp ρ o).run Try.prog w = .ok (.value u) w) : OpTy Try.prog ops a0 R C T o :=
  tx_val hdst (fun k ρ w _ ha hCk => ⟨u, w, hrun k ρ w ha hCk, hC k w hCk, hR w, by rw [hk]; rfl⟩)
theorem tx_skip (hdst : o.dst = none)
    (hrun : ∀ (k : Nat) (ρ : Operand → Value) (w : World), k < ops.size → At ops a0 T o ρ w → C k w →
      ∃ w', (execOp ρ o).run Try.prog w = .ok .skip w' ∧ C (k + 1) w' ∧ R w w') : OpTy Try.prog ops a0 R C T o := by
  intro k ρ w hc hf hx hd hkk hCk
  obtain ⟨w', e, h1, h2⟩ := hrun k ρ w hkk ⟨hc, hf, fun t ht => hx t (out_of ht), fun t ht => dep_of ht hd⟩ hCk
  rw [e]
  refine ⟨h1, h2, fun d' hd' => ?_⟩
  rw [hdst] at hd'; cases hd'
theorem tx_call (hdst : o.dst = some d)
    (hrun : ∀ (k : Nat) (ρ : Operand → Value) (w : World), k < ops.size → At ops a0 T o ρ w → C k w →
      ∃ f args, (execOp ρ o).run Try.prog w = .ok (.enter f args) w ∧ Calls Try.prog f args w fun e w' => ∃ v, e = .returned v ∧ C (k + 1) w' ∧ R w w' ∧ T d w' v) : OpTy Try.prog ops a0 R C T o := by
  intro k ρ w hc hf hx hd hkk hCk
  obtain ⟨f, args, e, hcall⟩ := hrun k ρ w hkk ⟨hc, hf, fun t ht => hx t (out_of ht), fun t ht => dep_of ht hd⟩ hCk
  rw [e]
  refine hcall.mono ?_
  rintro e w' ⟨v, rfl, h1, h2, h3⟩
  refine ⟨v, rfl, h1, h2, fun d' hd' => ?_⟩
  rw [hdst] at hd'; cases hd'
  exact h3
end

end Go.Proofs.Ytlifkfemdknndaa
