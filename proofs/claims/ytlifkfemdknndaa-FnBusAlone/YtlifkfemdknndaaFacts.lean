/-
  A region that draws its order, walked once, by facts: each operation leaves a fact of slots and memory; facts abide what happens to other slots, and what only grows; an operation that turns what lay shows what it leaves of all facts.
-/
import Derived.Test.YtlifkfemdknndaaOpsXM
import Derived.Test.YtlifkfemdknndaaORow
namespace Go.Proofs.Ytlifkfemdknndaa
open Go.RowKit
set_option linter.unusedSimpArgs false
set_option linter.unusedVariables false

def resV (l : List Nat) (s : Nat → Value) : Nat → Value := fun t => if l.contains t then s t else undef
def resB (l : List Nat) (d : Nat → Bool) : Nat → Bool := fun t => if l.contains t then d t else false
/-- a fact: of which slots it speaks, of which operations (done or not), and what it says -/
structure Fact where
  slots : List Nat
  dones : List Nat
  body : (Nat → Value) → (Nat → Bool) → World → Prop
def Fact.at (F : Fact) (s : Nat → Value) (d : Nat → Bool) (w : World) : Prop := F.body (resV F.slots s) (resB F.dones d) w
def updV (s : Nat → Value) (o : Option Nat) (v : Value) : Nat → Value := fun t => if o = some t then v else s t
def updB (d : Nat → Bool) (i : Nat) : Nat → Bool := fun t => if t = i then true else d t

theorem Fact.at_congr {F : Fact} {s s' : Nat → Value} {d d' : Nat → Bool} {w : World} (hs : ∀ t, F.slots.contains t = true → s t = s' t) (hd : ∀ t, F.dones.contains t = true → d t = d' t) (h : F.at s d w) : F.at s' d' w := by
  have e1 : resV F.slots s = resV F.slots s' := by
    funext t
    unfold resV
    by_cases hc : F.slots.contains t = true
    · rw [if_pos hc, if_pos hc, hs t hc]
    · rw [if_neg hc, if_neg hc]
  have e2 : resB F.dones d = resB F.dones d' := by
    funext t
    unfold resB
    by_cases hc : F.dones.contains t = true
    · rw [if_pos hc, if_pos hc, hd t hc]
    · rw [if_neg hc, if_neg hc]
  unfold Fact.at at *
  rw [← e1, ← e2]; exact h

/-- i waits, by one edge or more, for j -/
def reachB (ops : Array Oper) : Nat → Nat → Nat → Bool
  | 0, _, _ => false
  | k + 1, i, j => match ops[i]? with
    | none => false
    | some o => o.after.toList.any (fun e => Region.binds .any e && (e.on == j || reachB ops k e.on j))

def Clos (ops : Array Oper) (d : Nat → Bool) : Prop := ∀ (j : Nat) (o : Oper), d j = true → ops[j]? = some o → ∀ e ∈ o.after.toList, Region.binds .any e = true → d e.on = true

theorem reach_done {ops : Array Oper} {d : Nat → Bool} (hc : Clos ops d) : ∀ (k i j : Nat) (o : Oper), ops[i]? = some o → (∀ e ∈ o.after.toList, Region.binds .any e = true → d e.on = true) → reachB ops k i j = true → d j = true
  | 0, _, _, _, _, _, h => by simp [reachB] at h
  | k + 1, i, j, o, ho, hd, h => by
    simp only [reachB, ho, List.any_eq_true, Bool.and_eq_true, Bool.or_eq_true, beq_iff_eq] at h
    obtain ⟨e, he, hb, hj⟩ := h
    have hde := hd e he hb
    rcases hj with hj | hj
    · rw [← hj]; exact hde
    · cases hoe : ops[e.on]? with
      | none =>
        cases k with
        | zero => simp [reachB] at hj
        | succ k => simp [reachB, hoe] at hj
      | some oe => exact reach_done hc k e.on j oe hoe (fun e' he' hb' => hc e.on oe hde hoe e' he' hb') hj

/-- what is known when operation i comes up -/
structure AtF (ops : Array Oper) (a0 : Act) (facts : Nat → Fact) (C : (Nat → Bool) → World → Prop) (i : Nat) (done : Nat → Bool) (ρ : Operand → Value) (w : World) : Prop where
  con : ∀ v, ρ (.const v) = v
  fn : ∀ f, ρ (.func f) = .func (.func f) #[] #[]
  out : ∀ t, outB ops t = true → ρ (.tmp t) = a0.eval (.tmp t)
  old : ∀ t, (∀ (j : Nat) (o : Oper), ops[j]? = some o → o.dst = some t → done j = false) → ρ (.tmp t) = a0.eval (.tmp t)
  new : done i = false
  lt : ∀ j, done j = true → j < ops.size
  clos : Clos ops done
  dn : ∀ j, reachB ops ops.size i j = true → done j = true
  all : ∀ j, done j = true → (facts j).at (fun t => ρ (.tmp t)) done w
  cls : C done w

theorem AtF.fact {ops : Array Oper} {a0 : Act} {facts : Nat → Fact} {C : (Nat → Bool) → World → Prop} {i : Nat} {done : Nat → Bool} {ρ : Operand → Value} {w : World} (h : AtF ops a0 facts C i done ρ w) (j : Nat) (hj : reachB ops ops.size i j = true) : (facts j).at (fun t => ρ (.tmp t)) done w := h.all j (h.dn j hj)

/-- who writes slot t waits for i -/
def oldB (ops : Array Oper) (i t : Nat) : Bool := (List.range ops.size).all (fun j => match ops[j]? with
  | some o => !(o.dst == some t) || (j == i || reachB ops ops.size j i)
  | none => true)
theorem AtF.oldB {ops : Array Oper} {a0 : Act} {facts : Nat → Fact} {C : (Nat → Bool) → World → Prop} {i : Nat} {done : Nat → Bool} {ρ : Operand → Value} {w : World} (h : AtF ops a0 facts C i done ρ w) (t : Nat) (hb : oldB ops i t = true) : ρ (.tmp t) = a0.eval (.tmp t) := by
  refine h.old t (fun j o ho hd => ?_)
  have hj := (Array.getElem?_eq_some_iff.1 ho).1
  simp only [Go.Proofs.Ytlifkfemdknndaa.oldB, List.all_eq_true, List.mem_range] at hb
  have := hb j hj
  rw [ho] at this
  simp only [hd, beq_self_eq_true, Bool.not_true, Bool.false_or, Bool.or_eq_true, beq_iff_eq] at this
  cases hdn : done j
  · rfl
  · exfalso
    rcases this with e | e
    · rw [e, h.new] at hdn; cases hdn
    · have := reach_done h.clos ops.size j i o ho (fun e he hb => h.clos j o hdn ho e he hb) e
      rw [h.new] at this; cases this

/-- who waits for i is not done yet -/
theorem AtF.notyet {ops : Array Oper} {a0 : Act} {facts : Nat → Fact} {C : (Nat → Bool) → World → Prop} {i : Nat} {done : Nat → Bool} {ρ : Operand → Value} {w : World} (h : AtF ops a0 facts C i done ρ w) (j : Nat) (hr : reachB ops ops.size j i = true) : done j = false := by
  cases hdn : done j
  · rfl
  · exfalso
    have hj := h.lt j hdn
    have hoj : ops[j]? = some ops[j] := by simp [hj]
    have := reach_done h.clos ops.size j i ops[j] hoj (fun e he hb => h.clos j ops[j] hdn hoj e he hb) hr
    rw [h.new] at this; cases this

/-- what an operation must leave -/
def FLeaves (facts : Nat → Fact) (C : (Nat → Bool) → World → Prop) (i : Nat) (o : Oper) (done : Nat → Bool) (ρ : Operand → Value) (w' : World) (v : Value) : Prop :=
  C (updB done i) w' ∧ ∀ j, (done j = true ∨ j = i) → (facts j).at (updV (fun t => ρ (.tmp t)) o.dst v) (updB done i) w'

def FOp (P : Program) (ops : Array Oper) (a0 : Act) (facts : Nat → Fact) (C : (Nat → Bool) → World → Prop) (i : Nat) (o : Oper) : Prop :=
  ∀ done ρ w, AtF ops a0 facts C i done ρ w →
    (o.guard = none ∧ tyUpon P (FLeaves facts C i o done ρ) ((execOp ρ o).run P w)) ∨
    ∃ (g : Nat) (b c : Bool) (og : Oper) (d : Nat), o.guard = some (g, b) ∧ ops[g]? = some og ∧ og.dst = some d ∧ ρ (.tmp d) = .bool c ∧
      ((c = b ∧ tyUpon P (FLeaves facts C i o done ρ) ((execOp ρ o).run P w)) ∨ (c ≠ b ∧ FLeaves facts C i o done ρ w undef))

/-- the facts speak of slots of their own and of what they wait for -/
def closedB (ops : Array Oper) (facts : Nat → Fact) : Bool :=
  (List.range ops.size).all (fun j => (facts j).slots.all (fun t => (List.range ops.size).all (fun i => match ops[i]? with
    | some o => !(o.dst == some t) || (i == j || reachB ops ops.size j i || (facts j).dones.contains i)
    | none => true)))
theorem closed_spec {ops : Array Oper} {facts : Nat → Fact} (h : closedB ops facts = true) {j t i : Nat} {o : Oper} (hj : j < ops.size) (ht : (facts j).slots.contains t = true) (ho : ops[i]? = some o) (hd : o.dst = some t) : i = j ∨ reachB ops ops.size j i = true ∨ (facts j).dones.contains i = true := by
  simp only [closedB, List.all_eq_true, List.mem_range] at h
  have hi := (Array.getElem?_eq_some_iff.1 ho).1
  have := h j hj t (by simpa using ht) i hi
  rw [ho] at this
  simp only [hd, beq_self_eq_true, Bool.not_true, Bool.false_or, Bool.or_eq_true, beq_iff_eq] at this
  rcases this with (h | h) | h
  · exact .inl h
  · exact .inr (.inl h)
  · exact .inr (.inr h)

def InvF (ops : Array Oper) (a0 : Act) (facts : Nat → Fact) (C : (Nat → Bool) → World → Prop) (listed : Array Bool) (a : Act) (w : World) : Prop :=
  C (fun i => listed.getD i false) w ∧ a.defers = a0.defers ∧ a.tmps.size = a0.tmps.size ∧ (∀ d, (∀ (j : Nat) (o : Oper), ops[j]? = some o → o.dst = some d → listed.getD j false = false) → a.eval (.tmp d) = a0.eval (.tmp d)) ∧
    Clos ops (fun i => listed.getD i false) ∧ (∀ j, listed.getD j false = true → (facts j).at (fun t => a.eval (.tmp t)) (fun i => listed.getD i false) w)

section
variable {P : Program} {ops : Array Oper} {a0 : Act} {facts : Nat → Fact} {C : (Nat → Bool) → World → Prop} {Q : Exit → Act → World → Prop}

/-- an operation that turns the world by S leaves all other facts that abide S, but those of E and those that ask whether it is done -/
theorem frel {S : World → World → Prop} {E : List Nat} {i : Nat} {o : Oper} {done : Nat → Bool} {ρ : Operand → Value} {w w' : World} {v : Value} (hst : ∀ j, E.contains j = false → ∀ s d w w', S w w' → (facts j).body s d w → (facts j).body s d w')
    (hcl : closedB ops facts = true) (ho : ops[i]? = some o) (hat : AtF ops a0 facts C i done ρ w)
    (hg : S w w') (hC : C (updB done i) w') (hnew : (facts i).at (updV (fun t => ρ (.tmp t)) o.dst v) (updB done i) w')
    (hre : ∀ j, done j = true → (E.contains j = true ∨ (facts j).dones.contains i = true) → (facts j).at (updV (fun t => ρ (.tmp t)) o.dst v) (updB done i) w') : FLeaves facts C i o done ρ w' v := by
  refine ⟨hC, fun j hj => ?_⟩
  by_cases hji : j = i
  · subst hji; exact hnew
  have hdj : done j = true := hj.resolve_right hji
  by_cases hcd : (facts j).dones.contains i = true
  · exact hre j hdj (.inr hcd)
  cases hE : E.contains j
  rotate_left
  · exact hre j hdj (.inl hE)
  have hjl := hat.lt j hdj
  have h1 := hst j hE _ _ w w' hg (hat.all j hdj)
  refine Fact.at_congr (F := facts j) (fun t ht => ?_) (fun t ht => ?_) h1
  · unfold updV
    by_cases hd : o.dst = some t
    · exfalso
      rcases closed_spec hcl hjl ht ho hd with h | h | h
      · exact hji h.symm
      · have hoj : ops[j]? = some ops[j] := by simp [hjl]
        have := reach_done hat.clos ops.size j i ops[j] hoj (fun e he hb => hat.clos j ops[j] hdj hoj e he hb) h
        rw [hat.new] at this; cases this
      · exact hcd h
    · rw [if_neg hd]
  · unfold updB
    by_cases hti : t = i
    · exfalso
      subst hti
      exact hcd ht
    · rw [if_neg hti]

/-- facts by a list -/
def factsOf (l : List Fact) : Nat → Fact := fun j => l.getD j ⟨[], [], fun _ _ _ => True⟩
def Fact.Stab (F : Fact) : Prop := ∀ s d w w', Gr w w' → F.body s d w → F.body s d w'
theorem stab_nil : ∀ F ∈ ([] : List Fact), F.Stab := fun _ h => by cases h
theorem stab_cons {F : Fact} {l : List Fact} (h : F.Stab) (hl : ∀ G ∈ l, G.Stab) : ∀ G ∈ F :: l, G.Stab := fun G hG => by
  rcases List.mem_cons.1 hG with rfl | hG
  · exact h
  · exact hl G hG
theorem stab_of {l : List Fact} (h : ∀ F ∈ l, F.Stab) : ∀ j s d w w', Gr w w' → (factsOf l j).body s d w → (factsOf l j).body s d w' := by
  intro j s d w w' hg hb
  unfold factsOf at *
  by_cases hj : j < l.length
  · have e : l.getD j ⟨[], [], fun _ _ _ => True⟩ = l[j] := by simp [hj]
    rw [e] at hb ⊢
    exact h l[j] (List.getElem_mem hj) s d w w' hg hb
  · have e : l.getD j ⟨[], [], fun _ _ _ => True⟩ = ⟨[], [], fun _ _ _ => True⟩ := by simp [List.getElem?_eq_none (by omega : l.length ≤ j)]
    rw [e]; trivial
/-- the fact of a slot whose value is known -/
def fIs (d : Nat) (v : Value) : Fact := ⟨[d], [], fun s _ _ => s d = v⟩
theorem fIs_stab (d : Nat) (v : Value) : (fIs d v).Stab := fun _ _ _ _ _ h => h
theorem fIs_at {d : Nat} {v : Value} {s : Nat → Value} {b : Nat → Bool} {w : World} (h : (fIs d v).at s b w) : s d = v := by
  have h' : resV [d] s d = v := h
  simpa [resV] using h'
theorem fIs_mk {d : Nat} {v : Value} {s : Nat → Value} {b : Nat → Bool} {w : World} (h : s d = v) : (fIs d v).at s b w := by
  show resV [d] s d = v
  simpa [resV] using h
/-- the fact of a slot, of a kind -/
def fK (d : Nat) (K : World → Value → Prop) : Fact := ⟨[d], [], fun s _ w => K w (s d)⟩
theorem fK_at {d : Nat} {K : World → Value → Prop} {s : Nat → Value} {b : Nat → Bool} {w : World} (h : (fK d K).at s b w) : K w (s d) := by
  have h' : K w (resV [d] s d) := h
  simpa [resV] using h'
theorem fK_mk {d : Nat} {K : World → Value → Prop} {s : Nat → Value} {b : Nat → Bool} {w : World} (h : K w (s d)) : (fK d K).at s b w := by
  show K w (resV [d] s d)
  simpa [resV] using h
theorem fK_stab {d : Nat} {K : World → Value → Prop} (h : ∀ w w' v, Gr w w' → K w v → K w' v) : (fK d K).Stab := fun _ _ _ _ hg hb => h _ _ _ hg hb
theorem updV_same (s : Nat → Value) (d : Nat) (v : Value) : updV s (some d) v d = v := by simp [updV]
theorem updV_ne (s : Nat → Value) {d t : Nat} (h : d ≠ t) (v : Value) : updV s (some d) v t = s t := by simp [updV, h]

theorem fo_rel {S : World → World → Prop} {E : List Nat} {i : Nat} {o : Oper} {facts : Nat → Fact} (hst : ∀ j, E.contains j = false → ∀ s d w w', S w w' → (facts j).body s d w → (facts j).body s d w') (hcl : closedB ops facts = true) (ho : ops[i]? = some o) (hg : o.guard = none)
    (hrun : ∀ done ρ w, AtF ops a0 facts C i done ρ w → tyUpon P (fun w' v => C (updB done i) w' ∧ S w w' ∧ (facts i).at (updV (fun t => ρ (.tmp t)) o.dst v) (updB done i) w' ∧
      (∀ j, done j = true → (E.contains j = true ∨ (facts j).dones.contains i = true) → (facts j).at (updV (fun t => ρ (.tmp t)) o.dst v) (updB done i) w')) ((execOp ρ o).run P w)) : FOp P ops a0 facts C i o := by
  intro done ρ w hat
  refine .inl ⟨hg, ?_⟩
  have H := hrun done ρ w hat
  have key : ∀ w' v, (C (updB done i) w' ∧ S w w' ∧ (facts i).at (updV (fun t => ρ (.tmp t)) o.dst v) (updB done i) w' ∧ (∀ j, done j = true → (E.contains j = true ∨ (facts j).dones.contains i = true) → (facts j).at (updV (fun t => ρ (.tmp t)) o.dst v) (updB done i) w')) → FLeaves facts C i o done ρ w' v :=
    fun w' v ⟨g1, g2, g3, g4⟩ => frel hst hcl ho hat g2 g1 g3 g4
  generalize (execOp ρ o).run P w = r at H
  cases r with
  | ok n w' =>
    cases n <;> simp only [tyUpon] at H ⊢
    case value v => exact key _ _ H
    case skip => exact key _ _ H
    case enter f args =>
      refine H.mono ?_
      rintro e w'' ⟨v, rfl, hG⟩
      exact ⟨v, rfl, key _ _ hG⟩
  | halt x w' => simp only [tyUpon] at H

theorem fo_grow {i : Nat} {o : Oper} {l : List Fact} (hst : ∀ F ∈ l, F.Stab) (hcl : closedB ops (factsOf l) = true) (ho : ops[i]? = some o) (hg : o.guard = none)
    (hrun : ∀ done ρ w, AtF ops a0 (factsOf l) C i done ρ w → tyUpon P (fun w' v => C (updB done i) w' ∧ Gr w w' ∧ (factsOf l i).at (updV (fun t => ρ (.tmp t)) o.dst v) (updB done i) w' ∧
      (∀ j, done j = true → (factsOf l j).dones.contains i = true → (factsOf l j).at (updV (fun t => ρ (.tmp t)) o.dst v) (updB done i) w')) ((execOp ρ o).run P w)) : FOp P ops a0 (factsOf l) C i o := by
  refine fo_rel (S := Gr) (E := []) (fun j _ => stab_of hst j) hcl ho hg (fun done ρ w hat => ?_)
  have H := hrun done ρ w hat
  generalize (execOp ρ o).run P w = r at H
  cases r with
  | ok n w' =>
    cases n <;> simp only [tyUpon] at H ⊢
    case value v => exact ⟨H.1, H.2.1, H.2.2.1, fun j hj h => H.2.2.2 j hj (by simpa using h)⟩
    case skip => exact ⟨H.1, H.2.1, H.2.2.1, fun j hj h => H.2.2.2 j hj (by simpa using h)⟩
    case enter f args =>
      refine H.mono ?_
      rintro e w'' ⟨v, rfl, hG⟩
      exact ⟨v, rfl, hG.1, hG.2.1, hG.2.2.1, fun j hj h => hG.2.2.2 j hj (by simpa using h)⟩
  | halt x w' => simp only [tyUpon] at H

/-- all blocks but cells of type t lie as they lay -/
structure KT (t : TypeId) (w w' : World) : Prop where
  os : w'.os = w.os
  tape : w'.tape = w.tape
  output : w'.output = w.output
  size : w.heap.size ≤ w'.heap.size
  block : ∀ (k : Nat) (o : Obj), w.heap[k]? = some o → (∀ cs fr, o ≠ Obj.cells cs t fr) → w'.heap[k]? = some o
/-- a fact that abides KT, by its kind -/
def Fact.StabT (t : TypeId) (F : Fact) : Prop := ∀ s d w w', KT t w w' → F.body s d w → F.body s d w'
theorem fIs_stabT (t : TypeId) (d : Nat) (v : Value) : (fIs d v).StabT t := fun _ _ _ _ _ h => h

/-- nobody asks whether i is done -/
def freeB (ops : Array Oper) (facts : Nat → Fact) (i : Nat) : Bool := (List.range ops.size).all (fun j => !(facts j).dones.contains i)
theorem free_spec {facts : Nat → Fact} {i : Nat} {done : Nat → Bool} (h : freeB ops facts i = true) (hlt : ∀ j, done j = true → j < ops.size) {X : Nat → Prop} : ∀ j, done j = true → (facts j).dones.contains i = true → X j := by
  intro j hj hc
  exfalso
  simp only [freeB, List.all_eq_true, List.mem_range] at h
  have := h j (hlt j hj)
  rw [hc] at this; cases this

/-- an operation whose value is known, and that only reads -/
theorem fo_det {i : Nat} {o : Oper} {l : List Fact} {d : Nat} {v : Value} (hst : ∀ F ∈ l, F.Stab) (hcl : closedB ops (factsOf l) = true) (ho : ops[i]? = some o) (hg : o.guard = none) (hd : o.dst = some d) (hF : factsOf l i = fIs d v) (hfr : freeB ops (factsOf l) i = true)
    (hC : ∀ done w, C done w → C (updB done i) w)
    (hrun : ∀ done ρ w, AtF ops a0 (factsOf l) C i done ρ w → (execOp ρ o).run P w = .ok (.value v) w) : FOp P ops a0 (factsOf l) C i o := by
  refine fo_grow hst hcl ho hg (fun done ρ w hat => ?_)
  rw [hrun done ρ w hat]
  refine ⟨hC _ _ hat.cls, Gr.refl _, ?_, free_spec hfr hat.lt⟩
  rw [hF, hd]
  exact fIs_mk (updV_same _ _ _)

theorem any_facts (hform : formB ops a0.tmps.size = true) (hop : ∀ i o, ops[i]? = some o → FOp P ops a0 facts C i o)
    (hQ : ∀ a w, InvF ops a0 facts C (Array.replicate ops.size true) a w → Q .normal a w) :
    ∀ (fuel k : Nat) (listed : Array Bool) (a : Act) (w : World), listed.size = ops.size → cnt listed = k → k + fuel = ops.size → InvF ops a0 facts C listed a w → wpAny P .any ops Q fuel listed a w := by
  have eqAll : ∀ (listed : Array Bool), listed.size = ops.size → (∀ i, i < ops.size → listed.getD i false = true) → listed = Array.replicate ops.size true := by
    intro listed hls hall
    apply Array.ext
    · simp [hls]
    · intro i h1 h2
      have := hall i (by omega)
      simp [h1] at this
      simp [this]
  have done : ∀ (listed : Array Bool) (a : Act) (w : World), listed.size = ops.size → cnt listed = ops.size → InvF ops a0 facts C listed a w → Q .normal a w := by
    intro listed a w hls hc hI
    rw [eqAll listed hls (fun i hi => cnt_all listed (by omega) i (by omega))] at hI
    exact hQ a w hI
  intro fuel
  induction fuel with
  | zero =>
    intro k listed a w hls hc hk hI
    refine ⟨?_, done listed a w hls (by omega) hI⟩
    rw [List.eq_nil_iff_forall_not_mem]
    intro j hj
    obtain ⟨h0, o, ho, _⟩ := mem_ready.1 hj
    have hlt := (Array.getElem?_eq_some_iff.1 ho).1
    have h1 := cnt_all listed (by omega) j (by omega)
    have hl : j < listed.size := by omega
    simp [hl] at h0 h1
    rw [h0] at h1
    cases h1
  | succ fuel ih =>
    intro k listed a w hls hc hk hI
    refine ⟨fun hr => ?_, fun i hi => ?_⟩
    · have hall := ready_of_form hform listed hls hr
      rw [eqAll listed hls hall] at hI
      exact hQ a w hI
    · obtain ⟨h0, o, ho, hafter⟩ := mem_ready.1 hi
      obtain ⟨hC, hd, hs, hout, hcl, hf⟩ := hI
      have hlt := (Array.getElem?_eq_some_iff.1 ho).1
      have hnew : listed.getD i false = false := by
        have hl : i < listed.size := by omega
        simp [hl] at h0 ⊢; exact h0
      have hdir : ∀ e ∈ o.after.toList, Region.binds .any e = true → (fun i => listed.getD i false) e.on = true := fun e he hb => hafter e (by simpa using he) hb
      have hat : AtF ops a0 facts C i (fun i => listed.getD i false) a.eval w :=
        ⟨fun _ => rfl, fun _ => rfl, fun t ht => hout t (fun j o ho hd => absurd hd (out_of ht o (Array.mem_toList_iff.2 (Array.mem_of_getElem? ho)))), hout, hnew, fun j hj => by
          by_cases hl : j < listed.size
          · omega
          · simp [hl] at hj, hcl, fun j hj => reach_done hcl ops.size i j o ho hdir hj, hf, hC⟩
      have hgetD : (fun t => (listed.setIfInBounds i true).getD t false) = updB (fun i => listed.getD i false) i := by
        funext t
        unfold updB
        by_cases hti : t = i
        · subst hti
          have hl : t < listed.size := by omega
          simp [hl]
        · rw [if_neg hti, getD_set_ne false (Ne.symm hti)]
      have hslots : ∀ v, (∀ d, o.dst = some d → d < a.tmps.size) → (fun t => (a.put o.dst v).eval (.tmp t)) = updV (fun t => a.eval (.tmp t)) o.dst v := by
        intro v hsz
        funext t
        unfold updV
        cases hod : o.dst with
        | none => simp [Act.put]
        | some d =>
          by_cases hdt : d = t
          · subst hdt
            simp only [if_true]
            exact eval_put_same (hsz d hod)
          · rw [if_neg (by simpa using hdt)]
            exact eval_put_ne hdt
      obtain ⟨hin, huniq, _⟩ := form_spec hform
      have hnext : ∀ (w' : World) (v : Value), FLeaves facts C i o (fun i => listed.getD i false) a.eval w' v → wpAny P .any ops Q fuel (listed.setIfInBounds i true) (a.put o.dst v) w' := by
        rintro w' v ⟨g1, g2⟩
        refine ih (k + 1) _ _ _ (by simp [hls]) (by rw [cnt_set _ _ h0, hc]) (by omega) ⟨by rw [hgetD]; exact g1, ?_, ?_, fun d hnot => ?_, ?_, fun j hj => ?_⟩
        · cases o.dst <;> exact hd
        · cases o.dst <;> simp [Act.put, hs]
        · have hnot' : ∀ (j : Nat) (o : Oper), ops[j]? = some o → o.dst = some d → listed.getD j false = false := by
            intro j oj hoj hdj
            have := hnot j oj hoj hdj
            by_cases hji : i = j
            · subst hji
              have hl : i < listed.size := by omega
              simp [hl] at this
            · rwa [getD_set_ne false hji] at this
          cases hod : o.dst with
          | none => exact hout d hnot'
          | some d' =>
            have : d' ≠ d := fun e => by
              have h1 := hnot i o ho (by rw [hod, e])
              have hl : i < listed.size := by omega
              simp [hl] at h1
            rw [eval_put_ne this]
            exact hout d hnot'
        · rw [hgetD]
          intro j oj hj hoj e he hb
          unfold updB at hj ⊢
          by_cases hei : e.on = i
          · simp [hei]
          · rw [if_neg hei]
            by_cases hji : j = i
            · subst hji
              rw [ho] at hoj; cases hoj
              exact hdir e he hb
            · rw [if_neg hji] at hj
              exact hcl j oj hj hoj e he hb
        · rw [hgetD, hslots v (fun d hd' => by rw [hs]; exact hin i o d ho hd')]
          refine g2 j ?_
          by_cases hji : j = i
          · exact .inr hji
          · left
            rw [getD_set_ne false (Ne.symm hji)] at hj
            exact hj
      have cases2 : (Region.wanted o (yielded ops a.tmps) = true ∧ tyUpon P (FLeaves facts C i o (fun i => listed.getD i false) a.eval) ((execOp a.eval o).run P w)) ∨ (Region.wanted o (yielded ops a.tmps) = false ∧ FLeaves facts C i o (fun i => listed.getD i false) a.eval w undef) := by
        rcases hop i o ho _ _ _ hat with ⟨hg, hH⟩ | ⟨g, b, c, og, d, hg, hog, hod, hv, hcase⟩
        · exact .inl ⟨by simp [Region.wanted, hg], hH⟩
        · have hy : yielded ops a.tmps g = some c := by
            simp only [Act.eval] at hv
            simp [yielded, hog, hod]
            simp at hv
            cases hx : a.tmps[d]? with
            | none => rw [hx] at hv; cases hv
            | some x => rw [hx] at hv; simp at hv; subst hv; rfl
          rcases hcase with ⟨hcb, hH⟩ | ⟨hcb, hH⟩
          · exact .inl ⟨by simp [Region.wanted, hg, hy, hcb], hH⟩
          · exact .inr ⟨by simp [Region.wanted, hg, hy]; exact hcb, hH⟩
      unfold wpOp
      simp only [ho]
      rcases cases2 with ⟨hw, H⟩ | ⟨hw, H⟩
      rotate_left
      · simp only [hw]
        exact hnext w undef H
      simp only [hw, if_true]
      refine .inl ?_
      unfold Oper.wp
      generalize (execOp a.eval o).run P w = r at H
      cases r with
      | ok n w' =>
        cases n <;> simp only [tyUpon] at H <;> simp only [Oper.upon]
        case value v => exact hnext _ _ H
        case skip => exact hnext _ _ H
        case enter f args =>
          refine H.mono ?_
          rintro e w'' ⟨v, rfl, hG⟩
          exact hnext _ _ hG
      | halt x w' => simp only [tyUpon] at H

/-- THE LAW -/
theorem wp_region_facts {id : Nat} {w0 : World} (hm : P.follows .mixedOrders = true) (facts : Nat → Fact) (C : (Nat → Bool) → World → Prop) (dsts : List Nat)
    (hds : ops.toList.filterMap (·.dst) = dsts) (hform : formB ops a0.tmps.size = true) (h0 : C (fun _ => false) { w0 with drawn := w0.drawn + 1 })
    (hop : ∀ i o, ops[i]? = some o → FOp P ops a0 facts C i o)
    (hQ : ∀ (f : Nat → Value) (w : World), C (fun i => decide (i < ops.size)) w → (∀ j, j < ops.size → (facts j).at f (fun i => decide (i < ops.size)) w) → (∀ t, outB ops t = true → f t = a0.eval (.tmp t)) → Q .normal (fill a0 f dsts) w) : (Code.region id ops true).wp P Q a0 w0 := by
  have hz0 : (fun i => (Array.replicate ops.size false).getD i false) = (fun _ => false) := by
    funext i
    by_cases hi : i < ops.size <;> simp [hi]
  refine wp_region_any hm (any_facts (facts := facts) (C := C) hform hop ?_ ops.size 0 _ a0 _ (by simp) (cnt_none _) (by omega) ⟨by rw [hz0]; exact h0, rfl, rfl, fun _ _ => rfl, fun j o hj => ?_, fun j hj => ?_⟩)
  · rintro a w ⟨h1, h2, h3, h4, h5, h6⟩
    have hfill : a = fill a0 (fun d => a.eval (.tmp d)) dsts := by
      have hz := fill_size a0 (fun d => a.eval (.tmp d)) dsts
      obtain ⟨at1, ad⟩ := a
      have e1 : at1 = (fill a0 (fun d => (Act.mk at1 ad).eval (.tmp d)) dsts).tmps := by
        refine Array.ext_getElem? fun j => ?_
        by_cases hj : j < a0.tmps.size
        · rw [fill_at _ _ _ hj]
          have hj' : j < at1.size := by simpa [h3] using hj
          by_cases hm : j ∈ dsts
          · simp [hm, Act.eval, hj']
          · have := h4 j (fun i o ho e => absurd (by rw [← hds]; exact List.mem_filterMap.2 ⟨o, Array.mem_toList_iff.2 (Array.mem_of_getElem? ho), e⟩) hm)
            simp [Act.eval, hj, hj'] at this
            simp [hm, hj, hj', this]
        · rw [Array.getElem?_eq_none (by simp at h3; omega), Array.getElem?_eq_none (by rw [hz.1]; omega)]
      have e2 : ad = (fill a0 (fun d => (Act.mk at1 ad).eval (.tmp d)) dsts).defers := by rw [hz.2]; exact h2
      generalize fill a0 (fun d => (Act.mk at1 ad).eval (.tmp d)) dsts = x at *
      cases x
      simp_all
    have hd : (fun i => (Array.replicate ops.size true).getD i false) = (fun i => decide (i < ops.size)) := by
      funext i
      by_cases hi : i < ops.size <;> simp [hi]
    rw [hd] at h6 h1
    rw [hfill]
    refine hQ _ w h1 (fun j hj => ?_) (fun t ht => h4 t (fun i o ho e => absurd e (out_of ht o (Array.mem_toList_iff.2 (Array.mem_of_getElem? ho)))))
    exact h6 j (by simp [hj])
  · exfalso
    have : (Array.replicate ops.size false).getD j false = false := by
      by_cases hl : j < ops.size <;> simp [hl]
    have hj' : (Array.replicate ops.size false).getD j false = true := hj
    rw [this] at hj'; cases hj'
  · exfalso
    have : (Array.replicate ops.size false).getD j false = false := by
      by_cases hl : j < ops.size <;> simp [hl]
    rw [this] at hj; cases hj
theorem wp_region_fl {id : Nat} {w0 : World} (hm : P.follows .mixedOrders = true) (l : List Fact) (C : (Nat → Bool) → World → Prop) (dsts : List Nat)
    (hds : ops.toList.filterMap (·.dst) = dsts) (hform : formB ops a0.tmps.size = true) (hcl : closedB ops (factsOf l) = true) (h0 : C (fun _ => false) { w0 with drawn := w0.drawn + 1 })
    (hop : closedB ops (factsOf l) = true → ∀ i o, ops[i]? = some o → FOp P ops a0 (factsOf l) C i o)
    (hQ : ∀ (f : Nat → Value) (w : World), C (fun i => decide (i < ops.size)) w → (∀ j, j < ops.size → (factsOf l j).at f (fun i => decide (i < ops.size)) w) → (∀ t, outB ops t = true → f t = a0.eval (.tmp t)) → Q .normal (fill a0 f dsts) w) : (Code.region id ops true).wp P Q a0 w0 :=
  wp_region_facts hm (factsOf l) C dsts hds hform h0 (hop hcl) hQ

theorem ORow.kt {t E s : Nat} {w w' : World} {b cap n : Nat} {cs : List Value} (h : ORow E s w b cap n cs) (hk : KT t w w') (ht : t ≠ E) : ORow E s w' b cap n cs := by
  obtain ⟨cur, h1, h2⟩ := h
  exact ⟨cur, hk.block b _ h1 (fun cs fr e => by injection e with _ e2 _; exact ht e2.symm), h2⟩
theorem KT.cells {t E : TypeId} {w w' : World} {b : Nat} {cs : Array Value} (hk : KT t w w') (h : w.heap[b]? = some (.cells cs E (0, 0))) (ht : t ≠ E) : w'.heap[b]? = some (.cells cs E (0, 0)) :=
  hk.block b _ h (fun cs fr e => by injection e with _ e2 _; exact ht e2.symm)
theorem Gr.cells {w w' : World} {b : Nat} {o : Obj} (hk : Gr w w') (h : w.heap[b]? = some o) : w'.heap[b]? = some o := (hk.block b (Array.getElem?_eq_some_iff.1 h).1).trans h
theorem ORow.gr {E s : Nat} {w w' : World} {b cap n : Nat} {cs : List Value} (h : ORow E s w b cap n cs) (hk : Gr w w') : ORow E s w' b cap n cs := h.of (hk.block b h.lt)
/-- a cell of type t is set: all blocks of other types lie as they lay -/
theorem KT.set {t : TypeId} {w : World} {b i : Nat} {cs : Array Value} (h : w.heap[b]? = some (.cells cs t (0, 0))) (v : Value) : KT t w (w.setCell ⟨b, i, none⟩ v) := by
  have hb := (Below.refl 0 w).setCell (p := ⟨b, i, none⟩) (Nat.zero_le _) v
  refine ⟨hb.os, hb.tape, hb.output, hb.size, fun k o ho hne => ?_⟩
  have hkb : k ≠ b := by
    rintro rfl
    rw [h] at ho
    cases ho
    exact hne cs (0, 0) rfl
  rw [Below.heap_setCell _ _ _ _ (by simpa using hkb)]
  exact ho
theorem KT.trans {t : TypeId} {a b c : World} (h : KT t a b) (k : KT t b c) : KT t a c :=
  ⟨k.os.trans h.os, k.tape.trans h.tape, k.output.trans h.output, Nat.le_trans h.size k.size, fun i o ho hne => k.block i o (h.block i o ho hne) hne⟩
theorem up_val {F : World → Value → Prop} {ρ : Operand → Value} {o : Oper} {w : World} (v : Value) (w' : World) (h : (execOp ρ o).run P w = .ok (.value v) w') (hF : F w' v) : tyUpon P F ((execOp ρ o).run P w) := by rw [h]; exact hF
theorem up_skip {F : World → Value → Prop} {ρ : Operand → Value} {o : Oper} {w : World} (w' : World) (h : (execOp ρ o).run P w = .ok .skip w') (hF : F w' undef) : tyUpon P F ((execOp ρ o).run P w) := by rw [h]; exact hF
theorem up_call {F : World → Value → Prop} {ρ : Operand → Value} {o : Oper} {w : World} (f : Nat) (args : Array Value) (h : (execOp ρ o).run P w = .ok (.enter f args) w) (hF : Calls P f args w fun e w' => ∃ v, e = .returned v ∧ F w' v) : tyUpon P F ((execOp ρ o).run P w) := by rw [h]; exact hF
theorem gr_same {f : Nat} {args : Array Value} {w : World} {r : Ending} (h : Calls P f args w fun e w' => e = r ∧ w' = w) : Calls P f args w fun e w' => e = r ∧ Gr w w' :=
  h.mono (by rintro e w' ⟨h1, h2⟩; exact ⟨h1, by rw [h2]; exact Gr.refl _⟩)
end

end Go.Proofs.Ytlifkfemdknndaa
