/-
  A region that draws its order, in which what each slot comes to is known ahead, and of what lay nothing turns: walked once, callees that make new blocks and guards and all.
-/
import Derived.Test.YtdjmjdljgdagcaaOpsX
namespace Go.Proofs.Ytdjmjdljgdagcaa
open Go.RowKit
set_option linter.unusedSimpArgs false
set_option linter.unusedVariables false

/-- values by slots -/
def tabV : List (Nat × Value) → Nat → Value
  | [], _ => undef
  | (d, v) :: l, x => if x = d then v else tabV l x

/-- what is known when an operation comes up -/
structure AtD (ops : Array Oper) (a0 : Act) (f : Nat → Value) (o : Oper) (w0 : World) (ρ : Operand → Value) (w : World) : Prop where
  con : ∀ v, ρ (.const v) = v
  fn : ∀ f, ρ (.func f) = .func (.func f) #[] #[]
  out : ∀ t, outB ops t = true → ρ (.tmp t) = a0.eval (.tmp t)
  dep : ∀ t, depB ops o t = true → ρ (.tmp t) = f t
  below : Below w0.heap.size w0 w

section
variable {ops : Array Oper} {a0 : Act} {f : Nat → Value} {o : Oper} {w0 : World} {d : Nat}

abbrev DetTy (ops : Array Oper) (a0 : Act) (f : Nat → Value) (w0 : World) (o : Oper) : Prop := OpTy Try.prog ops a0 Gr (fun _ w => Below w0.heap.size w0 w) (fun d _ v => v = f d) o
abbrev DetTyG (ops : Array Oper) (a0 : Act) (f : Nat → Value) (w0 : World) (o : Oper) : Prop := OpTyG Try.prog ops a0 Gr (fun _ w => Below w0.heap.size w0 w) (fun d _ v => v = f d) o

theorem dt_val (hdst : o.dst = some d) (hrun : ∀ ρ w, AtD ops a0 f o w0 ρ w → (execOp ρ o).run Try.prog w = .ok (.value (f d)) w) : DetTy ops a0 f w0 o := by
  refine tx_val hdst (fun k ρ w _ hat hC => ?_)
  exact ⟨f d, w, hrun ρ w ⟨hat.con, hat.fn, hat.out, hat.dep, hC⟩, hC, Gr.refl _, rfl⟩

theorem dt_call (hdst : o.dst = some d) (hrun : ∀ ρ w, AtD ops a0 f o w0 ρ w → ∃ fn args, (execOp ρ o).run Try.prog w = .ok (.enter fn args) w ∧ Calls Try.prog fn args w fun e w' => e = .returned (f d) ∧ Below w.heap.size w w') : DetTy ops a0 f w0 o := by
  refine tx_call hdst (fun k ρ w _ hat hC => ?_)
  obtain ⟨fn, args, h1, h2⟩ := hrun ρ w ⟨hat.con, hat.fn, hat.out, hat.dep, hC⟩
  refine ⟨fn, args, h1, h2.mono ?_⟩
  rintro e w' ⟨rfl, hb⟩
  exact ⟨_, rfl, hC.trans (hb.mono hC.size), hb, rfl⟩

/-- a guard that came out otherwise: the operation is passed by -/
theorem gdN {o : Oper} (g : Nat) (b c : Bool) (hg : o.guard = some (g, b)) (hcb : c ≠ b) (og : Oper) (hog : ops[g]? = some og) (d' : Nat) (hd' : og.dst = some d') (hT : f d' = .bool c) (he : o.after.toList.any (fun e => Region.binds .any e && e.on == g) = true)
    (hdst : ∀ d, o.dst = some d → f d = undef) : DetTyG ops a0 f w0 o := by
  obtain ⟨e, h1, h2⟩ := List.any_eq_true.1 he
  simp at h2
  exact .inr ⟨g, b, c, og, d', hg, hog, hd', by funext _ v; show (v = f d') = _; rw [hT], ⟨e, h1, h2.1, h2.2⟩, .inr ⟨hcb, Gr.refl, fun _ _ h => h, fun d'' hd'' w => (hdst d'' hd'').symm⟩⟩

theorem wp_region_grow {id : Nat} {Q : Exit → Act → World → Prop} (hm : Try.prog.follows .mixedOrders = true) (f : Nat → Value) (dsts : List Nat)
    (hds : ops.toList.filterMap (·.dst) = dsts) (hform : formB ops a0.tmps.size = true)
    (hop : ∀ o ∈ ops.toList, DetTyG ops a0 f w0 o)
    (hQ : ∀ w, Below w0.heap.size w0 w → Q .normal (fill a0 f dsts) w) : (Code.region id ops true).wp Try.prog Q a0 w0 := by
  refine wp_region_typed hm Gr (fun _ w => Below w0.heap.size w0 w) (fun d _ v => v = f d) dsts hds hform (fun _ _ _ _ _ h => h) ((Below.refl _ _).drew) hop ?_
  intro f' w hw hf
  have e : ∀ l, (∀ d ∈ l, f' d = f d) → fill a0 f' l = fill a0 f l := by
    intro l
    induction l with
    | nil => intro _; rfl
    | cons d l ih =>
      intro h
      simp only [fill]
      rw [ih (fun d hd => h d (by simp [hd])), h d (by simp)]
  rw [e dsts hf]
  exact hQ w hw
end

end Go.Proofs.Ytdjmjdljgdagcaa
