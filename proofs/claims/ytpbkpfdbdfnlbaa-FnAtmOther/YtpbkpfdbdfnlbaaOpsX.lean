/-
  More looks of 'wp_region_typed': operations that read slots from outside of the region.
-/
import Derived.Test.YtpbkpfdbdfnlbaaProg
import Derived.Test.YtpbkpfdbdfnlbaaOps
namespace Go.Proofs.Ytpbkpfdbdfnlbaa
open Go.RowKit
set_option linter.unusedSimpArgs false
set_option linter.unusedVariables false

/-- nothing that lay has turned -/
def Gr (w w' : World) : Prop := Below w.heap.size w w'
theorem Gr.refl (w : World) : Gr w w := Below.refl _ _
theorem Gr.trans {a b c : World} (h : Gr a b) (k : Gr b c) : Gr a c := Below.trans h (k.mono h.size)

/-- what is known of the slots when an operation comes up -/
structure At (ops : Array Oper) (a0 : Act) (T : Nat → World → Value → Prop) (o : Oper) (ρ : Operand → Value) (w : World) : Prop where
  con : ∀ v, ρ (.const v) = v
  fn : ∀ f, ρ (.func f) = .func (.func f) #[] #[]
  out : ∀ t, outB ops t = true → ρ (.tmp t) = a0.eval (.tmp t)
  dep : ∀ t, depB ops o t = true → T t w (ρ (.tmp t))

section
variable {ops : Array Oper} {a0 : Act} {R : World → World → Prop} {C : Nat → World → Prop} {T : Nat → World → Value → Prop} {o : Oper} {d : Nat}

theorem tx_val (hdst : o.dst = some d)
    (hrun : ∀ (k : Nat) (ρ : Operand → Value) (w : World), k < ops.size → At ops a0 T o ρ w → C k w →
      ∃ v w', (execOp ρ o).run Try.prog w = .ok (.value v) w' ∧ C (k + 1) w' ∧ R w w' ∧ T d w' v) : OpTy Try.prog ops a0 R C T o := by
  intro k ρ w hc hf hx hd hkk hCk
  obtain ⟨v, w', e, h1, h2, h3⟩ := hrun k ρ w hkk ⟨hc, hf, fun t ht => hx t (out_of ht), fun t ht => dep_of ht hd⟩ hCk
  rw [e]
  refine ⟨h1, h2, fun d' hd' => ?_⟩
  rw [hdst] at hd'; cases hd'
  exact h3
theorem tx_pure {u : Value} (hdst : o.dst = some d) (hk : T d = kIs u) (hC : ∀ k w, C k w → C (k + 1) w) (hR : ∀ w, R w w)
    (hrun : ∀ (k : Nat) (ρ : Operand → Value) (w : World), At ops a0 T o ρ w → C k w → (execOp ρ o).run Try.prog w = .ok (.value u) w) : OpTy Try.prog ops a0 R C T o :=
  tx_val hdst (fun k ρ w _ ha hCk => ⟨u, w, hrun k ρ w ha hCk, hC k w hCk, hR w, by rw [hk]; rfl⟩)
theorem tx_skip (hdst : o.dst = none)
    (hrun : ∀ (k : Nat) (ρ : Operand → Value) (w : World), k < ops.size → At ops a0 T o ρ w → C k w →
      ∃ w', (execOp ρ o).run Try.prog w = .ok .skip w' ∧ C (k + 1) w' ∧ R w w') : OpTy Try.prog ops a0 R C T o := by
  intro k ρ w hc hf hx hd hkk hCk
  obtain ⟨w', e, h1, h2⟩ := hrun k ρ w hkk ⟨hc, hf, fun t ht => hx t (out_of ht), fun t ht => dep_of ht hd⟩ hCk
  rw [e]
  refine ⟨h1, h2, fun d' hd' => ?_⟩
  rw [hdst] at hd'; cases hd'
theorem tx_call (hdst : o.dst = some d)
    (hrun : ∀ (k : Nat) (ρ : Operand → Value) (w : World), k < ops.size → At ops a0 T o ρ w → C k w →
      ∃ f args, (execOp ρ o).run Try.prog w = .ok (.enter f args) w ∧ Calls Try.prog f args w fun e w' => ∃ v, e = .returned v ∧ C (k + 1) w' ∧ R w w' ∧ T d w' v) : OpTy Try.prog ops a0 R C T o := by
  intro k ρ w hc hf hx hd hkk hCk
  obtain ⟨f, args, e, hcall⟩ := hrun k ρ w hkk ⟨hc, hf, fun t ht => hx t (out_of ht), fun t ht => dep_of ht hd⟩ hCk
  rw [e]
  refine hcall.mono ?_
  rintro e w' ⟨v, rfl, h1, h2, h3⟩
  refine ⟨v, rfl, h1, h2, fun d' hd' => ?_⟩
  rw [hdst] at hd'; cases hd'
  exact h3
end

end Go.Proofs.Ytpbkpfdbdfnlbaa
