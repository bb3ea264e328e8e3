/-
  What single operations do to values of known kinds: the looks that 'wp_region_typed' asks.
-/
import Derived.Test.YtpbkpfdbdfnlbaaProg
import Derived.Test.YtpbkpfdbdfnlbaaTyped
namespace Go.Proofs.Ytpbkpfdbdfnlbaa
open Go.RowKit
set_option linter.unusedSimpArgs false
set_option linter.unusedVariables false

def depB (ops : Array Oper) (o : Oper) (d : Nat) : Bool := o.after.toList.any (fun e => Region.binds .any e && (match ops[e.on]? with | some oe => decide (oe.dst = some d) | none => false))
def outB (ops : Array Oper) (d : Nat) : Bool := ops.toList.all (fun x => decide (x.dst ≠ some d))

theorem dep_of {ops : Array Oper} {o : Oper} {d : Nat} (h : depB ops o d = true) {T : Nat → World → Value → Prop} {w : World} {ρ : Operand → Value}
    (hd : ∀ e ∈ o.after.toList, Region.binds .any e = true → ∀ (oe : Oper) (d : Nat), ops[e.on]? = some oe → oe.dst = some d → T d w (ρ (.tmp d))) : T d w (ρ (.tmp d)) := by
  simp only [depB, List.any_eq_true, Bool.and_eq_true] at h
  obtain ⟨e, he, hb, hx⟩ := h
  cases ho : ops[e.on]? with
  | none => rw [ho] at hx; cases hx
  | some oe => rw [ho] at hx; exact hd e he hb oe d ho (by simpa using hx)
theorem out_of {ops : Array Oper} {d : Nat} (h : outB ops d = true) : ∀ x ∈ ops.toList, x.dst ≠ some d := by
  intro x hx
  simp only [outB, List.all_eq_true, decide_eq_true_eq] at h
  exact h x hx

section
variable {P : Program} {ops : Array Oper} {a0 : Act} {M : Nat} {R : World → World → Prop} {C : Nat → World → Prop} {T : Nat → World → Value → Prop} {o : Oper} {d t t2 : Nat}

theorem ty_move_out (ho : o.op = .move (.tmp t) ∨ o.op = .assign (.tmp t)) (hdst : o.dst = some d) (hout : outB ops t = true) (hk : T d = kIs (a0.eval (.tmp t))) (hC : ∀ k w, C k w → C (k + 1) w) (hR : ∀ w, R w w) : OpTy P ops a0 R C T o := by
  intro k ρ w hc hf hx hd hkk hCk
  have e : (execOp ρ o).run P w = .ok (.value (ρ (.tmp t))) w := by rcases ho with ho | ho <;> simp only [execOp, ho] <;> rfl
  rw [e]
  refine ⟨hC k w hCk, hR _, fun d' hd' => ?_⟩
  rw [hdst] at hd'; cases hd'
  rw [hk]; exact hx t (out_of hout)

theorem ty_move_dep (ho : o.op = .move (.tmp t) ∨ o.op = .assign (.tmp t)) (hdst : o.dst = some d) (hdep : depB ops o t = true) (hk : T d = T t) (hC : ∀ k w, C k w → C (k + 1) w) (hR : ∀ w, R w w) : OpTy P ops a0 R C T o := by
  intro k ρ w hc hf hx hd hkk hCk
  have e : (execOp ρ o).run P w = .ok (.value (ρ (.tmp t))) w := by rcases ho with ho | ho <;> simp only [execOp, ho] <;> rfl
  rw [e]
  refine ⟨hC k w hCk, hR _, fun d' hd' => ?_⟩
  rw [hdst] at hd'; cases hd'
  rw [hk]; exact dep_of hdep hd
end

section
variable {ops : Array Oper} {a0 : Act} {M : Nat} {R : World → World → Prop} {C : Nat → World → Prop} {T : Nat → World → Value → Prop} {o : Oper} {d t t2 : Nat}

theorem ty_load {lo hi : Int} (ho : o.op = .load 3 (.tmp t)) (hdst : o.dst = some d) (hdep : depB ops o t = true) (hkt : T t = kCell M lo hi) (hk : T d = kInt lo hi) (hC : ∀ k w, C k w → C (k + 1) w) : OpTy Try.prog ops a0 (Up M) C T o := by
  intro k ρ w hc hf hx hd hkk hCk
  have hv := dep_of hdep hd
  rw [hkt] at hv
  obtain ⟨blk, i, hv, h1, h2, x, h3, h4, h5⟩ := hv
  have e : (execOp ρ o).run Try.prog w = .ok (.value (.int .i64 x)) w := by
    simp only [execOp, ho, hv]
    go_simp
  rw [e]
  refine ⟨hC k w hCk, Up.refl _ _, fun d' hd' => ?_⟩
  rw [hdst] at hd'; cases hd'
  rw [hk]; exact ⟨x, rfl, h3, h4⟩

theorem ty_index {n : Nat} {lo hi lo2 hi2 : Int} (ho : o.op = .indexAddr 24 (.tmp t) (.tmp t2)) (hdst : o.dst = some d) (hdep : depB ops o t = true) (hdep2 : depB ops o t2 = true)
    (hkt : T t = kRow M n lo hi) (hkt2 : T t2 = kInt lo2 hi2) (hlo : 0 ≤ lo2) (hhi : hi2 < n) (hk : T d = kCell M lo hi) (hC : ∀ k w, C k w → C (k + 1) w) : OpTy Try.prog ops a0 (Up M) C T o := by
  intro k ρ w hc hf hx hd hkk hCk
  have hv := dep_of hdep hd
  have hv2 := dep_of hdep2 hd
  rw [hkt] at hv
  rw [hkt2] at hv2
  obtain ⟨blk, hv, h1, h2, h3⟩ := hv
  obtain ⟨j, hv2, h4, h5⟩ := hv2
  have hj0 : (0 : Int) ≤ j := by omega
  have hjn : j < (n : Int) := by omega
  have e : (execOp ρ o).run Try.prog w = .ok (.value (.pointer (some ⟨blk, j.toNat, none⟩))) w := by
    simp only [execOp, ho, hv, hv2]
    go_simp
  rw [e]
  refine ⟨hC k w hCk, Up.refl _ _, fun d' hd' => ?_⟩
  rw [hdst] at hd'; cases hd'
  rw [hk]; exact ⟨blk, j.toNat, rfl, h1, h2, h3 _ (by omega)⟩

theorem ty_build {n : Nat} {lo hi : Int} (hdst : o.dst = some d) (hk : T d = kRow M n lo hi) (hC : ∀ k w o, C k w → C (k + 1) (w.alloc o)) (hB : ∀ k w, C k w → M ≤ w.heap.size)
    (hrun : ∀ (ρ : Operand → Value) (w : World), (∀ v, ρ (.const v) = v) →
      (∀ e ∈ o.after.toList, Region.binds .any e = true → ∀ (oe : Oper) (d : Nat), ops[e.on]? = some oe → oe.dst = some d → T d w (ρ (.tmp d))) →
      ∃ ns : List Int, ns.length = n ∧ (∀ x ∈ ns, lo ≤ x ∧ x ≤ hi) ∧ (execOp ρ o).run Try.prog w = .ok (.value (.slice (some ⟨w.heap.size, 0, none⟩) n n)) (w.alloc (.cells (ns.map (Value.int .i64)).toArray 3))) : OpTy Try.prog ops a0 (Up M) C T o := by
  intro k ρ w hc hf hx hd hkk hCk
  obtain ⟨ns, h1, h2, e⟩ := hrun ρ w hc hd
  rw [e]
  refine ⟨hC k w _ hCk, Up.alloc _ _ _, fun d' hd' => ?_⟩
  rw [hdst] at hd'; cases hd'
  rw [hk]
  refine ⟨w.heap.size, rfl, hB k w hCk, by simp, fun i hi => ?_⟩
  have hi' : i < ns.length := by omega
  refine ⟨ns[i], (h2 _ (List.getElem_mem hi')).1, (h2 _ (List.getElem_mem hi')).2, ?_⟩
  rw [World.cell?_alloc_new]
  simp [hi']

theorem ty_pure {u : Value} (hdst : o.dst = some d) (hk : T d = kIs u) (hC : ∀ k w, C k w → C (k + 1) w) (hR : ∀ w, R w w)
    (hrun : ∀ (k : Nat) (ρ : Operand → Value) (w : World), (∀ v, ρ (.const v) = v) →
      (∀ e ∈ o.after.toList, Region.binds .any e = true → ∀ (oe : Oper) (d : Nat), ops[e.on]? = some oe → oe.dst = some d → T d w (ρ (.tmp d))) → C k w →
      (execOp ρ o).run Try.prog w = .ok (.value u) w) : OpTy Try.prog ops a0 R C T o := by
  intro k ρ w hc hf hx hd hkk hCk
  rw [hrun k ρ w hc hd hCk]
  refine ⟨hC k w hCk, hR _, fun d' hd' => ?_⟩
  rw [hdst] at hd'; cases hd'
  rw [hk]; rfl
theorem ty_enter (hdst : o.dst = some d)
    (hrun : ∀ (k : Nat) (ρ : Operand → Value) (w : World), k < ops.size → (∀ v, ρ (.const v) = v) → (∀ f, ρ (.func f) = .func (.func f) #[] #[]) →
      (∀ e ∈ o.after.toList, Region.binds .any e = true → ∀ (oe : Oper) (d : Nat), ops[e.on]? = some oe → oe.dst = some d → T d w (ρ (.tmp d))) → C k w →
      ∃ f args, (execOp ρ o).run Try.prog w = .ok (.enter f args) w ∧ Calls Try.prog f args w fun e w' => ∃ v, e = .returned v ∧ C (k + 1) w' ∧ R w w' ∧ T d w' v) : OpTy Try.prog ops a0 R C T o := by
  intro k ρ w hc hf hx hd hkk hCk
  obtain ⟨f, args, e, hcall⟩ := hrun k ρ w hkk hc hf hd hCk
  rw [e]
  refine hcall.mono ?_
  rintro e w' ⟨v, rfl, h1, h2, h3⟩
  refine ⟨v, rfl, h1, h2, fun d' hd' => ?_⟩
  rw [hdst] at hd'; cases hd'
  exact h3

theorem ty_val (hdst : o.dst = some d)
    (hrun : ∀ (k : Nat) (ρ : Operand → Value) (w : World), (∀ v, ρ (.const v) = v) →
      (∀ e ∈ o.after.toList, Region.binds .any e = true → ∀ (oe : Oper) (d : Nat), ops[e.on]? = some oe → oe.dst = some d → T d w (ρ (.tmp d))) → C k w →
      ∃ v w', (execOp ρ o).run Try.prog w = .ok (.value v) w' ∧ C (k + 1) w' ∧ R w w' ∧ T d w' v) : OpTy Try.prog ops a0 R C T o := by
  intro k ρ w hc hf hx hd hkk hCk
  obtain ⟨v, w', e, h1, h2, h3⟩ := hrun k ρ w hc hd hCk
  rw [e]
  refine ⟨h1, h2, fun d' hd' => ?_⟩
  rw [hdst] at hd'; cases hd'
  exact h3
theorem ty_skip (hdst : o.dst = none)
    (hrun : ∀ (k : Nat) (ρ : Operand → Value) (w : World), (∀ v, ρ (.const v) = v) →
      (∀ e ∈ o.after.toList, Region.binds .any e = true → ∀ (oe : Oper) (d : Nat), ops[e.on]? = some oe → oe.dst = some d → T d w (ρ (.tmp d))) → C k w →
      ∃ w', (execOp ρ o).run Try.prog w = .ok .skip w' ∧ C (k + 1) w' ∧ R w w') : OpTy Try.prog ops a0 R C T o := by
  intro k ρ w hc hf hx hd hkk hCk
  obtain ⟨w', e, h1, h2⟩ := hrun k ρ w hc hd hCk
  rw [e]
  refine ⟨h1, h2, fun d' hd' => ?_⟩
  rw [hdst] at hd'; cases hd'

theorem ty_eqb {lo hi : Int} {c : Int} (ho : o.op = .binOp .eql 3 (.tmp t) (.const (.int .i64 c)) 3) (hdst : o.dst = some d) (hdep : depB ops o t = true) (hkt : T t = kInt lo hi) (hk : T d = kBool) (hC : ∀ k w, C k w → C (k + 1) w) : OpTy Try.prog ops a0 (Up M) C T o := by
  intro k ρ w hc hf hx hd hkk hCk
  have hv := dep_of hdep hd
  rw [hkt] at hv
  obtain ⟨j, hv, h4, h5⟩ := hv
  have e : (execOp ρ o).run Try.prog w = .ok (.value (.bool (j == c))) w := by
    simp only [execOp, ho, hv, hc]
    go_simp
  rw [e]
  refine ⟨hC k w hCk, Up.refl _ _, fun d' hd' => ?_⟩
  rw [hdst] at hd'; cases hd'
  rw [hk]; exact ⟨_, rfl⟩
end

end Go.Proofs.Ytpbkpfdbdfnlbaa
