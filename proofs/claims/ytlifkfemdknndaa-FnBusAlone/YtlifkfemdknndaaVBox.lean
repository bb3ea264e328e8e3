/-
  A value in the making: a reader, a variable of several cells, the result's cells.
-/
import Derived.Test.YtlifkfemdknndaaProg
import Derived.Test.YtlifkfemdknndaaDraw1
import Derived.Test.YtlifkfemdknndaaDrawWrd
import Derived.Test.YtlifkfemdknndaaPInt
namespace Go.Proofs.Ytlifkfemdknndaa
open Go.RowKit
set_option linter.unusedSimpArgs false
set_option linter.unusedVariables false

structure VB (B Mb R p : Nat) (cs zs : Array Value) (t : TypeId) (w0 w : World) : Prop where
  rd : ∃ q, q ≤ p ∧ Rd w B q
  keep : Keep B w0 w
  box : w.heap[Mb]? = some (.cells cs t (0, 0))
  res : w.heap[R]? = some (.cells zs t (0, 0))
  hB : B < w0.heap.size
  newM : w0.heap.size ≤ Mb
  newR : w0.heap.size ≤ R
  ne : Mb ≠ R
section
variable {B Mb R p q : Nat} {cs zs : Array Value} {t : TypeId} {w0 w w' : World}
theorem VB.le (h : VB B Mb R p cs zs t w0 w) {p' : Nat} (hp : p ≤ p') : VB B Mb R p' cs zs t w0 w := { h with rd := by obtain ⟨q, h1, h2⟩ := h.rd; exact ⟨q, by omega, h2⟩ }
theorem VB.drew (h : VB B Mb R p cs zs t w0 w) : VB B Mb R p cs zs t w0 w.drew := ⟨h.rd, h.keep.drew, h.box, h.res, h.hB, h.newM, h.newR, h.ne⟩
theorem VB.step (h : VB B Mb R p cs zs t w0 w) (hk : Keep B w w') (hr : Rd w' B q) (hq : q ≤ p + 40) : VB B Mb R (p + 40) cs zs t w0 w' := by
  have h1 := h.hB
  have h2 := h.newM
  have h3 := h.newR
  exact { h with
    rd := ⟨q, hq, hr⟩
    keep := h.keep.trans hk
    box := (hk.block Mb (heap_lt h.box) (by omega)).trans h.box
    res := (hk.block R (heap_lt h.res) (by omega)).trans h.res }
theorem VB.alloc (h : VB B Mb R p cs zs t w0 w) (o : Obj) : VB B Mb R (p + 40) cs zs t w0 (w.alloc o) := by
  obtain ⟨q, h1, h2⟩ := h.rd
  exact h.step ((Keep.refl B w).alloc o) (h2.alloc o) (by omega)
/-- a cell of the variable is stored -/
theorem VB.set (h : VB B Mb R p cs zs t w0 w) (i : Nat) (v : Value) : VB B Mb R p (cs.setIfInBounds i v) zs t w0 (w.setCell ⟨Mb, i, none⟩ v) := by
  obtain ⟨q, h1, h2⟩ := h.rd
  have h3 := h.hB
  have h4 := h.newM
  exact { h with
    rd := ⟨q, h1, h2.other (x := ⟨Mb, i, none⟩) (by simp; omega) _⟩
    keep := h.keep.setCell (p := ⟨Mb, i, none⟩) (.inr h.newM) _
    box := heap_set h.box i v
    res := (heap_set_ne (Ne.symm h.ne)).trans h.res }
/-- an append to a row of its own -/
theorem VB.app (h : VB B Mb R p cs zs t w0 w) (ht : t ≠ 3) (ha : AppI w0.heap.size w w') : VB B Mb R p cs zs t w0 w' := by
  obtain ⟨q, h1, h2⟩ := h.rd
  have h3 := h.hB
  have h4 := h.keep.size
  have ho : ∀ k, k < w0.heap.size → w'.heap[k]? = w.heap[k]? := fun k hk => ha.other k (by omega) (.inl hk)
  exact { h with
    rd := ⟨q, h1, h2.of (fun k hk => ho k (by omega)) ha.size⟩
    keep := ⟨ha.os.trans h.keep.os, ha.tape.trans h.keep.tape, ha.output.trans h.keep.output, Nat.le_trans h.keep.size ha.size, fun k hk hn => (ho k hk).trans (h.keep.block k hk hn)⟩
    box := (ha.other Mb (heap_lt h.box) (.inr (fun cur e => by rw [h.box] at e; cases e; exact ht rfl))).trans h.box
    res := (ha.other R (heap_lt h.res) (.inr (fun cur e => by rw [h.res] at e; cases e; exact ht rfl))).trans h.res }
/-- own int rows stay int rows where a cell of the variable is stored -/
theorem VB.ri_set (h : VB B Mb R p cs zs t w0 w) (ht : t ≠ 3) (i : Nat) (v : Value) : RI w0.heap.size w (w.setCell ⟨Mb, i, none⟩ v) :=
  ⟨by simp, fun g cap n _ hp => hp.of (heap_set_ne (fun e => by
    subst e
    obtain ⟨cur, h1, _⟩ := hp
    rw [h.box] at h1
    cases h1
    exact ht rfl))⟩
theorem ri_keep (hB : B < w0.heap.size) (hk : Keep B w w') : RI w0.heap.size w w' := RI.of_up (Up.of_keep hk hB)
theorem ri_alloc (M : Nat) (w : World) (o : Obj) : RI M w (w.alloc o) := RI.of_up (Up.alloc M w o)
theorem RI.trans {M : Nat} {a b c : World} (h : RI M a b) (k : RI M b c) : RI M a c := ⟨Nat.le_trans h.1 k.1, fun g cap n hM hp => k.2 g cap n hM (h.2 g cap n hM hp)⟩
end

theorem pick_vb {B Mb R p : Nat} {cs zs : Array Value} {t : TypeId} {w0 w : World} (h : VB B Mb R p cs zs t w0 w) (hp : p ≤ 970000) (n : Int) (hn : 1 ≤ n) (hn' : n ≤ 1000) :
    Calls Try.prog 37 #[.pointer (some ⟨B, 0, none⟩), .int .i64 n] w fun e w' => ∃ k : Int, 0 ≤ k ∧ k < n ∧ e = .returned (.int .i64 k) ∧ VB B Mb R (p + 40) cs zs t w0 w' ∧ Keep B w w' := by
  obtain ⟨q, h1, h2⟩ := h.rd
  refine (pick_at h2 (by omega) n hn hn').mono ?_
  rintro e w' ⟨k, a1, a2, rfl, hr, hK⟩
  exact ⟨k, a1, a2, rfl, h.step hK hr (by omega), hK⟩
theorem odd_vb {B Mb R p : Nat} {cs zs : Array Value} {t : TypeId} {w0 w : World} (h : VB B Mb R p cs zs t w0 w) (hp : p ≤ 970000) (n : Int) (hn : 1 ≤ n) (hn' : n ≤ 8999) :
    Calls Try.prog 65 #[.pointer (some ⟨B, 0, none⟩), .int .i64 n] w fun e w' => ∃ b : Bool, e = .returned (.bool b) ∧ VB B Mb R (p + 40) cs zs t w0 w' ∧ Keep B w w' := by
  obtain ⟨q, h1, h2⟩ := h.rd
  refine (odd_any B q n w h2 (by omega) hn hn').mono ?_
  rintro e w' ⟨k, rfl, hr, hK⟩
  exact ⟨k, rfl, h.step hK hr (by omega), hK⟩

theorem odd_no (B : Nat) (n : Int) (w : World) (hn : 9000 ≤ n) :
    Calls Try.prog 65 #[.pointer (some ⟨B, 0, none⟩), .int .i64 n] w fun e w' => e = .returned (.bool false) ∧ w' = w := by
  have hI : ¬ (n < 9000) := by omega
  go_enter Try.func65, Try.ntmps65
  go_wp2
  go_ret
  exact ⟨rfl, rfl⟩
theorem odd_vb2 {B Mb R p : Nat} {cs zs : Array Value} {t : TypeId} {w0 w : World} (h : VB B Mb R p cs zs t w0 w) (hp : p ≤ 970000) (n : Int) (hn : 1 ≤ n) (hn' : n ≤ 8999 ∨ 9000 ≤ n) :
    Calls Try.prog 65 #[.pointer (some ⟨B, 0, none⟩), .int .i64 n] w fun e w' => ∃ b : Bool, e = .returned (.bool b) ∧ VB B Mb R (p + 40) cs zs t w0 w' ∧ Keep B w w' := by
  rcases hn' with hn' | hn'
  · exact odd_vb h hp n hn hn'
  · refine (odd_no B n w hn').mono ?_
    rintro e w' ⟨rfl, rfl⟩
    exact ⟨false, rfl, h.le (by omega), Keep.refl _ _⟩

theorem PI.new {w : World} (ns : List Int) : PI (w.alloc (.cells (ns.map (Value.int .i64)).toArray 3)) w.heap.size ns.length ns.length :=
  ⟨_, by show (w.heap.push _)[w.heap.size]? = _; simp; rfl, by simp, Nat.le_refl _, fun i hi => ⟨ns[i], by simp [hi]⟩⟩
theorem kIR.new {w : World} {M : Nat} (ns : List Int) (hM : M ≤ w.heap.size) (hn : ns.length ≤ 1000) : kIR M ns.length (w.alloc (.cells (ns.map (Value.int .i64)).toArray 3)) (.slice (some ⟨w.heap.size, 0, none⟩) ns.length ns.length) :=
  .inr ⟨w.heap.size, ns.length, ns.length, rfl, Nat.le_refl _, by unfold maxLen; omega, hM, PI.new ns⟩

/-- what happens in a drawn region: older rows of ints stay such, newer blocks lie as they lay -/
def RR (M0 M : Nat) (w w' : World) : Prop := Up M0 w w' ∧ RI M w w'
theorem RR.refl (M0 M : Nat) (w : World) : RR M0 M w w := ⟨Up.refl _ _, RI.refl _ _⟩
/-- the class of a drawn region -/
def VC (B Mb R P : Nat) (cs zs : Array Value) (t : TypeId) (w0 : World) (X : World → Prop) (M0 k : Nat) (W : World) : Prop := VB B Mb R (P + 40 * k) cs zs t w0 W ∧ X W ∧ M0 ≤ W.heap.size
section
variable {B Mb R P M0 k : Nat} {cs zs : Array Value} {t : TypeId} {w0 w w' : World} {X : World → Prop}
theorem VC.next (h : VC B Mb R P cs zs t w0 X M0 k w) : VC B Mb R P cs zs t w0 X M0 (k + 1) w := ⟨h.1.le (by omega), h.2⟩
theorem VC.alloc (hX : ∀ w w', RI w0.heap.size w w' → X w → X w') (h : VC B Mb R P cs zs t w0 X M0 k w) (o : Obj) : VC B Mb R P cs zs t w0 X M0 (k + 1) (w.alloc o) := ⟨(h.1.alloc o).le (by omega), hX _ _ (ri_alloc _ _ _) h.2.1, by have := h.2.2; simp; omega⟩
theorem VC.step {q : Nat} (hX : ∀ w w', RI w0.heap.size w w' → X w → X w') (h : VC B Mb R P cs zs t w0 X M0 k w) (hv : VB B Mb R (P + 40 * k + 40) cs zs t w0 w') (hk : Keep B w w') : VC B Mb R P cs zs t w0 X M0 (k + 1) w' :=
  ⟨hv.le (by omega), hX _ _ (ri_keep h.1.hB hk) h.2.1, Nat.le_trans h.2.2 hk.size⟩
theorem RR.keep (h : VC B Mb R P cs zs t w0 X M0 k w) (hM : w0.heap.size ≤ M0) (hk : Keep B w w') : RR M0 w0.heap.size w w' := ⟨Up.of_keep hk (by have := h.1.hB; omega), ri_keep h.1.hB hk⟩
theorem RR.alloc (M : Nat) (w : World) (o : Obj) : RR M0 M w (w.alloc o) := ⟨Up.alloc _ _ _, ri_alloc _ _ _⟩
end

section
variable {ops : Array Oper} {a0 : Act} {B Mb R P M0 : Nat} {cs zs : Array Value} {t : TypeId} {w0 : World} {X : World → Prop} {T : Nat → World → Value → Prop} {o : Oper} {d s s2 : Nat}

theorem vc_pick {n : Int} (hX : ∀ w w', RI w0.heap.size w w' → X w → X w') (hM : w0.heap.size ≤ M0) (ho : o.op = .call { callee := .value (.func 37), args := #[.tmp s, .const (.int .i64 n)], argTypes := #[57, 3] }) (hdst : o.dst = some d) (hdep : depB ops o s = true)
    (hks : T s = kIs (.pointer (some ⟨B, 0, none⟩))) (hk : T d = kInt 0 (n - 1)) (hn : 1 ≤ n) (hn' : n ≤ 1000) (hz : P + 40 * ops.size ≤ 960000) : OpTy Try.prog ops a0 (RR M0 w0.heap.size) (VC B Mb R P cs zs t w0 X M0) T o := by
  refine tx_call hdst (fun i ρ W hi hat hW => ?_)
  have e2 := hat.dep s hdep
  rw [hks] at e2
  have e2 : ρ (.tmp s) = .pointer (some ⟨B, 0, none⟩) := e2
  have hf := hat.fn
  have hcn := hat.con
  refine ⟨37, #[.pointer (some ⟨B, 0, none⟩), .int .i64 n], by simp only [execOp, ho]; go_simp, (pick_vb hW.1 (by omega) n hn hn').mono ?_⟩
  rintro e W' ⟨x, x0, x1, rfl, hm, hK⟩
  exact ⟨_, rfl, VC.step (q := 0) hX hW hm hK, RR.keep hW hM hK, by rw [hk]; exact ⟨x, rfl, x0, by omega⟩⟩
theorem vc_addr (hX : ∀ w w', RI w0.heap.size w w' → X w → X w') (hM : w0.heap.size ≤ M0) (ho : o.op = .call { callee := .value (.func 79), args := #[.tmp s], argTypes := #[57] }) (hdst : o.dst = some d) (hdep : depB ops o s = true)
    (hks : T s = kIs (.pointer (some ⟨B, 0, none⟩))) (hk : T d = kInt 0 63) (hz : P + 40 * ops.size ≤ 960000) : OpTy Try.prog ops a0 (RR M0 w0.heap.size) (VC B Mb R P cs zs t w0 X M0) T o := by
  refine tx_call hdst (fun i ρ W hi hat hW => ?_)
  have e2 := hat.dep s hdep
  rw [hks] at e2
  have e2 : ρ (.tmp s) = .pointer (some ⟨B, 0, none⟩) := e2
  have hf := hat.fn
  obtain ⟨q, h1, h2⟩ := hW.1.rd
  refine ⟨79, #[.pointer (some ⟨B, 0, none⟩)], by simp only [execOp, ho]; go_simp, (addr_any B q W h2 (by omega)).mono ?_⟩
  rintro e W' ⟨x, x0, x1, rfl, hr, hK⟩
  exact ⟨_, rfl, VC.step (q := 0) hX hW (hW.1.step hK hr (by omega)) hK, RR.keep hW hM hK, by rw [hk]; exact ⟨x, rfl, x0, x1⟩⟩
theorem vc_build {n : Nat} {lo hi : Int} (hX : ∀ w w', RI w0.heap.size w w' → X w → X w') (hdst : o.dst = some d) (hk : T d = kRow M0 n lo hi)
    (hrun : ∀ (ρ : Operand → Value) (w : World), At ops a0 T o ρ w → ∃ ns : List Int, ns.length = n ∧ (∀ x ∈ ns, lo ≤ x ∧ x ≤ hi) ∧ (execOp ρ o).run Try.prog w = .ok (.value (.slice (some ⟨w.heap.size, 0, none⟩) n n)) (w.alloc (.cells (ns.map (Value.int .i64)).toArray 3))) :
    OpTy Try.prog ops a0 (RR M0 w0.heap.size) (VC B Mb R P cs zs t w0 X M0) T o := by
  refine tx_val hdst (fun i ρ W hi' hat hW => ?_)
  obtain ⟨ns, h1, h2, e⟩ := hrun ρ W hat
  refine ⟨_, _, e, VC.alloc hX hW _, RR.alloc _ _ _, ?_⟩
  rw [hk]
  refine ⟨W.heap.size, rfl, hW.2.2, by simp, fun i hi => ?_⟩
  have hi' : i < ns.length := by omega
  refine ⟨ns[i], (h2 _ (List.getElem_mem hi')).1, (h2 _ (List.getElem_mem hi')).2, ?_⟩
  rw [World.cell?_alloc_new]
  simp [hi']
theorem vc_index {n : Nat} {lo hi lo2 hi2 : Int} (ho : o.op = .indexAddr 24 (.tmp s) (.tmp s2)) (hdst : o.dst = some d) (hdep : depB ops o s = true) (hdep2 : depB ops o s2 = true)
    (hks : T s = kRow M0 n lo hi) (hks2 : T s2 = kInt lo2 hi2) (hlo : 0 ≤ lo2) (hhi : hi2 < n) (hk : T d = kCell M0 lo hi) : OpTy Try.prog ops a0 (RR M0 w0.heap.size) (VC B Mb R P cs zs t w0 X M0) T o := by
  refine tx_val hdst (fun i ρ W _ hat hW => ?_)
  have hv := hat.dep s hdep
  have hv2 := hat.dep s2 hdep2
  rw [hks] at hv
  rw [hks2] at hv2
  obtain ⟨blk, hv, h1, h2, h3⟩ := hv
  obtain ⟨j, hv2, h4, h5⟩ := hv2
  have hj0 : (0 : Int) ≤ j := by omega
  have hjn : j < (n : Int) := by omega
  refine ⟨.pointer (some ⟨blk, j.toNat, none⟩), W, by simp only [execOp, ho, hv, hv2]; go_simp, hW.next, RR.refl _ _ _, ?_⟩
  rw [hk]; exact ⟨blk, j.toNat, rfl, h1, h2, h3 _ (by omega)⟩
theorem vc_load {lo hi : Int} (ho : o.op = .load 3 (.tmp s)) (hdst : o.dst = some d) (hdep : depB ops o s = true) (hks : T s = kCell M0 lo hi) (hk : T d = kInt lo hi) : OpTy Try.prog ops a0 (RR M0 w0.heap.size) (VC B Mb R P cs zs t w0 X M0) T o := by
  refine tx_val hdst (fun i ρ W _ hat hW => ?_)
  have hv := hat.dep s hdep
  rw [hks] at hv
  obtain ⟨blk, j, hv, h1, h2, x, h3, h4, h5⟩ := hv
  refine ⟨.int .i64 x, W, by simp only [execOp, ho, hv]; go_simp, hW.next, RR.refl _ _ _, ?_⟩
  rw [hk]; exact ⟨x, rfl, h3, h4⟩
/-- an append of one number to a row that the class knows -/
theorem vc_app {N : Nat} {lo hi : Int} {v : Value} (hX : ∀ w w', RI w0.heap.size w w' → X w → X w') (hXv : ∀ w, X w → kIR w0.heap.size N w v) (ht : t ≠ 3) (hM : w0.heap.size ≤ M0)
    (ho : o.op = .call { callee := .builtin .append, args := #[.tmp s, .tmp s2], argTypes := #[24, 24] }) (hdst : o.dst = some d) (hdep : depB ops o s = true) (hdep2 : depB ops o s2 = true)
    (hks : T s = kIs v) (hks2 : T s2 = kRow M0 1 lo hi) (hk : T d = kIR w0.heap.size (N + 1)) (hN : N ≤ 1000) (hold : ∀ g n cap, v = .slice (some ⟨g, 0, none⟩) n cap → g < M0) : OpTy Try.prog ops a0 (RR M0 w0.heap.size) (VC B Mb R P cs zs t w0 X M0) T o := by
  refine tx_val hdst (fun i ρ W _ hat hW => ?_)
  have e1 := hat.dep s hdep
  have e2 := hat.dep s2 hdep2
  rw [hks] at e1
  rw [hks2] at e2
  have e1 : ρ (.tmp s) = v := e1
  obtain ⟨blk, e2, h1, h2, h3⟩ := e2
  obtain ⟨x, _, _, h3⟩ := h3 0 (by omega)
  obtain ⟨v', w', r1, r2, r3, r4⟩ := run_app1 (M := w0.heap.size) (N := N) ho (by rw [e1]; exact hXv _ hW.2.1) e2 h3 (by omega) (by have := hW.2.2; omega)
  have hri : RI w0.heap.size W w' := ⟨r3.size, r3.ri⟩
  refine ⟨v', w', r1, ⟨(hW.1.app ht r3).le (by omega), hX _ _ hri hW.2.1, Nat.le_trans hW.2.2 r3.size⟩, ⟨⟨r3.size, fun g hg hlt => r4 g hlt (fun n cap e => ?_)⟩, hri⟩, by rw [hk]; exact r2⟩
  rw [e1] at e
  have := hold g n cap e
  omega
end

/-- a number is put into a row of its own -/
theorem appI_set {w : World} {M g cap n i : Nat} {u : Int} (h : PI w g cap n) (hg : M ≤ g) : AppI M w (w.setCell ⟨g, i, none⟩ (.int .i64 u)) := by
  obtain ⟨cur, h1, h2, h3, h4⟩ := h
  refine ⟨rfl, rfl, rfl, by simp, fun g0 c0 n0 _ hp => ?_, fun k hk hor => heap_set_ne (fun e => ?_)⟩
  · by_cases e : g0 = g
    · subst e
      obtain ⟨cur0, p1, p2, p3, p4⟩ := hp
      rw [h1] at p1
      cases p1
      refine ⟨cur.setIfInBounds i (.int .i64 u), heap_set h1 i _, by simpa using p2, p3, fun j hj => ?_⟩
      by_cases hij : i = j
      · subst hij
        exact ⟨u, by rw [Array.getElem?_setIfInBounds_self]; simp; omega⟩
      · rw [Array.getElem?_setIfInBounds_ne hij]; exact p4 j hj
    · exact hp.of (heap_set_ne e)
  · subst e
    rcases hor with h | h
    · omega
    · exact h cur h1

/-- an append of one number, as the walk meets it -/
theorem wpList_app1 {ops : Array Oper} {rest : List Oper} {o : Oper} {a : Act} {Q : Exit → Act → World → Prop} {w : World} {s x b M N c : Nat} {u : Int} (hg : o.guard = none)
    (ho : o.op = .call { callee := .builtin .append, args := #[.tmp s, .tmp x], argTypes := #[24, 24] })
    (hs : kIR M N w (a.eval (.tmp s))) (hx : a.eval (.tmp x) = .slice (some ⟨b, 0, none⟩) 1 c) (hu : w.cell? ⟨b, 0, none⟩ = some (.int .i64 u)) (hN : N ≤ 100000) (hM : M ≤ w.heap.size)
    (h : ∀ v w', kIR M (N + 1) w' v → AppI M w w' → wpList Try.prog ops Q rest (a.put o.dst v) w') : wpList Try.prog ops Q (o :: rest) a w := by
  refine wpList_plain hg (fun K hK => ?_)
  obtain ⟨v, w', r1, r2, r3, _⟩ := run_app1 (ρ := a.eval) ho hs hx hu hN hM
  unfold Oper.wp
  rw [r1]
  exact hK _ _ (h v w' r2 r3)

end Go.Proofs.Ytlifkfemdknndaa
