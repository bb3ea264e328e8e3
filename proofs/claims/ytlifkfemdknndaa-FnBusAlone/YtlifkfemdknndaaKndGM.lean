/-
  A drawn region in which one operation appends to a row of its own, and others only grow.
-/
import Derived.Test.YtlifkfemdknndaaKndA
import Derived.Test.YtlifkfemdknndaaDraw1
import Derived.Test.YtlifkfemdknndaaTypedL
import Derived.Test.YtlifkfemdknndaaOpsXM
/-
  Kinds: an append in a drawn region, to a row of its own or to none, where others draw beside it.
-/
namespace Go.Proofs.Ytlifkfemdknndaa
open Go.RowKit
set_option linter.unusedSimpArgs false
set_option linter.unusedVariables false

theorem ORow.pre {E s : Nat} {w : World} {b cap n : Nat} {cs : List Value} {m : Nat} {ds : List Value} (h : ORow E s w b cap n cs) (hm : m ≤ n) (hd : ds.length = m * s) (he : ∀ i, i < m * s → cs[i]? = ds[i]?) : ORow E s w b cap m ds := by
  obtain ⟨cur, h1, h2, h3, h4, h5⟩ := h.cur
  have hms := Nat.mul_le_mul_right s hm
  exact ORow.mk' h1 h2 (by omega) hd (fun i hi => (h5 i (by omega)).trans (he i hi))

theorem run_appK2 {α β : Type} {K : Knd α β} (hK : KLaw K) {T E : TypeId} {i : TypeInfo} {z : Value} {by_ : Nat} (hu : Try.prog.underlying T = some (.slice E)) (hi : Try.prog.info? E = some i) (hz : i.zero = some z) (hsz : i.size = K.sz) (hby : i.bytes = by_) (hzs : z.cells.size = K.sz) (hbb : by_ ≤ 1000)
    {ρ : Operand → Value} {o : Oper} {w : World} {s x n cap c b : Nat} {p : Option Addr} (ys : List α) (q : α)
    (ho : o.op = .call { callee := .builtin .append, args := #[.tmp s, .tmp x], argTypes := #[T, T] }) (hs : ρ (.tmp s) = .slice p n cap) (hn : n = ys.length) (hW : RowN E K.sz w p cap n (ys.flatMap K.cells))
    (hx : ρ (.tmp x) = .slice (some ⟨b, 0, none⟩) 1 c) (hY : ∀ j v, (K.cells q)[j]? = some v → w.cell? ⟨b, j, none⟩ = some v) (hlen : n ≤ 2000000) :
    ∃ g' cap' w', (execOp ρ o).run Try.prog w = .ok (.value (.slice (some ⟨g', 0, none⟩) (n + 1) cap')) w' ∧ ORow E K.sz w' g' cap' (n + 1) ((ys ++ [q]).flatMap K.cells) ∧ cap' ≤ maxLen ∧ Kept (fun k => p = some ⟨k, 0, none⟩) w w' ∧ ((p = some ⟨g', 0, none⟩ ∧ cap' = cap) ∨ (w.heap.size ≤ g' ∧ Gr w w')) := by
  have hnews : ∀ (j : Nat) (u : Value), (K.cells q)[j]? = some u → w.cell? ((⟨b, 0, none⟩ : Addr).add j) = some u := fun j u hj => by
    have e1 : ((⟨b, 0, none⟩ : Addr).add j) = ⟨b, j, none⟩ := by unfold Addr.add; split <;> simp_all
    rw [e1]; exact hY j u hj
  have hl : (K.cells q).length = 1 * K.sz := by rw [hK.len, Nat.one_mul]
  have hsn : (ys ++ [q]).flatMap K.cells = ys.flatMap K.cells ++ K.cells q := by simp
  have hyl : (ys.flatMap K.cells).length = n * K.sz := by rw [flat_len hK.len, hn]
  have hby' : (n + 1) * by_ ≤ 140737488355328 := by
    have := Nat.mul_le_mul (show n + 1 ≤ 2000001 by omega) hbb
    omega
  rcases hW with ⟨rfl, rfl, rfl, hcs⟩ | ⟨g, rfl, hO, hc⟩
  · obtain ⟨v', w', hrun, hown, hgr, hnil⟩ := run_append_own (P := Try.prog) w w.heap.size T o.type E i z K.sz by_ hu hi hz hsz hby hzs hK.pos (.slice none 0 0) 0 [] (World.ownsRow_nil w w.heap.size E K.sz) ⟨b, 0, none⟩ 1 c (K.cells q) hl hnews (hK.one q) (by unfold maxLen; omega) (by simpa using hby') (Nat.le_refl _)
    obtain ⟨hl', hv | ⟨g', cap', cur', hv, q1, q2, q3, q4, q5, q6⟩⟩ := hown
    · exact absurd (hnil.1 hv.1).2 (by omega)
    · subst hv
      have hG : Gr w w' := ⟨hgr.os, hgr.tape, hgr.output, hgr.size, fun k hk => hgr.block k hk (by simp [Value.ownBlock])⟩
      refine ⟨g', cap', w', ?_, ⟨cur', q2, q5, by omega, ?_, ?_⟩, q4, Kept.of_below hG, .inr ⟨q1, hG⟩⟩
      · unfold execOp
        simp only [ho, resolve, invoke, builtin, Sem.run_bind, Sem.run_pure, Result.andThen_ok, List.map_toArray, List.map_cons, List.map_nil, hs, hx, hrun, Nat.zero_add]
      · rw [hsn, hcs]; simpa using hl
      · rw [hsn, hcs]; simpa using q6
  · obtain ⟨cur, c1, c2, c3, c4, c5⟩ := hO
    by_cases hr : n + 1 ≤ cap
    · have hfit : n * i.size + (K.cells q).length ≤ cur.size := by
        rw [hsz, hl, c2, ← Nat.add_mul]; exact Nat.mul_le_mul_right _ hr
      have hrun := run_append_room (P := Try.prog) w T o.type E i hu hi g n cap cur c1 ⟨b, 0, none⟩ 1 c (K.cells q) (by rw [hl, hsz]) hnews (hK.one q) hr hfit
      have hheap := setRow_heap w g cur (cur.toList.take (n * i.size) ++ K.cells q ++ cur.toList.drop (n * i.size + (K.cells q).length)).toArray E (0, 0) c1
      refine ⟨g, cap, _, ?_, ⟨_, hheap, ?_, hr, ?_, ?_⟩, hc, ⟨rfl, rfl, rfl, by simp, fun k hk hd => setRow_other w g k _ (fun e => hd (by rw [e]))⟩, .inl ⟨rfl, rfl⟩⟩
      · unfold execOp
        simp only [ho, resolve, invoke, builtin, Sem.run_bind, Sem.run_pure, Result.andThen_ok, List.map_toArray, List.map_cons, List.map_nil, hs, hx, hrun]
      · rw [hsz] at hfit
        rw [hsz, ← c2]
        simp only [List.size_toArray, List.length_append, List.length_take, Array.length_toList, List.length_drop]
        omega
      · rw [hsn, List.length_append, hyl, hl, Nat.add_mul]
      · rw [hsz, hsn, c5]
        show List.take _ (ys.flatMap K.cells ++ K.cells q ++ _) = _
        rw [List.take_append_of_le_length (by rw [List.length_append, hyl, hl, Nat.add_mul]; exact Nat.le_refl _), List.take_of_length_le (by rw [List.length_append, hyl, hl, Nat.add_mul]; exact Nat.le_refl _)]
    · obtain ⟨v', w', hrun, r1, r2⟩ := run_append_arg_grows (P := Try.prog) w T o.type E i z K.sz by_ hu hi hz hsz hby hzs hK.pos ⟨g, 0, none⟩ n cap (ys.flatMap K.cells) hyl (fun j u hj => by
          have e1 : ((⟨g, 0, none⟩ : Addr).add j) = ⟨g, j, none⟩ := by unfold Addr.add; split <;> simp_all
          have hjn := (List.getElem?_eq_some_iff.1 hj).1
          rw [e1, heap_cell c1]
          have e2 : (cur.toList.take (n * K.sz))[j]? = some u := by rw [c5]; exact hj
          rw [List.getElem?_take, if_pos (by omega)] at e2
          simpa using e2) ⟨b, 0, none⟩ 1 c (K.cells q) hl hnews (by omega) (by unfold maxLen; omega) hby'
      obtain ⟨hlen', hn' | ⟨g', cap', cur', hv, k1, k2, k3, k4, k5, k6⟩⟩ := r1
      · omega
      · subst hv
        have hG : Gr w w' := ⟨r2.os, r2.tape, r2.output, r2.size, fun k hk => r2.block k hk (by simp)⟩
        refine ⟨g', cap', w', ?_, ⟨cur', k2, k5, by omega, by rw [hsn]; exact hlen', by rw [hsn]; exact k6⟩, k4, Kept.of_below hG, .inr ⟨k1, hG⟩⟩
        unfold execOp
        simp only [ho, resolve, invoke, builtin, Sem.run_bind, Sem.run_pure, Result.andThen_ok, List.map_toArray, List.map_cons, List.map_nil, hs, hx, hrun]

end Go.Proofs.Ytlifkfemdknndaa

/-
  A drawn region in which one operation appends to a row of its own, and others draw: relation, class, and its looks.
-/
namespace Go.Proofs.Ytlifkfemdknndaa
open Go.RowKit
set_option linter.unusedSimpArgs false
set_option linter.unusedVariables false

def DA (B : Nat) (p : Option Addr) : Nat → Prop := fun k => k = B ∨ p = some ⟨k, 0, none⟩
/-- what turns where others draw, and one appends -/
def RA (B : Nat) (p : Option Addr) (M0 E s n : Nat) (S : World → List Value → Prop) (w w' : World) : Prop :=
  Up M0 w w' ∧ Kept (DA B p) w w' ∧ ∀ g cap, p = some ⟨g, 0, none⟩ → (∃ cs, S w cs ∧ ORow E s w g cap (n + 1) cs) → ∃ cs, S w' cs ∧ ORow E s w' g cap (n + 1) cs
/-- what is said of a row abides what is new -/
def SU (M0 : Nat) (S : World → List Value → Prop) : Prop := ∀ w w' cs, Up M0 w w' → S w cs → S w' cs
theorem SU.const (M0 : Nat) (S : List Value → Prop) : SU M0 (fun _ => S) := fun _ _ _ _ h => h
def CA (B P st : Nat) (p : Option Addr) (cap E s n : Nat) (cs0 : List Value) (w0 : World) (k : Nat) (W : World) : Prop :=
  (∃ q, q ≤ P + st * k ∧ Rd W B q) ∧ Kept (DA B p) w0 W ∧ RowN E s W p cap n cs0
/-- the place of the row lies behind the reader, and ahead of what is new -/
def PA (B M0 : Nat) (p : Option Addr) : Prop := B < M0 ∧ ∀ g, p = some ⟨g, 0, none⟩ → B < g ∧ g < M0
section
variable {B P st M0 : Nat} {p : Option Addr} {cap E s n k : Nat} {cs0 : List Value} {S : World → List Value → Prop} {w0 w w' : World}
theorem RA.refl (w : World) : RA B p M0 E s n S w w := ⟨Up.refl _ _, Kept.refl _ _, fun _ _ _ h => h⟩
theorem RA.gr (HS : SU M0 S) (h : Gr w w') : RA B p M0 E s n S w w' := ⟨Up.of_below h, Kept.of_below h, fun g cap _ ⟨cs, hs, hO⟩ => ⟨cs, HS _ _ _ (Up.of_below h) hs, hO.of (h.block g hO.lt)⟩⟩
theorem RA.keep (HS : SU M0 S) (h : Keep B w w') (hp : PA B M0 p) : RA B p M0 E s n S w w' := ⟨Up.of_keep h hp.1, ⟨h.os, h.tape, h.output, h.size, fun k hk hd => h.block k hk (fun e => hd (.inl e))⟩, fun g cap e ⟨cs, hs, hO⟩ => ⟨cs, HS _ _ _ (Up.of_keep h hp.1) hs, hO.of (h.block g hO.lt (by have := (hp.2 g e).1; omega))⟩⟩
theorem CA.next (h : CA B P st p cap E s n cs0 w0 k w) : CA B P st p cap E s n cs0 w0 (k + 1) w := by
  obtain ⟨⟨q, h1, h2⟩, h3⟩ := h; exact ⟨⟨q, by rw [Nat.mul_succ]; omega, h2⟩, h3⟩
theorem CA.gr (h : CA B P st p cap E s n cs0 w0 k w) (hg : Gr w w') : CA B P st p cap E s n cs0 w0 (k + 1) w' := by
  obtain ⟨⟨q, h1, h2⟩, h3, h4⟩ := h
  exact ⟨⟨q, by rw [Nat.mul_succ]; omega, h2.below hg⟩, h3.trans (Kept.of_below hg), h4.of (fun b _ hl => hg.block b hl)⟩
theorem CA.keep (h : CA B P st p cap E s n cs0 w0 k w) (hk : Keep B w w') {q : Nat} (hr : Rd w' B q) (hq : q ≤ P + st * (k + 1)) (hp : PA B M0 p) : CA B P st p cap E s n cs0 w0 (k + 1) w' := by
  obtain ⟨_, h3, h4⟩ := h
  exact ⟨⟨q, hq, hr⟩, h3.trans ⟨hk.os, hk.tape, hk.output, hk.size, fun k hk' hd => hk.block k hk' (fun e => hd (.inl e))⟩, h4.of (fun b e hl => hk.block b hl (by have := (hp.2 b e).1; omega))⟩

variable {ops : Array Oper} {a0 : Act} {T : Nat → World → Value → Prop} {o : Oper} {d t x : Nat}
theorem ca_pick {m : Int} (HS : SU M0 S) (hst : 1 ≤ st) (hp : PA B M0 p) (ho : o.op = .call { callee := .value (.func 37), args := #[.tmp t, .const (.int .i64 m)], argTypes := #[57, 3] }) (hdst : o.dst = some d) (hdep : depB ops o t = true)
    (hkt : T t = kIs (.pointer (some ⟨B, 0, none⟩))) (hk : T d = kInt 0 (m - 1)) (hn : 1 ≤ m) (hn' : m ≤ 1000) (hz : P + st * ops.size ≤ 960000) : OpTy Try.prog ops a0 (RA B p M0 E s n S) (CA B P st p cap E s n cs0 w0) T o := by
  refine tx_call hdst (fun i ρ W hi hat hW => ?_)
  have e2 := hat.dep t hdep
  rw [hkt] at e2
  have e2 : ρ (.tmp t) = .pointer (some ⟨B, 0, none⟩) := e2
  have hf := hat.fn
  have hcn := hat.con
  obtain ⟨q, h1, h2⟩ := hW.1
  refine ⟨37, #[.pointer (some ⟨B, 0, none⟩), .int .i64 m], by simp only [execOp, ho]; go_simp, (pick_at h2 (by have := Nat.mul_le_mul_left st (Nat.le_of_lt hi); omega) m hn hn').mono ?_⟩
  rintro e W' ⟨y, a1, a2, rfl, hr, hK⟩
  exact ⟨_, rfl, hW.keep hK hr (by rw [Nat.mul_succ]; omega) hp, RA.keep HS hK hp, by rw [hk]; exact ⟨y, rfl, a1, by omega⟩⟩

/-- what is new, in a block of its own, to be appended -/
def kNw {α β : Type} (K : Knd α β) (M0 : Nat) (S : World → List Value → Prop) (ys : List α) : World → Value → Prop := fun w v => ∃ b y, v = .slice (some ⟨b, 0, none⟩) 1 1 ∧ M0 ≤ b ∧ b < w.heap.size ∧ (∀ j u, (K.cells y)[j]? = some u → w.cell? ⟨b, j, none⟩ = some u) ∧ S w ((ys ++ [y]).flatMap K.cells)
def kAp (p : Option Addr) (M0 E s n : Nat) (S : World → List Value → Prop) : World → Value → Prop := fun w v => ∃ g' cap' cs, v = .slice (some ⟨g', 0, none⟩) (n + 1) cap' ∧ S w cs ∧ ORow E s w g' cap' (n + 1) cs ∧ cap' ≤ maxLen ∧ (p = some ⟨g', 0, none⟩ ∨ M0 ≤ g')
theorem kNw_ra {α β : Type} {K : Knd α β} {ys : List α} {v : Value} (HS : SU M0 S) (hr : RA B p M0 E s n S w w') (h : kNw K M0 S ys w v) : kNw K M0 S ys w' v := by
  obtain ⟨b, y, e, h1, h2, h3, h4⟩ := h
  exact ⟨b, y, e, h1, Nat.lt_of_lt_of_le h2 hr.1.size, fun j u hj => (hr.1.cell (p := ⟨b, j, none⟩) h1 h2).trans (h3 j u hj), HS _ _ _ hr.1 h4⟩
theorem kAp_ra {v : Value} (HS : SU M0 S) (hr : RA B p M0 E s n S w w') (h : kAp p M0 E s n S w v) : kAp p M0 E s n S w' v := by
  obtain ⟨g', cap', cs, e, h1, h2, h3, h4⟩ := h
  rcases h4 with h4 | h4
  · obtain ⟨cs', h5, h6⟩ := hr.2.2 g' cap' h4 ⟨cs, h1, h2⟩
    exact ⟨g', cap', cs', e, h5, h6, h3, .inl h4⟩
  · exact ⟨g', cap', cs, e, HS _ _ _ hr.1 h1, h2.of (hr.1.block g' h4 h2.lt), h3, .inr h4⟩
theorem ca_app {α β : Type} {K : Knd α β} (hK : KLaw K) {Ts : TypeId} {i : TypeInfo} {z : Value} {by_ : Nat} (hu : Try.prog.underlying Ts = some (.slice E)) (hi : Try.prog.info? E = some i) (hz : i.zero = some z) (hsz : i.size = K.sz) (hby : i.bytes = by_) (hzs : z.cells.size = K.sz) (hbb : by_ ≤ 1000)
    (ys : List α) (HS : SU w0.heap.size S) (hp : PA B w0.heap.size p) (hn : n = ys.length) (hlen : n ≤ 2000000)
    (ho : o.op = .call { callee := .builtin .append, args := #[.tmp t, .tmp x], argTypes := #[Ts, Ts] }) (hdst : o.dst = some d) (hdep : depB ops o t = true) (hdep2 : depB ops o x = true)
    (hkt : T t = kIs (.slice p n cap)) (hkx : T x = kNw K w0.heap.size S ys) (hk : T d = kAp p w0.heap.size E K.sz n S) : OpTy Try.prog ops a0 (RA B p w0.heap.size E K.sz n S) (CA B P st p cap E K.sz n (ys.flatMap K.cells) w0) T o := by
  refine tx_val hdst (fun j ρ W _ hat hW => ?_)
  have e1 := hat.dep t hdep
  rw [hkt] at e1
  have e1 : ρ (.tmp t) = .slice p n cap := e1
  have e2 := hat.dep x hdep2
  rw [hkx] at e2
  obtain ⟨b, y, e2, h1, h2, h3, h4⟩ := e2
  obtain ⟨g', cap', w', hr, hO, hc, hkp, hor⟩ := run_appK2 hK hu hi hz hsz hby hzs hbb ys y ho e1 hn hW.2.2 e2 h3 hlen
  obtain ⟨⟨q, q1, q2⟩, hKW, hRN⟩ := hW
  have hkD : Kept (DA B p) W w' := hkp.mono (fun k e => .inr e)
  have hpre : ORow E K.sz w' g' cap' n (ys.flatMap K.cells) := hO.pre (Nat.le_succ n) (by rw [flat_len hK.len, hn]) (fun i hi' => by
    rw [List.flatMap_append, List.getElem?_append_left (by rw [flat_len hK.len, ← hn]; exact hi')])
  have hU : Up w0.heap.size W w' := by
    rcases hor with ⟨e, _⟩ | ⟨_, hG⟩
    · exact ⟨hkp.size, fun k hM hl => hkp.block k hl (fun e' => by have := (hp.2 k e').2; omega)⟩
    · exact Up.of_below hG
  have h4' := HS _ _ _ hU h4
  refine ⟨_, w', hr, ⟨⟨q, by rw [Nat.mul_succ]; omega, ?_⟩, hKW.trans hkD, ?_⟩, ⟨hU, hkD, ?_⟩, ?_⟩
  · exact q2.of (fun k hk' => by
      by_cases hkl : k < W.heap.size
      · exact hkp.block k hkl (fun e => by have := (hp.2 k e).1; omega)
      · have := q2.lt
        omega) hkp.size
  · rcases hor with ⟨e, rfl⟩ | ⟨_, hG⟩
    · exact .inr ⟨g', e, hpre, hc⟩
    · exact hRN.of (fun b _ hl => hG.block b hl)
  · intro g cap1 e ⟨cs, hs, hO1⟩
    rcases hor with ⟨e', rfl⟩ | ⟨_, hG⟩
    · rw [e] at e'
      cases e'
      rcases hRN with ⟨e0, _⟩ | ⟨g1, e0, hO0, _⟩
      · rw [e0] at e; cases e
      · rw [e] at e0
        cases e0
        obtain ⟨cur, a1, a2, _⟩ := hO0
        obtain ⟨cur1, b1, b2, _⟩ := hO1
        rw [a1] at b1
        cases b1
        have hs0 := hK.pos
        have : cap1 = cap' := Nat.eq_of_mul_eq_mul_right hs0 (by omega)
        subst this
        exact ⟨_, h4', hO⟩
    · exact ⟨cs, HS _ _ _ hU hs, hO1.of (hG.block g hO1.lt)⟩
  · rw [hk]
    refine ⟨g', cap', _, rfl, h4', hO, hc, ?_⟩
    rcases hor with ⟨e, _⟩ | ⟨h, _⟩
    · exact .inl e
    · have := hKW.size; exact .inr (by omega)
end

end Go.Proofs.Ytlifkfemdknndaa

namespace Go.Proofs.Ytlifkfemdknndaa
open Go.RowKit
set_option linter.unusedSimpArgs false
set_option linter.unusedVariables false

def R0 (p : Option Addr) (M0 E s n : Nat) (S : World → List Value → Prop) (w w' : World) : Prop :=
  Up M0 w w' ∧ Kept (fun k => p = some ⟨k, 0, none⟩) w w' ∧ ∀ g cap, p = some ⟨g, 0, none⟩ → (∃ cs, S w cs ∧ ORow E s w g cap (n + 1) cs) → ∃ cs, S w' cs ∧ ORow E s w' g cap (n + 1) cs
def C0 (p : Option Addr) (cap E s n : Nat) (cs0 : List Value) (w0 : World) (k : Nat) (W : World) : Prop := Kept (fun k => p = some ⟨k, 0, none⟩) w0 W ∧ RowN E s W p cap n cs0
section
variable {M0 : Nat} {p : Option Addr} {cap E s n k : Nat} {cs0 : List Value} {S : World → List Value → Prop} {w0 w w' : World}
theorem R0.refl (w : World) : R0 p M0 E s n S w w := ⟨Up.refl _ _, Kept.refl _ _, fun _ _ _ h => h⟩
theorem R0.gr (HS : SU M0 S) (h : Gr w w') : R0 p M0 E s n S w w' := ⟨Up.of_below h, Kept.of_below h, fun g cap _ ⟨cs, hs, hO⟩ => ⟨cs, HS _ _ _ (Up.of_below h) hs, hO.of (h.block g hO.lt)⟩⟩
theorem C0.gr (h : C0 p cap E s n cs0 w0 k w) (hg : Gr w w') : C0 p cap E s n cs0 w0 (k + 1) w' := ⟨h.1.trans (Kept.of_below hg), h.2.of (fun b _ hl => hg.block b hl)⟩
theorem kNw_r0 {α β : Type} {K : Knd α β} {ys : List α} {v : Value} (HS : SU M0 S) (hr : R0 p M0 E s n S w w') (h : kNw K M0 S ys w v) : kNw K M0 S ys w' v := by
  obtain ⟨b, y, e, h1, h2, h3, h4⟩ := h
  exact ⟨b, y, e, h1, Nat.lt_of_lt_of_le h2 hr.1.size, fun j u hj => (hr.1.cell (p := ⟨b, j, none⟩) h1 h2).trans (h3 j u hj), HS _ _ _ hr.1 h4⟩
theorem kAp_r0 {v : Value} (HS : SU M0 S) (hr : R0 p M0 E s n S w w') (h : kAp p M0 E s n S w v) : kAp p M0 E s n S w' v := by
  obtain ⟨g', cap', cs, e, h1, h2, h3, h4⟩ := h
  rcases h4 with h4 | h4
  · obtain ⟨cs', h5, h6⟩ := hr.2.2 g' cap' h4 ⟨cs, h1, h2⟩
    exact ⟨g', cap', cs', e, h5, h6, h3, .inl h4⟩
  · exact ⟨g', cap', cs, e, HS _ _ _ hr.1 h1, h2.of (hr.1.block g' h4 h2.lt), h3, .inr h4⟩

variable {ops : Array Oper} {a0 : Act} {T : Nat → World → Value → Prop} {o : Oper} {d t x : Nat}
theorem c0_app {α β : Type} {K : Knd α β} (hK : KLaw K) {Ts : TypeId} {i : TypeInfo} {z : Value} {by_ : Nat} (hu : Try.prog.underlying Ts = some (.slice E)) (hi : Try.prog.info? E = some i) (hz : i.zero = some z) (hsz : i.size = K.sz) (hby : i.bytes = by_) (hzs : z.cells.size = K.sz) (hbb : by_ ≤ 1000)
    (ys : List α) (HS : SU w0.heap.size S) (hp : ∀ g, p = some ⟨g, 0, none⟩ → g < w0.heap.size) (hn : n = ys.length) (hlen : n ≤ 2000000)
    (ho : o.op = .call { callee := .builtin .append, args := #[.tmp t, .tmp x], argTypes := #[Ts, Ts] }) (hdst : o.dst = some d) (hdep : depB ops o t = true) (hdep2 : depB ops o x = true)
    (hkt : T t = kIs (.slice p n cap)) (hkx : T x = kNw K w0.heap.size S ys) (hk : T d = kAp p w0.heap.size E K.sz n S) : OpTy Try.prog ops a0 (R0 p w0.heap.size E K.sz n S) (C0 p cap E K.sz n (ys.flatMap K.cells) w0) T o := by
  refine tx_val hdst (fun j ρ W _ hat hW => ?_)
  have e1 := hat.dep t hdep
  rw [hkt] at e1
  have e1 : ρ (.tmp t) = .slice p n cap := e1
  have e2 := hat.dep x hdep2
  rw [hkx] at e2
  obtain ⟨b, y, e2, h1, h2, h3, h4⟩ := e2
  obtain ⟨g', cap', w', hr, hO, hc, hkp, hor⟩ := run_appK2 hK hu hi hz hsz hby hzs hbb ys y ho e1 hn hW.2 e2 h3 hlen
  obtain ⟨hKW, hRN⟩ := hW
  have hpre : ORow E K.sz w' g' cap' n (ys.flatMap K.cells) := hO.pre (Nat.le_succ n) (by rw [flat_len hK.len, hn]) (fun i hi' => by
    rw [List.flatMap_append, List.getElem?_append_left (by rw [flat_len hK.len, ← hn]; exact hi')])
  have hU : Up w0.heap.size W w' := by
    rcases hor with ⟨e, _⟩ | ⟨_, hG⟩
    · exact ⟨hkp.size, fun k hM hl => hkp.block k hl (fun e' => by have := hp k e'; omega)⟩
    · exact Up.of_below hG
  have h4' := HS _ _ _ hU h4
  refine ⟨_, w', hr, ⟨hKW.trans hkp, ?_⟩, ⟨hU, hkp, ?_⟩, ?_⟩
  · rcases hor with ⟨e, rfl⟩ | ⟨_, hG⟩
    · exact .inr ⟨g', e, hpre, hc⟩
    · exact hRN.of (fun b _ hl => hG.block b hl)
  · intro g cap1 e ⟨cs, hs, hO1⟩
    rcases hor with ⟨e', rfl⟩ | ⟨_, hG⟩
    · rw [e] at e'
      cases e'
      rcases hRN with ⟨e0, _⟩ | ⟨g1, e0, hO0, _⟩
      · rw [e0] at e; cases e
      · rw [e] at e0
        cases e0
        obtain ⟨cur, a1, a2, _⟩ := hO0
        obtain ⟨cur1, b1, b2, _⟩ := hO1
        rw [a1] at b1
        cases b1
        have hs0 := hK.pos
        have : cap1 = cap' := Nat.eq_of_mul_eq_mul_right hs0 (by omega)
        subst this
        exact ⟨_, h4', hO⟩
    · exact ⟨cs, HS _ _ _ hU hs, hO1.of (hG.block g hO1.lt)⟩
  · rw [hk]
    refine ⟨g', cap', _, rfl, h4', hO, hc, ?_⟩
    rcases hor with ⟨e, _⟩ | ⟨h, _⟩
    · exact .inl e
    · have := hKW.size; exact .inr (by omega)
end

end Go.Proofs.Ytlifkfemdknndaa
