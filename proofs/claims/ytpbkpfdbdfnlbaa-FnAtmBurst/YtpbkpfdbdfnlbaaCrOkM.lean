/-
  The laws' crOk.
-/
import Derived.Test.YtpbkpfdbdfnlbaaDrawAtm
import Derived.Test.YtpbkpfdbdfnlbaaDrawReqB
import Derived.Test.YtpbkpfdbdfnlbaaSpcGM
import Derived.Test.YtpbkpfdbdfnlbaaProg
import Derived.Test.YtpbkpfdbdfnlbaaIRow
import Derived.BigQuiet
import Derived.Test.YtpbkpfdbdfnlbaaPureT
import Derived.Test.YtpbkpfdbdfnlbaaFacts
import Derived.Test.YtpbkpfdbdfnlbaaPairWM
import Derived.Test.YtpbkpfdbdfnlbaaSpcA
import Derived.Test.YtpbkpfdbdfnlbaaReq
import Derived.Test.YtpbkpfdbdfnlbaaAdr
/-
  DrawAtmDo of the model: ranges, a state, who asks, and what, whatever the code.
-/
namespace Go.Proofs.Ytpbkpfdbdfnlbaa
open Go.RowKit
set_option linter.unusedSimpArgs false
set_option linter.unusedVariables false

/-- blocks from M on lie as they lay; and the two results, where it is said -/
def HiD (M R3 R5 : Nat) (f3 f5 : Bool) (w w' : World) : Prop := w.heap.size ≤ w'.heap.size ∧ (∀ k, M ≤ k → k < w.heap.size → w'.heap[k]? = w.heap[k]?) ∧ (f3 = true → w'.heap[R3]? = w.heap[R3]?) ∧ (f5 = true → w'.heap[R5]? = w.heap[R5]?)
theorem HiD.cells {M R3 R5 : Nat} {f3 f5 : Bool} {w w' : World} (h : HiD M R3 R5 f3 f5 w w') {b : Nat} {o : Obj} (hb : M ≤ b) (ho : w.heap[b]? = some o) : w'.heap[b]? = some o := (h.2.1 b hb (Array.getElem?_eq_some_iff.1 ho).1).trans ho
theorem HiD.two {M R3 R5 : Nat} {w : World} {v0 v1 : Value} (h3 : R3 < M) (h35 : R3 ≠ R5) : HiD M R3 R5 false true w ((w.setCell ⟨R3, 0, none⟩ v0).setCell ⟨R3, 1, none⟩ v1) :=
  ⟨((Below.refl 0 w).setCell (Nat.zero_le _) v0).setCell (Nat.zero_le _) v1 |>.size, fun k hk _ => (heap_set_ne (by omega)).trans (heap_set_ne (by omega)), fun h => absurd h (by decide), fun _ => (heap_set_ne (Ne.symm h35)).trans (heap_set_ne (Ne.symm h35))⟩
def set7w (w : World) (b : Nat) (a0 a1 a2 a3 a4 a5 a6 : Value) : World := ((((((w.setCell ⟨b, 0, none⟩ a0).setCell ⟨b, 1, none⟩ a1).setCell ⟨b, 2, none⟩ a2).setCell ⟨b, 3, none⟩ a3).setCell ⟨b, 4, none⟩ a4).setCell ⟨b, 5, none⟩ a5).setCell ⟨b, 6, none⟩ a6
theorem set7_ne {w : World} {b k : Nat} {a0 a1 a2 a3 a4 a5 a6 : Value} (h : k ≠ b) : (set7w w b a0 a1 a2 a3 a4 a5 a6).heap[k]? = w.heap[k]? := by
  unfold set7w
  exact (heap_set_ne h).trans ((heap_set_ne h).trans ((heap_set_ne h).trans ((heap_set_ne h).trans ((heap_set_ne h).trans ((heap_set_ne h).trans (heap_set_ne h))))))
theorem set7 {w : World} {b : Nat} {u0 u1 u2 u3 u4 u5 u6 : Value} (h : w.heap[b]? = some (.cells #[u0, u1, u2, u3, u4, u5, u6] 40 (0, 0))) (a0 a1 a2 a3 a4 a5 a6 : Value) : (set7w w b a0 a1 a2 a3 a4 a5 a6).heap[b]? = some (.cells #[a0, a1, a2, a3, a4, a5, a6] 40 (0, 0)) := by
  unfold set7w
  have h0 := (heap_set h 0 a0).trans rfl
  have h1 := heap_set (heap_set h 0 a0) 1 a1
  have h3 := heap_set (heap_set h1 2 a2) 3 a3
  have h5 := heap_set (heap_set h3 4 a4) 5 a5
  have h6 := heap_set h5 6 a6
  simpa using h6
theorem set7_size (w : World) (b : Nat) (a0 a1 a2 a3 a4 a5 a6 : Value) : (set7w w b a0 a1 a2 a3 a4 a5 a6).heap.size = w.heap.size := by
  unfold set7w
  simp
theorem kept7 {D : Nat → Prop} {w : World} {b : Nat} (hb : D b) (a0 a1 a2 a3 a4 a5 a6 : Value) : Kept D w (set7w w b a0 a1 a2 a3 a4 a5 a6) := by
  unfold set7w
  exact ((((((Kept.setCell w (p := ⟨b, 0, none⟩) hb a0).trans (Kept.setCell _ (p := ⟨b, 1, none⟩) hb a1)).trans (Kept.setCell _ (p := ⟨b, 2, none⟩) hb a2)).trans (Kept.setCell _ (p := ⟨b, 3, none⟩) hb a3)).trans (Kept.setCell _ (p := ⟨b, 4, none⟩) hb a4)).trans (Kept.setCell _ (p := ⟨b, 5, none⟩) hb a5)).trans (Kept.setCell _ (p := ⟨b, 6, none⟩) hb a6)
theorem HiD.seven {M R3 R5 : Nat} {w : World} {a0 a1 a2 a3 a4 a5 a6 : Value} (h5 : R5 < M) (h35 : R3 ≠ R5) : HiD M R3 R5 true false w (set7w w R5 a0 a1 a2 a3 a4 a5 a6) :=
  ⟨by rw [set7_size]; exact Nat.le_refl _, fun k hk _ => set7_ne (by omega), fun _ => set7_ne h35, fun h => absurd h (by decide)⟩

theorem up_store7 {F : World → Value → Prop} {ρ : Operand → Value} {o : Oper} {w : World} {t u b : Nat} {o0 o1 o2 o3 o4 o5 o6 : Value} {i0 i1 i2 i3 : Int} {bb : Bool} {p5 p6 : Option Addr} {n5 k5 n6 k6 : Nat} (ho : o.op = .store 40 (.tmp t) (.tmp u))
    (e1 : ρ (.tmp t) = .pointer (some ⟨b, 0, none⟩)) (e2 : ρ (.tmp u) = .agg #[.int .i64 i0, .int .i64 i1, .int .i64 i2, .int .i64 i3, .bool bb, .slice p5 n5 k5, .slice p6 n6 k6]) (hb : w.heap[b]? = some (.cells #[o0, o1, o2, o3, o4, o5, o6] 40 (0, 0)))
    (hF : F (set7w w b (.int .i64 i0) (.int .i64 i1) (.int .i64 i2) (.int .i64 i3) (.bool bb) (.slice p5 n5 k5) (.slice p6 n6 k6)) undef) : tyUpon Try.prog F ((execOp ρ o).run Try.prog w) := by
  have c0 : w.cell? ⟨b, 0, none⟩ = some o0 := heap_cell hb 0
  have f0 := heap_free hb 0
  have c1 : w.cell? ⟨b, 1, none⟩ = some o1 := heap_cell hb 1
  have f1 := heap_free hb 1
  have c2 : w.cell? ⟨b, 2, none⟩ = some o2 := heap_cell hb 2
  have f2 := heap_free hb 2
  have c3 : w.cell? ⟨b, 3, none⟩ = some o3 := heap_cell hb 3
  have f3 := heap_free hb 3
  have c4 : w.cell? ⟨b, 4, none⟩ = some o4 := heap_cell hb 4
  have f4 := heap_free hb 4
  have c5 : w.cell? ⟨b, 5, none⟩ = some o5 := heap_cell hb 5
  have f5 := heap_free hb 5
  have c6 : w.cell? ⟨b, 6, none⟩ = some o6 := heap_cell hb 6
  have f6 := heap_free hb 6
  refine up_skip _ ?_ hF
  clear hF hb
  unfold set7w
  simp only [execOp, ho]
  go_simp

theorem seven (x : Nat) (hx : x < 7) : ∃ y : Nat, y < 3 ∧ (#[.int .i64 0, .int .i64 0, .int .i64 0, .int .i64 0, .int .i64 0, .int .i64 1, .int .i64 2] : Array Value)[x]? = some (.int .i64 (y : Int)) := by
  have : x = 0 ∨ x = 1 ∨ x = 2 ∨ x = 3 ∨ x = 4 ∨ x = 5 ∨ x = 6 := by omega
  rcases this with rfl | rfl | rfl | rfl | rfl | rfl | rfl
  all_goals first | exact ⟨0, by omega, rfl⟩ | exact ⟨1, by omega, rfl⟩ | exact ⟨2, by omega, rfl⟩
theorem three (x : Int) (y : Nat) (hy : y < 3) : ∃ n : Int, (#[.int .i64 x, .int .i64 (-1), .int .i64 3] : Array Value)[y]? = some (.int .i64 n) := by
  have : y = 0 ∨ y = 1 ∨ y = 2 := by omega
  rcases this with rfl | rfl | rfl
  all_goals exact ⟨_, rfl⟩

/-- how far the reader may be -/
def bud (d : Nat → Bool) : Nat := (if d 1 then 30 else 0) + (if d 3 then 15000 else 0) + (if d 5 then 1 else 0) + (if d 9 then 1 else 0) + (if d 15 then 20000 else 0)
theorem bud_1 (d : Nat → Bool) (h : d 1 = false) : bud (updB d 1) = bud d + 30 ∧ bud d ≤ 35032 - 30 := by
  unfold bud
  rw [uB_ne d (show (3 : Nat) ≠ 1 by decide)]
  rw [uB_ne d (show (5 : Nat) ≠ 1 by decide)]
  rw [uB_ne d (show (9 : Nat) ≠ 1 by decide)]
  rw [uB_ne d (show (15 : Nat) ≠ 1 by decide)]
  have e : updB d 1 1 = true := by simp [updB]
  rw [e]
  rw [h]
  cases d 3 <;> cases d 5 <;> cases d 9 <;> cases d 15 <;>
  simp
theorem bud_3 (d : Nat → Bool) (h : d 3 = false) : bud (updB d 3) = bud d + 15000 ∧ bud d ≤ 35032 - 15000 := by
  unfold bud
  rw [uB_ne d (show (1 : Nat) ≠ 3 by decide)]
  rw [uB_ne d (show (5 : Nat) ≠ 3 by decide)]
  rw [uB_ne d (show (9 : Nat) ≠ 3 by decide)]
  rw [uB_ne d (show (15 : Nat) ≠ 3 by decide)]
  have e : updB d 3 3 = true := by simp [updB]
  rw [e]
  rw [h]
  cases d 1 <;> cases d 5 <;> cases d 9 <;> cases d 15 <;>
  simp
theorem bud_5 (d : Nat → Bool) (h : d 5 = false) : bud (updB d 5) = bud d + 1 ∧ bud d ≤ 35032 - 1 := by
  unfold bud
  rw [uB_ne d (show (1 : Nat) ≠ 5 by decide)]
  rw [uB_ne d (show (3 : Nat) ≠ 5 by decide)]
  rw [uB_ne d (show (9 : Nat) ≠ 5 by decide)]
  rw [uB_ne d (show (15 : Nat) ≠ 5 by decide)]
  have e : updB d 5 5 = true := by simp [updB]
  rw [e]
  rw [h]
  cases d 1 <;> cases d 3 <;> cases d 9 <;> cases d 15 <;>
  simp
theorem bud_9 (d : Nat → Bool) (h : d 9 = false) : bud (updB d 9) = bud d + 1 ∧ bud d ≤ 35032 - 1 := by
  unfold bud
  rw [uB_ne d (show (1 : Nat) ≠ 9 by decide)]
  rw [uB_ne d (show (3 : Nat) ≠ 9 by decide)]
  rw [uB_ne d (show (5 : Nat) ≠ 9 by decide)]
  rw [uB_ne d (show (15 : Nat) ≠ 9 by decide)]
  have e : updB d 9 9 = true := by simp [updB]
  rw [e]
  rw [h]
  cases d 1 <;> cases d 3 <;> cases d 5 <;> cases d 15 <;>
  simp
theorem bud_15 (d : Nat → Bool) (h : d 15 = false) : bud (updB d 15) = bud d + 20000 ∧ bud d ≤ 35032 - 20000 := by
  unfold bud
  rw [uB_ne d (show (1 : Nat) ≠ 15 by decide)]
  rw [uB_ne d (show (3 : Nat) ≠ 15 by decide)]
  rw [uB_ne d (show (5 : Nat) ≠ 15 by decide)]
  rw [uB_ne d (show (9 : Nat) ≠ 15 by decide)]
  have e : updB d 15 15 = true := by simp [updB]
  rw [e]
  rw [h]
  cases d 1 <;> cases d 3 <;> cases d 5 <;> cases d 9 <;>
  simp

structure CD (B R3 R5 : Nat) (W0 : World) (d : Nat → Bool) (W : World) : Prop where
  kept : Kept (fun k => k = B ∨ k = R3 ∨ k = R5) W0 W
  rd : ∃ q, q ≤ bud d ∧ Rd W B q
  b3 : ∃ a0 l0 k0 a1 l1 k1, W.heap[R3]? = some (.cells #[.slice a0 l0 k0, .slice a1 l1 k1] 28 (0, 0))
  b5 : ∃ i0 i1 i2 i3 bb a5 l5 k5 a6 l6 k6, W.heap[R5]? = some (.cells #[.int .i64 i0, .int .i64 i1, .int .i64 i2, .int .i64 i3, .bool bb, .slice a5 l5 k5, .slice a6 l6 k6] 40 (0, 0))
  n3 : B ≠ R3
  n5 : B ≠ R5
theorem CD.step {B R3 R5 i : Nat} {W0 W : World} {d : Nat → Bool} (h1 : 1 ≠ i) (h3 : 3 ≠ i) (h5 : 5 ≠ i) (h9 : 9 ≠ i) (h15 : 15 ≠ i) (h : CD B R3 R5 W0 d W) : CD B R3 R5 W0 (updB d i) W := by
  have : bud (updB d i) = bud d := by unfold bud; rw [uB_ne d h1, uB_ne d h3, uB_ne d h5, uB_ne d h9, uB_ne d h15]
  exact { h with rd := by rw [this]; exact h.rd }
theorem CD.gr {B R3 R5 i : Nat} {W0 W : World} {d : Nat → Bool} (h : CD B R3 R5 W0 d W) (h1 : 1 ≠ i) (h3 : 3 ≠ i) (h5 : 5 ≠ i) (h9 : 9 ≠ i) (h15 : 15 ≠ i) (o : Obj) : CD B R3 R5 W0 (updB d i) (W.alloc o) := by
  refine CD.step h1 h3 h5 h9 h15 ?_
  have hg := below_nw W o
  obtain ⟨q, hq, hr⟩ := h.rd
  obtain ⟨x0, x1, x2, x3, x4, x5, e3⟩ := h.b3
  obtain ⟨i0, i1, i2, i3, bb, y0, y1, y2, y3, y4, y5, e5⟩ := h.b5
  exact ⟨h.kept.trans (Kept.of_below hg), ⟨q, hq, hr.alloc o⟩, ⟨_, _, _, _, _, _, Gr.cells hg e3⟩, ⟨_, _, _, _, _, _, _, _, _, _, _, Gr.cells hg e5⟩, h.n3, h.n5⟩
theorem CD.call {B R3 R5 i q : Nat} {W0 W W' : World} {d : Nat → Bool} (h : CD B R3 R5 W0 d W) (hK : Keep B W W') (hq : q ≤ bud (updB d i)) (hr : Rd W' B q) : CD B R3 R5 W0 (updB d i) W' := by
  obtain ⟨x0, x1, x2, x3, x4, x5, e3⟩ := h.b3
  obtain ⟨i0, i1, i2, i3, bb, y0, y1, y2, y3, y4, y5, e5⟩ := h.b5
  exact ⟨h.kept.trans ⟨hK.os, hK.tape, hK.output, hK.size, fun k hk hd => hK.block k hk (fun e => hd (.inl e))⟩, ⟨q, hq, hr⟩, ⟨_, _, _, _, _, _, (hK.block R3 (heap_lt e3) (Ne.symm h.n3)).trans e3⟩, ⟨_, _, _, _, _, _, _, _, _, _, _, (hK.block R5 (heap_lt e5) (Ne.symm h.n5)).trans e5⟩, h.n3, h.n5⟩
theorem CD.hi {B R3 R5 : Nat} {W0 W W' : World} {d : Nat → Bool} (h : CD B R3 R5 W0 d W) (hK : Keep B W W') (hB : B < W0.heap.size := by assumption) : HiD W0.heap.size R3 R5 true true W W' := by
  obtain ⟨x0, x1, x2, x3, x4, x5, e3⟩ := h.b3
  obtain ⟨i0, i1, i2, i3, bb, y0, y1, y2, y3, y4, y5, e5⟩ := h.b5
  exact ⟨hK.size, fun k hk hlt => hK.block k hlt (by omega), fun _ => hK.block R3 (heap_lt e3) (Ne.symm h.n3), fun _ => hK.block R5 (heap_lt e5) (Ne.symm h.n5)⟩
theorem Rd.box {w w' : World} {B p R : Nat} {cs : Array Value} {t : TypeId} (h : Rd w B p) (hR : w.heap[R]? = some (.cells cs t (0, 0))) (hn : ∀ (i : Nat) (n : Int), cs[i]? ≠ some (.int .u8 n)) (hB : B ≠ R)
    (hk : ∀ k, k ≠ R → w'.heap[k]? = w.heap[k]?) (hs : w.heap.size ≤ w'.heap.size) : Rd w' B p := by
  obtain ⟨a, len, cap, h1, h2, h3, h4, h5, h6, h7⟩ := h
  refine ⟨a, len, cap, (World.cell?_of_block (w := w) (a := ⟨B, 0, none⟩) (hk B hB)).trans h1, (World.cell?_of_block (w := w) (a := ⟨B, 1, none⟩) (hk B hB)).trans h2, (World.frozen?_of_block (w := w) (a := ⟨B, 1, none⟩) (hk B hB)).trans h3, by omega, h5, h6, ?_⟩
  rcases h7 with h7 | ⟨b, off, e, hb, hc⟩
  · exact .inl h7
  · rcases Nat.eq_zero_or_pos len with h0 | h0
    · exact .inl h0
    · have hne : b ≠ R := by
        rintro rfl
        obtain ⟨n, _, _, g⟩ := hc 0 h0
        rw [heap_cell hR] at g
        exact hn _ _ g
      exact .inr ⟨b, off, e, hb, fun i hi => by
        obtain ⟨n, g1, g2, g3⟩ := hc i hi
        exact ⟨n, g1, g2, (World.cell?_of_block (w := w) (a := ⟨b, off + i, none⟩) (hk b hne)).trans g3⟩⟩
theorem nb2 {a0 a1 : Option Addr} {l0 k0 l1 k1 : Nat} (i : Nat) (n : Int) : (#[.slice a0 l0 k0, .slice a1 l1 k1] : Array Value)[i]? ≠ some (.int .u8 n) := by
  rcases i with _ | _ | i <;> simp
theorem nb7 {i0 i1 i2 i3 : Int} {bb : Bool} {a0 a1 : Option Addr} {l0 k0 l1 k1 : Nat} (i : Nat) (n : Int) : (#[.int .i64 i0, .int .i64 i1, .int .i64 i2, .int .i64 i3, .bool bb, .slice a0 l0 k0, .slice a1 l1 k1] : Array Value)[i]? ≠ some (.int .u8 n) := by
  rcases i with _ | _ | _ | _ | _ | _ | _ | i <;> simp
theorem CD.st3 {B R3 R5 : Nat} {W0 W : World} {d : Nat → Bool} {a0 a1 : Option Addr} {l0 k0 l1 k1 : Nat} (h : CD B R3 R5 W0 d W) (h35 : R3 ≠ R5) (hR : ((W.setCell ⟨R3, 0, none⟩ (.slice a0 l0 k0)).setCell ⟨R3, 1, none⟩ (.slice a1 l1 k1)).heap[R3]? = some (.cells #[.slice a0 l0 k0, .slice a1 l1 k1] 28 (0, 0))) : CD B R3 R5 W0 (updB d 17) ((W.setCell ⟨R3, 0, none⟩ (.slice a0 l0 k0)).setCell ⟨R3, 1, none⟩ (.slice a1 l1 k1)) := by
  refine CD.step (by decide) (by decide) (by decide) (by decide) (by decide) ?_
  obtain ⟨q, hq, hr⟩ := h.rd
  obtain ⟨x0, x1, x2, x3, x4, x5, e3⟩ := h.b3
  obtain ⟨i0, i1, i2, i3, bb, y0, y1, y2, y3, y4, y5, e5⟩ := h.b5
  have hK := (Kept.setCell (D := fun k => k = B ∨ k = R3 ∨ k = R5) (p := ⟨R3, 0, none⟩) W (.inr (.inl rfl)) (.slice a0 l0 k0)).trans (Kept.setCell (D := fun k => k = B ∨ k = R3 ∨ k = R5) (p := ⟨R3, 1, none⟩) _ (.inr (.inl rfl)) (.slice a1 l1 k1))
  exact ⟨h.kept.trans hK, ⟨q, hq, hr.box e3 nb2 h.n3 (fun k hk => (heap_set_ne hk).trans (heap_set_ne hk)) hK.size⟩, ⟨_, _, _, _, _, _, hR⟩, ⟨_, _, _, _, _, _, _, _, _, _, _, (heap_set_ne (Ne.symm h35)).trans ((heap_set_ne (Ne.symm h35)).trans e5)⟩, h.n3, h.n5⟩
theorem CD.st5 {B R3 R5 : Nat} {W0 W : World} {d : Nat → Bool} {i0 i1 i2 i3 : Int} {bb : Bool} {a0 a1 : Option Addr} {l0 k0 l1 k1 : Nat} (h : CD B R3 R5 W0 d W) (h35 : R3 ≠ R5) (hR : (set7w W R5 (.int .i64 i0) (.int .i64 i1) (.int .i64 i2) (.int .i64 i3) (.bool bb) (.slice a0 l0 k0) (.slice a1 l1 k1)).heap[R5]? = some (.cells #[.int .i64 i0, .int .i64 i1, .int .i64 i2, .int .i64 i3, .bool bb, .slice a0 l0 k0, .slice a1 l1 k1] 40 (0, 0))) : CD B R3 R5 W0 (updB d 19) (set7w W R5 (.int .i64 i0) (.int .i64 i1) (.int .i64 i2) (.int .i64 i3) (.bool bb) (.slice a0 l0 k0) (.slice a1 l1 k1)) := by
  refine CD.step (by decide) (by decide) (by decide) (by decide) (by decide) ?_
  obtain ⟨q, hq, hr⟩ := h.rd
  obtain ⟨x0, x1, x2, x3, x4, x5, e3⟩ := h.b3
  obtain ⟨j0, j1, j2, j3, jb, y0, y1, y2, y3, y4, y5, e5⟩ := h.b5
  have hK := kept7 (D := fun k => k = B ∨ k = R3 ∨ k = R5) (w := W) (b := R5) (.inr (.inr rfl)) (.int .i64 i0) (.int .i64 i1) (.int .i64 i2) (.int .i64 i3) (.bool bb) (.slice a0 l0 k0) (.slice a1 l1 k1)
  exact ⟨h.kept.trans hK, ⟨q, hq, hr.box e5 nb7 h.n5 (fun k hk => set7_ne hk) hK.size⟩, ⟨_, _, _, _, _, _, (set7_ne h35).trans e3⟩, ⟨_, _, _, _, _, _, _, _, _, _, _, hR⟩, h.n3, h.n5⟩

def k5_dado (B R3 R5 M : Nat) (kM kA kR : World → Value → Prop) : World → Value → Prop := fun _ v => ∃ x : Int, v = .int .i64 x
def k6_dado (B R3 R5 M : Nat) (kM kA kR : World → Value → Prop) : World → Value → Prop := fun w v => ∃ (b : Nat) (x : Int), v = .slice (some ⟨b, 0, none⟩) 3 3 ∧ M ≤ b ∧ w.heap[b]? = some (.cells #[.int .i64 x, .int .i64 (-1), .int .i64 3] 3 (0, 0))
def k7_dado (B R3 R5 M : Nat) (kM kA kR : World → Value → Prop) : World → Value → Prop := fun w v => ∃ b : Nat, v = .slice (some ⟨b, 0, none⟩) 7 7 ∧ M ≤ b ∧ w.heap[b]? = some (.cells #[.int .i64 0, .int .i64 0, .int .i64 0, .int .i64 0, .int .i64 0, .int .i64 1, .int .i64 2] 3 (0, 0))
def k9_dado (B R3 R5 M : Nat) (kM kA kR : World → Value → Prop) : World → Value → Prop := fun _ v => ∃ x : Nat, x < 7 ∧ v = .int .i64 (x : Int)
def k10_dado (B R3 R5 M : Nat) (kM kA kR : World → Value → Prop) : World → Value → Prop := fun w v => ∃ b x : Nat, x < 7 ∧ v = .pointer (some ⟨b, x, none⟩) ∧ M ≤ b ∧ w.heap[b]? = some (.cells #[.int .i64 0, .int .i64 0, .int .i64 0, .int .i64 0, .int .i64 0, .int .i64 1, .int .i64 2] 3 (0, 0))
def k11_dado (B R3 R5 M : Nat) (kM kA kR : World → Value → Prop) : World → Value → Prop := fun _ v => ∃ y : Nat, y < 3 ∧ v = .int .i64 (y : Int)
def k12_dado (B R3 R5 M : Nat) (kM kA kR : World → Value → Prop) : World → Value → Prop := fun w v => ∃ (b y : Nat) (x : Int), y < 3 ∧ v = .pointer (some ⟨b, y, none⟩) ∧ M ≤ b ∧ w.heap[b]? = some (.cells #[.int .i64 x, .int .i64 (-1), .int .i64 3] 3 (0, 0))
def k13_dado (B R3 R5 M : Nat) (kM kA kR : World → Value → Prop) : World → Value → Prop := fun _ v => ∃ x : Int, v = .int .i64 x
def k18_dado (B R3 R5 M : Nat) (kM kA kR : World → Value → Prop) : World → Value → Prop := fun _ v => ∃ x : Int, v = .int .i64 x

def fl_dado (B R3 R5 M : Nat) (kM kA kR : World → Value → Prop) : List Fact := [
  fIs 9 (.pointer (some ⟨B, 0, none⟩)),
  fK 10 kM,
  fIs 11 (.pointer (some ⟨B, 0, none⟩)),
  fK 12 kA,
  fIs 13 (.pointer (some ⟨B, 0, none⟩)),
  fK 14 (k5_dado B R3 R5 M kM kA kR),
  fK 15 (k6_dado B R3 R5 M kM kA kR),
  fK 16 (k7_dado B R3 R5 M kM kA kR),
  fIs 17 (.pointer (some ⟨B, 0, none⟩)),
  fK 18 (k9_dado B R3 R5 M kM kA kR),
  fK 19 (k10_dado B R3 R5 M kM kA kR),
  fK 20 (k11_dado B R3 R5 M kM kA kR),
  fK 21 (k12_dado B R3 R5 M kM kA kR),
  fK 22 (k13_dado B R3 R5 M kM kA kR),
  fIs 23 (.pointer (some ⟨B, 0, none⟩)),
  fK 24 kR,
  fK 2 kM,
  ⟨[12], [], fun s _ w => ∃ v0 v1, s 12 = .agg #[v0, v1] ∧ w.heap[R3]? = some (.cells #[v0, v1] 28 (0, 0))⟩,
  fK 4 (k18_dado B R3 R5 M kM kA kR),
  ⟨[24], [], fun s _ w => ∃ v0 v1 v2 v3 v4 v5 v6, s 24 = .agg #[v0, v1, v2, v3, v4, v5, v6] ∧ w.heap[R5]? = some (.cells #[v0, v1, v2, v3, v4, v5, v6] 40 (0, 0))⟩]

theorem st_dado (B R3 R5 M : Nat) (kM kA kR : World → Value → Prop) (hMg : ∀ w w' v, Gr w w' → kM w v → kM w' v) (hAg : ∀ w w' v, Gr w w' → kA w v → kA w' v) (hRg : ∀ w w' v, Gr w w' → kR w v → kR w' v) : ∀ F ∈ fl_dado B R3 R5 M kM kA kR, F.Stab :=
  stab_cons (fIs_stab _ _) <|
  stab_cons (fK_stab hMg) <|
  stab_cons (fIs_stab _ _) <|
  stab_cons (fK_stab hAg) <|
  stab_cons (fIs_stab _ _) <|
  stab_cons (fK_stab (fun _ _ _ _ h => h)) <|
  stab_cons (fK_stab (by rintro w w' v hg ⟨b, x, h1, h2, h⟩; exact ⟨b, x, h1, h2, hg.cells h⟩)) <|
  stab_cons (fK_stab (by rintro w w' v hg ⟨b, h1, h2, h⟩; exact ⟨b, h1, h2, hg.cells h⟩)) <|
  stab_cons (fIs_stab _ _) <|
  stab_cons (fK_stab (fun _ _ _ _ h => h)) <|
  stab_cons (fK_stab (by rintro w w' v hg ⟨b, x, h0, h1, h2, h⟩; exact ⟨b, x, h0, h1, h2, hg.cells h⟩)) <|
  stab_cons (fK_stab (fun _ _ _ _ h => h)) <|
  stab_cons (fK_stab (by rintro w w' v hg ⟨b, y, x, h0, h1, h2, h⟩; exact ⟨b, y, x, h0, h1, h2, hg.cells h⟩)) <|
  stab_cons (fK_stab (fun _ _ _ _ h => h)) <|
  stab_cons (fIs_stab _ _) <|
  stab_cons (fK_stab hRg) <|
  stab_cons (fK_stab hMg) <|
  stab_cons (fun _ _ _ _ hg h => (let ⟨v0, v1, h1, h2⟩ := h; ⟨v0, v1, h1, hg.cells h2⟩)) <|
  stab_cons (fK_stab (fun _ _ _ _ h => h)) <|
  stab_cons (fun _ _ _ _ hg h => (let ⟨v0, v1, v2, v3, v4, v5, v6, h1, h2⟩ := h; ⟨v0, v1, v2, v3, v4, v5, v6, h1, hg.cells h2⟩)) stab_nil

theorem hi_dado (B R3 R5 M : Nat) (kM kA kR : World → Value → Prop) (f3 f5 : Bool) (hMh : ∀ w w' v, HiD M R3 R5 f3 f5 w w' → kM w v → kM w' v) (hAh : ∀ w w' v, HiD M R3 R5 f3 f5 w w' → kA w v → kA w' v) (hRh : ∀ w w' v, HiD M R3 R5 f3 f5 w w' → kR w v → kR w' v) (E : List Nat) (h17 : E.contains 17 = false → f3 = true) (h19 : E.contains 19 = false → f5 = true) : ∀ j, E.contains j = false → ∀ s d w w', HiD M R3 R5 f3 f5 w w' → (factsOf (fl_dado B R3 R5 M kM kA kR) j).body s d w → (factsOf (fl_dado B R3 R5 M kM kA kR) j).body s d w' := by
  intro j hj s d w w' hk hb
  rcases j with _ | _ | _ | _ | _ | _ | _ | _ | _ | _ | _ | _ | _ | _ | _ | _ | _ | _ | _ | _ | j
  · exact hb
  · exact hMh _ _ _ hk hb
  · exact hb
  · exact hAh _ _ _ hk hb
  · exact hb
  · exact hb
  · obtain ⟨b, x, h1, h2, h3⟩ := hb; exact ⟨b, x, h1, h2, hk.cells h2 h3⟩
  · obtain ⟨b, h1, h2, h3⟩ := hb; exact ⟨b, h1, h2, hk.cells h2 h3⟩
  · exact hb
  · exact hb
  · obtain ⟨b, x, h0, h1, h2, h3⟩ := hb; exact ⟨b, x, h0, h1, h2, hk.cells h2 h3⟩
  · exact hb
  · obtain ⟨b, y, x, h0, h1, h2, h3⟩ := hb; exact ⟨b, y, x, h0, h1, h2, hk.cells h2 h3⟩
  · exact hb
  · exact hb
  · exact hRh _ _ _ hk hb
  · exact hMh _ _ _ hk hb
  · obtain ⟨v0, v1, h1, h2⟩ := hb; exact ⟨v0, v1, h1, (hk.2.2.1 (h17 hj)).trans h2⟩
  · exact hb
  · obtain ⟨v0, v1, v2, v3, v4, v5, v6, h1, h2⟩ := hb; exact ⟨v0, v1, v2, v3, v4, v5, v6, h1, (hk.2.2.2 (h19 hj)).trans h2⟩
  · trivial

theorem ask17_dado {B R3 R5 M : Nat} {kM kA kR : World → Value → Prop} (j : Nat) (hj : j < 20) (h : [17].contains j = true ∨ (factsOf (fl_dado B R3 R5 M kM kA kR) j).dones.contains 17 = true) : j = 17 := by
  rcases j with _ | _ | _ | _ | _ | _ | _ | _ | _ | _ | _ | _ | _ | _ | _ | _ | _ | _ | _ | _ | j
  all_goals first | rfl | omega | (rcases h with h | h <;> exact absurd (show false = true from h) (by decide))

theorem ask19_dado {B R3 R5 M : Nat} {kM kA kR : World → Value → Prop} (j : Nat) (hj : j < 20) (h : [19].contains j = true ∨ (factsOf (fl_dado B R3 R5 M kM kA kR) j).dones.contains 19 = true) : j = 19 := by
  rcases j with _ | _ | _ | _ | _ | _ | _ | _ | _ | _ | _ | _ | _ | _ | _ | _ | _ | _ | _ | _ | j
  all_goals first | rfl | omega | (rcases h with h | h <;> exact absurd (show false = true from h) (by decide))

def kMd (M : Nat) (w : World) (v : Value) : Prop := ∃ (b c : Nat) (ms : List Rng), v = .slice (some ⟨b, 0, none⟩) ms.length c ∧ M ≤ b ∧ 1 ≤ ms.length ∧ ms.length ≤ 7 ∧ ms.length ≤ c ∧ c ≤ 9223372036854775807 ∧ RowOf w (some ⟨b, 0, none⟩) ms
def kAd (M : Nat) (w : World) (v : Value) : Prop := ∃ (s : Stt) (b off cw h oh ch : Nat), v = stV s (some ⟨b, off, none⟩) cw (some ⟨h, oh, none⟩) ch ∧ StAt w s (some ⟨b, off, none⟩) cw (some ⟨h, oh, none⟩) ch ∧ s.words.length ≤ 65 ∧ s.holds.length ≤ 6 ∧ M ≤ b ∧ M ≤ h
def kRd (M : Nat) (w : World) (v : Value) : Prop := ∃ (r : Req) (pd : Option Addr) (cd : Nat) (pl : Option Addr) (cl : Nat), v = reqV r pd cd pl cl ∧ ReqAt w r pd cd pl cl ∧ r.data.length ≤ 10 ∧ r.lanes.length ≤ 10 ∧ (∀ b off, pd = some ⟨b, off, none⟩ → M ≤ b) ∧ (∀ b off, pl = some ⟨b, off, none⟩ → M ≤ b)
theorem kMd_to {M : Nat} {w w' : World} {v : Value} (hs : w.heap.size ≤ w'.heap.size) (hk : ∀ k, M ≤ k → k < w.heap.size → w'.heap[k]? = w.heap[k]?) (h : kMd M w v) : kMd M w' v := by
  obtain ⟨b, c, ms, h1, h2, h3, h4, h5, h6, h7⟩ := h
  exact ⟨b, c, ms, h1, h2, h3, h4, h5, h6, h7.of hs (fun b' off e hlt => by cases e; exact hk _ h2 hlt)⟩
theorem kAd_to {M : Nat} {w w' : World} {v : Value} (hs : w.heap.size ≤ w'.heap.size) (hk : ∀ k, M ≤ k → k < w.heap.size → w'.heap[k]? = w.heap[k]?) (h : kAd M w v) : kAd M w' v := by
  obtain ⟨s, b, off, cw, hh, oh, ch, h1, h2, h3, h4, h5, h6⟩ := h
  exact ⟨s, b, off, cw, hh, oh, ch, h1, ⟨h2.words.of hs (fun b' off e hlt => by cases e; exact hk _ h5 hlt), h2.holds.of hs (fun b' off e hlt => by cases e; exact hk _ h6 hlt), h2.cw1, h2.cw2, h2.ch1, h2.ch2⟩, h3, h4, h5, h6⟩
theorem kRd_to {M : Nat} {w w' : World} {v : Value} (hs : w.heap.size ≤ w'.heap.size) (hk : ∀ k, M ≤ k → k < w.heap.size → w'.heap[k]? = w.heap[k]?) (h : kRd M w v) : kRd M w' v := by
  obtain ⟨r, pd, cd, pl, cl, h1, h2, h3, h4, h5, h6⟩ := h
  exact ⟨r, pd, cd, pl, cl, h1, ⟨h2.data.of hs (fun b' off e hlt => hk _ (h5 _ _ e) hlt), h2.lanes.of hs (fun b' off e hlt => hk _ (h6 _ _ e) hlt), h2.cd1, h2.cd2, h2.cl1, h2.cl2⟩, h3, h4, h5, h6⟩
theorem drew_at {w : World} (k : Nat) : ({ w with drawn := w.drawn + 1 } : World).heap[k]? = w.heap[k]? := rfl

theorem f17_at {B R3 R5 M : Nat} {kM kA kR : World → Value → Prop} {f : Nat → Value} {d : Nat → Bool} {W : World} (h : (factsOf (fl_dado B R3 R5 M kM kA kR) 17).at f d W) : ∃ v0 v1, f 12 = .agg #[v0, v1] ∧ W.heap[R3]? = some (.cells #[v0, v1] 28 (0, 0)) := by
  obtain ⟨v0, v1, h1, h2⟩ : ∃ v0 v1, resV [12] f 12 = .agg #[v0, v1] ∧ W.heap[R3]? = some (.cells #[v0, v1] 28 (0, 0)) := h
  exact ⟨v0, v1, by simpa [resV] using h1, h2⟩
theorem f19_at {B R3 R5 M : Nat} {kM kA kR : World → Value → Prop} {f : Nat → Value} {d : Nat → Bool} {W : World} (h : (factsOf (fl_dado B R3 R5 M kM kA kR) 19).at f d W) : ∃ v0 v1 v2 v3 v4 v5 v6, f 24 = .agg #[v0, v1, v2, v3, v4, v5, v6] ∧ W.heap[R5]? = some (.cells #[v0, v1, v2, v3, v4, v5, v6] 40 (0, 0)) := by
  obtain ⟨v0, v1, v2, v3, v4, v5, v6, h1, h2⟩ : ∃ v0 v1 v2 v3 v4 v5 v6, resV [24] f 24 = .agg #[v0, v1, v2, v3, v4, v5, v6] ∧ W.heap[R5]? = some (.cells #[v0, v1, v2, v3, v4, v5, v6] 40 (0, 0)) := h
  exact ⟨v0, v1, v2, v3, v4, v5, v6, by simpa [resV] using h1, h2⟩

set_option maxRecDepth 20000 in
set_option maxHeartbeats 4000000 in
theorem drawAtmDo_any (a : Option Addr) (len cap : Nat) (w : World) (hc : len ≤ cap) (hm : cap ≤ 9223372036854775807) (h : Bytes w w.heap.size a len) :
    Calls Try.prog 12 #[.slice a len cap] w fun e w' => ∃ (b c : Nat) (ms : List Rng) (s : Stt) (bw ow cw bh oh ch : Nat) (who : Int) (r : Req) (pd : Option Addr) (cd : Nat) (pl : Option Addr) (cl : Nat), e = .returned (.tuple #[.slice (some ⟨b, 0, none⟩) ms.length c, stV s (some ⟨bw, ow, none⟩) cw (some ⟨bh, oh, none⟩) ch, .int .i64 who, reqV r pd cd pl cl]) ∧ RowOf w' (some ⟨b, 0, none⟩) ms ∧ ms.length ≤ c ∧ c ≤ 9223372036854775807 ∧ 1 ≤ ms.length ∧ ms.length ≤ 7 ∧ StAt w' s (some ⟨bw, ow, none⟩) cw (some ⟨bh, oh, none⟩) ch ∧ s.words.length ≤ 65 ∧ s.holds.length ≤ 6 ∧ ReqAt w' r pd cd pl cl ∧ r.data.length ≤ 10 ∧ r.lanes.length ≤ 10 ∧ Below w.heap.size w w' := by
  go_enter Try.func12, Try.ntmps12
  go_wp2_with fail
  refine (open_any a len cap _ hc hm (bytes_alloc (bytes_alloc h _) _)).mono ?_
  rintro e W0 ⟨rfl, hr0, hb0⟩
  have hs0 := hb0.size
  simp only [World.size_alloc] at hr0 hs0 ⊢
  have c3 : W0.heap[w.heap.size]? = some (.cells #[.slice none 0 0, .slice none 0 0] 28 (0, 0)) := (hb0.block w.heap.size (by simp; omega)).trans ((Below.heap_alloc _ _ _ (by simp)).trans (nw_at _ rfl))
  have c5 : W0.heap[w.heap.size + 1]? = some (.cells #[.int .i64 0, .int .i64 0, .int .i64 0, .int .i64 0, .bool false, .slice none 0 0, .slice none 0 0] 40 (0, 0)) := (hb0.block (w.heap.size + 1) (by simp)).trans (nw_at _ (by simp))
  have hbW : Below w.heap.size w W0 := (((Below.refl _ w).alloc (Nat.le_refl _) _).alloc (by simp) _).trans (hb0.mono (by simp; omega))
  have hBl := hr0.lt
  clear hb0 h
  obtain ⟨R3, e3⟩ : ∃ R, R = w.heap.size := ⟨_, rfl⟩
  obtain ⟨R5, e5⟩ : ∃ R, R = w.heap.size + 1 := ⟨_, rfl⟩
  obtain ⟨B, eB⟩ : ∃ R, R = w.heap.size + 1 + 1 := ⟨_, rfl⟩
  rw [← eB] at hr0 hs0 hBl ⊢
  rw [← e5] at c5 ⊢
  rw [← e3] at c3 ⊢
  have h35 : R3 ≠ R5 := by omega
  have h3M : R3 < W0.heap.size := by omega
  have h5M : R5 < W0.heap.size := by omega
  have hB3 : B ≠ R3 := by omega
  have hB5 : B ≠ R5 := by omega
  have hB : B < W0.heap.size := hBl
  obtain ⟨kM, ekM⟩ : ∃ k, k = kMd W0.heap.size := ⟨_, rfl⟩
  obtain ⟨kA, ekA⟩ : ∃ k, k = kAd W0.heap.size := ⟨_, rfl⟩
  obtain ⟨kR, ekR⟩ : ∃ k, k = kRd W0.heap.size := ⟨_, rfl⟩
  have hMg : ∀ w w' v, Gr w w' → kM w v → kM w' v := by rw [ekM]; exact fun w w' v hg => kMd_to hg.size (fun k _ hk => hg.block k hk)
  have hAg : ∀ w w' v, Gr w w' → kA w v → kA w' v := by rw [ekA]; exact fun w w' v hg => kAd_to hg.size (fun k _ hk => hg.block k hk)
  have hRg : ∀ w w' v, Gr w w' → kR w v → kR w' v := by rw [ekR]; exact fun w w' v hg => kRd_to hg.size (fun k _ hk => hg.block k hk)
  have hMh : ∀ f3 f5 w w' v, HiD W0.heap.size R3 R5 f3 f5 w w' → kM w v → kM w' v := by rw [ekM]; exact fun _ _ w w' v hg => kMd_to hg.1 hg.2.1
  have hAh : ∀ f3 f5 w w' v, HiD W0.heap.size R3 R5 f3 f5 w w' → kA w v → kA w' v := by rw [ekA]; exact fun _ _ w w' v hg => kAd_to hg.1 hg.2.1
  have hRh : ∀ f3 f5 w w' v, HiD W0.heap.size R3 R5 f3 f5 w w' → kR w v → kR w' v := by rw [ekR]; exact fun _ _ w w' v hg => kRd_to hg.1 hg.2.1
  have hMk : ∀ (W1 : World) (b c : Nat) (ms : List Rng), W0.heap.size ≤ b → 1 ≤ ms.length → ms.length ≤ 7 → ms.length ≤ c → c ≤ 9223372036854775807 → RowOf W1 (some ⟨b, 0, none⟩) ms → kM W1 (.slice (some ⟨b, 0, none⟩) ms.length c) := by rw [ekM]; exact fun W1 b c ms h2 h3 h4 h5 h6 h7 => ⟨b, c, ms, rfl, h2, h3, h4, h5, h6, h7⟩
  have hAk : ∀ (W1 : World) (s : Stt) (b off cw hh oh ch : Nat), StAt W1 s (some ⟨b, off, none⟩) cw (some ⟨hh, oh, none⟩) ch → s.words.length ≤ 65 → s.holds.length ≤ 6 → W0.heap.size ≤ b → W0.heap.size ≤ hh → kA W1 (stV s (some ⟨b, off, none⟩) cw (some ⟨hh, oh, none⟩) ch) := by rw [ekA]; exact fun W1 s b off cw hh oh ch h2 h3 h4 h5 h6 => ⟨s, b, off, cw, hh, oh, ch, rfl, h2, h3, h4, h5, h6⟩
  have hRk : ∀ (W1 : World) (r : Req) (pd : Option Addr) (cd : Nat) (pl : Option Addr) (cl : Nat), ReqAt W1 r pd cd pl cl → r.data.length ≤ 10 → r.lanes.length ≤ 10 → (∀ b off, pd = some ⟨b, off, none⟩ → W0.heap.size ≤ b) → (∀ b off, pl = some ⟨b, off, none⟩ → W0.heap.size ≤ b) → kR W1 (reqV r pd cd pl cl) := by rw [ekR]; exact fun W1 r pd cd pl cl h2 h3 h4 h5 h6 => ⟨r, pd, cd, pl, cl, rfl, h2, h3, h4, h5, h6⟩
  have hA2 : ∀ (W1 : World) (v : Value), kA W1 v → ∃ p0 n0 k0 p1 n1 k1, v = .agg #[.slice p0 n0 k0, .slice p1 n1 k1] := by rw [ekA]; rintro W1 v ⟨s, b, off, cw, hh, oh, ch, rfl, _⟩; exact ⟨_, _, _, _, _, _, rfl⟩
  have hR7 : ∀ (W1 : World) (v : Value), kR W1 v → ∃ i0 i1 i2 i3 bb p5 n5 k5 p6 n6 k6, v = .agg #[.int .i64 i0, .int .i64 i1, .int .i64 i2, .int .i64 i3, .bool bb, .slice p5 n5 k5, .slice p6 n6 k6] := by rw [ekR]; rintro W1 v ⟨r, pd, cd, pl, cl, rfl, _⟩; exact ⟨_, _, _, _, _, _, _, _, _, _, _, rfl⟩
  have hC0 : CD B R3 R5 W0 (fun _ => false) { W0 with drawn := W0.drawn + 1 } := ⟨Kept.drew _ _, ⟨0, by simp [bud], hr0⟩, ⟨_, _, _, _, _, _, c3⟩, ⟨_, _, _, _, _, _, _, _, _, _, _, c5⟩, hB3, hB5⟩
  go_wp2_with fail
  refine wp_region_fl (by kernel_rfl) (fl_dado B R3 R5 W0.heap.size kM kA kR) (CD B R3 R5 W0) [9, 10, 11, 12, 13, 14, 15, 16, 17, 18, 19, 20, 21, 22, 23, 24, 2, 4] (by kernel_rfl) (by kernel_rfl) (by kernel_rfl) ?c0 ?looks ?done
  case looks =>
    intro hcl i o ho
    rcases i with _ | _ | _ | _ | _ | _ | _ | _ | _ | _ | _ | _ | _ | _ | _ | _ | _ | _ | _ | _ | i
    · simp at ho; subst ho
      refine fo_det (st_dado B R3 R5 W0.heap.size kM kA kR hMg hAg hRg) hcl rfl rfl rfl rfl (by kernel_rfl) (fun _ _ h => CD.step (by decide) (by decide) (by decide) (by decide) (by decide) h) (fun done ρ W hat => ?_)
      have e6 : ρ (.tmp 6) = .pointer (some ⟨B, 0, none⟩) := hat.out 6 (by kernel_rfl)
      have hC := hat.cls
      have hc := hat.con
      simp only [execOp, e6]
      go_simp
    · simp at ho; subst ho
      refine fo_rel (S := HiD W0.heap.size R3 R5 true true) (E := []) (hi_dado B R3 R5 W0.heap.size kM kA kR true true (hMh _ _) (hAh _ _) (hRh _ _) [] (by decide) (by decide)) hcl rfl rfl (fun done ρ W hat => ?_)
      have e9 : ρ (.tmp 9) = .pointer (some ⟨B, 0, none⟩) := fIs_at (d := 9) (v := .pointer (some ⟨B, 0, none⟩)) (hat.fact 0 (by kernel_rfl))
      have hC := hat.cls
      have hf := hat.fn
      have hc := hat.con
      obtain ⟨q, hq, hr⟩ := hC.rd
      have hbud := bud_1 done hat.new
      refine up_call 22 #[.pointer (some ⟨B, 0, none⟩), .int .i64 20] (by simp only [execOp]; go_simp) ?_
      refine (l20Map_any B q 20 W hr (by omega) (by omega) (by omega)).mono ?_
      rintro e W1 ⟨v, rfl, b, c, q1, ms, rfl, x1, x7, xc, xm, hMr, hBd, hbn, hr1, hq1, hK⟩
      refine ⟨_, rfl, hC.call (i := 1) hK (q := q1) (by omega) hr1, hC.hi hK, fK_mk (by rw [updV_same]; exact hMk _ _ _ _ (Nat.le_trans hC.kept.size hbn) x1 x7 xc xm hMr), fun j hj hcj => ?_⟩
      exact free_spec (X := fun _ => _) (by kernel_rfl) hat.lt j hj (by simpa using hcj)
    · simp at ho; subst ho
      refine fo_det (st_dado B R3 R5 W0.heap.size kM kA kR hMg hAg hRg) hcl rfl rfl rfl rfl (by kernel_rfl) (fun _ _ h => CD.step (by decide) (by decide) (by decide) (by decide) (by decide) h) (fun done ρ W hat => ?_)
      have e6 : ρ (.tmp 6) = .pointer (some ⟨B, 0, none⟩) := hat.out 6 (by kernel_rfl)
      have hC := hat.cls
      have hc := hat.con
      simp only [execOp, e6]
      go_simp
    · simp at ho; subst ho
      refine fo_rel (S := HiD W0.heap.size R3 R5 true true) (E := []) (hi_dado B R3 R5 W0.heap.size kM kA kR true true (hMh _ _) (hAh _ _) (hRh _ _) [] (by decide) (by decide)) hcl rfl rfl (fun done ρ W hat => ?_)
      have e11 : ρ (.tmp 11) = .pointer (some ⟨B, 0, none⟩) := fIs_at (d := 11) (v := .pointer (some ⟨B, 0, none⟩)) (hat.fact 2 (by kernel_rfl))
      have hC := hat.cls
      have hf := hat.fn
      have hc := hat.con
      obtain ⟨q, hq, hr⟩ := hC.rd
      have hbud := bud_3 done hat.new
      refine up_call 23 #[.pointer (some ⟨B, 0, none⟩), .int .i64 20] (by simp only [execOp]; go_simp) ?_
      refine (l20Atm_any B q 20 W hr (by omega) (by omega) (by omega)).mono ?_
      rintro e W1 ⟨v, rfl, s, b, off, cw, hh, oh, ch, q1, rfl, hSt, y1, y2, hr1, hq1, hK, hb1, hb2⟩
      refine ⟨_, rfl, hC.call (i := 3) hK (q := q1) (by omega) hr1, hC.hi hK, fK_mk (by rw [updV_same]; exact hAk _ _ _ _ _ _ _ _ hSt y1 y2 (Nat.le_trans hC.kept.size hb1) (Nat.le_trans hC.kept.size hb2)), fun j hj hcj => ?_⟩
      exact free_spec (X := fun _ => _) (by kernel_rfl) hat.lt j hj (by simpa using hcj)
    · simp at ho; subst ho
      refine fo_det (st_dado B R3 R5 W0.heap.size kM kA kR hMg hAg hRg) hcl rfl rfl rfl rfl (by kernel_rfl) (fun _ _ h => CD.step (by decide) (by decide) (by decide) (by decide) (by decide) h) (fun done ρ W hat => ?_)
      have e6 : ρ (.tmp 6) = .pointer (some ⟨B, 0, none⟩) := hat.out 6 (by kernel_rfl)
      have hC := hat.cls
      have hc := hat.con
      simp only [execOp, e6]
      go_simp
    · simp at ho; subst ho
      refine fo_rel (S := HiD W0.heap.size R3 R5 true true) (E := []) (hi_dado B R3 R5 W0.heap.size kM kA kR true true (hMh _ _) (hAh _ _) (hRh _ _) [] (by decide) (by decide)) hcl rfl rfl (fun done ρ W hat => ?_)
      have e13 : ρ (.tmp 13) = .pointer (some ⟨B, 0, none⟩) := fIs_at (d := 13) (v := .pointer (some ⟨B, 0, none⟩)) (hat.fact 4 (by kernel_rfl))
      have hC := hat.cls
      have hf := hat.fn
      have hc := hat.con
      obtain ⟨q, hq, hr⟩ := hC.rd
      have hbud := bud_5 done hat.new
      refine up_call 24 #[.pointer (some ⟨B, 0, none⟩), .int .i64 3] (by simp only [execOp]; go_simp) ?_
      refine (pick_at hr (by omega) 3 (by omega) (by omega)).mono ?_
      rintro e W1 ⟨k, k0, k1, rfl, hr1, hK⟩
      refine ⟨_, rfl, hC.call (i := 5) hK (q := (q + 1)) (by omega) hr1, hC.hi hK, fK_mk (K := k5_dado B R3 R5 W0.heap.size kM kA kR) ⟨k, updV_same _ _ _⟩, fun j hj hcj => ?_⟩
      exact free_spec (X := fun _ => _) (by kernel_rfl) hat.lt j hj (by simpa using hcj)
    · simp at ho; subst ho
      refine fo_grow (st_dado B R3 R5 W0.heap.size kM kA kR hMg hAg hRg) hcl rfl rfl (fun done ρ W hat => ?_)
      have hC := hat.cls
      have hc := hat.con
      obtain ⟨x, e14⟩ := (fK_at (d := 14) (K := k5_dado B R3 R5 W0.heap.size kM kA kR) (hat.fact 5 (by kernel_rfl)))
      refine up_val (.slice (some ⟨W.heap.size, 0, none⟩) 3 3) (W.alloc (.cells #[.int .i64 x, .int .i64 (-1), .int .i64 3] 3)) (by simp only [execOp]; go_simp) ?_
      have hC1 : CD B R3 R5 W0 (updB done 6) (W.alloc (.cells #[.int .i64 x, .int .i64 (-1), .int .i64 3] 3)) := hC.gr (by decide) (by decide) (by decide) (by decide) (by decide) _
      exact ⟨hC1, below_nw _ _, fK_mk (K := k6_dado B R3 R5 W0.heap.size kM kA kR) ⟨W.heap.size, x, updV_same _ _ _, hC.kept.size, nw_at _ rfl⟩, free_spec (by kernel_rfl) hat.lt⟩
    · simp at ho; subst ho
      refine fo_grow (st_dado B R3 R5 W0.heap.size kM kA kR hMg hAg hRg) hcl rfl rfl (fun done ρ W hat => ?_)
      have hC := hat.cls
      have hc := hat.con
      refine up_val (.slice (some ⟨W.heap.size, 0, none⟩) 7 7) (W.alloc (.cells #[.int .i64 0, .int .i64 0, .int .i64 0, .int .i64 0, .int .i64 0, .int .i64 1, .int .i64 2] 3)) (by simp only [execOp]; go_simp) ?_
      have hC1 : CD B R3 R5 W0 (updB done 7) (W.alloc (.cells #[.int .i64 0, .int .i64 0, .int .i64 0, .int .i64 0, .int .i64 0, .int .i64 1, .int .i64 2] 3)) := hC.gr (by decide) (by decide) (by decide) (by decide) (by decide) _
      exact ⟨hC1, below_nw _ _, fK_mk (K := k7_dado B R3 R5 W0.heap.size kM kA kR) ⟨W.heap.size, updV_same _ _ _, hC.kept.size, nw_at _ rfl⟩, free_spec (by kernel_rfl) hat.lt⟩
    · simp at ho; subst ho
      refine fo_det (st_dado B R3 R5 W0.heap.size kM kA kR hMg hAg hRg) hcl rfl rfl rfl rfl (by kernel_rfl) (fun _ _ h => CD.step (by decide) (by decide) (by decide) (by decide) (by decide) h) (fun done ρ W hat => ?_)
      have e6 : ρ (.tmp 6) = .pointer (some ⟨B, 0, none⟩) := hat.out 6 (by kernel_rfl)
      have hC := hat.cls
      have hc := hat.con
      simp only [execOp, e6]
      go_simp
    · simp at ho; subst ho
      refine fo_rel (S := HiD W0.heap.size R3 R5 true true) (E := []) (hi_dado B R3 R5 W0.heap.size kM kA kR true true (hMh _ _) (hAh _ _) (hRh _ _) [] (by decide) (by decide)) hcl rfl rfl (fun done ρ W hat => ?_)
      have e17 : ρ (.tmp 17) = .pointer (some ⟨B, 0, none⟩) := fIs_at (d := 17) (v := .pointer (some ⟨B, 0, none⟩)) (hat.fact 8 (by kernel_rfl))
      have hC := hat.cls
      have hf := hat.fn
      have hc := hat.con
      obtain ⟨q, hq, hr⟩ := hC.rd
      have hbud := bud_9 done hat.new
      refine up_call 24 #[.pointer (some ⟨B, 0, none⟩), .int .i64 7] (by simp only [execOp]; go_simp) ?_
      refine (pick_at hr (by omega) 7 (by omega) (by omega)).mono ?_
      rintro e W1 ⟨k, k0, k1, rfl, hr1, hK⟩
      refine ⟨_, rfl, hC.call (i := 9) hK (q := (q + 1)) (by omega) hr1, hC.hi hK, fK_mk (K := k9_dado B R3 R5 W0.heap.size kM kA kR) ⟨k.toNat, by omega, by rw [updV_same]; congr 1; omega⟩, fun j hj hcj => ?_⟩
      exact free_spec (X := fun _ => _) (by kernel_rfl) hat.lt j hj (by simpa using hcj)
    · simp at ho; subst ho
      refine fo_grow (st_dado B R3 R5 W0.heap.size kM kA kR hMg hAg hRg) hcl rfl rfl (fun done ρ W hat => ?_)
      have hC := hat.cls
      obtain ⟨b, e16, hb, hbx⟩ := (fK_at (d := 16) (K := k7_dado B R3 R5 W0.heap.size kM kA kR) (hat.fact 7 (by kernel_rfl)))
      obtain ⟨x, hx, e18⟩ := (fK_at (d := 18) (K := k9_dado B R3 R5 W0.heap.size kM kA kR) (hat.fact 9 (by kernel_rfl)))
      have hx0 : (0 : Int) ≤ (x : Int) := by omega
      have hx1 : (x : Int) < 7 := by omega
      refine up_val (.pointer (some ⟨b, x, none⟩)) W (by clear hbx; simp only [execOp]; go_simp) ?_
      exact ⟨CD.step (by decide) (by decide) (by decide) (by decide) (by decide) hC, Gr.refl _, fK_mk (K := k10_dado B R3 R5 W0.heap.size kM kA kR) ⟨b, x, hx, updV_same _ _ _, hb, hbx⟩, free_spec (by kernel_rfl) hat.lt⟩
    · simp at ho; subst ho
      refine fo_grow (st_dado B R3 R5 W0.heap.size kM kA kR hMg hAg hRg) hcl rfl rfl (fun done ρ W hat => ?_)
      have hC := hat.cls
      obtain ⟨b, x, hx, e19, hb, hbx⟩ := (fK_at (d := 19) (K := k10_dado B R3 R5 W0.heap.size kM kA kR) (hat.fact 10 (by kernel_rfl)))
      obtain ⟨y, hy, cy⟩ : ∃ y : Nat, y < 3 ∧ W.cell? ⟨b, x, none⟩ = some (.int .i64 (y : Int)) := by rw [heap_cell hbx x]; exact seven x hx
      refine up_val (.int .i64 (y : Int)) W (by clear hbx; simp only [execOp]; go_simp) ?_
      exact ⟨CD.step (by decide) (by decide) (by decide) (by decide) (by decide) hC, Gr.refl _, fK_mk (K := k11_dado B R3 R5 W0.heap.size kM kA kR) ⟨y, hy, updV_same _ _ _⟩, free_spec (by kernel_rfl) hat.lt⟩
    · simp at ho; subst ho
      refine fo_grow (st_dado B R3 R5 W0.heap.size kM kA kR hMg hAg hRg) hcl rfl rfl (fun done ρ W hat => ?_)
      have hC := hat.cls
      obtain ⟨b, x, e15, hb, hbx⟩ := (fK_at (d := 15) (K := k6_dado B R3 R5 W0.heap.size kM kA kR) (hat.fact 6 (by kernel_rfl)))
      obtain ⟨y, hy, e20⟩ := (fK_at (d := 20) (K := k11_dado B R3 R5 W0.heap.size kM kA kR) (hat.fact 11 (by kernel_rfl)))
      have hy0 : (0 : Int) ≤ (y : Int) := by omega
      have hy1 : (y : Int) < 3 := by omega
      refine up_val (.pointer (some ⟨b, y, none⟩)) W (by clear hbx; simp only [execOp]; go_simp) ?_
      exact ⟨CD.step (by decide) (by decide) (by decide) (by decide) (by decide) hC, Gr.refl _, fK_mk (K := k12_dado B R3 R5 W0.heap.size kM kA kR) ⟨b, y, x, hy, updV_same _ _ _, hb, hbx⟩, free_spec (by kernel_rfl) hat.lt⟩
    · simp at ho; subst ho
      refine fo_grow (st_dado B R3 R5 W0.heap.size kM kA kR hMg hAg hRg) hcl rfl rfl (fun done ρ W hat => ?_)
      have hC := hat.cls
      obtain ⟨b, y, x, hy, e21, hb, hbx⟩ := (fK_at (d := 21) (K := k12_dado B R3 R5 W0.heap.size kM kA kR) (hat.fact 12 (by kernel_rfl)))
      obtain ⟨n, cy⟩ : ∃ n : Int, W.cell? ⟨b, y, none⟩ = some (.int .i64 n) := by rw [heap_cell hbx y]; exact three x y hy
      refine up_val (.int .i64 n) W (by clear hbx; simp only [execOp]; go_simp) ?_
      exact ⟨CD.step (by decide) (by decide) (by decide) (by decide) (by decide) hC, Gr.refl _, fK_mk (K := k13_dado B R3 R5 W0.heap.size kM kA kR) ⟨n, updV_same _ _ _⟩, free_spec (by kernel_rfl) hat.lt⟩
    · simp at ho; subst ho
      refine fo_det (st_dado B R3 R5 W0.heap.size kM kA kR hMg hAg hRg) hcl rfl rfl rfl rfl (by kernel_rfl) (fun _ _ h => CD.step (by decide) (by decide) (by decide) (by decide) (by decide) h) (fun done ρ W hat => ?_)
      have e6 : ρ (.tmp 6) = .pointer (some ⟨B, 0, none⟩) := hat.out 6 (by kernel_rfl)
      have hC := hat.cls
      have hc := hat.con
      simp only [execOp, e6]
      go_simp
    · simp at ho; subst ho
      refine fo_rel (S := HiD W0.heap.size R3 R5 true true) (E := []) (hi_dado B R3 R5 W0.heap.size kM kA kR true true (hMh _ _) (hAh _ _) (hRh _ _) [] (by decide) (by decide)) hcl rfl rfl (fun done ρ W hat => ?_)
      have e23 : ρ (.tmp 23) = .pointer (some ⟨B, 0, none⟩) := fIs_at (d := 23) (v := .pointer (some ⟨B, 0, none⟩)) (hat.fact 14 (by kernel_rfl))
      have hC := hat.cls
      have hf := hat.fn
      have hc := hat.con
      obtain ⟨q, hq, hr⟩ := hC.rd
      have hbud := bud_15 done hat.new
      refine up_call 25 #[.pointer (some ⟨B, 0, none⟩), .int .i64 16] (by simp only [execOp]; go_simp) ?_
      refine (l20Req_any B q 16 W hr (by omega) (by omega) (by omega)).mono ?_
      rintro e W1 ⟨v, rfl, r, pd, cd, pl, cl, q1, rfl, hRq, y1, y2, hr1, hq1, hK, hb1, hb2⟩
      refine ⟨_, rfl, hC.call (i := 15) hK (q := q1) (by omega) hr1, hC.hi hK, fK_mk (by rw [updV_same]; exact hRk _ _ _ _ _ _ hRq y1 y2 (fun b off e => Nat.le_trans hC.kept.size (hb1 b off e)) (fun b off e => Nat.le_trans hC.kept.size (hb2 b off e))), fun j hj hcj => ?_⟩
      exact free_spec (X := fun _ => _) (by kernel_rfl) hat.lt j hj (by simpa using hcj)
    · simp at ho; subst ho
      refine fo_grow (st_dado B R3 R5 W0.heap.size kM kA kR hMg hAg hRg) hcl rfl rfl (fun done ρ W hat => ?_)
      have hC := hat.cls
      have hK : kM W (ρ (.tmp 10)) := fK_at (d := 10) (K := kM) (hat.fact 1 (by kernel_rfl))
      exact up_val (ρ (.tmp 10)) W (by simp only [execOp]; go_simp) ⟨CD.step (by decide) (by decide) (by decide) (by decide) (by decide) hC, Gr.refl _, fK_mk (by rw [updV_same]; exact hK), free_spec (by kernel_rfl) hat.lt⟩
    · simp at ho; subst ho
      refine fo_rel (S := HiD W0.heap.size R3 R5 false true) (E := [17]) (hi_dado B R3 R5 W0.heap.size kM kA kR false true (hMh _ _) (hAh _ _) (hRh _ _) [17] (by decide) (by decide)) hcl rfl rfl (fun done ρ W hat => ?_)
      have e3 : ρ (.tmp 3) = .pointer (some ⟨R3, 0, none⟩) := hat.out 3 (by kernel_rfl)
      have hC := hat.cls
      have hK : kA W (ρ (.tmp 12)) := fK_at (d := 12) (K := kA) (hat.fact 3 (by kernel_rfl))
      obtain ⟨p0, n0, k0, p1, n1, k1, e12⟩ := hA2 _ _ hK
      obtain ⟨_, _, _, _, _, _, hbx⟩ := hC.b3
      have hR1 := heap_set hbx 0 (.slice p0 n0 k0)
      have hR2 := (heap_set hR1 1 (.slice p1 n1 k1)).trans rfl
      refine up_store2 rfl e3 e12 hbx ⟨hC.st3 h35 hR2, HiD.two h3M h35, ⟨_, _, e12, hR2⟩, fun j hj hcj => ?_⟩
      have hj17 : j = 17 := ask17_dado j (hat.lt j hj) hcj
      subst hj17
      rw [hat.new] at hj; cases hj
    · simp at ho; subst ho
      refine fo_grow (st_dado B R3 R5 W0.heap.size kM kA kR hMg hAg hRg) hcl rfl rfl (fun done ρ W hat => ?_)
      have hC := hat.cls
      obtain ⟨x, e22⟩ := (fK_at (d := 22) (K := k13_dado B R3 R5 W0.heap.size kM kA kR) (hat.fact 13 (by kernel_rfl)))
      exact up_val (.int .i64 x) W (by simp only [execOp]; go_simp) ⟨CD.step (by decide) (by decide) (by decide) (by decide) (by decide) hC, Gr.refl _, fK_mk (K := k18_dado B R3 R5 W0.heap.size kM kA kR) ⟨x, updV_same _ _ _⟩, free_spec (by kernel_rfl) hat.lt⟩
    · simp at ho; subst ho
      refine fo_rel (S := HiD W0.heap.size R3 R5 true false) (E := [19]) (hi_dado B R3 R5 W0.heap.size kM kA kR true false (hMh _ _) (hAh _ _) (hRh _ _) [19] (by decide) (by decide)) hcl rfl rfl (fun done ρ W hat => ?_)
      have e5 : ρ (.tmp 5) = .pointer (some ⟨R5, 0, none⟩) := hat.out 5 (by kernel_rfl)
      have hC := hat.cls
      have hK : kR W (ρ (.tmp 24)) := fK_at (d := 24) (K := kR) (hat.fact 15 (by kernel_rfl))
      obtain ⟨i0, i1, i2, i3, bb, p5, n5, k5, p6, n6, k6, e24⟩ := hR7 _ _ hK
      obtain ⟨_, _, _, _, _, _, _, _, _, _, _, hbx⟩ := hC.b5
      have hR2 := set7 hbx (.int .i64 i0) (.int .i64 i1) (.int .i64 i2) (.int .i64 i3) (.bool bb) (.slice p5 n5 k5) (.slice p6 n6 k6)
      refine up_store7 rfl e5 e24 hbx ⟨hC.st5 h35 hR2, HiD.seven h5M h35, ⟨_, _, _, _, _, _, _, e24, hR2⟩, fun j hj hcj => ?_⟩
      have hj19 : j = 19 := ask19_dado j (hat.lt j hj) hcj
      subst hj19
      rw [hat.new] at hj; cases hj
    · simp at ho
  case c0 => exact hC0
  case done =>
    intro f W hC hf hout
    have g2 : kM W (f 2) := fK_at (d := 2) (K := kM) (hf 16 (by decide))
    have g12 : kA W (f 12) := fK_at (d := 12) (K := kA) (hf 3 (by decide))
    have g24 : kR W (f 24) := fK_at (d := 24) (K := kR) (hf 15 (by decide))
    obtain ⟨who, g4⟩ := fK_at (d := 4) (K := k18_dado B R3 R5 W0.heap.size kM kA kR) (hf 18 (by decide))
    obtain ⟨v0, v1, g3, m3⟩ := f17_at (hf 17 (by decide))
    obtain ⟨u0, u1, u2, u3, u4, u5, u6, g5, m5⟩ := f19_at (hf 19 (by decide))
    have hbZ : Below w.heap.size w W := hbW.trans ⟨hC.kept.os, hC.kept.tape, hC.kept.output, hC.kept.size, fun k hk => hC.kept.block k (by omega) (by omega)⟩
    rw [ekM] at g2
    rw [ekA] at g12
    rw [ekR] at g24
    obtain ⟨b, c, ms, e2, x2, x3, x4, x5, x6, x7⟩ := g2
    obtain ⟨s, bw, ow, cw, bh, oh, ch, e12, y2, y3, y4, y5, y6⟩ := g12
    obtain ⟨r, pd, cd, pl, cl, e24, z2, z3, z4, z5, z6⟩ := g24
    rw [e12] at g3
    rw [e24] at g5
    unfold stV at g3
    unfold reqV at g5
    injection g3 with g3
    injection g5 with g5
    injection g3 with g3
    injection g5 with g5
    simp only [List.cons.injEq, and_true] at g3 g5
    obtain ⟨rfl, rfl⟩ := g3
    obtain ⟨rfl, rfl, rfl, rfl, rfl, rfl, rfl⟩ := g5
    have r30 : W.cell? ⟨R3, 0, none⟩ = some (.slice (some ⟨bw, ow, none⟩) s.words.length cw) := heap_cell m3 0
    have r31 : W.cell? ⟨R3, 1, none⟩ = some (.slice (some ⟨bh, oh, none⟩) s.holds.length ch) := heap_cell m3 1
    have r50 : W.cell? ⟨R5, 0, none⟩ = some (.int .i64 r.id) := heap_cell m5 0
    have r51 : W.cell? ⟨R5, 1, none⟩ = some (.int .i64 r.kind) := heap_cell m5 1
    have r52 : W.cell? ⟨R5, 2, none⟩ = some (.int .i64 r.addr) := heap_cell m5 2
    have r53 : W.cell? ⟨R5, 3, none⟩ = some (.int .i64 r.many) := heap_cell m5 3
    have r54 : W.cell? ⟨R5, 4, none⟩ = some (.bool r.wrap) := heap_cell m5 4
    have r55 : W.cell? ⟨R5, 5, none⟩ = some (.slice pd r.data.length cd) := heap_cell m5 5
    have r56 : W.cell? ⟨R5, 6, none⟩ = some (.slice pl r.lanes.length cl) := heap_cell m5 6
    have HX := Hid.intro x7
    have HS := Hid.intro y2
    have HR := Hid.intro z2
    have HB := Hid.intro hbZ
    clear x7 y2 z2 hbZ hf hC hC0 m3 m5 hMg hAg hRg hMh hAh hRh hMk hAk hRk hA2 hR7 c3 c5 hbW hr0 e12 e24 e3 e5 eB hout
    simp only [fill]
    go_simp
    go_wp2
    refine bodyPost_ret (v := .tuple #[.slice (some ⟨b, 0, none⟩) ms.length c, stV s (some ⟨bw, ow, none⟩) cw (some ⟨bh, oh, none⟩) ch, .int .i64 who, reqV r pd cd pl cl]) (by simp [results, Try.results12, go_sem, r30, r31, r50, r51, r52, r53, r54, r55, r56, reqV, stV, e2, g4]) rfl ⟨b, c, ms, s, bw, ow, cw, bh, oh, ch, who, r, pd, cd, pl, cl, rfl, HX.out, x5, x6, x3, x4, HS.out, y3, y4, HR.out, z3, z4, HB.out⟩

end Go.Proofs.Ytpbkpfdbdfnlbaa

/-
  What the laws ask of rows of ints: crInts, eqIntS, crIn; what a burst's addresses are.
-/
namespace Go.Proofs.Ytpbkpfdbdfnlbaa
open Go.RowKit
set_option linter.unusedSimpArgs false
set_option linter.unusedVariables false

set_option maxRecDepth 100000 in
set_option maxHeartbeats 1000000 in
theorem crInts_same (p q : Option Addr) (c1 c2 : Nat) (xs : List Int) (w : World) (hp : IntsAt w p xs) (hq : IntsAt w q xs) (h1 : xs.length ≤ c1) (h2 : c1 ≤ 9223372036854775807) (h3 : xs.length ≤ c2) (h4 : c2 ≤ 9223372036854775807) :
    Calls Try.prog 18 #[.slice p xs.length c1, .slice q xs.length c2] w fun e w' => e = .returned (.bool true) ∧ Below w.heap.size w w' := by
  have HP := Hid.intro hp
  have HQ := Hid.intro hq
  clear hp hq
  go_enter Try.func18, Try.ntmps18
  go_wp2
  go_loopw [5] (fun i wr => ∃ k : Nat, k ≤ xs.length ∧ i = .int .i64 k ∧ Below w.heap.size w wr) (fun i _ => xs.length - (intOf i).toNat)
  case atStart => exact ⟨0, Nat.zero_le _, rfl, Below.refl _ _⟩
  case round =>
    obtain ⟨k, hk, rfl, hbl⟩ := hrel
    by_cases hlt : k < xs.length
    · rcases HP.out with hx | ⟨b, off, rfl, hb, hcells⟩
      · subst hx; simp at hlt
      rcases HQ.out with hx' | ⟨b', off', rfl, hb', hcells'⟩
      · subst hx'; simp at hlt
      have hk0 : (0 : Int) ≤ (k : Int) := by omega
      have hk1 : (k : Int) < (xs.length : Int) := by omega
      have hc1 : wr.cell? ⟨b, off + k, none⟩ = some (.int .i64 xs[k]) := (hbl.cell (p := ⟨b, off + k, none⟩) hb).trans (hcells k hlt)
      have hc2 : wr.cell? ⟨b', off' + k, none⟩ = some (.int .i64 xs[k]) := (hbl.cell (p := ⟨b', off' + k, none⟩) hb').trans (hcells' k hlt)
      clear hcells hcells' HP HQ
      go_wp2_with fail
      go_quiet (fail)
      all_goals go_wp2
      all_goals go_roundw
      case rel => exact ⟨k + 1, by omega, by go_num, by first | exact hbl.drew | exact ⟨hbl.os, hbl.tape, hbl.output, hbl.size, hbl.block⟩⟩
      case measure => simp [intOf]; omega
    · have hk' : k = xs.length := by omega
      subst hk'
      go_wp2
      go_ret
      exact ⟨rfl, hbl⟩

theorem burst_bd {a m : Int} {wrap : Bool} {v : Int} (h : v ∈ burst a m wrap) : 0 ≤ v ∧ v ≤ 63 := by
  cases hok : adrOkB a m wrap
  · rw [burst_no hok] at h; simp at h
  · rw [burst_ok hok] at h
    obtain ⟨h1, h2, h3, h4⟩ := (adrOk_iff a m wrap).1 hok
    simp only [List.mem_map, List.mem_range] at h
    obtain ⟨k, hk, rfl⟩ := h
    rcases h3 with rfl | rfl | rfl <;> cases wrap <;> simp [burstAt] at h4 ⊢ <;> omega

end Go.Proofs.Ytpbkpfdbdfnlbaa

/-
  crRsp and crAtm of the laws: what is the same is the same.
-/
namespace Go.Proofs.Ytpbkpfdbdfnlbaa
open Go.RowKit
set_option linter.unusedSimpArgs false
set_option linter.unusedVariables false

theorem below_two (w : World) (o o' : Obj) : Below w.heap.size w ((w.alloc o).alloc o') := ((Below.refl _ w).alloc (Nat.le_refl _) o).alloc (by simp) o'

set_option maxRecDepth 100000 in
set_option maxHeartbeats 2000000 in
theorem crRsp_same (x : Rsp) (p q : Option Addr) (c d : Nat) (w : World) (hp : RspAt w x p c) (hq : RspAt w x q d) :
    Calls Try.prog 15 #[rspV x p c, rspV x q d] w fun e w' => e = .returned (.bool true) ∧ Below w.heap.size w w' := by
  have HP := Hid.intro hp
  have HQ := Hid.intro hq
  clear hp hq
  unfold rspV
  go_enter Try.func15, Try.ntmps15
  go_wp2_with fail
  refine (crInts_same p q c d x.data _ (HP.out.data.below (below_two _ _ _)) (HQ.out.data.below (below_two _ _ _)) HP.out.c1 HP.out.c2 HQ.out.c1 HQ.out.c2).mono ?_
  rintro e w1 ⟨rfl, hb⟩
  have hB := (below_two w _ _).trans (hb.mono (below_two _ _ _).size)
  clear hb
  go_wp2
  go_ret
  exact ⟨rfl, hB⟩

set_option maxRecDepth 100000 in
set_option maxHeartbeats 2000000 in
theorem crAtm_same (s : Stt) (p q ph qh : Option Addr) (c d ch dh : Nat) (w : World) (hp : StAt w s p c ph ch) (hq : StAt w s q d qh dh) :
    Calls Try.prog 9 #[stV s p c ph ch, stV s q d qh dh] w fun e w' => e = .returned (.bool true) ∧ Below w.heap.size w w' := by
  have HP := Hid.intro hp
  have HQ := Hid.intro hq
  clear hp hq
  unfold stV
  go_enter Try.func9, Try.ntmps9
  go_wp2_with fail
  refine (crInts_same p q c d s.words _ (HP.out.words.below (below_two _ _ _)) (HQ.out.words.below (below_two _ _ _)) HP.out.cw1 HP.out.cw2 HQ.out.cw1 HQ.out.cw2).mono ?_
  rintro e w1 ⟨rfl, hb⟩
  have hB := (below_two w _ _).trans (hb.mono (below_two _ _ _).size)
  have m1 : w1.cell? ⟨w.heap.size, 1, none⟩ = some (.slice ph s.holds.length ch) := (hb.cell (p := ⟨w.heap.size, 1, none⟩) (by simp; omega)).trans (by simp)
  have m2 : w1.cell? ⟨w.heap.size + 1, 1, none⟩ = some (.slice qh s.holds.length dh) := (hb.cell (p := ⟨w.heap.size + 1, 1, none⟩) (by simp)).trans (by simp)
  have HP1 := Hid.intro (HP.out.holds.below hB)
  have HQ1 := Hid.intro (HQ.out.holds.below hB)
  clear hb
  go_wp2_with fail
  refine (crInts_same ph qh ch dh s.holds w1 HP1.out HQ1.out HP.out.ch1 HP.out.ch2 HQ.out.ch1 HQ.out.ch2).mono ?_
  rintro e w2 ⟨rfl, hb2⟩
  have hB2 := hB.trans (hb2.mono hB.size)
  clear hb2 hB
  go_wp2
  go_ret
  exact ⟨rfl, hB2⟩

end Go.Proofs.Ytpbkpfdbdfnlbaa

/-
  What the walks of the laws of AtmDo share.
-/
namespace Go.Proofs.Ytpbkpfdbdfnlbaa
open Go.RowKit
set_option linter.unusedSimpArgs false
set_option linter.unusedVariables false

theorem atmF_at {F : Nat} (hF : AtmDoF F) {a : Option Addr} {c : Nat} {ms : List Rng} {s : Stt} {pw ph : Option Addr} {cw ch : Nat} {who : Int} {r : Req} {pd pl : Option Addr} {cd cl : Nat} {W : World} {zs : Stt} {zr : Rsp} (hZ : atmZ ms s who r = (zs, zr))
    (hM : RowOf W a ms) (xc : ms.length ≤ c) (xm : c ≤ 9223372036854775807) (hS : StAt W s pw cw ph ch) (hR : ReqAt W r pd cd pl cl) :
    Calls Try.prog F #[.slice a ms.length c, stV s pw cw ph ch, .int .i64 who, reqV r pd cd pl cl] W fun e w' => ∃ qw dw qh dh qx dx, e = .returned (.tuple #[stV zs qw dw qh dh, rspV zr qx dx]) ∧ AtmOut W.heap.size w' zs zr qw dw qh dh qx dx ∧ Below W.heap.size W w' := by
  have := hF a c ms s pw ph cw ch who r pd pl cd cl W hM xc xm hS hR
  rw [hZ] at this
  exact this
theorem two_at0 (w : World) (o o' : Obj) : ((w.alloc o).alloc o').heap[w.heap.size]? = some o := (Below.heap_alloc _ _ _ (by simp)).trans (nw_at _ rfl)
theorem two_at1 (w : World) (o o' : Obj) : ((w.alloc o).alloc o').heap[w.heap.size + 1]? = some o' := nw_at _ (by simp)
theorem cells2 {w : World} {b : Nat} {v0 v1 : Value} {t : TypeId} (h : w.heap[b]? = some (.cells #[v0, v1] t (0, 0))) : w.cell? ⟨b, 0, none⟩ = some v0 ∧ w.cell? ⟨b, 1, none⟩ = some v1 := ⟨heap_cell h 0, heap_cell h 1⟩
theorem cells3 {w : World} {b : Nat} {v0 v1 v2 : Value} {t : TypeId} (h : w.heap[b]? = some (.cells #[v0, v1, v2] t (0, 0))) : w.cell? ⟨b, 0, none⟩ = some v0 ∧ w.cell? ⟨b, 1, none⟩ = some v1 ∧ w.cell? ⟨b, 2, none⟩ = some v2 := ⟨heap_cell h 0, heap_cell h 1, heap_cell h 2⟩
theorem cells7 {w : World} {b : Nat} {v0 v1 v2 v3 v4 v5 v6 : Value} {t : TypeId} (h : w.heap[b]? = some (.cells #[v0, v1, v2, v3, v4, v5, v6] t (0, 0))) : w.cell? ⟨b, 0, none⟩ = some v0 ∧ w.cell? ⟨b, 1, none⟩ = some v1 ∧ w.cell? ⟨b, 2, none⟩ = some v2 ∧ w.cell? ⟨b, 3, none⟩ = some v3 ∧ w.cell? ⟨b, 4, none⟩ = some v4 ∧ w.cell? ⟨b, 5, none⟩ = some v5 ∧ w.cell? ⟨b, 6, none⟩ = some v6 := ⟨heap_cell h 0, heap_cell h 1, heap_cell h 2, heap_cell h 3, heap_cell h 4, heap_cell h 5, heap_cell h 6⟩
theorem atmZ_may {ms : List Rng} {s : Stt} {who : Int} {r : Req} (h : atmOkB ms s who r = true) : atmZ ms s who r = atmDo ms s who r := by unfold atmZ; rw [if_pos h]
theorem atmZ_not {ms : List Rng} {s : Stt} {who : Int} {r : Req} (h : ¬ atmOkB ms s who r = true) : atmZ ms s who r = (⟨[], []⟩, ⟨0, 0, []⟩) := by unfold atmZ; rw [if_neg h]
theorem atmZ_code {ms : List Rng} {s : Stt} {who : Int} {r : Req} {zs : Stt} {zr : Rsp} (hZ : atmZ ms s who r = (zs, zr)) (h : zr.code ≠ 0) : atmOkB ms s who r = true ∧ atmDo ms s who r = (zs, zr) := by
  by_cases hk : atmOkB ms s who r = true
  · exact ⟨hk, (atmZ_may hk).symm.trans hZ⟩
  · rw [atmZ_not hk] at hZ
    injection hZ with h1 h2
    rw [← h2] at h
    exact absurd rfl h
/-- behind what is done it may be done again -/
theorem atmOk_next {ms : List Rng} {s : Stt} {who who' : Int} {r q : Req} (h : atmOkB ms s who r = true) (hw : inB who' 0 2 = true) (hq : reqOkB q = true) : atmOkB ms (atmDo ms s who r).1 who' q = true := by
  have := atmDo_ok h
  simp only [atmOkB, Bool.and_eq_true] at h ⊢
  exact ⟨h.1, this, hw, hq⟩
theorem atmOk_and {ms : List Rng} {s : Stt} {who : Int} {r : Req} (h : atmOkB ms s who r = true) : mapOkB ms = true ∧ stOkB s = true ∧ inB who 0 2 = true ∧ reqOkB r = true := by
  simp only [atmOkB, Bool.and_eq_true] at h
  exact ⟨h.1, h.2.1, h.2.2.1, h.2.2.2⟩

end Go.Proofs.Ytpbkpfdbdfnlbaa

namespace Go.Proofs.Ytpbkpfdbdfnlbaa
open Go.RowKit
set_option linter.unusedSimpArgs false
set_option linter.unusedVariables false

theorem crOk_any (w : World) : Calls Try.prog 11 #[] w fun e w' => e = .returned (.bool true) ∧ w' = w := by
  go_enter Try.func11, Try.ntmps11
  go_wp2_with fail
  refine (impl_AdrOk 5 1 false w).mono ?_
  rintro e w' ⟨rfl, rfl⟩
  go_wp2
  go_ret
  exact ⟨rfl, rfl⟩

end Go.Proofs.Ytpbkpfdbdfnlbaa
