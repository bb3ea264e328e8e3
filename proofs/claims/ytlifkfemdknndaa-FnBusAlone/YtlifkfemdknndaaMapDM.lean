/-
  spec's l20Map: whatever the code, a row of one to seven ranges, in memory of its own.
-/
import Derived.Test.YtlifkfemdknndaaProg
import Derived.Test.YtlifkfemdknndaaMapCM
import Derived.Test.YtlifkfemdknndaaOpsXM
import Derived.Test.YtlifkfemdknndaaDraw1
import Derived.Deep.DeepCutAuto
import Derived.Deep.CutBlock
import Derived.Deep.AppendLies
/-
  The law's own rows of ranges: copies, and whether two are the same.
-/
namespace Go.Proofs.Ytlifkfemdknndaa
open Go.RowKit
set_option linter.unusedSimpArgs false
set_option linter.unusedVariables false

/-! ### four cells, stored -/
def set4 (w : World) (b o : Nat) (r : Rng) : World :=
  (((w.setCell ⟨b, o, none⟩ (.int .i64 r.fr)).setCell ⟨b, o + 1, none⟩ (.int .i64 r.tt)).setCell ⟨b, o + 2, none⟩ (.int .i64 r.sl)).setCell ⟨b, o + 3, none⟩ (.bool r.only)

theorem cell_other {w : World} {b o o' : Nat} {v : Value} (h : o ≠ o') : (w.setCell ⟨b, o, none⟩ v).cell? ⟨b, o', none⟩ = w.cell? ⟨b, o', none⟩ :=
  World.cell?_setCell_other _ _ _ _ (by simp)
theorem cell_isSome {w : World} {b o o' : Nat} {v u : Value} (h : w.cell? ⟨b, o', none⟩ = some u) : ∃ u', (w.setCell ⟨b, o, none⟩ v).cell? ⟨b, o', none⟩ = some u' := by
  by_cases e : o = o'
  · subst e; exact ⟨v, World.cell?_setCell_same _ _ _ h⟩
  · exact ⟨u, (cell_other e).trans h⟩

theorem set4_there {w : World} {b o : Nat} {r : Rng} (o' : Nat) (h : ∃ u, w.cell? ⟨b, o', none⟩ = some u) : ∃ u, (set4 w b o r).cell? ⟨b, o', none⟩ = some u := by
  obtain ⟨u, h⟩ := h
  obtain ⟨u, h⟩ := cell_isSome (o := o) (v := .int .i64 r.fr) h
  obtain ⟨u, h⟩ := cell_isSome (o := o + 1) (v := .int .i64 r.tt) h
  obtain ⟨u, h⟩ := cell_isSome (o := o + 2) (v := .int .i64 r.sl) h
  exact cell_isSome h
theorem set4_other {w : World} {b o : Nat} {r : Rng} (o' : Nat) (h : o' < o ∨ o + 4 ≤ o') : (set4 w b o r).cell? ⟨b, o', none⟩ = w.cell? ⟨b, o', none⟩ := by
  unfold set4
  rw [cell_other (by omega), cell_other (by omega), cell_other (by omega), cell_other (by omega)]
theorem set4_at {w : World} {b o : Nat} {r : Rng} (h : ∀ i, i < 4 → ∃ u, w.cell? ⟨b, o + i, none⟩ = some u) :
    (set4 w b o r).cell? ⟨b, o, none⟩ = some (.int .i64 r.fr) ∧ (set4 w b o r).cell? ⟨b, o + 1, none⟩ = some (.int .i64 r.tt) ∧
    (set4 w b o r).cell? ⟨b, o + 2, none⟩ = some (.int .i64 r.sl) ∧ (set4 w b o r).cell? ⟨b, o + 3, none⟩ = some (.bool r.only) := by
  obtain ⟨u0, h0⟩ := h 0 (by omega)
  obtain ⟨u1, h1⟩ := h 1 (by omega)
  obtain ⟨u2, h2⟩ := h 2 (by omega)
  obtain ⟨u3, h3⟩ := h 3 (by omega)
  simp only [Nat.add_zero] at h0
  unfold set4
  refine ⟨?_, ?_, ?_, ?_⟩
  · rw [cell_other (by omega), cell_other (by omega), cell_other (by omega), World.cell?_setCell_same _ _ _ h0]
  · rw [cell_other (by omega), cell_other (by omega), World.cell?_setCell_same (u := u1) _ _ _ (by rw [cell_other (by omega)]; exact h1)]
  · rw [cell_other (by omega), World.cell?_setCell_same (u := u2) _ _ _ (by rw [cell_other (by omega), cell_other (by omega)]; exact h2)]
  · rw [World.cell?_setCell_same (u := u3) _ _ _ (by rw [cell_other (by omega), cell_other (by omega), cell_other (by omega)]; exact h3)]
theorem set4_below {w : World} {b o B : Nat} {r : Rng} {a : World} (h : Below B a w) (hb : B ≤ b) : Below B a (set4 w b o r) :=
  (((h.setCell (p := ⟨b, o, none⟩) hb _).setCell (p := ⟨b, o + 1, none⟩) hb _).setCell (p := ⟨b, o + 2, none⟩) hb _).setCell (p := ⟨b, o + 3, none⟩) hb _
theorem set4_frozen {w : World} {b o : Nat} {r : Rng} (x : Addr) : (set4 w b o r).frozen? x = w.frozen? x := by
  simp [set4]
theorem set4_size {w : World} {b o : Nat} {r : Rng} : (set4 w b o r).heap.size = w.heap.size := by
  simp [set4]

/-- block N, n cells, may be written; the first k ranges lie there -/
structure Part (w : World) (N n : Nat) (xs : List Rng) (k : Nat) : Prop where
  there : ∀ o, o < n * 4 → ∃ u, w.cell? ⟨N, o, none⟩ = some u
  free : ∀ o, w.frozen? ⟨N, o, none⟩ = false
  done : ∀ j (h : j < xs.length), j < k → w.cell? ⟨N, j * 4, none⟩ = some (.int .i64 xs[j].fr) ∧ w.cell? ⟨N, j * 4 + 1, none⟩ = some (.int .i64 xs[j].tt) ∧
    w.cell? ⟨N, j * 4 + 2, none⟩ = some (.int .i64 xs[j].sl) ∧ w.cell? ⟨N, j * 4 + 3, none⟩ = some (.bool xs[j].only)

theorem Part.new {w : World} {xs : List Rng} {cs : Array Value} {t : TypeId} {n : Nat} (h : cs.size = n * 4) : Part (w.alloc (.cells cs t)) w.heap.size n xs 0 :=
  ⟨fun o ho => ⟨cs[o]'(by omega), by rw [World.cell?_alloc_new]; simp [h, ho]⟩, fun o => by simp, fun j _ h => by omega⟩
theorem Part.below {w w' : World} {N n k : Nat} {xs : List Rng} (h : Part w N n xs k) (hN : N < w.heap.size) (hb : Below w.heap.size w w') : Part w' N n xs k :=
  ⟨fun o ho => by rw [hb.cell (p := ⟨N, o, none⟩) hN]; exact h.there o ho, fun o => by rw [hb.frozen (p := ⟨N, o, none⟩) hN]; exact h.free o,
   fun j hj hk => by
    rw [hb.cell (p := ⟨N, j * 4, none⟩) hN, hb.cell (p := ⟨N, j * 4 + 1, none⟩) hN, hb.cell (p := ⟨N, j * 4 + 2, none⟩) hN, hb.cell (p := ⟨N, j * 4 + 3, none⟩) hN]
    exact h.done j hj hk⟩
theorem Part.step {w : World} {N n k : Nat} {xs : List Rng} (h : Part w N n xs k) (hk : k < xs.length) (hn : k < n) : Part (set4 w N (k * 4) xs[k]) N n xs (k + 1) :=
  ⟨fun o ho => set4_there o (h.there o ho), fun o => by rw [set4_frozen]; exact h.free o,
   fun j hj hjk => by
    by_cases e : j = k
    · subst e
      exact set4_at (fun i hi => h.there _ (by omega))
    · have := h.done j hj (by omega)
      rw [set4_other _ (by omega), set4_other _ (by omega), set4_other _ (by omega), set4_other _ (by omega)]
      exact this⟩
theorem Part.row {w : World} {N n : Nat} {xs : List Rng} (h : Part w N n xs xs.length) (hN : N < w.heap.size) : RowOf w (some ⟨N, 0, none⟩) xs :=
  .inr ⟨N, 0, rfl, hN, fun k hk => by simpa using h.done k hk hk⟩

theorem Try.infoRng : (Try.prog.info? 70).map (fun i => (i.zero, i.size, i.bytes)) = some (some (.agg #[.int .i64 0, .int .i64 0, .int .i64 0, .bool false]), 4, 32) := by kernel_rfl

end Go.Proofs.Ytlifkfemdknndaa

/-
  A row of ranges in a block of its own, that may be written.
-/
namespace Go.Proofs.Ytlifkfemdknndaa
open Go.RowKit
set_option linter.unusedSimpArgs false
set_option linter.unusedVariables false

/-- the cells of ranges -/
def flat : List Rng → List Value
  | [] => []
  | r :: l => .int .i64 r.fr :: .int .i64 r.tt :: .int .i64 r.sl :: .bool r.only :: flat l

theorem rflat_len : ∀ l : List Rng, (flat l).length = l.length * 4
  | [] => rfl
  | r :: l => by simp [flat, rflat_len l]; omega
theorem flat_append : ∀ l m : List Rng, flat (l ++ m) = flat l ++ flat m
  | [], m => rfl
  | r :: l, m => by simp [flat, flat_append l m]
theorem flat_at : ∀ (l : List Rng) (k : Nat) (h : k < l.length), (flat l)[k * 4]? = some (.int .i64 l[k].fr) ∧ (flat l)[k * 4 + 1]? = some (.int .i64 l[k].tt) ∧
    (flat l)[k * 4 + 2]? = some (.int .i64 l[k].sl) ∧ (flat l)[k * 4 + 3]? = some (.bool l[k].only)
  | r :: l, 0, h => by simp [flat]
  | r :: l, k + 1, h => by
    have ih := flat_at l k (by simpa using h)
    have e : ∀ i, (k + 1) * 4 + i = (k * 4 + i) + 4 := fun i => by omega
    have e0 : (k + 1) * 4 = k * 4 + 4 := by omega
    refine ⟨?_, ?_, ?_, ?_⟩
    · rw [e0]; simpa [flat] using ih.1
    · rw [e 1]; simpa [flat] using ih.2.1
    · rw [e 2]; simpa [flat] using ih.2.2.1
    · rw [e 3]; simpa [flat] using ih.2.2.2
theorem flat_set0 : ∀ (l : List Rng) (k : Nat) (h : k < l.length) (v : Int), (flat l).set (k * 4) (.int .i64 v) = flat (l.set k { l[k] with fr := v })
  | r :: l, 0, h, v => by simp [flat]
  | r :: l, k + 1, h, v => by
    have ih := flat_set0 l k (by simpa using h) v
    rw [show (k + 1) * 4 = k * 4 + 1 + 1 + 1 + 1 by omega]
    simp [flat, ih]
theorem flat_set1 : ∀ (l : List Rng) (k : Nat) (h : k < l.length) (v : Int), (flat l).set (k * 4 + 1) (.int .i64 v) = flat (l.set k { l[k] with tt := v })
  | r :: l, 0, h, v => by simp [flat]
  | r :: l, k + 1, h, v => by
    have ih := flat_set1 l k (by simpa using h) v
    rw [show (k + 1) * 4 + 1 = k * 4 + 1 + 1 + 1 + 1 + 1 by omega]
    simp [flat, ih]
theorem flat_set2 : ∀ (l : List Rng) (k : Nat) (h : k < l.length) (v : Int), (flat l).set (k * 4 + 2) (.int .i64 v) = flat (l.set k { l[k] with sl := v })
  | r :: l, 0, h, v => by simp [flat]
  | r :: l, k + 1, h, v => by
    have ih := flat_set2 l k (by simpa using h) v
    rw [show (k + 1) * 4 + 2 = k * 4 + 2 + 1 + 1 + 1 + 1 by omega]
    simp [flat, ih]

def WRow (w : World) (b cap : Nat) (xs : List Rng) : Prop :=
  ∃ cs : Array Value, w.heap[b]? = some (.cells cs 70 (0, 0)) ∧ cs.size = cap * 4 ∧ xs.length ≤ cap ∧ cs.toList.take (xs.length * 4) = flat xs

theorem WRow.lt {w : World} {b cap : Nat} {xs : List Rng} (h : WRow w b cap xs) : b < w.heap.size := by
  obtain ⟨cs, h, _⟩ := h
  exact (Array.getElem?_eq_some_iff.1 h).1
theorem WRow.of {w w' : World} {b cap : Nat} {xs : List Rng} (h : WRow w b cap xs) (hb : w'.heap[b]? = w.heap[b]?) : WRow w' b cap xs := by
  obtain ⟨cs, h1, h2⟩ := h
  exact ⟨cs, hb.trans h1, h2⟩
theorem WRow.keep {w w' : World} {b cap B : Nat} {xs : List Rng} (h : WRow w b cap xs) (hk : Keep B w w') (hb : b ≠ B) : WRow w' b cap xs := h.of (hk.block b h.lt hb)
theorem WRow.alloc {w : World} {b cap : Nat} {xs : List Rng} (h : WRow w b cap xs) (o : Obj) : WRow (w.alloc o) b cap xs := h.of (Below.heap_alloc _ _ _ h.lt)
theorem WRow.new {w : World} {cs : Array Value} {xs : List Rng} (h : cs = (flat xs).toArray) : WRow (w.alloc (.cells cs 70)) w.heap.size xs.length xs := by
  subst h
  refine ⟨(flat xs).toArray, by show (w.heap.push _)[w.heap.size]? = _; simp, by simp [rflat_len], Nat.le_refl _, ?_⟩
  rw [← rflat_len]; simp
theorem WRow.take {w : World} {b cap : Nat} {xs : List Rng} (h : WRow w b cap xs) (n : Nat) : WRow w b cap (xs.take n) := by
  obtain ⟨cs, h1, h2, h3, h4⟩ := h
  refine ⟨cs, h1, h2, by simp; omega, ?_⟩
  have e : ∀ (l : List Rng) (n : Nat), flat (l.take n) = (flat l).take ((l.take n).length * 4) := by
    intro l
    induction l with
    | nil => intro n; simp [flat]
    | cons r l ih =>
      intro n
      cases n with
      | zero => simp [flat]
      | succ n =>
        simp only [List.take_succ_cons, flat, ih n, List.length_cons]
        rw [show ((l.take n).length + 1) * 4 = (l.take n).length * 4 + 1 + 1 + 1 + 1 by omega]
        simp
  rw [e, ← h4, List.take_take]
  congr 1
  simp
  try omega
theorem WRow.get {w : World} {b cap : Nat} {xs : List Rng} (h : WRow w b cap xs) (k : Nat) (hk : k < xs.length) :
    w.cell? ⟨b, k * 4, none⟩ = some (.int .i64 xs[k].fr) ∧ w.cell? ⟨b, k * 4 + 1, none⟩ = some (.int .i64 xs[k].tt) ∧
    w.cell? ⟨b, k * 4 + 2, none⟩ = some (.int .i64 xs[k].sl) ∧ w.cell? ⟨b, k * 4 + 3, none⟩ = some (.bool xs[k].only) := by
  obtain ⟨cs, h1, h2, h3, h4⟩ := h
  have key : ∀ i, i < 4 → w.cell? ⟨b, k * 4 + i, none⟩ = (flat xs)[k * 4 + i]? := fun i hi => by
    have e : w.cell? ⟨b, k * 4 + i, none⟩ = cs[k * 4 + i]? := by simp [World.cell?, h1]
    rw [e, ← h4, List.getElem?_take, if_pos (by omega)]
    simp
  obtain ⟨g0, g1, g2, g3⟩ := flat_at xs k hk
  exact ⟨(key 0 (by omega)).trans g0, (key 1 (by omega)).trans g1, (key 2 (by omega)).trans g2, (key 3 (by omega)).trans g3⟩
theorem WRow.free {w : World} {b cap : Nat} {xs : List Rng} (h : WRow w b cap xs) (o : Nat) : w.frozen? ⟨b, o, none⟩ = false := by
  obtain ⟨cs, h1, _⟩ := h
  simp [World.frozen?, h1]
theorem WRow.row {w : World} {b cap : Nat} {xs : List Rng} (h : WRow w b cap xs) : RowOf w (some ⟨b, 0, none⟩) xs :=
  .inr ⟨b, 0, rfl, h.lt, fun k hk => by simpa using h.get k hk⟩
theorem WRow.set {w : World} {b cap : Nat} {xs ys : List Rng} (h : WRow w b cap xs) (o : Nat) (v : Value) (hl : ys.length = xs.length) (ho : o < xs.length * 4) (he : (flat xs).set o v = flat ys) : WRow (w.setCell ⟨b, o, none⟩ v) b cap ys := by
  obtain ⟨cs, h1, h2, h3, h4⟩ := h
  refine ⟨cs.setIfInBounds o v, ?_, by simpa using h2, by omega, ?_⟩
  · simp [World.setCell, Array.getElem?_modify, h1]
  · rw [hl, ← he, ← h4]
    simp [List.take_set]
theorem WRow.owns {w : World} {b cap base : Nat} {xs : List Rng} (h : WRow w b cap xs) (hb : base ≤ b) (hm : cap ≤ maxLen) : w.ownsRow base 70 4 (.slice (some ⟨b, 0, none⟩) xs.length cap) xs.length (flat xs) := by
  obtain ⟨cs, h1, h2, h3, h4⟩ := h
  exact ⟨rflat_len xs, .inr ⟨b, cap, cs, rfl, hb, h1, h3, hm, h2, h4⟩⟩

theorem WRow.of_owns {w : World} {base g n cap : Nat} {ys : List Rng} (h : w.ownsRow base 70 4 (.slice (some ⟨g, 0, none⟩) n cap) n (flat ys)) (hn : n = ys.length) : WRow w g cap ys ∧ base ≤ g ∧ cap ≤ maxLen := by
  subst hn
  obtain ⟨_, h | ⟨g', cap', cur, hv, h1, h2, h3, h4, h5, h6⟩⟩ := h
  · simp at h
  · simp at hv
    obtain ⟨rfl, rfl⟩ := hv
    exact ⟨⟨cur, h2, h5, h3, h6⟩, h1, h4⟩

/-- small numbers -/
def Bnd (f t s : Int) (xs : List Rng) : Prop := ∀ r ∈ xs, -f ≤ r.fr ∧ r.fr ≤ f ∧ -t ≤ r.tt ∧ r.tt ≤ t ∧ -s ≤ r.sl ∧ r.sl ≤ s
theorem Bnd.at {f t s : Int} {xs : List Rng} (h : Bnd f t s xs) (k : Nat) (hk : k < xs.length) : -f ≤ xs[k].fr ∧ xs[k].fr ≤ f ∧ -t ≤ xs[k].tt ∧ xs[k].tt ≤ t ∧ -s ≤ xs[k].sl ∧ xs[k].sl ≤ s := h _ (List.getElem_mem hk)
theorem Bnd.mono {f t s f' t' s' : Int} {xs : List Rng} (h : Bnd f t s xs) (h1 : f ≤ f') (h2 : t ≤ t') (h3 : s ≤ s') : Bnd f' t' s' xs := fun r hr => by
  have := h r hr; omega
theorem Bnd.set {f t s : Int} {xs : List Rng} (h : Bnd f t s xs) (k : Nat) (r : Rng) (hr : -f ≤ r.fr ∧ r.fr ≤ f ∧ -t ≤ r.tt ∧ r.tt ≤ t ∧ -s ≤ r.sl ∧ r.sl ≤ s) : Bnd f t s (xs.set k r) := fun x hx => by
  rcases List.mem_or_eq_of_mem_set hx with h1 | rfl
  · exact h x h1
  · exact hr

end Go.Proofs.Ytlifkfemdknndaa

namespace Go.Proofs.Ytlifkfemdknndaa
open Go.RowKit
set_option linter.unusedSimpArgs false
set_option linter.unusedVariables false

/-- how the list stands between two statements -/
def ListAt (B p : Nat) (w : World) (hi : Nat) (v : Value) (wx : World) : Prop :=
  ∃ (b cap q : Nat) (xs : List Rng), v = .slice (some ⟨b, 0, none⟩) xs.length cap ∧ 1 ≤ xs.length ∧ xs.length ≤ hi ∧ cap ≤ 4 ∧ WRow wx b cap xs ∧ Bnd 63 63 63 xs ∧ w.heap.size ≤ b ∧ Rd wx B q ∧ q ≤ p ∧ Keep B w wx

def EndAt (B p : Nat) (w : World) (v : Value) (wx : World) : Prop :=
  ∃ (b cap q : Nat) (xs : List Rng), v = .slice (some ⟨b, 0, none⟩) xs.length cap ∧ 1 ≤ xs.length ∧ xs.length ≤ 7 ∧ xs.length ≤ cap ∧ cap ≤ 9223372036854775807 ∧ RowOf wx (some ⟨b, 0, none⟩) xs ∧ Bnd 200 200 200 xs ∧ w.heap.size ≤ b ∧ Rd wx B q ∧ q ≤ p ∧ Keep B w wx

/-- the class of worlds while one number of a range is put -/
def PutCls (B p0 b cap n : Nat) (w : World) (M : Nat) (f t s : Int) (k : Nat) (W : World) : Prop :=
  (∃ q, q ≤ p0 + k ∧ Rd W B q) ∧ Keep B w W ∧ M ≤ W.heap.size ∧ ∃ ys : List Rng, ys.length = n ∧ WRow W b cap ys ∧ Bnd f t s ys
theorem PutCls.next {B p0 b cap n M k : Nat} {w W : World} {f t s : Int} (h : PutCls B p0 b cap n w M f t s k W) : PutCls B p0 b cap n w M f t s (k + 1) W := by
  obtain ⟨⟨q, h1, h2⟩, h3⟩ := h
  exact ⟨⟨q, by omega, h2⟩, h3⟩
theorem PutCls.alloc {B p0 b cap n M k : Nat} {w W : World} {f t s : Int} (h : PutCls B p0 b cap n w M f t s k W) (o : Obj) : PutCls B p0 b cap n w M f t s (k + 1) (W.alloc o) := by
  obtain ⟨⟨q, h1, h2⟩, h3, h4, ys, h5, h6, h7⟩ := h
  exact ⟨⟨q, by omega, h2.alloc o⟩, h3.alloc o, by simp; omega, ys, h5, h6.alloc o, h7⟩
theorem PutCls.pick {B p0 b cap n M k : Nat} {w W W' : World} {f t s : Int} (h : PutCls B p0 b cap n w M f t s k W) (hb : b ≠ B) (q : Nat) (hq : q ≤ p0 + (k + 1)) (hr : Rd W' B q) (hK : Keep B W W') : PutCls B p0 b cap n w M f t s (k + 1) W' := by
  obtain ⟨_, h3, h4, ys, h5, h6, h7⟩ := h
  exact ⟨⟨q, hq, hr⟩, h3.trans hK, Nat.le_trans h4 hK.size, ys, h5, h6.keep hK hb, h7⟩
theorem PutCls.put {B p0 b cap n M k : Nat} {w W : World} {f t s : Int} (h : PutCls B p0 b cap n w M f t s k W) (hb : B < b) (hwb : w.heap.size ≤ b) (o : Nat) (v : Value)
    (hset : ∀ ys : List Rng, ys.length = n → Bnd f t s ys → o < ys.length * 4 ∧ ∃ zs : List Rng, zs.length = n ∧ (flat ys).set o v = flat zs ∧ Bnd f t s zs) : PutCls B p0 b cap n w M f t s (k + 1) (W.setCell ⟨b, o, none⟩ v) := by
  obtain ⟨⟨q, h1, h2⟩, h3, h4, ys, h5, h6, h7⟩ := h
  obtain ⟨h8, zs, h9, h10, h11⟩ := hset ys h5 h7
  exact ⟨⟨q, by omega, h2.other (x := ⟨b, o, none⟩) hb v⟩, h3.setCell (p := ⟨b, o, none⟩) (.inr hwb) v, by simpa using h4, zs, h9, h6.set o v (by omega) h8 h10, h11⟩

set_option maxRecDepth 100000 in
set_option maxHeartbeats 1000000 in
theorem l20Map_any (B p : Nat) (n : Int) (w : World) (h : Rd w B p) (hp : p ≤ 900000) (hn : 1 ≤ n) (hn' : n ≤ 8999) :
    Calls Try.prog 49 #[.pointer (some ⟨B, 0, none⟩), .int .i64 n] w fun e w' => ∃ v, e = .returned v ∧ EndAt B (p + 30) w v w' := by
  go_enter Try.func49, Try.ntmps49
  go_wp2_with fail
  refine (pick_at h (by omega) 3 (by omega) (by omega)).mono ?_
  rintro e w1 ⟨k1, ha1, hb1, rfl, hr1, hK1⟩
  go_wp2_with fail
  have hW1 : WRow (w1.alloc (.cells #[.int .i64 0, .int .i64 15, .int .i64 0, .bool false, .int .i64 16, .int .i64 31, .int .i64 1, .bool false, .int .i64 32, .int .i64 47, .int .i64 2, .bool (k1 == 0)] 70)) w1.heap.size 3 _ :=
    WRow.new (xs := [⟨0, 15, 0, false⟩, ⟨16, 31, 1, false⟩, ⟨32, 47, 2, k1 == 0⟩]) rfl
  have hBl := hr1.lt
  have hs1 := hK1.size
  refine (pick_at (hr1.alloc _) (by omega) 4 (by omega) (by omega)).mono ?_
  rintro e w2 ⟨k2, ha2, hb2, rfl, hr2, hK2⟩
  have hW2 := hW1.keep hK2 (by omega)
  have hK2' : Keep B w w2 := (hK1.alloc _).trans hK2
  clear hW1 hK1 hK2 hr1
  go_upto_block 0 with fail
  go_cut [5] (fun s5 wx => ListAt B (p + 4) w 4 s5 wx)
  case first =>
    have hsm : Bnd 63 63 63 [⟨0, 15, 0, false⟩, ⟨16, 31, 1, false⟩, ⟨32, 47, 2, k1 == 0⟩] := by intro r hr; simp at hr; rcases hr with rfl | rfl | rfl <;> simp
    by_cases q0 : k2 = 0
    · subst q0
      clear hW2 hsm
      go_wp2_with fail
      refine (pick_at hr2 (by omega) 3 (by omega) (by omega)).mono ?_
      rintro e w3 ⟨k3, ha3, hb3, rfl, hr3, hK3⟩
      go_wp2_with fail
      refine (pick_at hr3 (by omega) 2 (by omega) (by omega)).mono ?_
      rintro e w4 ⟨k4, ha4, hb4, rfl, hr4, hK4⟩
      have hK4' : Keep B w w4 := (hK2'.trans hK3).trans hK4
      go_wp2
      go_meet
      case rel =>
        refine ⟨w4.heap.size, 4, _, [⟨0, 7, 0, false⟩, ⟨8, 15, 1, false⟩, ⟨20, 40, k3, false⟩, ⟨41, 63, 2, k4 == 0⟩], rfl, by simp, by simp, by simp, WRow.new (xs := [⟨0, 7, 0, false⟩, ⟨8, 15, 1, false⟩, ⟨20, 40, k3, false⟩, ⟨41, 63, 2, k4 == 0⟩]) rfl, ?_, hK4'.size, hr4.alloc _, by omega, hK4'.alloc _⟩
        intro r hr; simp at hr; rcases hr with rfl | rfl | rfl | rfl <;> simp <;> omega
    · have e0 : (k2 == 0) = false := by simpa using q0
      by_cases q1 : k2 = 1
      · subst q1
        go_wp2_with fail
        refine (pick_at hr2 (by omega) 3 (by omega) (by omega)).mono ?_
        rintro e w3 ⟨k3, ha3, hb3, rfl, hr3, hK3⟩
        have hW3 := (hW2.keep hK3 (by omega)).take (1 + k3.toNat)
        have hI : (1 : Int) + k3 ≤ 3 := by omega
        have hlen : ([⟨0, 15, 0, false⟩, ⟨16, 31, 1, false⟩, ⟨32, 47, 2, k1 == 0⟩] : List Rng).length = 3 := rfl
        go_wp2
        go_meet
        case rel =>
          refine ⟨w1.heap.size, 3, _, _, ?_, ?_, ?_, by omega, hW3, fun r hr => hsm r (List.mem_of_mem_take hr), by omega, hr3, by omega, hK2'.trans hK3⟩
          all_goals simp
          all_goals omega
      · have e1 : (k2 == 1) = false := by simpa using q1
        go_wp2
        go_meet
        case rel =>
          exact ⟨w1.heap.size, 3, _, [⟨0, 15, 0, false⟩, ⟨16, 31, 1, false⟩, ⟨32, 47, 2, k1 == 0⟩], rfl, by simp, by simp, by omega, hW2, hsm, by omega, hr2, by omega, hK2'⟩
  case rest =>
    obtain ⟨b, cap, q, xs, rfl, hx1, hx4, hcap, hW, hS, hb, hr, hq, hK⟩ := hcut
    clear hW2 hK2' hr2
    have hBb : B < b := Nat.lt_of_lt_of_le h.lt hb
    go_wp2_with fail
    refine (odd_any B q n wc hr (by omega) hn hn').mono ?_
    rintro e w3 ⟨bo, rfl, hr3, hK3⟩
    have hW3 := hW.keep hK3 (by omega)
    have hK3' := hK.trans hK3
    have hcx : xs.length ≤ cap := by obtain ⟨_, _, _, h, _⟩ := hW; exact h
    clear hW hK3 hK hr
    go_upto_if 37 with fail
    go_cut [5] (fun s5 wx => EndAt B (p + 30) w s5 wx)
    case first =>
      cases bo
      · go_wp2
        go_meet
        case rel => exact ⟨b, cap, _, xs, rfl, hx1, by omega, hcx, by omega, hW3.row, hS.mono (by omega) (by omega) (by omega), hb, hr3, by omega, hK3'⟩
      · go_wp2_with fail
        refine (pick_at hr3 (by omega) (xs.length : Int) (by omega) (by omega)).mono ?_
        rintro e w4 ⟨kk, ha4, hb4, rfl, hr4, hK4⟩
        obtain ⟨j, rfl⟩ := Int.eq_ofNat_of_zero_le ha4
        have hj : j < xs.length := by omega
        have hW4 := hW3.keep hK4 (by omega)
        have hK4' := hK3'.trans hK4
        clear hW3 hK4 hK3' hr3
        go_wp2_with fail
        refine (pick_at hr4 (by omega) 4 (by omega) (by omega)).mono ?_
        rintro e w5 ⟨k5, ha5, hb5, rfl, hr5, hK5⟩
        have hW5 := hW4.keep hK5 (by omega)
        have hK5' := hK4'.trans hK5
        have hB5 := hr5.lt
        have hb5' := hW5.lt
        clear hW4 hK5 hK4' hr4
        have hj0 : (0 : Int) ≤ (j : Int) := by omega
        have hj1 : (j : Int) < (xs.length : Int) := by omega
        by_cases q0 : k5 = 0
        · subst q0
          go_wp2_with fail
          refine wp_region_typed (by kernel_rfl) (Up w5.heap.size) (PutCls B (p + 10) b cap xs.length w w5.heap.size 100 63 63)
            (tab [(52, kIs (.slice (some ⟨b, 0, none⟩) xs.length cap)), (53, kIs (.int .i64 (j : Int))), (54, kIs (.slice (some ⟨b, 0, none⟩) xs.length cap)), (55, kIs (.int .i64 (j : Int))), (56, kIs (.pointer (some ⟨b, j * 4, none⟩))), (57, kIs (.pointer (some ⟨b, j * 4 + 1, none⟩))), (58, kInt (-63) 63), (59, kInt (-64) 64), (60, kRow w5.heap.size 3 (-64) 64), (61, kIs (.pointer (some ⟨B, 0, none⟩))), (62, kInt 0 2), (63, kCell w5.heap.size (-64) 64), (64, kInt (-64) 64), (65, kIs (.pointer (some ⟨b, j * 4, none⟩))), (66, kIs (.pointer (some ⟨b, j * 4, none⟩)))])
            [52, 53, 54, 55, 56, 57, 58, 59, 60, 61, 62, 63, 64, 65, 66] (by kernel_rfl) (by kernel_rfl) (tab_stable (by simp [stable_any, stable_is, stable_int, stable_bool, stable_row, stable_cell])) ?_ ?_ ?_
          · exact ⟨⟨_, by omega, hr5⟩, hK5'.drew, Nat.le_refl _, xs, rfl, hW5, hS.mono (by omega) (by omega) (by omega)⟩
          · refine ops_cons (gd rfl <| ty_move_out (.inl rfl) rfl (by kernel_rfl) rfl (fun _ _ h => h.next) (Up.refl _)) ?_
            refine ops_cons (gd rfl <| ty_move_out (.inl rfl) rfl (by kernel_rfl) rfl (fun _ _ h => h.next) (Up.refl _)) ?_
            refine ops_cons (gd rfl <| ty_move_out (.inl rfl) rfl (by kernel_rfl) rfl (fun _ _ h => h.next) (Up.refl _)) ?_
            refine ops_cons (gd rfl <| ty_move_out (.inl rfl) rfl (by kernel_rfl) rfl (fun _ _ h => h.next) (Up.refl _)) ?_
            refine ops_cons (gd rfl <| ty_pure rfl rfl (fun _ _ h => h.next) (Up.refl _) (fun i ρ W hcn hd hW => ?_)) ?_
            · have e1 : ρ (.tmp 54) = _ := dep_of (d := 54) (by kernel_rfl) hd
              have e2 : ρ (.tmp 55) = _ := dep_of (d := 55) (by kernel_rfl) hd
              simp only [execOp, e1, e2]; go_simp
            refine ops_cons (gd rfl <| ty_pure rfl rfl (fun _ _ h => h.next) (Up.refl _) (fun i ρ W hcn hd hW => ?_)) ?_
            · have e1 : ρ (.tmp 56) = _ := dep_of (d := 56) (by kernel_rfl) hd
              simp only [execOp, e1]; go_simp
            refine ops_cons (gd rfl <| ty_val rfl (fun i ρ W hcn hd hW => ?_)) ?_
            · have e1 : ρ (.tmp 57) = _ := dep_of (d := 57) (by kernel_rfl) hd
              have hWn := hW.next
              obtain ⟨_, _, _, ys, hyl, hyw, hyb⟩ := hW
              obtain ⟨g0, g1, g2, g3⟩ := hyw.get j (by omega)
              have hyj := hyb.at j (by omega)
              refine ⟨_, W, by simp only [execOp, e1]; go_simp; rfl, hWn, Up.refl _ _, _, rfl, by omega, by omega⟩
            refine ops_cons (gd rfl <| ty_val rfl (fun i ρ W hcn hd hW => ?_)) ?_
            · obtain ⟨x, e1, l1, u1⟩ : kInt (-63) 63 W (ρ (.tmp 58)) := dep_of (d := 58) (by kernel_rfl) hd
              refine ⟨.int .i64 (x + 1), W, by simp only [execOp, e1, hcn]; go_simp; rw [IntKind.wrap_i64]; omega, hW.next, Up.refl _ _, _, rfl, by omega, by omega⟩
            refine ops_cons (gd rfl <| ty_build rfl rfl (fun _ _ o h => h.alloc o) (fun _ _ h => h.2.2.1) (fun ρ W hcn hd => ?_)) ?_
            · obtain ⟨x, e1, l1, u1⟩ : kInt (-64) 64 W (ρ (.tmp 59)) := dep_of (d := 59) (by kernel_rfl) hd
              exact ⟨[-1, x, 5], rfl, by simp; omega, by simp only [execOp, hcn, e1]; go_simp⟩
            refine ops_cons (gd rfl <| ty_move_out (.inl rfl) rfl (by kernel_rfl) rfl (fun _ _ h => h.next) (Up.refl _)) ?_
            refine ops_cons (gd rfl <| ty_enter rfl (fun i ρ W hi hcn hf hd hW => ?_)) ?_
            · have e1 : ρ (.tmp 61) = _ := dep_of (d := 61) (by kernel_rfl) hd
              obtain ⟨q9, hq9, hr9⟩ := hW.1
              have hi' : i < 16 := hi
              refine ⟨37, #[(.pointer (some ⟨B, 0, none⟩)), .int .i64 3], by simp only [execOp]; go_simp, ?_⟩
              refine (pick_at hr9 (by omega) 3 (by omega) (by omega)).mono ?_
              rintro e W' ⟨x, a1, a2, rfl, hr', hK'⟩
              exact ⟨_, rfl, hW.pick (by omega) _ (by omega) hr' hK', Up.of_keep hK' hB5, x, rfl, a1, by omega⟩
            refine ops_cons (gd rfl <| ty_index rfl rfl (by kernel_rfl) (by kernel_rfl) rfl rfl (by decide) (by decide) rfl (fun _ _ h => h.next)) ?_
            refine ops_cons (gd rfl <| ty_load rfl rfl (by kernel_rfl) rfl rfl (fun _ _ h => h.next)) ?_
            refine ops_cons (gd rfl <| ty_pure rfl rfl (fun _ _ h => h.next) (Up.refl _) (fun i ρ W hcn hd hW => ?_)) ?_
            · have e1 : ρ (.tmp 52) = _ := dep_of (d := 52) (by kernel_rfl) hd
              have e2 : ρ (.tmp 53) = _ := dep_of (d := 53) (by kernel_rfl) hd
              simp only [execOp, e1, e2]; go_simp
            refine ops_cons (gd rfl <| ty_pure rfl rfl (fun _ _ h => h.next) (Up.refl _) (fun i ρ W hcn hd hW => ?_)) ?_
            · have e1 : ρ (.tmp 65) = _ := dep_of (d := 65) (by kernel_rfl) hd
              simp only [execOp, e1]; go_simp
            refine ops_cons (gd rfl <| ty_skip rfl (fun i ρ W hcn hd hW => ?_)) ?_
            · have e1 : ρ (.tmp 66) = _ := dep_of (d := 66) (by kernel_rfl) hd
              obtain ⟨x, e2, l2, u2⟩ : kInt (-64) 64 W (ρ (.tmp 64)) := dep_of (d := 64) (by kernel_rfl) hd
              refine ⟨W.setCell ⟨b, j * 4, none⟩ (.int .i64 x), ?_, hW.put hBb hb (j * 4) (.int .i64 x) (fun ys hyl hyb => ⟨by omega, ys.set j { ys[j] with fr := x }, by simpa using hyl, flat_set0 ys j (by omega) x, hyb.set j _ (by have := hyb.at j (by omega); simp; omega)⟩), Up.setCell hb5' _⟩
              obtain ⟨_, _, _, ys, hyl, hyw, hyb⟩ := hW
              obtain ⟨g0, g1, g2, g3⟩ := hyw.get j (by omega)
              have f0 := hyw.free (j * 4)
              simp only [execOp, e1, e2]; go_simp
            exact ops_nil
          · intro f W hW hf
            clear hf
            obtain ⟨⟨q9, hq9, hr9⟩, hK9, _, ys, hyl, hyw, hyb⟩ := hW
            simp only [fill]
            go_simp
            go_wp2
            go_meet
            case rel => exact ⟨b, cap, _, ys, by rw [hyl], by omega, by omega, by omega, by omega, hyw.row, hyb.mono (by omega) (by omega) (by omega), hb, hr9, by simp at hq9; omega, hK9⟩
        · have e0 : (k5 == 0) = false := by simpa using q0
          by_cases q1 : k5 = 1
          · subst q1
            go_wp2_with fail
            refine wp_region_typed (by kernel_rfl) (Up w5.heap.size) (PutCls B (p + 10) b cap xs.length w w5.heap.size 63 100 63)
              (tab [(69, kIs (.slice (some ⟨b, 0, none⟩) xs.length cap)), (70, kIs (.int .i64 (j : Int))), (71, kIs (.slice (some ⟨b, 0, none⟩) xs.length cap)), (72, kIs (.int .i64 (j : Int))), (73, kIs (.pointer (some ⟨b, j * 4, none⟩))), (74, kIs (.pointer (some ⟨b, j * 4, none⟩))), (75, kInt (-63) 63), (76, kInt (-64) 64), (77, kRow w5.heap.size 3 (-64) 64), (78, kIs (.pointer (some ⟨B, 0, none⟩))), (79, kInt 0 2), (80, kCell w5.heap.size (-64) 64), (81, kInt (-64) 64), (82, kIs (.pointer (some ⟨b, j * 4, none⟩))), (83, kIs (.pointer (some ⟨b, j * 4 + 1, none⟩)))])
              [69, 70, 71, 72, 73, 74, 75, 76, 77, 78, 79, 80, 81, 82, 83] (by kernel_rfl) (by kernel_rfl) (tab_stable (by simp [stable_any, stable_is, stable_int, stable_bool, stable_row, stable_cell])) ?_ ?_ ?_
            · exact ⟨⟨_, by omega, hr5⟩, hK5'.drew, Nat.le_refl _, xs, rfl, hW5, hS.mono (by omega) (by omega) (by omega)⟩
            · refine ops_cons (gd rfl <| ty_move_out (.inl rfl) rfl (by kernel_rfl) rfl (fun _ _ h => h.next) (Up.refl _)) ?_
              refine ops_cons (gd rfl <| ty_move_out (.inl rfl) rfl (by kernel_rfl) rfl (fun _ _ h => h.next) (Up.refl _)) ?_
              refine ops_cons (gd rfl <| ty_move_out (.inl rfl) rfl (by kernel_rfl) rfl (fun _ _ h => h.next) (Up.refl _)) ?_
              refine ops_cons (gd rfl <| ty_move_out (.inl rfl) rfl (by kernel_rfl) rfl (fun _ _ h => h.next) (Up.refl _)) ?_
              refine ops_cons (gd rfl <| ty_pure rfl rfl (fun _ _ h => h.next) (Up.refl _) (fun i ρ W hcn hd hW => ?_)) ?_
              · have e1 : ρ (.tmp 71) = _ := dep_of (d := 71) (by kernel_rfl) hd
                have e2 : ρ (.tmp 72) = _ := dep_of (d := 72) (by kernel_rfl) hd
                simp only [execOp, e1, e2]; go_simp
              refine ops_cons (gd rfl <| ty_pure rfl rfl (fun _ _ h => h.next) (Up.refl _) (fun i ρ W hcn hd hW => ?_)) ?_
              · have e1 : ρ (.tmp 73) = _ := dep_of (d := 73) (by kernel_rfl) hd
                simp only [execOp, e1]; go_simp
              refine ops_cons (gd rfl <| ty_val rfl (fun i ρ W hcn hd hW => ?_)) ?_
              · have e1 : ρ (.tmp 74) = _ := dep_of (d := 74) (by kernel_rfl) hd
                have hWn := hW.next
                obtain ⟨_, _, _, ys, hyl, hyw, hyb⟩ := hW
                obtain ⟨g0, g1, g2, g3⟩ := hyw.get j (by omega)
                have hyj := hyb.at j (by omega)
                refine ⟨_, W, by simp only [execOp, e1]; go_simp; rfl, hWn, Up.refl _ _, _, rfl, by omega, by omega⟩
              refine ops_cons (gd rfl <| ty_val rfl (fun i ρ W hcn hd hW => ?_)) ?_
              · obtain ⟨x, e1, l1, u1⟩ : kInt (-63) 63 W (ρ (.tmp 75)) := dep_of (d := 75) (by kernel_rfl) hd
                refine ⟨.int .i64 (x - 1), W, by simp only [execOp, e1, hcn]; go_simp; rw [IntKind.wrap_i64]; omega, hW.next, Up.refl _ _, _, rfl, by omega, by omega⟩
              refine ops_cons (gd rfl <| ty_build rfl rfl (fun _ _ o h => h.alloc o) (fun _ _ h => h.2.2.1) (fun ρ W hcn hd => ?_)) ?_
              · obtain ⟨x, e1, l1, u1⟩ : kInt (-64) 64 W (ρ (.tmp 76)) := dep_of (d := 76) (by kernel_rfl) hd
                exact ⟨[64, x, 40], rfl, by simp; omega, by simp only [execOp, hcn, e1]; go_simp⟩
              refine ops_cons (gd rfl <| ty_move_out (.inl rfl) rfl (by kernel_rfl) rfl (fun _ _ h => h.next) (Up.refl _)) ?_
              refine ops_cons (gd rfl <| ty_enter rfl (fun i ρ W hi hcn hf hd hW => ?_)) ?_
              · have e1 : ρ (.tmp 78) = _ := dep_of (d := 78) (by kernel_rfl) hd
                obtain ⟨q9, hq9, hr9⟩ := hW.1
                have hi' : i < 16 := hi
                refine ⟨37, #[(.pointer (some ⟨B, 0, none⟩)), .int .i64 3], by simp only [execOp]; go_simp, ?_⟩
                refine (pick_at hr9 (by omega) 3 (by omega) (by omega)).mono ?_
                rintro e W' ⟨x, a1, a2, rfl, hr', hK'⟩
                exact ⟨_, rfl, hW.pick (by omega) _ (by omega) hr' hK', Up.of_keep hK' hB5, x, rfl, a1, by omega⟩
              refine ops_cons (gd rfl <| ty_index rfl rfl (by kernel_rfl) (by kernel_rfl) rfl rfl (by decide) (by decide) rfl (fun _ _ h => h.next)) ?_
              refine ops_cons (gd rfl <| ty_load rfl rfl (by kernel_rfl) rfl rfl (fun _ _ h => h.next)) ?_
              refine ops_cons (gd rfl <| ty_pure rfl rfl (fun _ _ h => h.next) (Up.refl _) (fun i ρ W hcn hd hW => ?_)) ?_
              · have e1 : ρ (.tmp 69) = _ := dep_of (d := 69) (by kernel_rfl) hd
                have e2 : ρ (.tmp 70) = _ := dep_of (d := 70) (by kernel_rfl) hd
                simp only [execOp, e1, e2]; go_simp
              refine ops_cons (gd rfl <| ty_pure rfl rfl (fun _ _ h => h.next) (Up.refl _) (fun i ρ W hcn hd hW => ?_)) ?_
              · have e1 : ρ (.tmp 82) = _ := dep_of (d := 82) (by kernel_rfl) hd
                simp only [execOp, e1]; go_simp
              refine ops_cons (gd rfl <| ty_skip rfl (fun i ρ W hcn hd hW => ?_)) ?_
              · have e1 : ρ (.tmp 83) = _ := dep_of (d := 83) (by kernel_rfl) hd
                obtain ⟨x, e2, l2, u2⟩ : kInt (-64) 64 W (ρ (.tmp 81)) := dep_of (d := 81) (by kernel_rfl) hd
                refine ⟨W.setCell ⟨b, j * 4 + 1, none⟩ (.int .i64 x), ?_, hW.put hBb hb (j * 4 + 1) (.int .i64 x) (fun ys hyl hyb => ⟨by omega, ys.set j { ys[j] with tt := x }, by simpa using hyl, flat_set1 ys j (by omega) x, hyb.set j _ (by have := hyb.at j (by omega); simp; omega)⟩), Up.setCell hb5' _⟩
                obtain ⟨_, _, _, ys, hyl, hyw, hyb⟩ := hW
                obtain ⟨g0, g1, g2, g3⟩ := hyw.get j (by omega)
                have f0 := hyw.free (j * 4 + 1)
                simp only [execOp, e1, e2]; go_simp
              exact ops_nil
            · intro f W hW hf
              clear hf
              obtain ⟨⟨q9, hq9, hr9⟩, hK9, _, ys, hyl, hyw, hyb⟩ := hW
              simp only [fill]
              go_simp
              go_wp2
              go_meet
              case rel => exact ⟨b, cap, _, ys, by rw [hyl], by omega, by omega, by omega, by omega, hyw.row, hyb.mono (by omega) (by omega) (by omega), hb, hr9, by simp at hq9; omega, hK9⟩
          · have e1 : (k5 == 1) = false := by simpa using q1
            by_cases q2 : k5 = 2
            · subst q2
              go_wp2_with fail
              refine (pick_at (hr5.alloc _) (by omega) 2 (by omega) (by omega)).mono ?_
              rintro e w6 ⟨k6, ha6, hb6, rfl, hr6, hK6⟩
              have c1 : ∀ i, w6.cell? ⟨w5.heap.size, i, none⟩ = _ := fun i => (hK6.cell (p := ⟨w5.heap.size, i, none⟩) (by simp) (by simp; omega)).trans (World.cell?_alloc_at _ _ _ _ rfl)
              obtain ⟨v, hv0, hv1, hv⟩ := lit_at c1 [-1, 3] rfl (-1) 3 (by simp) k6 ha6 (by simpa using hb6)
              clear c1
              have hW6 := (hW5.alloc _).keep hK6 (by omega)
              have hK6' := (hK5'.alloc _).trans hK6
              obtain ⟨g0, g1, g2, g3⟩ := hW6.get j hj
              have f2 := hW6.free (j * 4 + 2)
              have hW7 := hW6.set (ys := xs.set j { xs[j] with sl := v }) (j * 4 + 2) (.int .i64 v) (by simp) (by omega) (flat_set2 xs j hj v)
              have hr7 := hr6.other (x := ⟨b, j * 4 + 2, none⟩) hBb (.int .i64 v)
              have hK7 := hK6'.setCell (p := ⟨b, j * 4 + 2, none⟩) (.inr hb) (.int .i64 v)
              have hS7 : Bnd 200 200 200 (xs.set j { xs[j] with sl := v }) := (hS.mono (by omega) (by omega) (by omega)).set j _ (by have := hS.at j hj; simp; omega)
              clear g0 g1 g3 hK6 hW6 hr6 hW5
              go_wp2
              go_meet
              case rel => exact ⟨b, cap, _, _, by simp, by simpa using hx1, by simp; omega, by simpa using hcx, by omega, hW7.row, hS7, hb, hr7, by omega, hK7⟩
            · have e2 : (k5 == 2) = false := by simpa using q2
              obtain ⟨i0, hi, hz0, hz1, hz2⟩ := info_parts Try.infoRng
              obtain ⟨ys, hys⟩ : ∃ ys : List Rng, ys = xs ++ [⟨60, 61, 0, false⟩, ⟨62, 62, 0, false⟩, ⟨63, 63, 0, false⟩] := ⟨_, rfl⟩
              have hlen : ys.length = xs.length + 3 := by rw [hys]; simp
              have hflat : flat ys = flat xs ++ [.int .i64 60, .int .i64 61, .int .i64 0, .bool false, .int .i64 62, .int .i64 62, .int .i64 0, .bool false, .int .i64 63, .int .i64 63, .int .i64 0, .bool false] := by rw [hys, flat_append]; rfl
              have hSy : Bnd 200 200 200 ys := by
                rw [hys]
                intro r hr
                rcases List.mem_append.1 hr with hr | hr
                · have := hS r hr; omega
                · simp at hr; rcases hr with rfl | rfl | rfl <;> simp
              have HY := Hid.intro hys
              clear hys
              have HFL := Hid.intro hflat
              clear hflat
              have HL := Hid.intro hlen
              clear hlen
              obtain ⟨O, hO⟩ : ∃ O, O = Obj.cells #[.int .i64 60, .int .i64 61, .int .i64 0, .bool false, .int .i64 62, .int .i64 62, .int .i64 0, .bool false, .int .i64 63, .int .i64 63, .int .i64 0, .bool false] 70 := ⟨_, rfl⟩
              have hown := (hW5.alloc O).owns (base := w.heap.size) hb (by unfold maxLen; omega)
              have hnews : ∀ (j : Nat) u, [Value.int .i64 60, .int .i64 61, .int .i64 0, .bool false, .int .i64 62, .int .i64 62, .int .i64 0, .bool false, .int .i64 63, .int .i64 63, .int .i64 0, .bool false][j]? = some u → (w5.alloc O).cell? ((⟨w5.heap.size, 0, none⟩ : Addr).add j) = some u := by
                rw [hO]
                exact World.news_of_block (cs := #[.int .i64 60, .int .i64 61, .int .i64 0, .bool false, .int .i64 62, .int .i64 62, .int .i64 0, .bool false, .int .i64 63, .int .i64 63, .int .i64 0, .bool false]) (t := 70) (fr := (0, 0)) (by show (w5.heap.push _)[w5.heap.size]? = _; simp)
              rw [hO] at hown hnews
              clear hO
              have HO := Hid.intro hown
              have HN := Hid.intro hnews
              clear hown hnews
              have hsz5 : w.heap.size ≤ w5.heap.size := hK5'.size
              go_wp2_with (at_builtin; refine wpList_append_lies _ rfl _ _ _ rfl w.heap.size 70 i0 _ 4 32 Try.underlying23 hi hz0 hz1 hz2 rfl (by omega) (.slice (some ⟨b, 0, none⟩) xs.length cap) xs.length (flat xs) rfl HO.out ⟨w5.heap.size, 0, none⟩ 3 3 _ rfl rfl HN.out (by simp [Value.oneCell']) (by omega) (by unfold maxLen; omega) (by omega) (by simp; omega) (w5.heap.size + 1) (by simp) ?_; intro g cap6 w6 hown6 hgrow6 hat6 hlt6)
              rw [← HFL.out, ← HL.out] at hown6
              obtain ⟨hW6, hg6, hc6⟩ := WRow.of_owns hown6 rfl
              have hK6 : Keep B w w6 := ⟨hgrow6.os.trans hK5'.os, hgrow6.tape.trans hK5'.tape, hgrow6.output.trans hK5'.output, Nat.le_trans hsz5 (Nat.le_trans (by simp) hgrow6.size), fun k hk hn => by
                have h1 := hgrow6.block k (by simp; omega) (by simp [Value.ownBlock]; omega)
                rw [h1, Below.heap_alloc _ _ _ (by omega)]
                exact hK5'.block k hk hn⟩
              have hr6 : Rd w6 B (q + 1 + 1 + 1) := hr5.of (fun k hk => by
                have h1 := hgrow6.block k (by simp; omega) (by simp [Value.ownBlock]; omega)
                rw [h1, Below.heap_alloc _ _ _ (by omega)]) (Nat.le_trans (by simp) hgrow6.size)
              have hcy : ys.length ≤ cap6 := by obtain ⟨_, _, _, h, _⟩ := hW6; exact h
              have hL := HL.out
              rw [← HL.out]
              clear hown6 hgrow6 HO HN HFL HY hL
              go_wp2
              go_meet
              case rel => exact ⟨g, cap6, _, ys, rfl, by have := HL.out; omega, by have := HL.out; omega, hcy, by unfold maxLen at hc6; omega, hW6.row, hSy, hg6, hr6, by omega, hK6⟩
    case rest =>
      obtain ⟨b', cap', q', xs', rfl, hend⟩ := hcut
      go_wp2
      go_ret
      exact ⟨_, rfl, b', cap', q', xs', rfl, hend⟩
end Go.Proofs.Ytlifkfemdknndaa
