/-
  A row of ranges in a block of its own, that may be written.
-/
import Derived.Test.YtlifkfemdknndaaProg
import Derived.Test.YtlifkfemdknndaaRows4
namespace Go.Proofs.Ytlifkfemdknndaa
open Go.RowKit
set_option linter.unusedSimpArgs false
set_option linter.unusedVariables false

/-- the cells of ranges -/
def flat : List Rng → List Value
  | [] => []
  | r :: l => .int .i64 r.fr :: .int .i64 r.tt :: .int .i64 r.sl :: .bool r.only :: flat l

theorem rflat_len : ∀ l : List Rng, (flat l).length = l.length * 4
  | [] => rfl
  | r :: l => by simp [flat, rflat_len l]; omega
theorem flat_append : ∀ l m : List Rng, flat (l ++ m) = flat l ++ flat m
  | [], m => rfl
  | r :: l, m => by simp [flat, flat_append l m]
theorem flat_at : ∀ (l : List Rng) (k : Nat) (h : k < l.length), (flat l)[k * 4]? = some (.int .i64 l[k].fr) ∧ (flat l)[k * 4 + 1]? = some (.int .i64 l[k].tt) ∧
    (flat l)[k * 4 + 2]? = some (.int .i64 l[k].sl) ∧ (flat l)[k * 4 + 3]? = some (.bool l[k].only)
  | r :: l, 0, h => by simp [flat]
  | r :: l, k + 1, h => by
    have ih := flat_at l k (by simpa using h)
    have e : ∀ i, (k + 1) * 4 + i = (k * 4 + i) + 4 := fun i => by omega
    have e0 : (k + 1) * 4 = k * 4 + 4 := by omega
    refine ⟨?_, ?_, ?_, ?_⟩
    · rw [e0]; simpa [flat] using ih.1
    · rw [e 1]; simpa [flat] using ih.2.1
    · rw [e 2]; simpa [flat] using ih.2.2.1
    · rw [e 3]; simpa [flat] using ih.2.2.2
theorem flat_set0 : ∀ (l : List Rng) (k : Nat) (h : k < l.length) (v : Int), (flat l).set (k * 4) (.int .i64 v) = flat (l.set k { l[k] with fr := v })
  | r :: l, 0, h, v => by simp [flat]
  | r :: l, k + 1, h, v => by
    have ih := flat_set0 l k (by simpa using h) v
    rw [show (k + 1) * 4 = k * 4 + 1 + 1 + 1 + 1 by omega]
    simp [flat, ih]
theorem flat_set1 : ∀ (l : List Rng) (k : Nat) (h : k < l.length) (v : Int), (flat l).set (k * 4 + 1) (.int .i64 v) = flat (l.set k { l[k] with tt := v })
  | r :: l, 0, h, v => by simp [flat]
  | r :: l, k + 1, h, v => by
    have ih := flat_set1 l k (by simpa using h) v
    rw [show (k + 1) * 4 + 1 = k * 4 + 1 + 1 + 1 + 1 + 1 by omega]
    simp [flat, ih]
theorem flat_set2 : ∀ (l : List Rng) (k : Nat) (h : k < l.length) (v : Int), (flat l).set (k * 4 + 2) (.int .i64 v) = flat (l.set k { l[k] with sl := v })
  | r :: l, 0, h, v => by simp [flat]
  | r :: l, k + 1, h, v => by
    have ih := flat_set2 l k (by simpa using h) v
    rw [show (k + 1) * 4 + 2 = k * 4 + 2 + 1 + 1 + 1 + 1 by omega]
    simp [flat, ih]

def WRow (w : World) (b cap : Nat) (xs : List Rng) : Prop :=
  ∃ cs : Array Value, w.heap[b]? = some (.cells cs 70 (0, 0)) ∧ cs.size = cap * 4 ∧ xs.length ≤ cap ∧ cs.toList.take (xs.length * 4) = flat xs

theorem WRow.lt {w : World} {b cap : Nat} {xs : List Rng} (h : WRow w b cap xs) : b < w.heap.size := by
  obtain ⟨cs, h, _⟩ := h
  exact (Array.getElem?_eq_some_iff.1 h).1
theorem WRow.of {w w' : World} {b cap : Nat} {xs : List Rng} (h : WRow w b cap xs) (hb : w'.heap[b]? = w.heap[b]?) : WRow w' b cap xs := by
  obtain ⟨cs, h1, h2⟩ := h
  exact ⟨cs, hb.trans h1, h2⟩
theorem WRow.keep {w w' : World} {b cap B : Nat} {xs : List Rng} (h : WRow w b cap xs) (hk : Keep B w w') (hb : b ≠ B) : WRow w' b cap xs := h.of (hk.block b h.lt hb)
theorem WRow.alloc {w : World} {b cap : Nat} {xs : List Rng} (h : WRow w b cap xs) (o : Obj) : WRow (w.alloc o) b cap xs := h.of (Below.heap_alloc _ _ _ h.lt)
theorem WRow.new {w : World} {cs : Array Value} {xs : List Rng} (h : cs = (flat xs).toArray) : WRow (w.alloc (.cells cs 70)) w.heap.size xs.length xs := by
  subst h
  refine ⟨(flat xs).toArray, by show (w.heap.push _)[w.heap.size]? = _; simp, by simp [rflat_len], Nat.le_refl _, ?_⟩
  rw [← rflat_len]; simp
theorem WRow.take {w : World} {b cap : Nat} {xs : List Rng} (h : WRow w b cap xs) (n : Nat) : WRow w b cap (xs.take n) := by
  obtain ⟨cs, h1, h2, h3, h4⟩ := h
  refine ⟨cs, h1, h2, by simp; omega, ?_⟩
  have e : ∀ (l : List Rng) (n : Nat), flat (l.take n) = (flat l).take ((l.take n).length * 4) := by
    intro l
    induction l with
    | nil => intro n; simp [flat]
    | cons r l ih =>
      intro n
      cases n with
      | zero => simp [flat]
      | succ n =>
        simp only [List.take_succ_cons, flat, ih n, List.length_cons]
        rw [show ((l.take n).length + 1) * 4 = (l.take n).length * 4 + 1 + 1 + 1 + 1 by omega]
        simp
  rw [e, ← h4, List.take_take]
  congr 1
  simp
  try omega
theorem WRow.get {w : World} {b cap : Nat} {xs : List Rng} (h : WRow w b cap xs) (k : Nat) (hk : k < xs.length) :
    w.cell? ⟨b, k * 4, none⟩ = some (.int .i64 xs[k].fr) ∧ w.cell? ⟨b, k * 4 + 1, none⟩ = some (.int .i64 xs[k].tt) ∧
    w.cell? ⟨b, k * 4 + 2, none⟩ = some (.int .i64 xs[k].sl) ∧ w.cell? ⟨b, k * 4 + 3, none⟩ = some (.bool xs[k].only) := by
  obtain ⟨cs, h1, h2, h3, h4⟩ := h
  have key : ∀ i, i < 4 → w.cell? ⟨b, k * 4 + i, none⟩ = (flat xs)[k * 4 + i]? := fun i hi => by
    have e : w.cell? ⟨b, k * 4 + i, none⟩ = cs[k * 4 + i]? := by simp [World.cell?, h1]
    rw [e, ← h4, List.getElem?_take, if_pos (by omega)]
    simp
  obtain ⟨g0, g1, g2, g3⟩ := flat_at xs k hk
  exact ⟨(key 0 (by omega)).trans g0, (key 1 (by omega)).trans g1, (key 2 (by omega)).trans g2, (key 3 (by omega)).trans g3⟩
theorem WRow.free {w : World} {b cap : Nat} {xs : List Rng} (h : WRow w b cap xs) (o : Nat) : w.frozen? ⟨b, o, none⟩ = false := by
  obtain ⟨cs, h1, _⟩ := h
  simp [World.frozen?, h1]
theorem WRow.row {w : World} {b cap : Nat} {xs : List Rng} (h : WRow w b cap xs) : RowOf w (some ⟨b, 0, none⟩) xs :=
  .inr ⟨b, 0, rfl, h.lt, fun k hk => by simpa using h.get k hk⟩
theorem WRow.set {w : World} {b cap : Nat} {xs ys : List Rng} (h : WRow w b cap xs) (o : Nat) (v : Value) (hl : ys.length = xs.length) (ho : o < xs.length * 4) (he : (flat xs).set o v = flat ys) : WRow (w.setCell ⟨b, o, none⟩ v) b cap ys := by
  obtain ⟨cs, h1, h2, h3, h4⟩ := h
  refine ⟨cs.setIfInBounds o v, ?_, by simpa using h2, by omega, ?_⟩
  · simp [World.setCell, Array.getElem?_modify, h1]
  · rw [hl, ← he, ← h4]
    simp [List.take_set]
theorem WRow.owns {w : World} {b cap base : Nat} {xs : List Rng} (h : WRow w b cap xs) (hb : base ≤ b) (hm : cap ≤ maxLen) : w.ownsRow base 70 4 (.slice (some ⟨b, 0, none⟩) xs.length cap) xs.length (flat xs) := by
  obtain ⟨cs, h1, h2, h3, h4⟩ := h
  exact ⟨rflat_len xs, .inr ⟨b, cap, cs, rfl, hb, h1, h3, hm, h2, h4⟩⟩

theorem WRow.of_owns {w : World} {base g n cap : Nat} {ys : List Rng} (h : w.ownsRow base 70 4 (.slice (some ⟨g, 0, none⟩) n cap) n (flat ys)) (hn : n = ys.length) : WRow w g cap ys ∧ base ≤ g ∧ cap ≤ maxLen := by
  subst hn
  obtain ⟨_, h | ⟨g', cap', cur, hv, h1, h2, h3, h4, h5, h6⟩⟩ := h
  · simp at h
  · simp at hv
    obtain ⟨rfl, rfl⟩ := hv
    exact ⟨⟨cur, h2, h5, h3, h6⟩, h1, h4⟩

/-- small numbers -/
def Bnd (f t s : Int) (xs : List Rng) : Prop := ∀ r ∈ xs, -f ≤ r.fr ∧ r.fr ≤ f ∧ -t ≤ r.tt ∧ r.tt ≤ t ∧ -s ≤ r.sl ∧ r.sl ≤ s
theorem Bnd.at {f t s : Int} {xs : List Rng} (h : Bnd f t s xs) (k : Nat) (hk : k < xs.length) : -f ≤ xs[k].fr ∧ xs[k].fr ≤ f ∧ -t ≤ xs[k].tt ∧ xs[k].tt ≤ t ∧ -s ≤ xs[k].sl ∧ xs[k].sl ≤ s := h _ (List.getElem_mem hk)
theorem Bnd.mono {f t s f' t' s' : Int} {xs : List Rng} (h : Bnd f t s xs) (h1 : f ≤ f') (h2 : t ≤ t') (h3 : s ≤ s') : Bnd f' t' s' xs := fun r hr => by
  have := h r hr; omega
theorem Bnd.set {f t s : Int} {xs : List Rng} (h : Bnd f t s xs) (k : Nat) (r : Rng) (hr : -f ≤ r.fr ∧ r.fr ≤ f ∧ -t ≤ r.tt ∧ r.tt ≤ t ∧ -s ≤ r.sl ∧ r.sl ≤ s) : Bnd f t s (xs.set k r) := fun x hx => by
  rcases List.mem_or_eq_of_mem_set hx with h1 | rfl
  · exact h x h1
  · exact hr

end Go.Proofs.Ytlifkfemdknndaa
