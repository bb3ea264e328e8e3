/-
  Rows in a block of their own, of whatever element type, and what 'append' makes of them: the old row stays (or is grown in place), nothing else turns.
-/
import Derived.WalkKit
import Derived.WalkSpells
import Derived.Deep.AppendLies
import Derived.Maps.AppendAt
namespace Go.Proofs.Ytlifkfemdknndaa
open Go.RowKit
set_option linter.unusedSimpArgs false
set_option linter.unusedVariables false

/-- block b holds cap elements of type E, s cells each, not frozen; the first n are cs -/
def ORow (E s : Nat) (w : World) (b cap n : Nat) (cs : List Value) : Prop :=
  ∃ cur : Array Value, w.heap[b]? = some (.cells cur E (0, 0)) ∧ cur.size = cap * s ∧ n ≤ cap ∧ cs.length = n * s ∧ cur.toList.take (n * s) = cs

theorem ORow.lt {E s : Nat} {w : World} {b cap n : Nat} {cs : List Value} (h : ORow E s w b cap n cs) : b < w.heap.size := by
  obtain ⟨cur, h, _⟩ := h
  exact (Array.getElem?_eq_some_iff.1 h).1
theorem ORow.of {E s : Nat} {w w' : World} {b cap n : Nat} {cs : List Value} (h : ORow E s w b cap n cs) (hb : w'.heap[b]? = w.heap[b]?) : ORow E s w' b cap n cs := by
  obtain ⟨cur, h1, h2⟩ := h
  exact ⟨cur, hb.trans h1, h2⟩
theorem ORow.get {E s : Nat} {w : World} {b cap n : Nat} {cs : List Value} (h : ORow E s w b cap n cs) (j : Nat) (u : Value) (hj : cs[j]? = some u) : w.cell? ⟨b, j, none⟩ = some u := by
  obtain ⟨cur, h1, h2, h3, h4, h5⟩ := h
  have hlt : j < cs.length := (List.getElem?_eq_some_iff.1 hj).1
  have e : w.cell? ⟨b, j, none⟩ = cur[j]? := by simp [World.cell?, h1]
  rw [e]
  rw [← h5, List.getElem?_take, if_pos (by omega)] at hj
  simpa using hj

/-- what an append leaves of the world -/
structure Grew (w w' : World) (g : Nat) : Prop where
  os : w'.os = w.os
  tape : w'.tape = w.tape
  output : w'.output = w.output
  size : w.heap.size ≤ w'.heap.size
  block : ∀ k, k < w.heap.size → k ≠ g → w'.heap[k]? = w.heap[k]?

theorem run_append_rows {P : Program} {ρ : Operand → Value} {o : Oper} {w : World} {s x g cap n b off m c : Nat} {xs ys : List Value} (T E : TypeId) (i : TypeInfo) (z : Value) (sz by_ : Nat)
    (ht : P.underlying T = some (.slice E)) (hi : P.info? E = some i) (hz : i.zero = some z) (hsz : i.size = sz) (hby : i.bytes = by_) (hzs : z.cells.size = sz) (h0 : 0 < sz)
    (ho : o.op = .call { callee := .builtin .append, args := #[.tmp s, .tmp x], argTypes := #[T, T] })
    (hs : ρ (.tmp s) = .slice (some ⟨g, 0, none⟩) n cap) (hW : ORow E sz w g cap n xs) (hx : ρ (.tmp x) = .slice (some ⟨b, off, none⟩) m c) (hl : ys.length = m * sz)
    (hnews : ∀ (j : Nat) u, ys[j]? = some u → w.cell? ((⟨b, off, none⟩ : Addr).add j) = some u) (h1 : ∀ u ∈ ys, u.oneCell' = true) (hcap : cap ≤ maxLen) (hnm : n + m ≤ maxLen) (hbytes : (n + m) * by_ ≤ 140737488355328) :
    ∃ g' cap' w', (execOp ρ o).run P w = .ok (.value (.slice (some ⟨g', 0, none⟩) (n + m) cap')) w' ∧ ORow E sz w' g' cap' (n + m) (xs ++ ys) ∧ cap' ≤ maxLen ∧ Grew w w' g ∧ (g' = g ∨ w.heap.size ≤ g') ∧
      ∀ cap0 k zs, ORow E sz w g cap0 k zs → (k ≤ n ∨ (k = n + m ∧ zs = xs ++ ys)) → ORow E sz w' g cap0 k zs := by
  obtain ⟨cur, c1, c2, c3, c4, c5⟩ := hW
  by_cases hr : n + m ≤ cap
  · have hrun := run_append_room (P := P) w T o.type E i ht hi g n cap cur c1 ⟨b, off, none⟩ m c ys (by rw [hsz]; exact hl) hnews h1 hr (by rw [hsz, hl, ← Nat.add_mul, c2]; exact Nat.mul_le_mul_right _ hr)
    rw [hsz] at hrun
    have hheap := setRow_heap w g cur (cur.toList.take (n * sz) ++ ys ++ cur.toList.drop (n * sz + ys.length)).toArray E (0, 0) c1
    have hlen : (cur.toList.take (n * sz)).length = n * sz := by rw [c5]; exact c4
    have hle : n * sz + m * sz ≤ cap * sz := by rw [← Nat.add_mul]; exact Nat.mul_le_mul_right _ hr
    have hsize : (cur.toList.take (n * sz) ++ ys ++ cur.toList.drop (n * sz + ys.length)).toArray.size = cap * sz := by
      simp only [List.size_toArray, List.length_append, hlen, List.length_drop, Array.length_toList, c2, hl]
      omega
    have hpre : ∀ k, k ≤ n → (cur.toList.take (n * sz) ++ ys ++ cur.toList.drop (n * sz + ys.length)).take (k * sz) = cur.toList.take (k * sz) := fun k hk => by
      have hks : k * sz ≤ n * sz := Nat.mul_le_mul_right _ hk
      rw [List.append_assoc, List.take_append_of_le_length (by rw [hlen]; exact hks), List.take_take, Nat.min_eq_left hks]
    have hfull : (cur.toList.take (n * sz) ++ ys ++ cur.toList.drop (n * sz + ys.length)).take ((n + m) * sz) = xs ++ ys := by
      have hxy : (cur.toList.take (n * sz) ++ ys).length = (n + m) * sz := by rw [List.length_append, hlen, hl, Nat.add_mul]
      rw [List.take_append_of_le_length (by rw [hxy]; exact Nat.le_refl _), ← hxy, List.take_length, c5]
    have hnew : ORow E sz (w.setRow g (cur.toList.take (n * sz) ++ ys ++ cur.toList.drop (n * sz + ys.length)).toArray) g cap (n + m) (xs ++ ys) :=
      ⟨_, hheap, hsize, hr, by rw [List.length_append, c4, hl, Nat.add_mul], by simpa using hfull⟩
    refine ⟨g, cap, _, ?_, hnew, hcap, ⟨rfl, rfl, rfl, by simp, fun k _ hk => setRow_other w g k _ hk⟩, .inl rfl, ?_⟩
    · unfold execOp
      simp only [ho, resolve, invoke, builtin, Sem.run_bind, Sem.run_pure, Result.andThen_ok, List.map_toArray, List.map_cons, List.map_nil, hs, hx, hrun]
    · rintro cap0 k zs ⟨cur0, d1, d2, d3, d4, d5⟩ hk
      rw [c1] at d1
      cases d1
      have hcc : cap0 = cap := Nat.eq_of_mul_eq_mul_right h0 (d2.symm.trans c2)
      subst hcc
      rcases hk with hk | ⟨rfl, rfl⟩
      · exact ⟨_, hheap, hsize, d3, d4, by rw [← d5]; simpa using hpre k hk⟩
      · exact hnew
  · obtain ⟨v', w', hrun, r1, r2⟩ := run_append_arg_grows (P := P) w T o.type E i z sz by_ ht hi hz hsz hby hzs h0 ⟨g, 0, none⟩ n cap xs c4 (fun j u hj => by
      have := (ORow.get ⟨cur, c1, c2, c3, c4, c5⟩ j u hj)
      rw [Addr.add_lit]; simpa using this) ⟨b, off, none⟩ m c ys hl hnews (by omega) hnm hbytes
    obtain ⟨hlen, hn | ⟨g', cap', cur', hv, k1, k2, k3, k4, k5, k6⟩⟩ := r1
    · omega
    · subst hv
      refine ⟨g', cap', w', ?_, ⟨cur', k2, k5, k3, hlen, k6⟩, k4, ⟨r2.os, r2.tape, r2.output, r2.size, fun k hk _ => r2.block k hk (by simp)⟩, .inr k1, fun cap0 k zs hO _ => hO.of (r2.block g hO.lt (by simp))⟩
      unfold execOp
      simp only [ho, resolve, invoke, builtin, Sem.run_bind, Sem.run_pure, Result.andThen_ok, List.map_toArray, List.map_cons, List.map_nil, hs, hx, hrun]

end Go.Proofs.Ytlifkfemdknndaa
