/-
  Rows of ints whose numbers are not known: what a row in the making is; appended by one; variables of several cells.
-/
import Derived.Test.YtlifkfemdknndaaProg
import Derived.Test.YtlifkfemdknndaaIRow
import Derived.Test.YtlifkfemdknndaaIntsM
import Derived.Test.YtlifkfemdknndaaOpsXM
import Derived.Test.YtlifkfemdknndaaTypedL
namespace Go.Proofs.Ytlifkfemdknndaa
open Go.RowKit
set_option linter.unusedSimpArgs false
set_option linter.unusedVariables false

theorem heap_cell {w : World} {b : Nat} {cs : Array Value} {t : TypeId} (h : w.heap[b]? = some (.cells cs t (0, 0))) (i : Nat) : w.cell? ⟨b, i, none⟩ = cs[i]? := by simp [World.cell?, h]
theorem heap_free {w : World} {b : Nat} {cs : Array Value} {t : TypeId} (h : w.heap[b]? = some (.cells cs t (0, 0))) (i : Nat) : w.frozen? ⟨b, i, none⟩ = false := by simp [World.frozen?, h]
theorem heap_set {w : World} {b : Nat} {cs : Array Value} {t : TypeId} (h : w.heap[b]? = some (.cells cs t (0, 0))) (i : Nat) (v : Value) : (w.setCell ⟨b, i, none⟩ v).heap[b]? = some (.cells (cs.setIfInBounds i v) t (0, 0)) := by
  simp only [World.setCell, Array.getElem?_modify, h, if_true, Option.map_some]
  rfl
theorem heap_lt {w : World} {b : Nat} {o : Obj} (h : w.heap[b]? = some o) : b < w.heap.size := (Array.getElem?_eq_some_iff.1 h).1
theorem heap_set_ne {w : World} {b k : Nat} {i : Nat} {v : Value} (h : k ≠ b) : (w.setCell ⟨b, i, none⟩ v).heap[k]? = w.heap[k]? := Below.heap_setCell _ _ _ _ (by simpa using h)

/-- block g: room for cap ints; the first n are ints -/
def PI (w : World) (g cap n : Nat) : Prop := ∃ cur : Array Value, w.heap[g]? = some (.cells cur 3 (0, 0)) ∧ cur.size = cap ∧ n ≤ cap ∧ ∀ i, i < n → ∃ x : Int, cur[i]? = some (.int .i64 x)
theorem PI.lt {w : World} {g cap n : Nat} (h : PI w g cap n) : g < w.heap.size := by obtain ⟨cur, h, _⟩ := h; exact heap_lt h
theorem PI.of {w w' : World} {g cap n : Nat} (h : PI w g cap n) (hb : w'.heap[g]? = w.heap[g]?) : PI w' g cap n := by
  obtain ⟨cur, h1, h2⟩ := h; exact ⟨cur, hb.trans h1, h2⟩
/-- a row of at most N ints of its own, or none -/
def kIR (M N : Nat) : World → Value → Prop := fun w v => v = .slice none 0 0 ∨ ∃ g n cap, v = .slice (some ⟨g, 0, none⟩) n cap ∧ n ≤ N ∧ cap ≤ maxLen ∧ M ≤ g ∧ PI w g cap n
/-- own int rows stay int rows -/
def RI (M : Nat) (w w' : World) : Prop := w.heap.size ≤ w'.heap.size ∧ ∀ g cap n, M ≤ g → PI w g cap n → PI w' g cap n
theorem RI.refl (M : Nat) (w : World) : RI M w w := ⟨Nat.le_refl _, fun _ _ _ _ h => h⟩
theorem RI.of_up {M : Nat} {w w' : World} (h : Up M w w') : RI M w w' := ⟨h.size, fun g _ _ hM hp => hp.of (h.block g hM hp.lt)⟩
theorem kIR.ri {M N : Nat} {w w' : World} {v : Value} (h : kIR M N w v) (hr : RI M w w') : kIR M N w' v := by
  rcases h with h | ⟨g, n, cap, h1, h2, h3, h4, h5⟩
  · exact .inl h
  · exact .inr ⟨g, n, cap, h1, h2, h3, h4, hr.2 g cap n h4 h5⟩
theorem kIR.mono {M N N' : Nat} {w : World} {v : Value} (h : kIR M N w v) (hN : N ≤ N') : kIR M N' w v := by
  rcases h with h | ⟨g, n, cap, h1, h2, h3, h4, h5⟩
  · exact .inl h
  · exact .inr ⟨g, n, cap, h1, by omega, h3, h4, h5⟩
/-- its numbers -/
theorem kIR.ints {M N : Nat} {w : World} {v : Value} (h : kIR M N w v) : ∃ (p : Option Addr) (xs : List Int) (cap : Nat), v = .slice p xs.length cap ∧ IntsAt w p xs ∧ xs.length ≤ N ∧ xs.length ≤ cap ∧ cap ≤ 9223372036854775807 ∧ (∀ b off, p = some ⟨b, off, none⟩ → M ≤ b) := by
  rcases h with h | ⟨g, n, cap, rfl, h2, h3, h4, cur, h5, h6, h7, h8⟩
  · exact ⟨none, [], 0, by simpa using h, .inl rfl, by simp, by simp, by omega, by simp⟩
  · obtain ⟨f, hf⟩ : ∃ f : Nat → Int, ∀ i, i < n → cur[i]? = some (.int .i64 (f i)) := by
      classical
      exact ⟨fun i => if hi : i < n then Classical.choose (h8 i hi) else 0, fun i hi => by simp only [dif_pos hi]; exact Classical.choose_spec (h8 i hi)⟩
    refine ⟨some ⟨g, 0, none⟩, (List.range n).map f, cap, by simp, .inr ⟨g, 0, rfl, heap_lt h5, fun k hk => ?_⟩, by simpa using h2, by simpa using h7, by unfold maxLen at h3; omega, fun b off e => by cases e; exact h4⟩
    have hk' : k < n := by simpa using hk
    rw [heap_cell h5]
    simpa using hf k hk'

/-- what an append by one leaves: own int rows stay int rows, and nothing else of what lay turns -/
structure AppI (M : Nat) (w w' : World) : Prop where
  os : w'.os = w.os
  tape : w'.tape = w.tape
  output : w'.output = w.output
  size : w.heap.size ≤ w'.heap.size
  ri : ∀ g cap n, M ≤ g → PI w g cap n → PI w' g cap n
  other : ∀ k, k < w.heap.size → (k < M ∨ ∀ cur, w.heap[k]? ≠ some (.cells cur 3 (0, 0))) → w'.heap[k]? = w.heap[k]?

theorem run_app1 {ρ : Operand → Value} {o : Oper} {w : World} {s x b M N c : Nat} {u : Int} (ho : o.op = .call { callee := .builtin .append, args := #[.tmp s, .tmp x], argTypes := #[24, 24] })
    (hs : kIR M N w (ρ (.tmp s))) (hx : ρ (.tmp x) = .slice (some ⟨b, 0, none⟩) 1 c) (hu : w.cell? ⟨b, 0, none⟩ = some (.int .i64 u)) (hN : N ≤ 100000) (hM : M ≤ w.heap.size) :
    ∃ v w', (execOp ρ o).run Try.prog w = .ok (.value v) w' ∧ kIR M (N + 1) w' v ∧ AppI M w w' ∧ (∀ k, k < w.heap.size → (∀ n cap, ρ (.tmp s) ≠ .slice (some ⟨k, 0, none⟩) n cap) → w'.heap[k]? = w.heap[k]?) := by
  obtain ⟨i0, hi, hz0, hz1, hz2⟩ := info_parts Try.infoInt
  have hnews : ∀ (j : Nat) (v : Value), ([Value.int .i64 u] : List Value)[j]? = some v → w.cell? ((⟨b, 0, none⟩ : Addr).add j) = some v := by
    intro j v hj
    match j with
    | 0 => simp at hj; subst hj; simpa [Addr.add] using hu
    | j + 1 => simp at hj
  rcases hs with hs | ⟨g, n, cap, hs, hn, hcap, hg, cur, h1, h2, h3, h4⟩
  · obtain ⟨v', w', hrun, hown, hgr, hnil⟩ := run_append_own (P := Try.prog) w M 24 o.type 3 i0 _ 1 8 Try.underlying24 hi hz0 hz1 hz2 rfl (by omega) (.slice none 0 0) 0 [] (World.ownsRow_nil w M 3 1) ⟨b, 0, none⟩ 1 c [.int .i64 u] rfl hnews (by simp [Value.oneCell']) (by unfold maxLen; omega) (by omega) hM
    obtain ⟨hl, hv | ⟨g', cap', cur', hv, q1, q2, q3, q4, q5, q6⟩⟩ := hown
    · exact absurd (hnil.1 hv.1).2 (by omega)
    · refine ⟨v', w', ?_, .inr ⟨g', 1, cap', by simpa using hv, by omega, q4, q1, cur', q2, by simpa using q5, by omega, fun i hi => ?_⟩, ⟨hgr.os, hgr.tape, hgr.output, hgr.size, fun g0 c0 n0 _ hp => hp.of (hgr.block g0 hp.lt (by simp [Value.ownBlock])), fun k hk _ => hgr.block k hk (by simp [Value.ownBlock])⟩, fun k hk _ => hgr.block k hk (by simp [Value.ownBlock])⟩
      · unfold execOp
        simp only [ho, resolve, invoke, builtin, Sem.run_bind, Sem.run_pure, Result.andThen_ok, List.map_toArray, List.map_cons, List.map_nil, hs, hx, hrun]
      · have hi0 : i = 0 := by omega
        subst hi0
        have : (cur'.toList.take 1)[0]? = some (.int .i64 u) := by
          have h := congrArg (fun l : List Value => l[0]?) q6
          simpa using h
        rw [List.getElem?_take, if_pos (by omega)] at this
        exact ⟨u, by simpa using this⟩
  · by_cases hr : n + 1 ≤ cap
    · have hrun := run_append_room (P := Try.prog) w 24 o.type 3 i0 Try.underlying24 hi g n cap cur h1 ⟨b, 0, none⟩ 1 c [.int .i64 u] (by rw [hz1]; rfl) hnews (by simp [Value.oneCell']) hr (by rw [hz1]; simp; omega)
      rw [hz1] at hrun
      have hheap := setRow_heap w g cur (cur.toList.take (n * 1) ++ [Value.int .i64 u] ++ cur.toList.drop (n * 1 + ([Value.int .i64 u] : List Value).length)).toArray 3 (0, 0) h1
      have hlen : (cur.toList.take n).length = n := by simp; omega
      have hget : ∀ i, (cur.toList.take (n * 1) ++ [Value.int .i64 u] ++ cur.toList.drop (n * 1 + ([Value.int .i64 u] : List Value).length)).toArray[i]? = if i = n then some (.int .i64 u) else cur[i]? := by
        intro i
        simp only [Nat.mul_one, List.getElem?_toArray, List.length_singleton]
        rw [List.append_assoc]
        by_cases hin : i < n
        · rw [List.getElem?_append_left (by rw [hlen]; exact hin), List.getElem?_take, if_pos hin, if_neg (by omega)]; simp
        · rw [List.getElem?_append_right (by rw [hlen]; omega), hlen]
          by_cases hie : i = n
          · subst hie; simp
          · rw [if_neg hie, List.getElem?_append_right (by simp; omega), List.getElem?_drop]
            simp
            rw [show n + 1 + (i - n - 1) = i by omega]
      have hsize : (cur.toList.take (n * 1) ++ [Value.int .i64 u] ++ cur.toList.drop (n * 1 + ([Value.int .i64 u] : List Value).length)).toArray.size = cap := by
        simp only [Nat.mul_one, List.size_toArray, List.length_append, hlen, List.length_drop, Array.length_toList, List.length_singleton]
        omega
      have hoth : ∀ k, k ≠ g → (w.setRow g (cur.toList.take (n * 1) ++ [Value.int .i64 u] ++ cur.toList.drop (n * 1 + ([Value.int .i64 u] : List Value).length)).toArray).heap[k]? = w.heap[k]? := fun k hk => setRow_other w g k _ hk
      generalize (cur.toList.take (n * 1) ++ [Value.int .i64 u] ++ cur.toList.drop (n * 1 + ([Value.int .i64 u] : List Value).length)).toArray = cur2 at *
      refine ⟨.slice (some ⟨g, 0, none⟩) (n + 1) cap, w.setRow g cur2, ?_, .inr ⟨g, n + 1, cap, rfl, by omega, hcap, hg, cur2, hheap, hsize, hr, fun i hi => ?_⟩, ⟨rfl, rfl, rfl, by simp, fun g0 c0 n0 hM0 hp => ?_, fun k hk hor => ?_⟩, fun k hk hne => hoth k (fun e => hne n cap (by rw [hs, e]))⟩
      · unfold execOp
        simp only [ho, resolve, invoke, builtin, Sem.run_bind, Sem.run_pure, Result.andThen_ok, List.map_toArray, List.map_cons, List.map_nil, hs, hx, hrun]
      · rw [hget i]
        by_cases hie : i = n
        · exact ⟨u, by simp [hie]⟩
        · rw [if_neg hie]; exact h4 i (by omega)
      · by_cases hgg : g0 = g
        · subst hgg
          obtain ⟨cur0, p1, p2, p3, p4⟩ := hp
          rw [h1] at p1
          cases p1
          refine ⟨cur2, hheap, by omega, p3, fun i hi => ?_⟩
          rw [hget i]
          by_cases hie : i = n
          · exact ⟨u, by simp [hie]⟩
          · rw [if_neg hie]; exact p4 i hi
        · exact hp.of (hoth g0 hgg)
      · refine hoth k (fun e => ?_)
        subst e
        rcases hor with h | h
        · omega
        · exact h cur h1
    · obtain ⟨f, hf⟩ : ∃ f : Nat → Int, ∀ i, i < n → cur[i]? = some (.int .i64 (f i)) := by
        classical
        exact ⟨fun i => if hi : i < n then Classical.choose (h4 i hi) else 0, fun i hi => by simp only [dif_pos hi]; exact Classical.choose_spec (h4 i hi)⟩
      obtain ⟨v', w', hrun, hown, hgr⟩ := run_append_arg_grows (P := Try.prog) w 24 o.type 3 i0 _ 1 8 Try.underlying24 hi hz0 hz1 hz2 rfl (by omega) ⟨g, 0, none⟩ n cap (((List.range n).map f).map (Value.int .i64)) (by simp) (fun j v hj => by
        have hjn : j < n := by have := (List.getElem?_eq_some_iff.1 hj).1; simpa using this
        simp [hjn] at hj
        subst hj
        have hadd : (⟨g, 0, none⟩ : Addr).add j = ⟨g, j, none⟩ := by unfold Addr.add; split <;> simp_all
        rw [hadd, heap_cell h1]
        exact hf j hjn) ⟨b, 0, none⟩ 1 c [.int .i64 u] rfl hnews (by omega) (by unfold maxLen; omega) (by omega)
      obtain ⟨hl, hv | ⟨g', cap', cur', hv, q1, q2, q3, q4, q5, q6⟩⟩ := hown
      · omega
      · refine ⟨v', w', ?_, .inr ⟨g', n + 1, cap', hv, by omega, q4, by omega, cur', q2, by simpa using q5, q3, fun i hi => ?_⟩, ⟨hgr.os, hgr.tape, hgr.output, hgr.size, fun g0 c0 n0 _ hp => hp.of (hgr.block g0 hp.lt (by simp)), fun k hk _ => hgr.block k hk (by simp)⟩, fun k hk _ => hgr.block k hk (by simp)⟩
        · unfold execOp
          simp only [ho, resolve, invoke, builtin, Sem.run_bind, Sem.run_pure, Result.andThen_ok, List.map_toArray, List.map_cons, List.map_nil, hs, hx, hrun]
        · have h := congrArg (fun l : List Value => l[i]?) q6
          simp only [Nat.mul_one] at h
          rw [List.getElem?_take, if_pos hi] at h
          by_cases hin : i < n
          · rw [List.getElem?_append_left (by simpa using hin)] at h
            simp [hin] at h
            exact ⟨f i, h⟩
          · have hie : i = n := by omega
            subst hie
            rw [List.getElem?_append_right (by simp)] at h
            simp at h
            exact ⟨u, h⟩

end Go.Proofs.Ytlifkfemdknndaa
