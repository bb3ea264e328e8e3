/-
  The laws' own values of what comes of something: their size, a copy, whether two are the same; an argument, opened.
-/
import Derived.Test.YtdjmjdljgdagcaaRows
import Derived.Test.YtdjmjdljgdagcaaReqS
import Derived.Test.YtdjmjdljgdagcaaReqT
import Derived.Test.YtdjmjdljgdagcaaOpenI
import Derived.Test.YtdjmjdljgdagcaaOpenQ
namespace Go.Proofs.Ytdjmjdljgdagcaa
open Go.ChangeShapes Go.WideShapes Go.ChangeAt Go.RowKit Go.Deep Go.Joins
set_option linter.unusedSimpArgs false
set_option linter.unusedVariables false

theorem szRsp_any (r : Rsp) (pd : Option Addr) (cd : Nat) (left : Int) (w : World) (h : r.data.length ≤ 9223372036854775807) (h0 : 0 ≤ left) (h1 : left ≤ 1048576) :
    Calls Try.prog 42 #[rspV r pd cd, .int .i64 left] w fun e w' => e = .returned (.int .i64 (if (r.data.length : Int) ≤ left then left - r.data.length else -1)) ∧ Below w.heap.size w w' := by
  have hbl : ∀ o, Below w.heap.size w (w.alloc o) := fun o => (Below.refl _ w).alloc (Nat.le_refl _) o
  unfold rspV
  by_cases hl : (r.data.length : Int) ≤ left
  · rw [if_pos hl]
    have hI : ¬ (left - (r.data.length : Int) < 0) := by omega
    go_enter Try.func42, Try.ntmps42
    go_wp2_with fail
    refine (szInts_any pd r.data.length cd left _ h h0 h1).mono ?_
    rintro e w1 ⟨rfl, rfl⟩
    rw [if_pos hl]
    go_wp2
    go_ret
    exact ⟨rfl, hbl _⟩
  · rw [if_neg hl]
    go_enter Try.func42, Try.ntmps42
    go_wp2_with fail
    refine (szInts_any pd r.data.length cd left _ h h0 h1).mono ?_
    rintro e w1 ⟨rfl, rfl⟩
    rw [if_neg (show ¬ ((r.data.length : Int) ≤ left) by omega)]
    go_wp2
    go_ret
    exact ⟨rfl, hbl _⟩

set_option maxRecDepth 100000 in
set_option maxHeartbeats 1000000 in
theorem eqRsp_same (r : Rsp) (pd qd : Option Addr) (cd ed : Nat) (w : World) (h : RspAt w r pd cd) (k : RspAt w r qd ed) :
    Calls Try.prog 44 #[rspV r pd cd, rspV r qd ed] w fun e w' => e = .returned (.bool true) ∧ Below w.heap.size w w' := by
  have hbl : ∀ o o', Below w.heap.size w ((w.alloc o).alloc o') := fun o o' => ((Below.refl _ w).alloc (Nat.le_refl _) o).alloc (by simp) o'
  have hA := h.below (hbl (.cells #[.int .i64 r.id, .int .i64 r.code, (.slice pd r.data.length cd)] 46) (.cells #[.int .i64 r.id, .int .i64 r.code, (.slice qd r.data.length ed)] 46))
  have hK := k.below (hbl (.cells #[.int .i64 r.id, .int .i64 r.code, (.slice pd r.data.length cd)] 46) (.cells #[.int .i64 r.id, .int .i64 r.code, (.slice qd r.data.length ed)] 46))
  have HA := Hid.intro hA
  have HK := Hid.intro hK
  clear h k hA hK
  unfold rspV
  go_enter Try.func44, Try.ntmps44
  go_wp2_with fail
  refine (eqIntS_same pd qd cd ed r.data _ HA.out.data HK.out.data HA.out.c1 HA.out.c2 HK.out.c1 HK.out.c2).mono ?_
  rintro e w1 ⟨rfl, hb1⟩
  have hb1' := (hbl _ _).trans (hb1.mono (hbl _ _).size)
  clear hb1 HA HK
  go_wp2
  go_ret
  exact ⟨rfl, hb1'⟩

set_option maxRecDepth 100000 in
set_option maxHeartbeats 2000000 in
theorem toRsp_any (r : Rsp) (pd : Option Addr) (cd : Nat) (w : World) (h : RspAt w r pd cd) (hd : r.data.length ≤ 1048576) :
    Calls Try.prog 43 #[rspV r pd cd] w fun e w' => ∃ g1, e = .returned (rspV r (some ⟨g1, 0, none⟩) r.data.length) ∧ RspAt w' r (some ⟨g1, 0, none⟩) r.data.length ∧ w.heap.size ≤ g1 ∧ Below w.heap.size w w' := by
  have hbl : ∀ o o' o'', Below w.heap.size w (((w.alloc o).alloc o').alloc o'') := fun o o' o'' => (((Below.refl _ w).alloc (Nat.le_refl _) o).alloc (by simp) o').alloc (by simp <;> omega) o''
  have HA := Hid.intro h
  clear h
  unfold rspV
  go_enter Try.func43, Try.ntmps43
  go_wp2_with fail
  refine (toInts_any pd cd r.data _ (HA.out.below (hbl _ _ _)).data HA.out.c1 HA.out.c2 hd).mono ?_
  rintro e w1 ⟨rfl, hO1, hb1⟩
  have hs1 := hb1.size
  have hl1 := hO1.lt
  simp only [World.size_alloc, Nat.add_assoc, Nat.reduceAdd] at hO1 hs1 hl1 ⊢
  have bR : w1.heap[w.heap.size + 1]? = some (.cells #[.int .i64 0, .int .i64 0, .slice none 0 0] 46 (0, 0)) := (hb1.block (w.heap.size + 1) (by simp <;> omega)).trans ((Below.heap_alloc _ _ _ (by simp)).trans (at_new _ (by simp)))
  have bO : w1.heap[w.heap.size + 2]? = some (.cells #[.int .i64 r.id, .int .i64 r.code, (.slice none 0 0)] 46 (0, 0)) := (hb1.block (w.heap.size + 2) (by simp)).trans (at_new _ (by simp))
  have hb1' := (hbl _ _ _).trans (hb1.mono (hbl _ _ _).size)
  clear hb1
  have o0 : w1.cell? ⟨w.heap.size + 2, 0, none⟩ = some (.int .i64 r.id) := heap_cell bO 0
  have fo0 : w1.frozen? ⟨w.heap.size + 2, 0, none⟩ = false := heap_free bO 0
  have o1 : w1.cell? ⟨w.heap.size + 2, 1, none⟩ = some (.int .i64 r.code) := heap_cell bO 1
  have fo1 : w1.frozen? ⟨w.heap.size + 2, 1, none⟩ = false := heap_free bO 1
  have o2 : w1.cell? ⟨w.heap.size + 2, 2, none⟩ = some (.slice none 0 0) := heap_cell bO 2
  have fo2 : w1.frozen? ⟨w.heap.size + 2, 2, none⟩ = false := heap_free bO 2
  have q0 : w1.cell? ⟨w.heap.size + 1, 0, none⟩ = some (.int .i64 0) := heap_cell bR 0
  have fq0 : w1.frozen? ⟨w.heap.size + 1, 0, none⟩ = false := heap_free bR 0
  have q1 : w1.cell? ⟨w.heap.size + 1, 1, none⟩ = some (.int .i64 0) := heap_cell bR 1
  have fq1 : w1.frozen? ⟨w.heap.size + 1, 1, none⟩ = false := heap_free bR 1
  have q2 : w1.cell? ⟨w.heap.size + 1, 2, none⟩ = some (.slice none 0 0) := heap_cell bR 2
  have fq2 : w1.frozen? ⟨w.heap.size + 1, 2, none⟩ = false := heap_free bR 2
  have bR4 := (heap_set_ne (w := w1) (b := w.heap.size + 2) (k := w.heap.size + 1) (i := 2) (v := (.slice (some ⟨w.heap.size + 3, 0, none⟩) r.data.length r.data.length)) (by omega)).trans bR
  have hf := heap_set (heap_set (heap_set bR4 0 (.int .i64 r.id)) 1 (.int .i64 r.code)) 2 (.slice (some ⟨w.heap.size + 3, 0, none⟩) r.data.length r.data.length)
  have r0 := heap_cell hf 0
  have r1 := heap_cell hf 1
  have r2 := heap_cell hf 2
  simp at r0 r1 r2
  have hne : ∀ k, k ≠ w.heap.size + 1 → k ≠ w.heap.size + 2 → ((((w1.setCell ⟨w.heap.size + 2, 2, none⟩ (.slice (some ⟨w.heap.size + 3, 0, none⟩) r.data.length r.data.length)).setCell ⟨w.heap.size + 1, 0, none⟩ (.int .i64 r.id)).setCell ⟨w.heap.size + 1, 1, none⟩ (.int .i64 r.code)).setCell ⟨w.heap.size + 1, 2, none⟩ (.slice (some ⟨w.heap.size + 3, 0, none⟩) r.data.length r.data.length)).heap[k]? = w1.heap[k]? := fun k h1 h2 => ((heap_set_ne h1).trans ((heap_set_ne h1).trans (heap_set_ne h1))).trans (heap_set_ne h2)
  have HP : Hid (RspAt ((((w1.setCell ⟨w.heap.size + 2, 2, none⟩ (.slice (some ⟨w.heap.size + 3, 0, none⟩) r.data.length r.data.length)).setCell ⟨w.heap.size + 1, 0, none⟩ (.int .i64 r.id)).setCell ⟨w.heap.size + 1, 1, none⟩ (.int .i64 r.code)).setCell ⟨w.heap.size + 1, 2, none⟩ (.slice (some ⟨w.heap.size + 3, 0, none⟩) r.data.length r.data.length)) r (some ⟨w.heap.size + 3, 0, none⟩) r.data.length) := ⟨(hO1.of (hne _ (by omega) (by omega))).ints, Nat.le_refl _, by omega⟩
  have HB : Hid (Below w.heap.size w ((((w1.setCell ⟨w.heap.size + 2, 2, none⟩ (.slice (some ⟨w.heap.size + 3, 0, none⟩) r.data.length r.data.length)).setCell ⟨w.heap.size + 1, 0, none⟩ (.int .i64 r.id)).setCell ⟨w.heap.size + 1, 1, none⟩ (.int .i64 r.code)).setCell ⟨w.heap.size + 1, 2, none⟩ (.slice (some ⟨w.heap.size + 3, 0, none⟩) r.data.length r.data.length))) := ((((hb1'.setCell (p := ⟨w.heap.size + 2, 2, none⟩) (by simp) _).setCell (p := ⟨w.heap.size + 1, 0, none⟩) (by simp) _).setCell (p := ⟨w.heap.size + 1, 1, none⟩) (by simp) _).setCell (p := ⟨w.heap.size + 1, 2, none⟩) (by simp) _)
  clear hf hne hO1 bR bO bR4 hb1' HA
  go_wp2
  refine bodyPost_ret (v := .agg #[.int .i64 r.id, .int .i64 r.code, (.slice (some ⟨w.heap.size + 3, 0, none⟩) r.data.length r.data.length)]) (by simp [results, Try.results43, go_sem, r0, r1, r2]) rfl ⟨w.heap.size + 3, rfl, HP.out, by omega, HB.out⟩

set_option maxRecDepth 100000 in
theorem open_rsp {H : Type} {enc : TypeId × Value → H} {W : World} {r : Reach} {b0 : Nat} {v : Value} {d : DataW H} {p : List MemPlace} (hv : Value.okWide Try.prog W r b0 64 v) (h : DataW.Trod enc Try.prog W 0 (fun _ => true) true 64 v d p) :
    ∃ (q : Rsp) (pd : Option Addr) (cd : Nat), v = rspV q pd cd ∧ RspAt W q pd cd := by
  obtain ⟨v0, v1, v2, y0, y1, y2, n, rfl, _, _, t0, t1, t2⟩ := open_agg3 Try.underlying64 (by kernel_rfl) (by kernel_rfl) hv h
  obtain ⟨x0, rfl⟩ := open_intV t0
  obtain ⟨x1, rfl⟩ := open_intV t1
  obtain ⟨pd, xs, cd, rfl, i5, a5, b5⟩ := open_intsV t2
  exact ⟨⟨x0, x1, xs⟩, pd, cd, rfl, i5, a5, b5⟩

end Go.Proofs.Ytdjmjdljgdagcaa
