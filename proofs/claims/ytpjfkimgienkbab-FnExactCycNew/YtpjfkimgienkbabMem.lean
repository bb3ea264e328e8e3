/-
  MemNew and MemOk of the program and of the model.
-/
import Derived.Test.YtpjfkimgienkbabProg
import Derived.Test.YtpjfkimgienkbabWrd
import Derived.Test.YtpjfkimgienkbabIRow
import Derived.Test.YtpjfkimgienkbabIntsM
import Derived.Test.YtpjfkimgienkbabAllAre
namespace Go.Proofs.Ytpjfkimgienkbab
open Go.RowKit
set_option linter.unusedSimpArgs false
set_option linter.unusedVariables false

def memOkB (xs : List Int) : Bool := decide (xs.length = 64) && xs.all wrdB
theorem memOk_no {xs : List Int} (h : xs.length ≠ 64) : memOkB xs = false := by simp [memOkB, h]
theorem memOk_len {xs : List Int} (h : memOkB xs = true) : xs.length = 64 := by simp [memOkB] at h; exact h.1
theorem memOk_hit {xs : List Int} {k : Nat} (h : k < xs.length) (hb : wrdB xs[k] = false) : memOkB xs = false := by
  have : xs.all wrdB = false := List.all_eq_false.2 ⟨xs[k], List.getElem_mem h, by simp [hb]⟩
  simp [memOkB, this]
theorem memOk_all {xs : List Int} (hl : xs.length = 64) (h : (xs.take 64).all wrdB = true) : memOkB xs = true := by
  rw [List.take_of_length_le (by omega)] at h
  simp only [memOkB, hl, h]; rfl
theorem all_take {xs : List Int} {k : Nat} (h : k < xs.length) (ha : (xs.take k).all wrdB = true) (hb : wrdB xs[k] = true) : (xs.take (k + 1)).all wrdB = true := by
  rw [List.take_succ_eq_append_getElem h, List.all_append, ha]; simp [hb]

theorem memOk_of {xs : List Int} (hl : xs.length = 64) : memOkB xs = allIn xs 0 65535 := by
  simp only [memOkB, hl]; rfl

/-- noughts -/
def noughts (n : Nat) : List Int := List.replicate n 0
theorem made_ints (n : Nat) : (madeCells (Value.int .i64 0).cells (n * 1)) = ((noughts n).map (Value.int .i64)).toArray := by
  simp [madeCells, noughts, Value.cells]
  apply Array.ext
  · simp
  · intro i h1 h2
    simp [Nat.mod_one]

theorem make_ints (n : Nat) (hn : n ≤ 1048576) (W : World) : (Instr.makeSlice 22 (.int .i64 (n : Int)) (.int .i64 (n : Int))).run Try.prog W =
      .ok (.slice (some ⟨W.heap.size, 0, none⟩) n n) (W.alloc (.cells ((noughts n).map (Value.int .i64)).toArray 3)) := by
  obtain ⟨i0, hi, hz0, hz1, hz2⟩ := info_parts Try.infoInt
  have := run_make (P := Try.prog) W 22 3 i0 _ Try.underlying22 hi hz0 .i64 .i64 (n : Int) (n : Int) (by omega) (by omega) (by rw [hz2]; omega) (by omega)
  rw [hz1] at this
  rw [← made_ints]
  simpa using this

theorem ORow.new {w : World} {l : List Int} : ORow 3 1 (w.alloc (.cells (l.map (Value.int .i64)).toArray 3)) w.heap.size l.length l.length (l.map (Value.int .i64)) :=
  ⟨_, by show (w.heap.push _)[w.heap.size]? = _; simp; rfl, by simp, Nat.le_refl _, by simp, by simp [List.take_of_length_le]⟩

theorem impl_MemNew (w : World) : Calls Try.prog 36 #[] w fun e w' => ∃ g, e = .returned (.agg #[.slice (some ⟨g, 0, none⟩) 64 64]) ∧ ORow 3 1 w' g 64 64 ((noughts 64).map (Value.int .i64)) ∧ w.heap.size ≤ g ∧ Below w.heap.size w w' := by
  have hmk : ∀ W : World, (Instr.makeSlice 22 (.int .i64 64) (.int .i64 64)).run Try.prog W = _ := fun W => make_ints 64 (by omega) W
  go_enter Try.func36, Try.ntmps36
  go_wp2
  refine bodyPost_ret (v := .agg #[.slice (some ⟨w.heap.size + 1, 0, none⟩) 64 64]) (by simp [results, Try.results36, go_sem]) rfl ⟨_, rfl, ?_, by omega, ?_⟩
  · have := ORow.new (w := w.alloc (Obj.cells #[Value.slice (some { block := w.heap.size + 1, off := 0 }) 64 64] 24)) (l := noughts 64)
    simpa [noughts] using this
  · exact ((Below.refl _ w).alloc (Nat.le_refl _) _).alloc (by simp) _

theorem spec_MemNew (w : World) : Calls Try.prog 35 #[] w fun e w' => ∃ g, e = .returned (.agg #[.slice (some ⟨g, 0, none⟩) 64 64]) ∧ ORow 3 1 w' g 64 64 ((noughts 64).map (Value.int .i64)) ∧ w.heap.size ≤ g ∧ Below w.heap.size w w' := by
  have hmk : ∀ W : World, (Instr.makeSlice 22 (.int .i64 64) (.int .i64 64)).run Try.prog W = _ := fun W => make_ints 64 (by omega) W
  go_enter Try.func35, Try.ntmps35
  go_wp2
  refine bodyPost_ret (v := .agg #[.slice (some ⟨w.heap.size + 1, 0, none⟩) 64 64]) (by simp [results, Try.results35, go_sem]) rfl ⟨_, rfl, ?_, by omega, ?_⟩
  · have := ORow.new (w := w.alloc (Obj.cells #[Value.slice (some { block := w.heap.size + 1, off := 0 }) 64 64] 24)) (l := noughts 64)
    simpa [noughts] using this
  · exact ((Below.refl _ w).alloc (Nat.le_refl _) _).alloc (by simp) _

end Go.Proofs.Ytpjfkimgienkbab
