/-
  Rows of bools in memory: whether two are the same, marked, held, their size, a copy.
-/
import Derived.Test.YtgcpjddnnamdhaaProg
import Derived.Test.YtgcpjddnnamdhaaORow
import Derived.Test.YtgcpjddnnamdhaaWld
import Derived.Test.YtgcpjddnnamdhaaKept
import Derived.BigQuiet
namespace Go.Proofs.Ytgcpjddnnamdhaa
open Go.RowKit
set_option linter.unusedSimpArgs false
set_option linter.unusedVariables false

/-- bools in memory -/
def BoolsAt (w : World) (a : Option Addr) (l : List Bool) : Prop :=
  l = [] ∨ ∃ b off, a = some ⟨b, off, none⟩ ∧ b < w.heap.size ∧ ∀ k (h : k < l.length), w.cell? ⟨b, off + k, none⟩ = some (.bool l[k])
theorem BoolsAt.of {w w' : World} {a : Option Addr} {l : List Bool} (h : BoolsAt w a l) (hs : w.heap.size ≤ w'.heap.size) (hb : ∀ b off, a = some ⟨b, off, none⟩ → b < w.heap.size → w'.heap[b]? = w.heap[b]?) : BoolsAt w' a l := by
  rcases h with h | ⟨b, off, h1, h2, h3⟩
  · exact .inl h
  · exact .inr ⟨b, off, h1, by omega, fun k hk => (World.cell?_of_block (w := w) (a := ⟨b, _, none⟩) (hb b off h1 h2)).trans (h3 k hk)⟩
theorem BoolsAt.below {w w' : World} {a : Option Addr} {l : List Bool} (h : BoolsAt w a l) (hb : Below w.heap.size w w') : BoolsAt w' a l :=
  h.of hb.size (fun b _ _ hlt => hb.block b hlt)

theorem Try.infoBool : (Try.prog.info? 4).map (fun i => (i.zero, i.size, i.bytes)) = some (some (.bool false), 1, 1) := by kernel_rfl

/-- none of them is so -/
def nays (n : Nat) : List Bool := List.replicate n false
theorem made_bools (n : Nat) : (madeCells (Value.bool false).cells (n * 1)) = ((nays n).map Value.bool).toArray := by
  simp [madeCells, nays, Value.cells]
  apply Array.ext
  · simp
  · intro i h1 h2
    simp [Nat.mod_one]
theorem make_bools (n : Nat) (hn : n ≤ 1048576) (W : World) : (Instr.makeSlice 33 (.int .i64 (n : Int)) (.int .i64 (n : Int))).run Try.prog W =
      .ok (.slice (some ⟨W.heap.size, 0, none⟩) n n) (W.alloc (.cells ((nays n).map Value.bool).toArray 4)) := by
  obtain ⟨i0, hi, hz0, hz1, hz2⟩ := info_parts Try.infoBool
  have := run_make (P := Try.prog) W 33 4 i0 _ Try.underlying33 hi hz0 .i64 .i64 (n : Int) (n : Int) (by omega) (by omega) (by rw [hz2]; omega) (by omega)
  rw [hz1] at this
  rw [← made_bools]
  simpa using this

theorem ORow.newB {w : World} {l : List Bool} : ORow 4 1 (w.alloc (.cells (l.map Value.bool).toArray 4)) w.heap.size l.length l.length (l.map Value.bool) :=
  ⟨_, by show (w.heap.push _)[w.heap.size]? = _; simp; rfl, by simp, Nat.le_refl _, by simp, by simp [List.take_of_length_le]⟩
theorem ORow.bools {w : World} {g cap : Nat} {l : List Bool} (h : ORow 4 1 w g cap l.length (l.map Value.bool)) : BoolsAt w (some ⟨g, 0, none⟩) l :=
  .inr ⟨g, 0, rfl, h.lt, fun k hk => by have := h.get k (.bool l[k]) (by simp [hk]); simpa using this⟩
theorem ORow.setB {w : World} {g cap n : Nat} {l : List Bool} (h : ORow 4 1 w g cap n (l.map Value.bool)) (j : Nat) (hj : j < n) (v : Bool) :
    ORow 4 1 (w.setCell ⟨g, j, none⟩ (.bool v)) g cap n ((l.set j v).map Value.bool) := by
  obtain ⟨cur, h1, h2, h3, h4, h5⟩ := h
  refine ⟨cur.setIfInBounds j (.bool v), ?_, by simpa using h2, h3, by simpa using h4, ?_⟩
  · simp only [World.setCell, Array.getElem?_modify, h1, if_true, Option.map_some]
    rfl
  · rw [List.map_set, ← h5]
    simp [List.take_set]

set_option maxRecDepth 100000 in
set_option maxHeartbeats 1000000 in
theorem eqBoolS_same (p q : Option Addr) (c1 c2 : Nat) (xs : List Bool) (w : World) (hp : BoolsAt w p xs) (hq : BoolsAt w q xs) (h1 : xs.length ≤ c1) (h2 : c1 ≤ 9223372036854775807) (h3 : xs.length ≤ c2) (h4 : c2 ≤ 9223372036854775807) :
    Calls Try.prog 72 #[.slice p xs.length c1, .slice q xs.length c2] w fun e w' => e = .returned (.bool true) ∧ Below w.heap.size w w' := by
  have HP := Hid.intro hp
  have HQ := Hid.intro hq
  clear hp hq
  go_enter Try.func72, Try.ntmps72
  go_wp2
  go_loopw [5] (fun i wr => ∃ k : Nat, k ≤ xs.length ∧ i = .int .i64 k ∧ Below w.heap.size w wr) (fun i _ => xs.length - (intOf i).toNat)
  case atStart => exact ⟨0, Nat.zero_le _, rfl, Below.refl _ _⟩
  case round =>
    obtain ⟨k, hk, rfl, hbl⟩ := hrel
    by_cases hlt : k < xs.length
    · rcases HP.out with hx | ⟨b, off, rfl, hb, hcells⟩
      · subst hx; simp at hlt
      rcases HQ.out with hx' | ⟨b', off', rfl, hb', hcells'⟩
      · subst hx'; simp at hlt
      have hk0 : (0 : Int) ≤ (k : Int) := by omega
      have hk1 : (k : Int) < (xs.length : Int) := by omega
      obtain ⟨x, hx⟩ : ∃ x, x = xs[k] := ⟨_, rfl⟩
      have hc1 : wr.cell? ⟨b, off + k, none⟩ = some (.bool x) := (hbl.cell (p := ⟨b, off + k, none⟩) hb).trans ((hcells k hlt).trans (by rw [hx]))
      have hc2 : wr.cell? ⟨b', off' + k, none⟩ = some (.bool x) := (hbl.cell (p := ⟨b', off' + k, none⟩) hb').trans ((hcells' k hlt).trans (by rw [hx]))
      clear hcells hcells' HP HQ hx
      go_wp2_with fail
      go_quiet (fail)
      all_goals go_wp2
      all_goals go_roundw
      case rel => exact ⟨k + 1, by omega, by go_num, by first | exact hbl.drew | exact ⟨hbl.os, hbl.tape, hbl.output, hbl.size, hbl.block⟩⟩
      case measure => simp [intOf]; omega
    · have hk' : k = xs.length := by omega
      subst hk'
      go_wp2
      go_ret
      exact ⟨rfl, hbl⟩

/-- a row of its own, or none -/
def OwnB (w : World) (p : Option Addr) (cap : Nat) (l : List Bool) : Prop := l = [] ∨ ∃ g, p = some ⟨g, 0, none⟩ ∧ ORow 4 1 w g cap l.length (l.map Value.bool)
theorem OwnB.bools {w : World} {p : Option Addr} {cap : Nat} {l : List Bool} (h : OwnB w p cap l) : BoolsAt w p l := by
  rcases h with h | ⟨g, rfl, h⟩
  · exact .inl h
  · exact h.bools
theorem OwnB.of {w w' : World} {p : Option Addr} {cap : Nat} {l : List Bool} (h : OwnB w p cap l) (hb : ∀ b, p = some ⟨b, 0, none⟩ → b < w.heap.size → w'.heap[b]? = w.heap[b]?) : OwnB w' p cap l := by
  rcases h with h | ⟨g, rfl, h⟩
  · exact .inl h
  · exact .inr ⟨g, rfl, h.of (hb g rfl h.lt)⟩
theorem OwnB.below {w w' : World} {p : Option Addr} {cap : Nat} {l : List Bool} (h : OwnB w p cap l) (hb : Below w.heap.size w w') : OwnB w' p cap l :=
  h.of (fun b _ hlt => hb.block b hlt)

/-- the mark of a bool -/
def mkB (k : Int) : Bool := k % 3 == 0
def markBL (k : Int) (n : Nat) : List Bool := (List.range n).map (fun i : Nat => mkB (k + (i : Int)))
theorem markBL_len (k : Int) (n : Nat) : (markBL k n).length = n := by simp [markBL]
def mixB (k0 : Int) (xs : List Bool) (j : Nat) : List Bool := markBL k0 j ++ xs.drop j
theorem mixB_len (k0 : Int) (xs : List Bool) (j : Nat) (h : j ≤ xs.length) : (mixB k0 xs j).length = xs.length := by simp [mixB, markBL]; omega
theorem mixB_zero (k0 : Int) (xs : List Bool) : mixB k0 xs 0 = xs := by simp [mixB, markBL]
theorem mixB_all (k0 : Int) (xs : List Bool) : mixB k0 xs xs.length = markBL k0 xs.length := by simp [mixB]
theorem mixB_step (k0 : Int) (xs : List Bool) (j : Nat) (h : j < xs.length) : mixB k0 xs (j + 1) = (mixB k0 xs j).set j (mkB (k0 + (j : Int))) := by
  have e1 : markBL k0 (j + 1) = markBL k0 j ++ [mkB (k0 + (j : Int))] := by simp [markBL, List.range_succ]
  have e2 : xs.drop j = xs[j] :: xs.drop (j + 1) := List.drop_eq_getElem_cons h
  have hl : (markBL k0 j).length = j := by simp [markBL]
  unfold mixB
  rw [e1, e2, List.append_assoc, List.set_append_right _ _ (by omega), hl, Nat.sub_self]
  rfl

theorem szBools_any (a : Option Addr) (len cap : Nat) (left : Int) (w : World) (h : len ≤ 9223372036854775807) (h0 : 0 ≤ left) (h1 : left ≤ 1048576) :
    Calls Try.prog 70 #[.slice a len cap, .int .i64 left] w fun e w' => e = .returned (.int .i64 (if (len : Int) ≤ left then left - len else -1)) ∧ w' = w := by
  by_cases hl : (len : Int) ≤ left
  · have hI : ¬ (left - (len : Int) < 0) := by omega
    go_enter Try.func70, Try.ntmps70
    go_wp2
    go_ret
    exact ⟨by simp [hl], rfl⟩
  · have hI : (left - (len : Int) < 0) := by omega
    go_enter Try.func70, Try.ntmps70
    go_wp2
    go_ret
    exact ⟨by simp [hl], rfl⟩

/-- j of the bools are copied -/
def cpB (xs : List Bool) (j : Nat) : List Bool := xs.take j ++ nays (xs.length - j)
theorem cpB_zero (xs : List Bool) : cpB xs 0 = nays xs.length := by simp [cpB]
theorem cpB_all (xs : List Bool) : cpB xs xs.length = xs := by simp [cpB, nays]
theorem cpB_len (xs : List Bool) (j : Nat) (h : j ≤ xs.length) : (cpB xs j).length = xs.length := by simp [cpB, nays]; omega
theorem cpB_step (xs : List Bool) (j : Nat) (h : j < xs.length) : cpB xs (j + 1) = (cpB xs j).set j xs[j] := by
  have hl : (xs.take j).length = j := by simp; omega
  have e : nays (xs.length - j) = false :: nays (xs.length - (j + 1)) := by
    unfold nays
    rw [show xs.length - j = (xs.length - (j + 1)) + 1 by omega, List.replicate_succ]
  unfold cpB
  rw [e, List.take_succ_eq_append_getElem h, List.append_assoc, List.set_append_right _ _ (by omega), hl, Nat.sub_self]
  rfl

set_option maxRecDepth 100000 in
set_option maxHeartbeats 1000000 in
theorem toBools_any (a : Option Addr) (cap : Nat) (xs : List Bool) (w : World) (hx : BoolsAt w a xs) (hc : xs.length ≤ cap) (hm : cap ≤ 9223372036854775807) (hl : xs.length ≤ 1048576) :
    Calls Try.prog 71 #[.slice a xs.length cap] w fun e w' => e = .returned (.slice (some ⟨w.heap.size, 0, none⟩) xs.length xs.length) ∧ ORow 4 1 w' w.heap.size xs.length xs.length (xs.map Value.bool) ∧ Below w.heap.size w w' := by
  have hmk : ∀ W : World, (Instr.makeSlice 33 (.int .i64 (xs.length : Int)) (.int .i64 (xs.length : Int))).run Try.prog W = _ := fun W => make_bools xs.length hl W
  have HX := Hid.intro hx
  clear hx
  have hnew : ORow 4 1 (w.alloc (.cells ((nays xs.length).map Value.bool).toArray 4)) w.heap.size xs.length xs.length ((cpB xs 0).map Value.bool) := by
    have := ORow.newB (w := w) (l := nays xs.length)
    rw [cpB_zero]
    simpa [nays] using this
  have HN := Hid.intro hnew
  have hb0 : ∀ o, Below w.heap.size w (w.alloc o) := fun o => (Below.refl _ w).alloc (Nat.le_refl _) o
  clear hnew
  go_enter Try.func71, Try.ntmps71
  go_wp2
  go_loopw [4] (fun i wr => ∃ k : Nat, k ≤ xs.length ∧ i = .int .i64 k ∧ Below w.heap.size w wr ∧ Hid (ORow 4 1 wr w.heap.size xs.length xs.length ((cpB xs k).map Value.bool))) (fun i _ => xs.length - (intOf i).toNat)
  case atStart => exact ⟨0, Nat.zero_le _, rfl, hb0 _, HN⟩
  case round =>
    clear HN hmk
    obtain ⟨k, hk, rfl, hbl, HR⟩ := hrel
    by_cases hlt : k < xs.length
    · rcases HX.out with hx | ⟨b, off, rfl, hb, hcells⟩
      · subst hx; simp at hlt
      have hk0 : (0 : Int) ≤ (k : Int) := by omega
      have hk1 : (k : Int) < (xs.length : Int) := by omega
      have hc1 : wr.cell? ⟨b, off + k, none⟩ = some (.bool xs[k]) := (hbl.cell (p := ⟨b, off + k, none⟩) hb).trans (hcells k hlt)
      have hrow := HR.out
      have hlen := cpB_len xs k hk
      have hc2 : wr.cell? ⟨w.heap.size, k, none⟩ = some (.bool ((cpB xs k)[k]'(by omega))) := hrow.get k _ (by simp [hlen, hlt])
      have hf : wr.frozen? ⟨w.heap.size, k, none⟩ = false := by
        obtain ⟨cur, e1, _⟩ := hrow
        simp [World.frozen?, e1]
      have HS := Hid.intro (hrow.setB k hlt xs[k])
      clear hcells HX hrow HR
      go_wp2
      go_roundw
      case rel =>
        refine ⟨k + 1, by omega, by go_num, hbl.setCell (p := ⟨w.heap.size, k, none⟩) (Nat.le_refl _) _, ?_⟩
        show ORow _ _ _ _ _ _ _
        rw [cpB_step xs k hlt]
        simpa using HS.out
      case measure => simp [intOf]; omega
    · have hk' : k = xs.length := by omega
      subst hk'
      have hrow := HR.out
      rw [cpB_all] at hrow
      have HR' := Hid.intro hrow
      clear hrow HR
      go_wp2
      go_ret
      exact ⟨rfl, HR'.out, hbl⟩

end Go.Proofs.Ytgcpjddnnamdhaa
