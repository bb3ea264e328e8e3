/-
  Rows of bools in memory: whether two are the same, marked, held, their size, a copy.
-/
import Derived.Test.YtgcpjddnnamdhabProg
import Derived.Test.YtgcpjddnnamdhabORow
import Derived.Test.YtgcpjddnnamdhabWld
import Derived.Test.YtgcpjddnnamdhabKept
import Derived.BigQuiet
namespace Go.Proofs.Ytgcpjddnnamdhab
open Go.RowKit
set_option linter.unusedSimpArgs false
set_option linter.unusedVariables false

/-- bools in memory -/
def BoolsAt (w : World) (a : Option Addr) (l : List Bool) : Prop :=
  l = [] ∨ ∃ b off, a = some ⟨b, off, none⟩ ∧ b < w.heap.size ∧ ∀ k (h : k < l.length), w.cell? ⟨b, off + k, none⟩ = some (.bool l[k])
theorem BoolsAt.of {w w' : World} {a : Option Addr} {l : List Bool} (h : BoolsAt w a l) (hs : w.heap.size ≤ w'.heap.size) (hb : ∀ b off, a = some ⟨b, off, none⟩ → b < w.heap.size → w'.heap[b]? = w.heap[b]?) : BoolsAt w' a l := by
  rcases h with h | ⟨b, off, h1, h2, h3⟩
  · exact .inl h
  · exact .inr ⟨b, off, h1, by omega, fun k hk => (World.cell?_of_block (w := w) (a := ⟨b, _, none⟩) (hb b off h1 h2)).trans (h3 k hk)⟩
theorem BoolsAt.below {w w' : World} {a : Option Addr} {l : List Bool} (h : BoolsAt w a l) (hb : Below w.heap.size w w') : BoolsAt w' a l :=
  h.of hb.size (fun b _ _ hlt => hb.block b hlt)

theorem Try.infoBool : (Try.prog.info? 4).map (fun i => (i.zero, i.size, i.bytes)) = some (some (.bool false), 1, 1) := by kernel_rfl

/-- none of them is so -/
def nays (n : Nat) : List Bool := List.replicate n false
theorem made_bools (n : Nat) : (madeCells (Value.bool false).cells (n * 1)) = ((nays n).map Value.bool).toArray := by
  simp [madeCells, nays, Value.cells]
  apply Array.ext
  · simp
  · intro i h1 h2
    simp [Nat.mod_one]
theorem make_bools (n : Nat) (hn : n ≤ 1048576) (W : World) : (Instr.makeSlice 22 (.int .i64 (n : Int)) (.int .i64 (n : Int))).run Try.prog W =
      .ok (.slice (some ⟨W.heap.size, 0, none⟩) n n) (W.alloc (.cells ((nays n).map Value.bool).toArray 4)) := by
  obtain ⟨i0, hi, hz0, hz1, hz2⟩ := info_parts Try.infoBool
  have := run_make (P := Try.prog) W 22 4 i0 _ Try.underlying22 hi hz0 .i64 .i64 (n : Int) (n : Int) (by omega) (by omega) (by rw [hz2]; omega) (by omega)
  rw [hz1] at this
  rw [← made_bools]
  simpa using this

theorem ORow.newB {w : World} {l : List Bool} : ORow 4 1 (w.alloc (.cells (l.map Value.bool).toArray 4)) w.heap.size l.length l.length (l.map Value.bool) :=
  ⟨_, by show (w.heap.push _)[w.heap.size]? = _; simp; rfl, by simp, Nat.le_refl _, by simp, by simp [List.take_of_length_le]⟩
theorem ORow.bools {w : World} {g cap : Nat} {l : List Bool} (h : ORow 4 1 w g cap l.length (l.map Value.bool)) : BoolsAt w (some ⟨g, 0, none⟩) l :=
  .inr ⟨g, 0, rfl, h.lt, fun k hk => by have := h.get k (.bool l[k]) (by simp [hk]); simpa using this⟩
theorem ORow.setB {w : World} {g cap n : Nat} {l : List Bool} (h : ORow 4 1 w g cap n (l.map Value.bool)) (j : Nat) (hj : j < n) (v : Bool) :
    ORow 4 1 (w.setCell ⟨g, j, none⟩ (.bool v)) g cap n ((l.set j v).map Value.bool) := by
  obtain ⟨cur, h1, h2, h3, h4, h5⟩ := h
  refine ⟨cur.setIfInBounds j (.bool v), ?_, by simpa using h2, h3, by simpa using h4, ?_⟩
  · simp only [World.setCell, Array.getElem?_modify, h1, if_true, Option.map_some]
    rfl
  · rw [List.map_set, ← h5]
    simp [List.take_set]

set_option maxRecDepth 100000 in
set_option maxHeartbeats 1000000 in
theorem eqBoolS_same (p q : Option Addr) (c1 c2 : Nat) (xs : List Bool) (w : World) (hp : BoolsAt w p xs) (hq : BoolsAt w q xs) (h1 : xs.length ≤ c1) (h2 : c1 ≤ 9223372036854775807) (h3 : xs.length ≤ c2) (h4 : c2 ≤ 9223372036854775807) :
    Calls Try.prog 9 #[.slice p xs.length c1, .slice q xs.length c2] w fun e w' => e = .returned (.bool true) ∧ Below w.heap.size w w' := by
  have HP := Hid.intro hp
  have HQ := Hid.intro hq
  clear hp hq
  go_enter Try.func9, Try.ntmps9
  go_wp2
  go_loopw [5] (fun i wr => ∃ k : Nat, k ≤ xs.length ∧ i = .int .i64 k ∧ Below w.heap.size w wr) (fun i _ => xs.length - (intOf i).toNat)
  case atStart => exact ⟨0, Nat.zero_le _, rfl, Below.refl _ _⟩
  case round =>
    obtain ⟨k, hk, rfl, hbl⟩ := hrel
    by_cases hlt : k < xs.length
    · rcases HP.out with hx | ⟨b, off, rfl, hb, hcells⟩
      · subst hx; simp at hlt
      rcases HQ.out with hx' | ⟨b', off', rfl, hb', hcells'⟩
      · subst hx'; simp at hlt
      have hk0 : (0 : Int) ≤ (k : Int) := by omega
      have hk1 : (k : Int) < (xs.length : Int) := by omega
      obtain ⟨x, hx⟩ : ∃ x, x = xs[k] := ⟨_, rfl⟩
      have hc1 : wr.cell? ⟨b, off + k, none⟩ = some (.bool x) := (hbl.cell (p := ⟨b, off + k, none⟩) hb).trans ((hcells k hlt).trans (by rw [hx]))
      have hc2 : wr.cell? ⟨b', off' + k, none⟩ = some (.bool x) := (hbl.cell (p := ⟨b', off' + k, none⟩) hb').trans ((hcells' k hlt).trans (by rw [hx]))
      clear hcells hcells' HP HQ hx
      go_wp2_with fail
      go_quiet (fail)
      all_goals go_wp2
      all_goals go_roundw
      case rel => exact ⟨k + 1, by omega, by go_num, by first | exact hbl.drew | exact ⟨hbl.os, hbl.tape, hbl.output, hbl.size, hbl.block⟩⟩
      case measure => simp [intOf]; omega
    · have hk' : k = xs.length := by omega
      subst hk'
      go_wp2
      go_ret
      exact ⟨rfl, hbl⟩

/-- a row of its own, or none -/
def OwnB (w : World) (p : Option Addr) (cap : Nat) (l : List Bool) : Prop := l = [] ∨ ∃ g, p = some ⟨g, 0, none⟩ ∧ ORow 4 1 w g cap l.length (l.map Value.bool)
theorem OwnB.bools {w : World} {p : Option Addr} {cap : Nat} {l : List Bool} (h : OwnB w p cap l) : BoolsAt w p l := by
  rcases h with h | ⟨g, rfl, h⟩
  · exact .inl h
  · exact h.bools
theorem OwnB.of {w w' : World} {p : Option Addr} {cap : Nat} {l : List Bool} (h : OwnB w p cap l) (hb : ∀ b, p = some ⟨b, 0, none⟩ → b < w.heap.size → w'.heap[b]? = w.heap[b]?) : OwnB w' p cap l := by
  rcases h with h | ⟨g, rfl, h⟩
  · exact .inl h
  · exact .inr ⟨g, rfl, h.of (hb g rfl h.lt)⟩
theorem OwnB.below {w w' : World} {p : Option Addr} {cap : Nat} {l : List Bool} (h : OwnB w p cap l) (hb : Below w.heap.size w w') : OwnB w' p cap l :=
  h.of (fun b _ hlt => hb.block b hlt)

/-- the mark of a bool -/
def mkB (k : Int) : Bool := k % 3 == 0
def markBL (k : Int) (n : Nat) : List Bool := (List.range n).map (fun i : Nat => mkB (k + (i : Int)))
theorem markBL_len (k : Int) (n : Nat) : (markBL k n).length = n := by simp [markBL]
def mixB (k0 : Int) (xs : List Bool) (j : Nat) : List Bool := markBL k0 j ++ xs.drop j
theorem mixB_len (k0 : Int) (xs : List Bool) (j : Nat) (h : j ≤ xs.length) : (mixB k0 xs j).length = xs.length := by simp [mixB, markBL]; omega
theorem mixB_zero (k0 : Int) (xs : List Bool) : mixB k0 xs 0 = xs := by simp [mixB, markBL]
theorem mixB_all (k0 : Int) (xs : List Bool) : mixB k0 xs xs.length = markBL k0 xs.length := by simp [mixB]
theorem mixB_step (k0 : Int) (xs : List Bool) (j : Nat) (h : j < xs.length) : mixB k0 xs (j + 1) = (mixB k0 xs j).set j (mkB (k0 + (j : Int))) := by
  have e1 : markBL k0 (j + 1) = markBL k0 j ++ [mkB (k0 + (j : Int))] := by simp [markBL, List.range_succ]
  have e2 : xs.drop j = xs[j] :: xs.drop (j + 1) := List.drop_eq_getElem_cons h
  have hl : (markBL k0 j).length = j := by simp [markBL]
  unfold mixB
  rw [e1, e2, List.append_assoc, List.set_append_right _ _ (by omega), hl, Nat.sub_self]
  rfl

set_option maxRecDepth 100000 in
set_option maxHeartbeats 1000000 in
theorem markB_gen (p : Option Addr) (cap : Nat) (l : List Bool) (k0 : Int) (w : World) (h : OwnB w p cap l) (hk0 : 0 ≤ k0) (hk1 : k0 ≤ 1000000000) (hl : l.length ≤ 10000000) (h1 : l.length ≤ cap) (h2 : cap ≤ 9223372036854775807) :
    Calls Try.prog 10 #[.slice p l.length cap, .int .i64 k0] w fun e w' => e = .returned (.int .i64 (k0 + (l.length : Int))) ∧ OwnB w' p cap (markBL k0 l.length) ∧ Kept (fun k => p = some ⟨k, 0, none⟩) w w' := by
  go_enter Try.func10, Try.ntmps10
  go_wp2
  go_loopw [1, 5] (fun kk i wr => ∃ j : Nat, j ≤ l.length ∧ i = .int .i64 j ∧ kk = .int .i64 (k0 + (j : Int)) ∧ Hid (l = [] ∨ ∃ g, p = some ⟨g, 0, none⟩ ∧ ORow 4 1 wr g cap l.length ((mixB k0 l j).map Value.bool)) ∧ Kept (fun k => p = some ⟨k, 0, none⟩) w wr) (fun _ i _ => l.length - (intOf i).toNat)
  case atStart => exact ⟨0, Nat.zero_le _, rfl, by simp, by rw [mixB_zero]; exact h, Kept.refl _ _⟩
  case round =>
    clear h
    obtain ⟨j, hj, rfl, rfl, HO, hkp⟩ := hrel
    by_cases hlt : j < l.length
    · rcases HO.out with hx | ⟨g, rfl, hrow⟩
      · subst hx; simp at hlt
      have hj0 : (0 : Int) ≤ (j : Int) := by omega
      have hj1 : (j : Int) < (l.length : Int) := by omega
      have hm := mixB_len k0 l j hj
      have hc : wr.cell? ⟨g, j, none⟩ = some (.bool ((mixB k0 l j)[j]'(by omega))) := hrow.get j _ (by simp [hm, hlt])
      have hf : wr.frozen? ⟨g, j, none⟩ = false := by
        obtain ⟨cur, e1, _⟩ := hrow
        simp [World.frozen?, e1]
      have HS := Hid.intro (hrow.setB j hlt (mkB (k0 + (j : Int))))
      clear hrow HO
      go_wp2
      go_roundw
      case rel =>
        refine ⟨j + 1, by omega, by go_num, by go_num, ?_, hkp.trans (Kept.setCell (D := fun k => (some ⟨g, 0, none⟩ : Option Addr) = some ⟨k, 0, none⟩) (p := ⟨g, j, none⟩) _ rfl _)⟩
        show _ ∨ _
        rw [mixB_step k0 l j hlt]
        exact .inr ⟨g, rfl, by simpa [mkB] using HS.out⟩
      case measure => simp [intOf]; omega
    · have hj' : j = l.length := by omega
      subst hj'
      go_wp2
      go_ret
      refine ⟨rfl, ?_, hkp⟩
      rcases HO.out with hx | ⟨g, rfl, hrow⟩
      · left; rw [hx]; rfl
      · rw [mixB_all] at hrow
        exact .inr ⟨g, rfl, by rw [markBL_len]; exact hrow⟩

set_option maxRecDepth 100000 in
set_option maxHeartbeats 1000000 in
theorem heldB_gen (p : Option Addr) (cap n : Nat) (k0 : Int) (w : World) (h : BoolsAt w p (markBL k0 n)) (hk0 : 0 ≤ k0) (hk1 : k0 ≤ 1000000000) (hl : n ≤ 10000000) (h1 : n ≤ cap) (h2 : cap ≤ 9223372036854775807) :
    Calls Try.prog 11 #[.slice p n cap, .int .i64 k0] w fun e w' => e = .returned (.int .i64 (k0 + (n : Int))) ∧ w' = w := by
  have HO := Hid.intro h
  clear h
  go_enter Try.func11, Try.ntmps11
  go_wp2
  go_loopw [1, 5] (fun kk i wr => ∃ j : Nat, j ≤ n ∧ i = .int .i64 j ∧ kk = .int .i64 (k0 + (j : Int)) ∧ wr = w) (fun _ i _ => n - (intOf i).toNat)
  case atStart => exact ⟨0, Nat.zero_le _, rfl, by simp, rfl⟩
  case round =>
    obtain ⟨j, hj, rfl, rfl, rfl⟩ := hrel
    by_cases hlt : j < n
    · have hml := markBL_len k0 n
      rcases HO.out with hx | ⟨b, off, rfl, hb, hcells⟩
      · rw [hx] at hml; simp at hml; omega
      have hj0 : (0 : Int) ≤ (j : Int) := by omega
      have hj1 : (j : Int) < (n : Int) := by omega
      have hc := hcells j (by omega)
      have hv : (markBL k0 n)[j]'(by omega) = ((k0 + (j : Int)) % 3 == 0) := by simp [markBL, mkB]
      rw [hv] at hc
      clear hcells HO hv
      go_wp2
      go_roundw
      case rel => exact ⟨j + 1, by omega, by go_num, by go_num, by simp⟩
      case measure => simp [intOf]; omega
    · have hj' : j = n := by omega
      subst hj'
      go_wp2
      go_ret
      exact ⟨rfl, rfl⟩

/-- j of the bools are copied -/
def cpB (xs : List Bool) (j : Nat) : List Bool := xs.take j ++ nays (xs.length - j)
theorem cpB_zero (xs : List Bool) : cpB xs 0 = nays xs.length := by simp [cpB]
theorem cpB_all (xs : List Bool) : cpB xs xs.length = xs := by simp [cpB, nays]
theorem cpB_len (xs : List Bool) (j : Nat) (h : j ≤ xs.length) : (cpB xs j).length = xs.length := by simp [cpB, nays]; omega
theorem cpB_step (xs : List Bool) (j : Nat) (h : j < xs.length) : cpB xs (j + 1) = (cpB xs j).set j xs[j] := by
  have hl : (xs.take j).length = j := by simp; omega
  have e : nays (xs.length - j) = false :: nays (xs.length - (j + 1)) := by
    unfold nays
    rw [show xs.length - j = (xs.length - (j + 1)) + 1 by omega, List.replicate_succ]
  unfold cpB
  rw [e, List.take_succ_eq_append_getElem h, List.append_assoc, List.set_append_right _ _ (by omega), hl, Nat.sub_self]
  rfl

end Go.Proofs.Ytgcpjddnnamdhab
