/-
  toIntS: a copy of ints, in a block of its own.
-/
import Derived.Test.YtlifkfemdknndaaProg
import Derived.Test.YtlifkfemdknndaaWrd
import Derived.Test.YtlifkfemdknndaaIRow
import Derived.Test.YtlifkfemdknndaaIntsM
import Derived.Test.YtlifkfemdknndaaAllAre
/-
  MemNew and MemOk of the program and of the model.
-/
namespace Go.Proofs.Ytlifkfemdknndaa
open Go.RowKit
set_option linter.unusedSimpArgs false
set_option linter.unusedVariables false

def memOkB (xs : List Int) : Bool := decide (xs.length = 64) && xs.all wrdB
theorem memOk_no {xs : List Int} (h : xs.length ≠ 64) : memOkB xs = false := by simp [memOkB, h]
theorem memOk_len {xs : List Int} (h : memOkB xs = true) : xs.length = 64 := by simp [memOkB] at h; exact h.1
theorem memOk_hit {xs : List Int} {k : Nat} (h : k < xs.length) (hb : wrdB xs[k] = false) : memOkB xs = false := by
  have : xs.all wrdB = false := List.all_eq_false.2 ⟨xs[k], List.getElem_mem h, by simp [hb]⟩
  simp [memOkB, this]
theorem memOk_all {xs : List Int} (hl : xs.length = 64) (h : (xs.take 64).all wrdB = true) : memOkB xs = true := by
  rw [List.take_of_length_le (by omega)] at h
  simp only [memOkB, hl, h]; rfl
theorem all_take {xs : List Int} {k : Nat} (h : k < xs.length) (ha : (xs.take k).all wrdB = true) (hb : wrdB xs[k] = true) : (xs.take (k + 1)).all wrdB = true := by
  rw [List.take_succ_eq_append_getElem h, List.all_append, ha]; simp [hb]

theorem memOk_of {xs : List Int} (hl : xs.length = 64) : memOkB xs = allIn xs 0 65535 := by
  simp only [memOkB, hl]; rfl

set_option maxHeartbeats 1000000 in
theorem impl_MemOk (p : Option Addr) (cap : Nat) (xs : List Int) (w : World) (hx : IntsAt w p xs) (hc : xs.length ≤ cap) (hm : cap ≤ 9223372036854775807) :
    Calls Try.prog 95 #[.agg #[.slice p xs.length cap]] w fun e w' => e = .returned (.bool (memOkB xs)) ∧ Below w.heap.size w w' := by
  have hbl : ∀ o, Below w.heap.size w (w.alloc o) := fun o => (Below.refl _ w).alloc (Nat.le_refl _) o
  have HC := Hid.intro (fun o => allAre_w p cap xs (w.alloc o) (hx.below (hbl o)) hc hm)
  clear hx
  by_cases hl : xs.length = 64
  · have HN := Hid.intro (memOk_of hl)
    have hI : ((xs.length : Int) == 64) = true := by simp; omega
    clear hl
    go_enter Try.func95, Try.ntmps95
    go_wp2_with (go_at_call 30; refine (HC.out _).mono ?_; rintro e w' ⟨rfl, rfl⟩)
    go_ret
    exact ⟨by rw [HN.out]; rfl, hbl _⟩
  · have hI : ((xs.length : Int) == 64) = false := by simp; omega
    have HN := Hid.intro (memOk_no hl)
    go_enter Try.func95, Try.ntmps95
    go_wp2
    go_ret
    exact ⟨by rw [HN.out]; rfl, hbl _⟩

set_option maxHeartbeats 1000000 in
theorem spec_MemOk (p : Option Addr) (cap : Nat) (xs : List Int) (w : World) (hx : IntsAt w p xs) (hc : xs.length ≤ cap) (hm : cap ≤ 9223372036854775807) :
    Calls Try.prog 83 #[.agg #[.slice p xs.length cap]] w fun e w' => e = .returned (.bool (memOkB xs)) ∧ Below w.heap.size w w' := by
  have hbl : ∀ o, Below w.heap.size w (w.alloc o) := fun o => (Below.refl _ w).alloc (Nat.le_refl _) o
  have HX := Hid.intro hx
  clear hx
  by_cases hl : xs.length = 64
  · obtain ⟨n, hn⟩ : ∃ n, n = xs.length := ⟨_, rfl⟩
    rw [← hn] at hc ⊢
    rw [hl] at hn
    subst hn
    have HL := Hid.intro hl
    clear hl
    go_enter Try.func83, Try.ntmps83
    go_wp2
    go_loopw [3] (fun i wr => ∃ k : Nat, k ≤ 64 ∧ i = .int .i64 k ∧ wr = w.alloc (.cells #[.slice p 64 cap] 43) ∧ Hid ((xs.take k).all wrdB = true)) (fun i _ => 64 - (intOf i).toNat)
    case atStart => exact ⟨0, by omega, rfl, rfl, rfl⟩
    case round =>
      obtain ⟨k, hk, rfl, rfl, HF⟩ := hrel
      by_cases hlt : k < 64
      · have hlx : k < xs.length := by have := HL.out; omega
        rcases HX.out with hx | ⟨b, off, rfl, hb, hcells⟩
        · subst hx; simp at hlx
        have hk0 : (0 : Int) ≤ (k : Int) := by omega
        have hk1 : (k : Int) < 64 := by omega
        have hc1 : (w.alloc (.cells #[.slice (some ⟨b, off, none⟩) 64 cap] 43)).cell? ⟨b, off + k, none⟩ = some (.int .i64 xs[k]) := ((hbl _).cell (p := ⟨b, off + k, none⟩) hb).trans (hcells k hlx)
        clear hcells
        cases hw : inB xs[k] 0 65535
        · have HN := Hid.intro (memOk_hit hlx hw)
          go_wp2_with (go_at_call 42; refine (in_any _ _ _ _).mono ?_; rintro e w' ⟨rfl, rfl⟩)
          go_ret
          exact ⟨by rw [HN.out]; rfl, hbl _⟩
        · have HN := Hid.intro (all_take hlx HF.out hw)
          go_wp2_with (go_at_call 42; refine (in_any _ _ _ _).mono ?_; rintro e w' ⟨rfl, rfl⟩)
          go_roundw
          case rel => exact ⟨k + 1, by omega, by go_num, by simp, HN⟩
          case measure => simp [intOf]; omega
      · have hk' : k = 64 := by omega
        subst hk'
        have HN := Hid.intro (memOk_all HL.out HF.out)
        go_wp2
        go_ret
        exact ⟨by rw [HN.out]; rfl, hbl _⟩
  · have hI : ((xs.length : Int) != 64) = true := by simp; omega
    have HN := Hid.intro (memOk_no hl)
    go_enter Try.func83, Try.ntmps83
    go_wp2
    go_ret
    exact ⟨by rw [HN.out]; rfl, hbl _⟩

/-- noughts -/
def noughts (n : Nat) : List Int := List.replicate n 0
theorem made_ints (n : Nat) : (madeCells (Value.int .i64 0).cells (n * 1)) = ((noughts n).map (Value.int .i64)).toArray := by
  simp [madeCells, noughts, Value.cells]
  apply Array.ext
  · simp
  · intro i h1 h2
    simp [Nat.mod_one]

theorem make_ints (n : Nat) (hn : n ≤ 1048576) (W : World) : (Instr.makeSlice 24 (.int .i64 (n : Int)) (.int .i64 (n : Int))).run Try.prog W =
      .ok (.slice (some ⟨W.heap.size, 0, none⟩) n n) (W.alloc (.cells ((noughts n).map (Value.int .i64)).toArray 3)) := by
  obtain ⟨i0, hi, hz0, hz1, hz2⟩ := info_parts Try.infoInt
  have := run_make (P := Try.prog) W 24 3 i0 _ Try.underlying24 hi hz0 .i64 .i64 (n : Int) (n : Int) (by omega) (by omega) (by rw [hz2]; omega) (by omega)
  rw [hz1] at this
  rw [← made_ints]
  simpa using this

theorem ORow.new {w : World} {l : List Int} : ORow 3 1 (w.alloc (.cells (l.map (Value.int .i64)).toArray 3)) w.heap.size l.length l.length (l.map (Value.int .i64)) :=
  ⟨_, by show (w.heap.push _)[w.heap.size]? = _; simp; rfl, by simp, Nat.le_refl _, by simp, by simp [List.take_of_length_le]⟩

theorem impl_MemNew (w : World) : Calls Try.prog 97 #[] w fun e w' => ∃ g, e = .returned (.agg #[.slice (some ⟨g, 0, none⟩) 64 64]) ∧ ORow 3 1 w' g 64 64 ((noughts 64).map (Value.int .i64)) ∧ w.heap.size ≤ g ∧ Below w.heap.size w w' := by
  have hmk : ∀ W : World, (Instr.makeSlice 24 (.int .i64 64) (.int .i64 64)).run Try.prog W = _ := fun W => make_ints 64 (by omega) W
  go_enter Try.func97, Try.ntmps97
  go_wp2
  refine bodyPost_ret (v := .agg #[.slice (some ⟨w.heap.size + 1, 0, none⟩) 64 64]) (by simp [results, Try.results97, go_sem]) rfl ⟨_, rfl, ?_, by omega, ?_⟩
  · have := ORow.new (w := w.alloc (Obj.cells #[Value.slice (some { block := w.heap.size + 1, off := 0 }) 64 64] 43)) (l := noughts 64)
    simpa [noughts] using this
  · exact ((Below.refl _ w).alloc (Nat.le_refl _) _).alloc (by simp) _

theorem spec_MemNew (w : World) : Calls Try.prog 94 #[] w fun e w' => ∃ g, e = .returned (.agg #[.slice (some ⟨g, 0, none⟩) 64 64]) ∧ ORow 3 1 w' g 64 64 ((noughts 64).map (Value.int .i64)) ∧ w.heap.size ≤ g ∧ Below w.heap.size w w' := by
  have hmk : ∀ W : World, (Instr.makeSlice 24 (.int .i64 64) (.int .i64 64)).run Try.prog W = _ := fun W => make_ints 64 (by omega) W
  go_enter Try.func94, Try.ntmps94
  go_wp2
  refine bodyPost_ret (v := .agg #[.slice (some ⟨w.heap.size + 1, 0, none⟩) 64 64]) (by simp [results, Try.results94, go_sem]) rfl ⟨_, rfl, ?_, by omega, ?_⟩
  · have := ORow.new (w := w.alloc (Obj.cells #[Value.slice (some { block := w.heap.size + 1, off := 0 }) 64 64] 43)) (l := noughts 64)
    simpa [noughts] using this
  · exact ((Below.refl _ w).alloc (Nat.le_refl _) _).alloc (by simp) _

end Go.Proofs.Ytlifkfemdknndaa

/-
  markIntS, heldIntS from whatever number on; szIntS, toIntS.
-/
namespace Go.Proofs.Ytlifkfemdknndaa
open Go.RowKit
set_option linter.unusedSimpArgs false
set_option linter.unusedVariables false

theorem markL_len (k : Int) (n : Nat) : (markL k n).length = n := by simp [markL]
def mixG (k0 : Int) (xs : List Int) (j : Nat) : List Int := markL k0 j ++ xs.drop j
theorem mixG_len (k0 : Int) (xs : List Int) (j : Nat) (h : j ≤ xs.length) : (mixG k0 xs j).length = xs.length := by simp [mixG, markL]; omega
theorem mixG_zero (k0 : Int) (xs : List Int) : mixG k0 xs 0 = xs := by simp [mixG, markL]
theorem mixG_all (k0 : Int) (xs : List Int) : mixG k0 xs xs.length = markL k0 xs.length := by simp [mixG]
theorem mixG_step (k0 : Int) (xs : List Int) (j : Nat) (h : j < xs.length) : mixG k0 xs (j + 1) = (mixG k0 xs j).set j (k0 + (j : Int)) := by
  have e1 : markL k0 (j + 1) = markL k0 j ++ [k0 + (j : Int)] := by simp [markL, List.range_succ]
  have e2 : xs.drop j = xs[j] :: xs.drop (j + 1) := List.drop_eq_getElem_cons h
  have hl : (markL k0 j).length = j := by simp [markL]
  unfold mixG
  rw [e1, e2, List.append_assoc, List.set_append_right _ _ (by omega), hl, Nat.sub_self]
  rfl

theorem OwnI.ints {w : World} {p : Option Addr} {cap : Nat} {l : List Int} (h : OwnI w p cap l) : IntsAt w p l := by
  rcases h with h | ⟨g, rfl, h⟩
  · exact .inl h
  · exact h.ints
theorem OwnI.of {w w' : World} {p : Option Addr} {cap : Nat} {l : List Int} (h : OwnI w p cap l) (hb : ∀ b, p = some ⟨b, 0, none⟩ → b < w.heap.size → w'.heap[b]? = w.heap[b]?) : OwnI w' p cap l := by
  rcases h with h | ⟨g, rfl, h⟩
  · exact .inl h
  · exact .inr ⟨g, rfl, h.of (hb g rfl h.lt)⟩
theorem OwnI.below {w w' : World} {p : Option Addr} {cap : Nat} {l : List Int} (h : OwnI w p cap l) (hb : Below w.heap.size w w') : OwnI w' p cap l :=
  h.of (fun b _ hlt => hb.block b hlt)

end Go.Proofs.Ytlifkfemdknndaa

namespace Go.Proofs.Ytlifkfemdknndaa
open Go.RowKit
set_option linter.unusedSimpArgs false
set_option linter.unusedVariables false

/-- j of the numbers are copied -/
def cpL (xs : List Int) (j : Nat) : List Int := xs.take j ++ noughts (xs.length - j)
theorem cpL_zero (xs : List Int) : cpL xs 0 = noughts xs.length := by simp [cpL]
theorem cpL_all (xs : List Int) : cpL xs xs.length = xs := by simp [cpL, noughts]
theorem cpL_len (xs : List Int) (j : Nat) (h : j ≤ xs.length) : (cpL xs j).length = xs.length := by simp [cpL, noughts]; omega
theorem cpL_step (xs : List Int) (j : Nat) (h : j < xs.length) : cpL xs (j + 1) = (cpL xs j).set j xs[j] := by
  have hl : (xs.take j).length = j := by simp; omega
  have e : noughts (xs.length - j) = 0 :: noughts (xs.length - (j + 1)) := by
    unfold noughts
    rw [show xs.length - j = (xs.length - (j + 1)) + 1 by omega, List.replicate_succ]
  unfold cpL
  rw [e, List.take_succ_eq_append_getElem h, List.append_assoc, List.set_append_right _ _ (by omega), hl, Nat.sub_self]
  rfl

end Go.Proofs.Ytlifkfemdknndaa
