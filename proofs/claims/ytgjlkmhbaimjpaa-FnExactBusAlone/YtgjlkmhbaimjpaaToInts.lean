/-
  toIntS: a copy of ints, in a block of its own.
-/
import Derived.Test.YtgjlkmhbaimjpaaProg
import Derived.Test.YtgjlkmhbaimjpaaMem
import Derived.Test.YtgjlkmhbaimjpaaMarkG
namespace Go.Proofs.Ytgjlkmhbaimjpaa
open Go.RowKit
set_option linter.unusedSimpArgs false
set_option linter.unusedVariables false

/-- j of the numbers are copied -/
def cpL (xs : List Int) (j : Nat) : List Int := xs.take j ++ noughts (xs.length - j)
theorem cpL_zero (xs : List Int) : cpL xs 0 = noughts xs.length := by simp [cpL]
theorem cpL_all (xs : List Int) : cpL xs xs.length = xs := by simp [cpL, noughts]
theorem cpL_len (xs : List Int) (j : Nat) (h : j ≤ xs.length) : (cpL xs j).length = xs.length := by simp [cpL, noughts]; omega
theorem cpL_step (xs : List Int) (j : Nat) (h : j < xs.length) : cpL xs (j + 1) = (cpL xs j).set j xs[j] := by
  have hl : (xs.take j).length = j := by simp; omega
  have e : noughts (xs.length - j) = 0 :: noughts (xs.length - (j + 1)) := by
    unfold noughts
    rw [show xs.length - j = (xs.length - (j + 1)) + 1 by omega, List.replicate_succ]
  unfold cpL
  rw [e, List.take_succ_eq_append_getElem h, List.append_assoc, List.set_append_right _ _ (by omega), hl, Nat.sub_self]
  rfl

set_option maxRecDepth 100000 in
set_option maxHeartbeats 1000000 in
theorem toInts_any (a : Option Addr) (cap : Nat) (xs : List Int) (w : World) (hx : IntsAt w a xs) (hc : xs.length ≤ cap) (hm : cap ≤ 9223372036854775807) (hl : xs.length ≤ 1048576) :
    Calls Try.prog 42 #[.slice a xs.length cap] w fun e w' => e = .returned (.slice (some ⟨w.heap.size, 0, none⟩) xs.length xs.length) ∧ ORow 3 1 w' w.heap.size xs.length xs.length (xs.map (Value.int .i64)) ∧ Below w.heap.size w w' := by
  have hmk : ∀ W : World, (Instr.makeSlice 23 (.int .i64 (xs.length : Int)) (.int .i64 (xs.length : Int))).run Try.prog W = _ := fun W => make_ints xs.length hl W
  have HX := Hid.intro hx
  clear hx
  have hnew : ORow 3 1 (w.alloc (.cells ((noughts xs.length).map (Value.int .i64)).toArray 3)) w.heap.size xs.length xs.length ((cpL xs 0).map (Value.int .i64)) := by
    have := ORow.new (w := w) (l := noughts xs.length)
    rw [cpL_zero]
    simpa [noughts] using this
  have HN := Hid.intro hnew
  have hb0 : ∀ o, Below w.heap.size w (w.alloc o) := fun o => (Below.refl _ w).alloc (Nat.le_refl _) o
  clear hnew
  go_enter Try.func42, Try.ntmps42
  go_wp2
  go_loopw [4] (fun i wr => ∃ k : Nat, k ≤ xs.length ∧ i = .int .i64 k ∧ Below w.heap.size w wr ∧ Hid (ORow 3 1 wr w.heap.size xs.length xs.length ((cpL xs k).map (Value.int .i64)))) (fun i _ => xs.length - (intOf i).toNat)
  case atStart => exact ⟨0, Nat.zero_le _, rfl, hb0 _, HN⟩
  case round =>
    clear HN hmk
    obtain ⟨k, hk, rfl, hbl, HR⟩ := hrel
    by_cases hlt : k < xs.length
    · rcases HX.out with hx | ⟨b, off, rfl, hb, hcells⟩
      · subst hx; simp at hlt
      have hk0 : (0 : Int) ≤ (k : Int) := by omega
      have hk1 : (k : Int) < (xs.length : Int) := by omega
      have hc1 : wr.cell? ⟨b, off + k, none⟩ = some (.int .i64 xs[k]) := (hbl.cell (p := ⟨b, off + k, none⟩) hb).trans (hcells k hlt)
      have hrow := HR.out
      have hlen := cpL_len xs k hk
      have hc2 : wr.cell? ⟨w.heap.size, k, none⟩ = some (.int .i64 ((cpL xs k)[k]'(by omega))) := hrow.get k _ (by simp [hlen, hlt])
      have hf : wr.frozen? ⟨w.heap.size, k, none⟩ = false := by
        obtain ⟨cur, e1, _⟩ := hrow
        simp [World.frozen?, e1]
      have HS := Hid.intro (hrow.set k hlt xs[k])
      clear hcells HX hrow HR
      go_wp2
      go_roundw
      case rel =>
        refine ⟨k + 1, by omega, by go_num, hbl.setCell (p := ⟨w.heap.size, k, none⟩) (Nat.le_refl _) _, ?_⟩
        show ORow _ _ _ _ _ _ _
        rw [cpL_step xs k hlt]
        simpa using HS.out
      case measure => simp [intOf]; omega
    · have hk' : k = xs.length := by omega
      subst hk'
      have hrow := HR.out
      rw [cpL_all] at hrow
      have HR' := Hid.intro hrow
      clear hrow HR
      go_wp2
      go_ret
      exact ⟨rfl, HR'.out, hbl⟩

end Go.Proofs.Ytgjlkmhbaimjpaa
