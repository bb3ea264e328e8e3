/-
  AtmOk, AtmNew, and small helpers, of the program.
-/
import Derived.Test.YtpjfkimgienkbabSpcD
import Derived.Test.YtpjfkimgienkbabAllAre
import Derived.Test.YtpjfkimgienkbabMapCM
namespace Go.Proofs.Ytpjfkimgienkbab
open Go.RowKit
set_option linter.unusedSimpArgs false
set_option linter.unusedVariables false

/-- nothing is held -/
def freeH (n : Nat) : List Int := List.replicate n (-1)
/-- k of n are so -/
def mixN (n k : Nat) : List Int := freeH k ++ noughts (n - k)
theorem mixN_len {n k : Nat} (h : k ≤ n) : (mixN n k).length = n := by simp [mixN, freeH, noughts]; omega
theorem mixN_zero (n : Nat) : mixN n 0 = noughts n := by simp [mixN, freeH]
theorem mixN_all (n : Nat) : mixN n n = freeH n := by simp [mixN, noughts]
theorem mixN_step {n k : Nat} (h : k < n) : (mixN n k).set k (-1) = mixN n (k + 1) := by
  have hl : (freeH k).length = k := by simp [freeH]
  have e : noughts (n - k) = 0 :: noughts (n - (k + 1)) := by
    rw [show n - k = (n - (k + 1)) + 1 by omega]; simp [noughts, List.replicate_succ]
  unfold mixN
  rw [e, List.set_append_right _ _ (by omega), hl, Nat.sub_self]
  simp [freeH, List.replicate_succ', List.append_assoc]

set_option maxRecDepth 100000 in
set_option maxHeartbeats 1000000 in
theorem impl_AtmNew (w : World) : Calls Try.prog 18 #[] w fun e w' => ∃ g g', e = .returned (.agg #[.slice (some ⟨g, 0, none⟩) 64 64, .slice (some ⟨g', 0, none⟩) 6 6]) ∧ ORow 3 1 w' g 64 64 ((noughts 64).map (Value.int .i64)) ∧ ORow 3 1 w' g' 6 6 ((freeH 6).map (Value.int .i64)) ∧ w.heap.size ≤ g ∧ w.heap.size ≤ g' ∧ g ≠ g' ∧ Below w.heap.size w w' := by
  have hmk : ∀ W : World, (Instr.makeSlice 22 (.int .i64 6) (.int .i64 6)).run Try.prog W = _ := fun W => make_ints 6 (by omega) W
  go_enter Try.func18, Try.ntmps18
  go_wp2
  obtain ⟨W0, hW0⟩ : ∃ W0, (w.alloc (.cells #[.slice none 0 0, .slice none 0 0] 26)).alloc (.cells ((noughts 6).map (Value.int .i64)).toArray 3) = W0 := ⟨_, rfl⟩
  have hb0 : Below w.heap.size w W0 := by rw [← hW0]; exact ((Below.refl _ w).alloc (Nat.le_refl _) _).alloc (by simp) _
  have hs0 : W0.heap.size = w.heap.size + 2 := by rw [← hW0]; simp
  have hR0 : W0.heap[w.heap.size]? = some (.cells #[.slice none 0 0, .slice none 0 0] 26 (0, 0)) := by rw [← hW0]; exact (Below.heap_alloc _ _ _ (by simp)).trans (nw_at _ rfl)
  have hO0 : ORow 3 1 W0 (w.heap.size + 1) 6 6 ((noughts 6).map (Value.int .i64)) := by
    rw [← hW0]
    have := ORow.new (w := w.alloc (.cells #[.slice none 0 0, .slice none 0 0] 26)) (l := noughts 6)
    simpa [noughts] using this
  try rw [hW0]
  clear hW0 hmk
  go_loopw [6] (fun i wr => ∃ k : Nat, k ≤ 6 ∧ i = .int .i64 k ∧ Hid (ORow 3 1 wr (w.heap.size + 1) 6 6 ((mixN 6 k).map (Value.int .i64))) ∧ Hid (Below w.heap.size w wr) ∧ wr.heap[w.heap.size]? = some (.cells #[.slice none 0 0, .slice none 0 0] 26 (0, 0))) (fun i _ => 6 - (intOf i).toNat)
  case atStart => exact ⟨0, by omega, rfl, hO0, hb0, hR0⟩
  case round =>
    obtain ⟨k, hk, rfl, HO, HB, hR⟩ := hrel
    by_cases hlt : k < 6
    · have hk0 : (0 : Int) ≤ (k : Int) := by omega
      have hk1 : (k : Int) < 6 := by omega
      have hml := mixN_len (n := 6) (k := k) hk
      obtain ⟨v, hv⟩ : ∃ v, (mixN 6 k)[k]? = some v := ⟨(mixN 6 k)[k]'(by omega), by rw [List.getElem?_eq_getElem]⟩
      have ch1 : wr.cell? ⟨w.heap.size + 1, k, none⟩ = some (.int .i64 v) := HO.out.get k _ (by simp [hv])
      have fh1 := HO.out.free k
      have HS := Hid.intro (HO.out.set k hlt (-1))
      rw [mixN_step hlt] at HS
      clear HO hv
      go_wp2
      go_roundw
      case rel => exact ⟨k + 1, by omega, by go_num, HS, HB.out.setCell (p := ⟨w.heap.size + 1, k, none⟩) (by show w.heap.size ≤ w.heap.size + 1; omega) _, (heap_set_ne (by omega)).trans hR⟩
      case measure => simp [intOf]; omega
    · have hk' : k = 6 := by omega
      subst hk'
      have hO := HO.out
      rw [mixN_all] at hO
      have hOl := hO.lt
      have hRl := heap_lt hR
      go_wp2_with fail
      refine (impl_MemNew wr).mono ?_
      rintro e w1 ⟨g, rfl, hg1, hg2, hb1⟩
      have hR1 := (hb1.block w.heap.size hRl).trans hR
      have r0 : w1.cell? ⟨w.heap.size, 0, none⟩ = some (.slice none 0 0) := heap_cell hR1 0
      have r1 : w1.cell? ⟨w.heap.size, 1, none⟩ = some (.slice none 0 0) := heap_cell hR1 1
      have f0 := heap_free hR1 0
      have f1 := heap_free hR1 1
      have hR2 := heap_set (heap_set hR1 0 (.slice (some ⟨g, 0, none⟩) 64 64)) 1 (.slice (some ⟨w.heap.size + 1, 0, none⟩) 6 6)
      have s0 := (heap_cell hR2 0)
      have s1 := (heap_cell hR2 1)
      simp at s0 s1
      have HO2 := Hid.intro (hO.of (hb1.block _ hOl))
      have HG := Hid.intro hg1
      have HB1 := Hid.intro (HB.out.trans (hb1.mono HB.out.size))
      clear hR2 hR1 hR hO HO hg1 hb1 HB
      go_wp2
      refine bodyPost_ret (v := .agg #[.slice (some ⟨g, 0, none⟩) 64 64, .slice (some ⟨w.heap.size + 1, 0, none⟩) 6 6]) (by simp [results, Try.results18, go_sem, s0, s1]) rfl ⟨g, w.heap.size + 1, rfl, ?_, ?_, by omega, by omega, by omega, ?_⟩
      · exact HG.out.of ((heap_set_ne (by omega)).trans (heap_set_ne (by omega)))
      · exact HO2.out.of ((heap_set_ne (by omega)).trans (heap_set_ne (by omega)))
      · exact (HB1.out.setCell (p := ⟨w.heap.size, 0, none⟩) (Nat.le_refl _) _).setCell (p := ⟨w.heap.size, 1, none⟩) (Nat.le_refl _) _

end Go.Proofs.Ytpjfkimgienkbab
