/-
  AtmNew of the model.
-/
import Derived.Test.YtpjfkimgienkbabImpA
namespace Go.Proofs.Ytpjfkimgienkbab
open Go.RowKit
set_option linter.unusedSimpArgs false
set_option linter.unusedVariables false

theorem owns_block {w : World} {base n : Nat} {v : Value} {l : List Value} (h : w.ownsRow base 3 1 v n l) {b : Nat} (hb : v.ownBlock = some b) : base ≤ b := by
  obtain ⟨_, h | ⟨g', cap', cur, hv, h1, _⟩⟩ := h
  · rw [h.1] at hb; simp [Value.ownBlock] at hb
  · rw [hv] at hb; simp [Value.ownBlock] at hb; omega
theorem owns_some {w : World} {base n : Nat} {v : Value} {l : List Int} (h : w.ownsRow base 3 1 v n (l.map (Value.int .i64))) (hn : n = l.length) (h0 : n ≠ 0) : ∃ g cap, v = .slice (some ⟨g, 0, none⟩) l.length cap ∧ ORow 3 1 w g cap l.length (l.map (Value.int .i64)) ∧ l.length ≤ cap ∧ cap ≤ 9223372036854775807 ∧ base ≤ g := by
  subst hn
  obtain ⟨hl, h | ⟨g', cap', cur, hv, h1, h2, h3, h4, h5, h6⟩⟩ := h
  · exact absurd h.2 h0
  · exact ⟨g', cap', hv, ⟨cur, h2, h5, h3, hl, h6⟩, h3, h4, h1⟩
theorem owns_nil (w : World) (base : Nat) : w.ownsRow base 3 1 (.slice none 0 0) 0 (([] : List Int).map (Value.int .i64)) := ⟨rfl, .inl ⟨rfl, rfl⟩⟩
theorem freeH_snoc (k : Nat) : (freeH k).map (Value.int .i64) ++ [.int .i64 (-1)] = (freeH (k + 1)).map (Value.int .i64) := by
  simp [freeH, List.replicate_succ']

set_option maxRecDepth 100000 in
set_option maxHeartbeats 1000000 in
theorem spec_AtmNew (w : World) : Calls Try.prog 17 #[] w fun e w' => ∃ g g' c', e = .returned (.agg #[.slice (some ⟨g, 0, none⟩) 64 64, .slice (some ⟨g', 0, none⟩) 6 c']) ∧ ORow 3 1 w' g 64 64 ((noughts 64).map (Value.int .i64)) ∧ ORow 3 1 w' g' c' 6 ((freeH 6).map (Value.int .i64)) ∧ 6 ≤ c' ∧ c' ≤ 9223372036854775807 ∧ w.heap.size ≤ g ∧ w.heap.size ≤ g' ∧ g ≠ g' ∧ Below w.heap.size w w' := by
  obtain ⟨i0, hi, hz0, hz1, hz2⟩ := info_parts Try.infoInt
  have hbl : ∀ o, Below w.heap.size w (w.alloc o) := fun o => (Below.refl _ w).alloc (Nat.le_refl _) o
  go_enter Try.func17, Try.ntmps17
  go_wp2_with fail
  refine (spec_MemNew _).mono ?_
  rintro e w1 ⟨g, rfl, hg, hgl, hb1⟩
  have hs1 := hb1.size
  simp at hs1 hgl
  have hlg := hg.lt
  have hR1 : w1.heap[w.heap.size]? = some (.cells #[.slice none 0 0, .slice none 0 0] 26 (0, 0)) := (hb1.block w.heap.size (by simp)).trans (nw_at _ rfl)
  have hb1' := (hbl _).trans (hb1.mono (hbl _).size)
  clear hb1 hbl
  go_wp2_with fail
  go_loopw [2] (fun i wr => ∃ k : Nat, k ≤ 6 ∧ i = .int .i64 k ∧ ∃ v, Hid (wr.ownsRow (w1.heap.size + 1) 3 1 v k ((freeH k).map (Value.int .i64))) ∧ wr.heap[w1.heap.size]? = some (.cells #[.slice (some ⟨g, 0, none⟩) 64 64, v] 26 (0, 0)) ∧ wr.heap[w.heap.size]? = some (.cells #[.slice none 0 0, .slice none 0 0] 26 (0, 0)) ∧ Hid (ORow 3 1 wr g 64 64 ((noughts 64).map (Value.int .i64))) ∧ Hid (Below w.heap.size w wr)) (fun i _ => 6 - (intOf i).toNat)
  case atStart =>
    have hx := below_nw w1 (.cells #[.slice (some ⟨g, 0, none⟩) 64 64, .slice none 0 0] 26)
    exact ⟨0, by omega, rfl, _, owns_nil _ _, nw_at _ rfl, (hx.block _ (by omega)).trans hR1, hg.gr hx, hb1'.trans (hx.mono hb1'.size)⟩
  case round =>
    clear hg hR1 hb1'
    obtain ⟨k, hk, rfl, v, HV, hS, hR, HG, HB⟩ := hrel
    have cS1 : wr.cell? ⟨w1.heap.size, 1, none⟩ = some v := heap_cell hS 1
    have hSl := heap_lt hS
    have hRl := heap_lt hR
    by_cases hlt : k < 6
    · have hk1 : (k : Int) < 6 := by omega
      have hown := HV.out
      go_wp2_with (at_builtin; refine wpList_append_lies _ rfl _ _ _ rfl (w1.heap.size + 1) 3 i0 _ 1 8 Try.underlying22 hi hz0 hz1 hz2 rfl (by omega) v k _ rfl (hown.alloc _) ⟨wr.heap.size, 0, none⟩ 1 1 [.int .i64 (-1)] rfl rfl (cell_one_new _ _ _) (by simp [Value.oneCell']) (by omega) (by unfold maxLen; omega) (by omega) (by simp; omega) (wr.heap.size + 1) (by simp) ?_; intro g' cap' w2 hown2 hgrow2 hat2 hlt2; have hblk : ∀ j, j < w1.heap.size + 1 → w2.heap[j]? = wr.heap[j]? := (fun j hj => (hgrow2.block j (by simp; omega) (fun e => by have := owns_block hown e.symm; omega)).trans (Below.heap_alloc _ _ _ (by omega))); have hS2 := (hblk _ (by omega)).trans hS; have hR2 := (hblk _ (by omega)).trans hR; have cS2 : w2.cell? ⟨w1.heap.size, 1, none⟩ = some v := heap_cell hS2 1; have fS2 := heap_free hS2 1)
      have hs2 := hgrow2.size
      simp at hs2
      go_roundw
      case rel =>
        have hob : (Value.slice (some (⟨g', 0, none⟩ : Addr)) (k + 1) cap').ownBlock = some g' := rfl
        have hg' := owns_block hown2 hob
        refine ⟨k + 1, by omega, by go_num, .slice (some ⟨g', 0, none⟩) (k + 1) cap', ?_, (heap_set hS2 1 _).trans rfl, (heap_set_ne (by omega)).trans hR2, HG.out.of ((heap_set_ne (by omega)).trans (hblk g (by omega))), ?_⟩
        · show World.ownsRow _ _ _ _ _ _ _
          rw [← freeH_snoc]
          obtain ⟨hl, h | ⟨g3, cap3, cur, hv, h1, h2, h3, h4, h5, h6⟩⟩ := hown2
          · simp at h
          · simp at hv
            obtain ⟨rfl, rfl⟩ := hv
            exact ⟨hl, .inr ⟨g', cap', cur, rfl, h1, (heap_set_ne (by omega)).trans h2, h3, h4, h5, h6⟩⟩
        · show Below _ _ _
          exact (HB.out.trans ⟨hgrow2.os, hgrow2.tape, hgrow2.output, by omega, fun j hj => hblk j (by omega)⟩).setCell (p := ⟨w1.heap.size, 1, none⟩) (by show w.heap.size ≤ w1.heap.size; omega) _
      case measure => simp [intOf]; omega
    · have hk' : k = 6 := by omega
      subst hk'
      obtain ⟨g', c', rfl, o1, o2, o3, o4⟩ := owns_some HV.out (by simp [freeH]) (by omega)
      simp only [freeH, List.length_replicate] at o1 o2 hS cS1
      have c0 : wr.cell? ⟨w1.heap.size, 0, none⟩ = some (.slice (some ⟨g, 0, none⟩) 64 64) := heap_cell hS 0
      have r0 : wr.cell? ⟨w.heap.size, 0, none⟩ = some (.slice none 0 0) := heap_cell hR 0
      have r1 : wr.cell? ⟨w.heap.size, 1, none⟩ = some (.slice none 0 0) := heap_cell hR 1
      have f0 := heap_free hR 0
      have f1 := heap_free hR 1
      have hR2 := heap_set (heap_set hR 0 (.slice (some ⟨g, 0, none⟩) 64 64)) 1 (.slice (some ⟨g', 0, none⟩) 6 c')
      have s0 := (heap_cell hR2 0)
      have s1 := (heap_cell hR2 1)
      simp at s0 s1
      have HO := Hid.intro o1
      clear hR2 hR hS o1 HV
      go_wp2
      refine bodyPost_ret (v := .agg #[.slice (some ⟨g, 0, none⟩) 64 64, .slice (some ⟨g', 0, none⟩) 6 c']) (by simp [results, Try.results17, go_sem, s0, s1]) rfl ⟨g, g', c', rfl, ?_, ?_, by simpa using o2, o3, by omega, by omega, by omega, ?_⟩
      · exact HG.out.of ((heap_set_ne (by omega)).trans (heap_set_ne (by omega)))
      · exact HO.out.of ((heap_set_ne (by omega)).trans (heap_set_ne (by omega)))
      · exact (HB.out.setCell (p := ⟨w.heap.size, 0, none⟩) (Nat.le_refl _) _).setCell (p := ⟨w.heap.size, 1, none⟩) (Nat.le_refl _) _

end Go.Proofs.Ytpjfkimgienkbab
