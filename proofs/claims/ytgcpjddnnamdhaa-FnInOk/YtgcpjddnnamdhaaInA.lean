/-
  InAll of both; what comes from outside, marked, and held.
-/
import Derived.Test.YtgcpjddnnamdhaaInM
import Derived.Deep.DeepCutAuto
import Derived.Deep.CutBlock
namespace Go.Proofs.Ytgcpjddnnamdhaa
open Go.RowKit
set_option linter.unusedSimpArgs false
set_option linter.unusedVariables false

/-- where nothing stands still -/
def inAllX : Inn := ⟨[true, true, true], [false, false, false, false], [true, true, true]⟩

theorem al1 (w : World) (o o1 : Obj) {n : Nat} (h : n = w.heap.size) : ((w.alloc o).alloc o1).heap[n]? = some o := (Below.heap_alloc _ _ _ (by simp; omega)).trans (in_nw _ h)
theorem al2 (w : World) (o o1 o2 : Obj) {n : Nat} (h : n = w.heap.size) : (((w.alloc o).alloc o1).alloc o2).heap[n]? = some o := (Below.heap_alloc _ _ _ (by simp; omega)).trans (al1 _ _ _ h)
theorem al3 (w : World) (o o1 o2 o3 : Obj) {n : Nat} (h : n = w.heap.size) : ((((w.alloc o).alloc o1).alloc o2).alloc o3).heap[n]? = some o := (Below.heap_alloc _ _ _ (by simp; omega)).trans (al2 _ _ _ _ h)
theorem al4 (w : World) (o o1 o2 o3 o4 : Obj) {n : Nat} (h : n = w.heap.size) : (((((w.alloc o).alloc o1).alloc o2).alloc o3).alloc o4).heap[n]? = some o := (Below.heap_alloc _ _ _ (by simp; omega)).trans (al3 _ _ _ _ _ h)
theorem drewh (w : World) : w.drew.heap = w.heap := rfl

theorem ORow.atB {w : World} {b : Nat} {l : List Bool} (h : w.heap[b]? = some (.cells (l.map Value.bool).toArray 4 (0, 0))) : ORow 4 1 w b l.length l.length (l.map Value.bool) :=
  ⟨_, h, by simp, Nat.le_refl _, by simp, by simp [List.take_of_length_le]⟩

set_option maxRecDepth 100000 in
set_option maxHeartbeats 1000000 in
theorem spec_InAll (w : World) : Calls Try.prog 85 #[] w fun e w' => ∃ g h k, e = .returned (inV inAllX (some ⟨g, 0, none⟩) (some ⟨h, 0, none⟩) (some ⟨k, 0, none⟩) 3 4 3) ∧ InOwn w.heap.size w' inAllX g h k ∧ Below w.heap.size w w' := by
  go_enter Try.func85, Try.ntmps85
  go_wp2
  refine bodyPost_ret (v := inV inAllX (some ⟨w.heap.size + 1, 0, none⟩) (some ⟨w.heap.size + 2, 0, none⟩) (some ⟨w.heap.size + 3, 0, none⟩) 3 4 3) (by simp [results, Try.results85, go_sem, inV, inAllX]) rfl ⟨w.heap.size + 1, w.heap.size + 2, w.heap.size + 3, rfl, ?_, ?_⟩
  · refine ⟨ORow.atB (l := [true, true, true]) ?_, ORow.atB (l := [false, false, false, false]) ?_, ORow.atB (l := [true, true, true]) ?_, ⟨by omega, by omega, by omega⟩, by omega, by omega, by omega⟩
    · exact al2 _ _ _ _ (by simp)
    · exact al1 _ _ _ (by simp)
    · exact in_nw _ (by simp)
  · exact ((((Below.refl _ w).alloc (Nat.le_refl _) _).alloc (by simp) _).alloc (by simp <;> omega) _).alloc (by simp <;> omega) _

def upT (k : Nat) : List Bool := (List.range 3).map (fun i => decide (i < k))
theorem upT_zero : upT 0 = nays 3 := by decide
theorem upT_three : upT 3 = [true, true, true] := by decide
theorem upT_len (k : Nat) : (upT k).length = 3 := by simp [upT]
theorem upT_step (k : Nat) (h : k < 3) : (upT k).set k true = upT (k + 1) := by
  have : k = 0 ∨ k = 1 ∨ k = 2 := by omega
  rcases this with rfl | rfl | rfl <;> decide

set_option maxRecDepth 100000 in
set_option maxHeartbeats 4000000 in
theorem impl_InAll (w : World) : Calls Try.prog 15 #[] w fun e w' => ∃ g h k, e = .returned (inV inAllX (some ⟨g, 0, none⟩) (some ⟨h, 0, none⟩) (some ⟨k, 0, none⟩) 3 4 3) ∧ InOwn w.heap.size w' inAllX g h k ∧ Below w.heap.size w w' := by
  have hmk3 : ∀ W : World, (Instr.makeSlice 33 (.int .i64 3) (.int .i64 3)).run Try.prog W = _ := fun W => make_bools 3 (by omega) W
  have hmk4 : ∀ W : World, (Instr.makeSlice 33 (.int .i64 4) (.int .i64 4)).run Try.prog W = _ := fun W => make_bools 4 (by omega) W
  go_enter Try.func15, Try.ntmps15
  go_upto_region 1 with fail
  go_cut [1, 3, 4, 5, 6] (fun s1 s3 s4 s5 s6 wx => ∃ B g h k, s1 = .pointer (some ⟨B, 0, none⟩) ∧ s3 = .slice (some ⟨g, 0, none⟩) 3 3 ∧ s4 = .slice (some ⟨h, 0, none⟩) 4 4 ∧ s5 = .slice (some ⟨k, 0, none⟩) 3 3 ∧ wx.heap[B]? = some (.cells #[.slice (some ⟨g, 0, none⟩) 3 3, .slice (some ⟨h, 0, none⟩) 4 4, .slice (some ⟨k, 0, none⟩) 3 3] 35 (0, 0)) ∧ wx.heap[g]? = some (.cells ((nays 3).map Value.bool).toArray 4 (0, 0)) ∧ wx.heap[h]? = some (.cells ((nays 4).map Value.bool).toArray 4 (0, 0)) ∧ wx.heap[k]? = some (.cells ((nays 3).map Value.bool).toArray 4 (0, 0)) ∧ wx.heap[w.heap.size]? = some (.cells #[.slice none 0 0, .slice none 0 0, .slice none 0 0] 35 (0, 0)) ∧ (w.heap.size < B ∧ w.heap.size < g ∧ w.heap.size < h ∧ w.heap.size < k ∧ B ≠ g ∧ B ≠ h ∧ B ≠ k ∧ g ≠ h ∧ h ≠ k ∧ g ≠ k) ∧ Below w.heap.size w wx)
  case first =>
    go_region
    all_goals (
      go_wp2_with fail
      go_meet
      simp only [drewh]
      refine ⟨_, _, _, _, rfl, rfl, rfl, rfl, ?_, ?_, ?_, ?_, ?_, ?_, ?_⟩
      any_goals (first | (refine in_nw _ ?_; simp; done) | (refine al1 _ _ _ ?_; simp; done) | (refine al2 _ _ _ _ ?_; simp; done) | (refine al3 _ _ _ _ _ ?_; simp; done) | (refine al4 _ _ _ _ _ _ ?_; simp; done))
      · exact ⟨by omega, by omega, by omega, by omega, by omega, by omega, by omega, by omega, by omega, by omega⟩
      · exact ((((((Below.refl _ w).alloc (Nat.le_refl _) _).alloc (by simp) _).alloc (by simp <;> omega) _).alloc (by simp <;> omega) _).alloc (by simp <;> omega) _).drew)
  case rest =>
    clear hmk3 hmk4
    obtain ⟨B, g, h, k, rfl, rfl, rfl, rfl, bB, bg, bh, bk, bR, ⟨n1, n2, n3, n4, n5, n6, n7, n8, n9, n10⟩, hbl⟩ := hcut
    have og : ORow 4 1 wc g 3 3 ((upT 0).map Value.bool) := by rw [upT_zero]; exact ORow.atB (l := nays 3) bg
    have ok : ORow 4 1 wc k 3 3 ((upT 0).map Value.bool) := by rw [upT_zero]; exact ORow.atB (l := nays 3) bk
    have oh : ORow 4 1 wc h 4 4 ((nays 4).map Value.bool) := ORow.atB (l := nays 4) bh
    have HG := Hid.intro og
    have HK := Hid.intro ok
    have HH := Hid.intro oh
    clear bg bh bk og ok oh
    go_wp2_with fail
    go_loopw [7] (fun i wr => ∃ j : Nat, j ≤ 3 ∧ i = .int .i64 j ∧ Hid (ORow 4 1 wr g 3 3 ((upT j).map Value.bool)) ∧ Hid (ORow 4 1 wr k 3 3 ((upT j).map Value.bool)) ∧ Hid (ORow 4 1 wr h 4 4 ((nays 4).map Value.bool)) ∧ wr.heap[B]? = some (.cells #[.slice (some ⟨g, 0, none⟩) 3 3, .slice (some ⟨h, 0, none⟩) 4 4, .slice (some ⟨k, 0, none⟩) 3 3] 35 (0, 0)) ∧ wr.heap[w.heap.size]? = some (.cells #[.slice none 0 0, .slice none 0 0, .slice none 0 0] 35 (0, 0)) ∧ Below w.heap.size w wr) (fun i _ => 3 - (intOf i).toNat)
    case atStart => exact ⟨0, Nat.zero_le _, rfl, HG, HK, HH, bB, bR, hbl⟩
    case round =>
      clear HG HK HH bB bR hbl
      obtain ⟨j, hj, rfl, HG, HK, HH, bB, bR, hbl⟩ := hrel
      by_cases hlt : j < 3
      · have hj0 : (0 : Int) ≤ (j : Int) := by omega
        have hj1 : (j : Int) < 3 := by omega
        have b0 : wr.cell? ⟨B, 0, none⟩ = some (.slice (some ⟨g, 0, none⟩) 3 3) := heap_cell bB 0
        have b2 : wr.cell? ⟨B, 2, none⟩ = some (.slice (some ⟨k, 0, none⟩) 3 3) := heap_cell bB 2
        have cg : wr.cell? ⟨g, j, none⟩ = some (.bool ((upT j)[j]'(by rw [upT_len]; exact hlt))) := HG.out.get j _ (by simp [upT_len, hlt])
        have ck : wr.cell? ⟨k, j, none⟩ = some (.bool ((upT j)[j]'(by rw [upT_len]; exact hlt))) := HK.out.get j _ (by simp [upT_len, hlt])
        have fg : wr.frozen? ⟨g, j, none⟩ = false := by
          obtain ⟨cur, e1, _⟩ := HG.out
          simp [World.frozen?, e1]
        have fk : wr.frozen? ⟨k, j, none⟩ = false := by
          obtain ⟨cur, e1, _⟩ := HK.out
          simp [World.frozen?, e1]
        have hG2 : ORow 4 1 ((wr.setCell ⟨g, j, none⟩ (.bool true)).setCell ⟨k, j, none⟩ (.bool true)) g 3 3 ((upT (j + 1)).map Value.bool) := by
          rw [← upT_step j hlt]
          exact (HG.out.setB j hlt true).of (heap_set_ne n10)
        have hK2 : ORow 4 1 ((wr.setCell ⟨g, j, none⟩ (.bool true)).setCell ⟨k, j, none⟩ (.bool true)) k 3 3 ((upT (j + 1)).map Value.bool) := by
          rw [← upT_step j hlt]
          exact (HK.out.of (heap_set_ne (fun e => n10 e.symm))).setB j hlt true
        have hne : ∀ b, b ≠ g → b ≠ k → ((wr.setCell ⟨g, j, none⟩ (.bool true)).setCell ⟨k, j, none⟩ (.bool true)).heap[b]? = wr.heap[b]? := fun b h1 h2 => (heap_set_ne h2).trans (heap_set_ne h1)
        have hH2 := Hid.intro (HH.out.of (hne h (fun e => n8 e.symm) n9))
        have bB2 := (hne B n5 n7).trans bB
        have bR2 := (hne w.heap.size (by omega) (by omega)).trans bR
        have hbl2 := (hbl.setCell (p := ⟨g, j, none⟩) (by simp; omega) (.bool true)).setCell (p := ⟨k, j, none⟩) (by simp; omega) (.bool true)
        have HG2 := Hid.intro hG2
        have HK2 := Hid.intro hK2
        have HB2 := Hid.intro bB2
        have HR2 := Hid.intro bR2
        have HL2 := Hid.intro hbl2
        clear hG2 hK2 hne bB2 bR2 hbl2 bB bR hbl HG HK HH
        go_wp2_with fail
        go_region
        all_goals go_wp2_with fail
        all_goals go_roundw
        case rel => exact ⟨j + 1, by omega, by go_num, HG2, HK2, hH2, HB2.out, HR2.out, HL2.out.drew⟩
        case measure => simp [intOf]; omega
      · have hj' : j = 3 := by omega
        subst hj'
        have o0 : wr.cell? ⟨B, 0, none⟩ = some (.slice (some ⟨g, 0, none⟩) 3 3) := heap_cell bB 0
        have o1 : wr.cell? ⟨B, 1, none⟩ = some (.slice (some ⟨h, 0, none⟩) 4 4) := heap_cell bB 1
        have o2 : wr.cell? ⟨B, 2, none⟩ = some (.slice (some ⟨k, 0, none⟩) 3 3) := heap_cell bB 2
        have q0 : wr.cell? ⟨w.heap.size, 0, none⟩ = some (.slice none 0 0) := heap_cell bR 0
        have q1 : wr.cell? ⟨w.heap.size, 1, none⟩ = some (.slice none 0 0) := heap_cell bR 1
        have q2 : wr.cell? ⟨w.heap.size, 2, none⟩ = some (.slice none 0 0) := heap_cell bR 2
        have f0 := heap_free bR 0
        have f1 := heap_free bR 1
        have f2 := heap_free bR 2
        have hf := heap_set (heap_set (heap_set bR 0 (.slice (some ⟨g, 0, none⟩) 3 3)) 1 (.slice (some ⟨h, 0, none⟩) 4 4)) 2 (.slice (some ⟨k, 0, none⟩) 3 3)
        have r0 := heap_cell hf 0
        have r1 := heap_cell hf 1
        have r2 := heap_cell hf 2
        simp at r0 r1 r2
        have hne : ∀ b, b ≠ w.heap.size → (((wr.setCell ⟨w.heap.size, 0, none⟩ (.slice (some ⟨g, 0, none⟩) 3 3)).setCell ⟨w.heap.size, 1, none⟩ (.slice (some ⟨h, 0, none⟩) 4 4)).setCell ⟨w.heap.size, 2, none⟩ (.slice (some ⟨k, 0, none⟩) 3 3)).heap[b]? = wr.heap[b]? := fun b h1 => (heap_set_ne h1).trans ((heap_set_ne h1).trans (heap_set_ne h1))
        have hG := HG.out
        have hK := HK.out
        rw [upT_three] at hG hK
        have HP : Hid (InOwn w.heap.size (((wr.setCell ⟨w.heap.size, 0, none⟩ (.slice (some ⟨g, 0, none⟩) 3 3)).setCell ⟨w.heap.size, 1, none⟩ (.slice (some ⟨h, 0, none⟩) 4 4)).setCell ⟨w.heap.size, 2, none⟩ (.slice (some ⟨k, 0, none⟩) 3 3)) inAllX g h k) := ⟨hG.of (hne _ (by omega)), HH.out.of (hne _ (by omega)), hK.of (hne _ (by omega)), ⟨by omega, by omega, by omega⟩, n8, n9, n10⟩
        have HB : Hid (Below w.heap.size w (((wr.setCell ⟨w.heap.size, 0, none⟩ (.slice (some ⟨g, 0, none⟩) 3 3)).setCell ⟨w.heap.size, 1, none⟩ (.slice (some ⟨h, 0, none⟩) 4 4)).setCell ⟨w.heap.size, 2, none⟩ (.slice (some ⟨k, 0, none⟩) 3 3))) := ((hbl.setCell (p := ⟨w.heap.size, 0, none⟩) (by simp) _).setCell (p := ⟨w.heap.size, 1, none⟩) (by simp) _).setCell (p := ⟨w.heap.size, 2, none⟩) (by simp) _
        clear hf hne hG hK HG HK HH bB bR hbl
        go_wp2
        refine bodyPost_ret (v := .agg #[.slice (some ⟨g, 0, none⟩) 3 3, .slice (some ⟨h, 0, none⟩) 4 4, .slice (some ⟨k, 0, none⟩) 3 3]) (by simp [results, Try.results15, go_sem, r0, r1, r2]) rfl ⟨g, h, k, rfl, HP.out, HB.out⟩

end Go.Proofs.Ytgcpjddnnamdhaa
