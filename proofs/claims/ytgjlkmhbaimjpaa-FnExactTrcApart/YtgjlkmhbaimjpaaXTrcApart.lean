/-
  The law FnExactTrcApart, walked, by kinds.
-/
import Derived.Test.YtgjlkmhbaimjpaaRows
import Derived.Test.YtgjlkmhbaimjpaaFam
import Derived.Test.YtgjlkmhbaimjpaaOpsXM
import Derived.Test.YtgjlkmhbaimjpaaTrCM
namespace Go.Proofs.Ytgjlkmhbaimjpaa
open Go.RowKit
set_option linter.unusedSimpArgs false
set_option linter.unusedVariables false

namespace fnExactTrcApart
structure Old0 (w : World) (c : ((Lst (Int × Int × Int × Bool)) × (Lst Int) × (Lst (Lst (Int × Int × Int × Int × Bool × (Lst Int) × (Lst Int)))))) (a : (Int × Int × Int)) (b : (Int × Int × Int)) (A0 A1 A2 : Nat) (W : World) : Prop where
  r0 : yBusCfg.rd W c
  b0 : W.heap[A0]? = some (.cells (yBusCfg.cells c).toArray 26 (0, 0))
  b1 : W.heap[A1]? = some (.cells (yTlmEvent.cells a).toArray 59 (0, 0))
  b2 : W.heap[A2]? = some (.cells (yTlmEvent.cells b).toArray 59 (0, 0))
  bel : Below w.heap.size w W
theorem Old0.grow {w : World} {c : ((Lst (Int × Int × Int × Bool)) × (Lst Int) × (Lst (Lst (Int × Int × Int × Int × Bool × (Lst Int) × (Lst Int)))))} {a : (Int × Int × Int)} {b : (Int × Int × Int)} {A0 A1 A2 : Nat} {W W' : World} (h : Old0 w c a b A0 A1 A2 W) (hb : Below W.heap.size W W') : Old0 w c a b A0 A1 A2 W' := ⟨yBusCfg_law.rd_blw h.r0 hb, (hb.block _ (heap_lt h.b0)).trans h.b0, (hb.block _ (heap_lt h.b1)).trans h.b1, (hb.block _ (heap_lt h.b2)).trans h.b2, h.bel.trans (hb.mono h.bel.size)⟩
structure S1 (wN : World) (x0 : ((Lst (Int × Int × Int × Bool)) × (Lst Int) × (Lst (Lst (Int × Int × Int × Int × Bool × (Lst Int) × (Lst Int)))))) (X0 : Nat) (W : World) : Prop where
  ox0 : yBusCfg.ow W x0
  bx0 : W.heap[X0]? = some (.cells (yBusCfg.cells x0).toArray 32 (0, 0))
  fam : Fam wN.heap.size W [yBusCfg.foot x0, [X0]]
  bel : Below wN.heap.size wN W
theorem S1.grow {wN : World} {x0 : ((Lst (Int × Int × Int × Bool)) × (Lst Int) × (Lst (Lst (Int × Int × Int × Int × Bool × (Lst Int) × (Lst Int)))))} {X0 : Nat} {W W' : World} (h : S1 wN x0 X0 W) (hb : Below W.heap.size W W') : S1 wN x0 X0 W' := ⟨yBusCfg_law.ow_blw h.ox0 hb, (hb.block _ (heap_lt h.bx0)).trans h.bx0, h.fam.size hb.size, h.bel.trans (hb.mono h.bel.size)⟩

set_option maxRecDepth 100000 in
set_option maxHeartbeats 8000000 in
theorem walk (hI : ReqOkC) (c : ((Lst (Int × Int × Int × Bool)) × (Lst Int) × (Lst (Lst (Int × Int × Int × Int × Bool × (Lst Int) × (Lst Int)))))) (a : (Int × Int × Int)) (b : (Int × Int × Int)) (w : World) (hr0 : yBusCfg.rd w c) (hr1 : yTlmEvent.rd w a) (hr2 : yTlmEvent.rd w b) :
    Calls Try.prog 7 #[yBusCfg.val c, yTlmEvent.val a, yTlmEvent.val b] w fun e w' => e = .returned (.bool true) ∧ Below w.heap.size w w' := by
  obtain ⟨c_0, c_1, c_2⟩ := c
  obtain ⟨a_0, a_1, a_2⟩ := a
  obtain ⟨b_0, b_1, b_2⟩ := b
  have HI := Hid.intro hI
  clear hI
  have HR0 := Hid.intro hr0
  clear hr0
  have HR1 := Hid.intro hr1
  clear hr1
  have HR2 := Hid.intro hr2
  clear hr2
  show Calls Try.prog 7 #[.agg #[.slice c_0.p c_0.l.length c_0.c, .slice c_1.p c_1.l.length c_1.c, .slice c_2.p c_2.l.length c_2.c], .agg #[.int .i64 a_0, .int .i64 a_1, .int .i64 a_2], .agg #[.int .i64 b_0, .int .i64 b_1, .int .i64 b_2]] w _
  have hbl : Below w.heap.size w (((w.alloc (.cells #[.slice c_0.p c_0.l.length c_0.c, .slice c_1.p c_1.l.length c_1.c, .slice c_2.p c_2.l.length c_2.c] 26)).alloc (.cells #[.int .i64 a_0, .int .i64 a_1, .int .i64 a_2] 59)).alloc (.cells #[.int .i64 b_0, .int .i64 b_1, .int .i64 b_2] 59)) := allocs_below [(.cells #[.slice c_0.p c_0.l.length c_0.c, .slice c_1.p c_1.l.length c_1.c, .slice c_2.p c_2.l.length c_2.c] 26), (.cells #[.int .i64 a_0, .int .i64 a_1, .int .i64 a_2] 59), (.cells #[.int .i64 b_0, .int .i64 b_1, .int .i64 b_2] 59)] w
  go_enter Try.func7, Try.ntmps7
  have HCS : Hid (∀ (left : Int) (w : World), yBusCfg.rd w (c_0, c_1, c_2) → 0 ≤ left → left ≤ 1048576 → Calls Try.prog 9 #[.agg #[.slice c_0.p c_0.l.length c_0.c, .slice c_1.p c_1.l.length c_1.c, .slice c_2.p c_2.l.length c_2.c], .int .i64 left] w fun e w' => (∃ z : Int, e = .returned (.int .i64 z) ∧ (z = -1 ∨ (0 ≤ z ∧ z = left - (yBusCfg.size (c_0, c_1, c_2) : Int)))) ∧ Below w.heap.size w w') := Hid.intro (yBusCfg_sz (c_0, c_1, c_2))
  go_wp2_with fail
  refine (HCS.out 1048576 _ (yBusCfg_law.rd_blw HR0.out hbl) (by decide) (by decide)).mono ?_
  rintro e w1 ⟨⟨y0, rfl, hz⟩, hb⟩
  have HOLD : Hid (Old0 w (c_0, c_1, c_2) (a_0, a_1, a_2) (b_0, b_1, b_2) (w.heap.size) (w.heap.size + 1) (w.heap.size + 1 + 1) w1) := Hid.intro ⟨yBusCfg_law.rd_blw HR0.out (hbl.trans (hb.mono hbl.size)), (hb.block _ (by simp <;> omega)).trans (allocs_at [(.cells #[.slice c_0.p c_0.l.length c_0.c, .slice c_1.p c_1.l.length c_1.c, .slice c_2.p c_2.l.length c_2.c] 26), (.cells #[.int .i64 a_0, .int .i64 a_1, .int .i64 a_2] 59), (.cells #[.int .i64 b_0, .int .i64 b_1, .int .i64 b_2] 59)] w 0 _ rfl), (hb.block _ (by simp <;> omega)).trans (allocs_at [(.cells #[.slice c_0.p c_0.l.length c_0.c, .slice c_1.p c_1.l.length c_1.c, .slice c_2.p c_2.l.length c_2.c] 26), (.cells #[.int .i64 a_0, .int .i64 a_1, .int .i64 a_2] 59), (.cells #[.int .i64 b_0, .int .i64 b_1, .int .i64 b_2] 59)] w 1 _ rfl), (hb.block _ (by simp <;> omega)).trans (allocs_at [(.cells #[.slice c_0.p c_0.l.length c_0.c, .slice c_1.p c_1.l.length c_1.c, .slice c_2.p c_2.l.length c_2.c] 26), (.cells #[.int .i64 a_0, .int .i64 a_1, .int .i64 a_2] 59), (.cells #[.int .i64 b_0, .int .i64 b_1, .int .i64 b_2] 59)] w 2 _ rfl), hbl.trans (hb.mono hbl.size)⟩
  clear hbl
  clear hb
  clear HCS
  rcases hz with rfl | ⟨i0, q0⟩
  · go_wp2
    go_ret
    exact ⟨rfl, HOLD.out.bel⟩
  have n0 : ¬ (y0 < 0) := by omega
  have Q0 := Hid.intro q0
  have l0 : y0 ≤ 1048576 := by omega
  clear q0
  obtain ⟨A2, hA⟩ : ∃ A, A = w.heap.size + 1 + 1 := ⟨_, rfl⟩
  rw [← hA] at HOLD ⊢
  clear hA
  obtain ⟨A1, hA⟩ : ∃ A, A = w.heap.size + 1 := ⟨_, rfl⟩
  rw [← hA] at HOLD ⊢
  clear hA
  obtain ⟨A0, hA⟩ : ∃ A, A = w.heap.size := ⟨_, rfl⟩
  rw [← hA] at HOLD ⊢
  clear hA
  have HL : Hid (yBusCfg.size (c_0, c_1, c_2) ≤ 1048576) := Hid.intro (by have h0 := Q0.out; omega)
  clear Q0 l0
  obtain ⟨z, hz⟩ : ∃ z, z = trcApartP (yBusCfg.pl (c_0, c_1, c_2)) (a_0, a_1, a_2) (b_0, b_1, b_2) := ⟨_, rfl⟩
  have HZ := Hid.intro hz
  clear hz
  have HT0 : Hid (∀ W, Old0 w (c_0, c_1, c_2) (a_0, a_1, a_2) (b_0, b_1, b_2) A0 A1 A2 W → Calls Try.prog 11 #[.agg #[.slice c_0.p c_0.l.length c_0.c, .slice c_1.p c_1.l.length c_1.c, .slice c_2.p c_2.l.length c_2.c]] W fun e w' => (∃ v, e = .returned v ∧ kTo yBusCfg (yBusCfg.pl (c_0, c_1, c_2)) w' v) ∧ Below W.heap.size W w') := Hid.intro (fun W h => yBusCfg_to.kto (c_0, c_1, c_2) W h.r0 HL.out)
  have HX0 : Hid (∀ W, Old0 w (c_0, c_1, c_2) (a_0, a_1, a_2) (b_0, b_1, b_2) A0 A1 A2 W → Calls Try.prog 11 #[.agg #[.slice c_0.p c_0.l.length c_0.c, .slice c_1.p c_1.l.length c_1.c, .slice c_2.p c_2.l.length c_2.c]] W fun e w' => ∃ a', e = .returned (yBusCfg.val a') ∧ yBusCfg.pl a' = yBusCfg.pl (c_0, c_1, c_2) ∧ yBusCfg.size a' ≤ 1048576 ∧ Fresh yBusCfg W.heap.size w' a' ∧ Below W.heap.size W w') := Hid.intro (fun W h => (yBusCfg_to (c_0, c_1, c_2) W h.r0 HL.out).mono (by rintro e w' ⟨a, h1, h2, h3, h4, h5⟩; exact ⟨a, h1, h2, by rw [h3]; exact HL.out, h4, h5⟩))
  have HF1 : Hid (∀ W : World, Calls Try.prog 26 #[.agg #[.int .i64 a_0, .int .i64 a_1, .int .i64 a_2]] W fun e w' => e = .returned (.agg #[.int .i64 a_0, .int .i64 a_1, .int .i64 a_2]) ∧ Below W.heap.size W w') := Hid.intro (fun W => yTlmEvent_to.flat (fun _ _ h => h) (a_0, a_1, a_2) W HR1.out (Nat.le_of_ble_eq_true rfl))
  have HF2 : Hid (∀ W : World, Calls Try.prog 26 #[.agg #[.int .i64 b_0, .int .i64 b_1, .int .i64 b_2]] W fun e w' => e = .returned (.agg #[.int .i64 b_0, .int .i64 b_1, .int .i64 b_2]) ∧ Below W.heap.size W w') := Hid.intro (fun W => yTlmEvent_to.flat (fun _ _ h => h) (b_0, b_1, b_2) W HR2.out (Nat.le_of_ble_eq_true rfl))
  have HSP : Hid (∀ v0 (W : World), kTo yBusCfg (yBusCfg.pl (c_0, c_1, c_2)) W v0 → Calls Try.prog 25 #[v0, .agg #[.int .i64 a_0, .int .i64 a_1, .int .i64 a_2], .agg #[.int .i64 b_0, .int .i64 b_1, .int .i64 b_2]] W fun e w' => e = .returned (.bool z) ∧ Below W.heap.size W w') := by
    refine Hid.intro ?_
    rintro v0 W ⟨t0, rfl, p0, s0, o0⟩
    have h := spec_TrcApartK t0 (a_0, a_1, a_2) (b_0, b_1, b_2) W (yBusCfg_law.ow_rd o0) s0
    rw [p0, ← HZ.out] at h
    exact h
  have HIM : Hid (∀ v0 (W : World), kTo yBusCfg (yBusCfg.pl (c_0, c_1, c_2)) W v0 → Calls Try.prog 27 #[v0, .agg #[.int .i64 a_0, .int .i64 a_1, .int .i64 a_2], .agg #[.int .i64 b_0, .int .i64 b_1, .int .i64 b_2]] W fun e w' => e = .returned (.bool z) ∧ Below W.heap.size W w') := by
    refine Hid.intro ?_
    rintro v0 W ⟨t0, rfl, p0, s0, o0⟩
    have h := impl_TrcApartK HI.out t0 (a_0, a_1, a_2) (b_0, b_1, b_2) W (yBusCfg_law.ow_rd o0) s0
    rw [p0, ← HZ.out] at h
    exact h
  go_wp2_with fail
  refine wp_region_typed (by kernel_rfl) Gr (fun _ W => Below w1.heap.size w1 W)
    (tab [(16, kIs (.agg #[.slice c_0.p c_0.l.length c_0.c, .slice c_1.p c_1.l.length c_1.c, .slice c_2.p c_2.l.length c_2.c])), (17, kTo yBusCfg (yBusCfg.pl (c_0, c_1, c_2))), (18, kIs (.agg #[.int .i64 a_0, .int .i64 a_1, .int .i64 a_2])), (19, kIs (.agg #[.int .i64 a_0, .int .i64 a_1, .int .i64 a_2])), (20, kIs (.agg #[.int .i64 b_0, .int .i64 b_1, .int .i64 b_2])), (21, kIs (.agg #[.int .i64 b_0, .int .i64 b_1, .int .i64 b_2])), (22, kIs (.bool z)), (8, kIs (.bool z))])
    [16, 17, 18, 19, 20, 21, 22, 8] (by kernel_rfl) (by kernel_rfl) ?_ ?_ ?_ ?_
  · refine tabR_stable ?_
    intro x hx
    simp only [List.mem_cons, List.not_mem_nil, or_false] at hx
    rcases hx with rfl | rfl | rfl | rfl | rfl | rfl | rfl | rfl
    all_goals intro w w' v hr hv
    all_goals first | exact hv | exact kTo_gr yBusCfg_law.blk _ _ _ hr hv
  · exact (Below.refl _ _).drew
  · refine ops_cons (gd rfl <| tx_pure rfl rfl (fun _ _ h => h) Gr.refl (fun i ρ W hat hW => ?_)) ?_
    · have bA : W.heap[A0]? = some (.cells #[.slice c_0.p c_0.l.length c_0.c, .slice c_1.p c_1.l.length c_1.c, .slice c_2.p c_2.l.length c_2.c] 26 (0, 0)) := (HOLD.out.grow hW).b0
      have c0 : W.cell? ⟨A0, 0, none⟩ = some (.slice c_0.p c_0.l.length c_0.c) := heap_cell (bA) 0
      have c1 : W.cell? ⟨A0, 1, none⟩ = some (.slice c_1.p c_1.l.length c_1.c) := heap_cell (bA) 1
      have c2 : W.cell? ⟨A0, 2, none⟩ = some (.slice c_2.p c_2.l.length c_2.c) := heap_cell (bA) 2
      have e2 := hat.out 3 (by kernel_rfl)
      simp [Act.eval] at e2
      clear bA
      simp only [execOp, e2]; go_simp
    refine ops_cons (gd rfl <| tx_call rfl (fun i ρ W _ hat hW => ?_)) ?_
    · have e1 : ρ (.tmp 16) = _ := hat.dep 16 (by kernel_rfl)
      have hf := hat.fn
      refine ⟨11, #[.agg #[.slice c_0.p c_0.l.length c_0.c, .slice c_1.p c_1.l.length c_1.c, .slice c_2.p c_2.l.length c_2.c]], by simp only [execOp]; go_simp, ?_⟩
      refine (HT0.out W (HOLD.out.grow hW)).mono ?_
      rintro e W' ⟨⟨v, rfl, hv⟩, hb⟩
      exact ⟨v, rfl, hW.trans (hb.mono hW.size), hb, hv⟩
    refine ops_cons (gd rfl <| tx_pure rfl rfl (fun _ _ h => h) Gr.refl (fun i ρ W hat hW => ?_)) ?_
    · have bA : W.heap[A1]? = some (.cells #[.int .i64 a_0, .int .i64 a_1, .int .i64 a_2] 59 (0, 0)) := (HOLD.out.grow hW).b1
      have c0 : W.cell? ⟨A1, 0, none⟩ = some (.int .i64 a_0) := heap_cell (bA) 0
      have c1 : W.cell? ⟨A1, 1, none⟩ = some (.int .i64 a_1) := heap_cell (bA) 1
      have c2 : W.cell? ⟨A1, 2, none⟩ = some (.int .i64 a_2) := heap_cell (bA) 2
      have e2 := hat.out 4 (by kernel_rfl)
      simp [Act.eval] at e2
      clear bA
      simp only [execOp, e2]; go_simp
    refine ops_cons (gd rfl <| tx_call rfl (fun i ρ W _ hat hW => ?_)) ?_
    · have e1 : ρ (.tmp 18) = _ := hat.dep 18 (by kernel_rfl)
      have hf := hat.fn
      refine ⟨26, #[.agg #[.int .i64 a_0, .int .i64 a_1, .int .i64 a_2]], by simp only [execOp]; go_simp, ?_⟩
      refine (HF1.out W).mono ?_
      rintro e W' ⟨rfl, hb⟩
      exact ⟨_, rfl, hW.trans (hb.mono hW.size), hb, rfl⟩
    refine ops_cons (gd rfl <| tx_pure rfl rfl (fun _ _ h => h) Gr.refl (fun i ρ W hat hW => ?_)) ?_
    · have bA : W.heap[A2]? = some (.cells #[.int .i64 b_0, .int .i64 b_1, .int .i64 b_2] 59 (0, 0)) := (HOLD.out.grow hW).b2
      have c0 : W.cell? ⟨A2, 0, none⟩ = some (.int .i64 b_0) := heap_cell (bA) 0
      have c1 : W.cell? ⟨A2, 1, none⟩ = some (.int .i64 b_1) := heap_cell (bA) 1
      have c2 : W.cell? ⟨A2, 2, none⟩ = some (.int .i64 b_2) := heap_cell (bA) 2
      have e2 := hat.out 5 (by kernel_rfl)
      simp [Act.eval] at e2
      clear bA
      simp only [execOp, e2]; go_simp
    refine ops_cons (gd rfl <| tx_call rfl (fun i ρ W _ hat hW => ?_)) ?_
    · have e1 : ρ (.tmp 20) = _ := hat.dep 20 (by kernel_rfl)
      have hf := hat.fn
      refine ⟨26, #[.agg #[.int .i64 b_0, .int .i64 b_1, .int .i64 b_2]], by simp only [execOp]; go_simp, ?_⟩
      refine (HF2.out W).mono ?_
      rintro e W' ⟨rfl, hb⟩
      exact ⟨_, rfl, hW.trans (hb.mono hW.size), hb, rfl⟩
    refine ops_cons (gd rfl <| tx_call rfl (fun i ρ W _ hat hW => ?_)) ?_
    · have hf := hat.fn
      have q0 : kTo yBusCfg (yBusCfg.pl (c_0, c_1, c_2)) W (ρ (.tmp 17)) := hat.dep 17 (by kernel_rfl)
      obtain ⟨u0, e0⟩ : ∃ v, ρ (.tmp 17) = v := ⟨_, rfl⟩
      rw [e0] at q0
      have QH0 := Hid.intro q0
      clear q0
      have e1 : ρ (.tmp 19) = _ := hat.dep 19 (by kernel_rfl)
      have e2 : ρ (.tmp 21) = _ := hat.dep 21 (by kernel_rfl)
      refine ⟨25, #[u0, .agg #[.int .i64 a_0, .int .i64 a_1, .int .i64 a_2], .agg #[.int .i64 b_0, .int .i64 b_1, .int .i64 b_2]], by simp only [execOp]; go_simp, ?_⟩
      refine (HSP.out u0 W QH0.out).mono ?_
      rintro e W' ⟨rfl, hb⟩
      exact ⟨_, rfl, hW.trans (hb.mono hW.size), hb, rfl⟩
    refine ops_cons (gd rfl <| tx_pure rfl rfl (fun _ _ h => h) Gr.refl (fun i ρ W hat hW => ?_)) ?_
    · have e1 : ρ (.tmp 22) = _ := hat.dep 22 (by kernel_rfl)
      simp only [execOp, e1]; go_simp
    exact ops_nil
  intro f w2 hb hf
  have ee : f 8 = .bool z := hf 8 (by simp)
  replace HOLD := Hid.intro (HOLD.out.grow hb)
  clear hf hb
  simp only [fill, ee]
  go_simp
  clear ee
  obtain ⟨wN, hN⟩ : ∃ W : World, W = w2 := ⟨_, rfl⟩
  rw [← hN] at HOLD ⊢
  clear hN
  have bA : wN.heap[A0]? = some (.cells #[.slice c_0.p c_0.l.length c_0.c, .slice c_1.p c_1.l.length c_1.c, .slice c_2.p c_2.l.length c_2.c] 26 (0, 0)) := HOLD.out.b0
  have c0 : wN.cell? ⟨A0, 0, none⟩ = some (.slice c_0.p c_0.l.length c_0.c) := heap_cell (bA) 0
  have c1 : wN.cell? ⟨A0, 1, none⟩ = some (.slice c_1.p c_1.l.length c_1.c) := heap_cell (bA) 1
  have c2 : wN.cell? ⟨A0, 2, none⟩ = some (.slice c_2.p c_2.l.length c_2.c) := heap_cell (bA) 2
  have hlc := heap_lt bA
  clear bA
  go_wp2_with fail
  refine (HX0.out _ HOLD.out).mono ?_
  rintro e w3 ⟨⟨x0_0, x0_1, x0_2⟩, he, hp, hs, hf, hb⟩
  replace he : e = .returned (.agg #[.slice x0_0.p x0_0.l.length x0_0.c, .slice x0_1.p x0_1.l.length x0_1.c, .slice x0_2.p x0_2.l.length x0_2.c]) := he
  subst he
  clear c0 c1 c2 hlc
  have HPx0 : Hid (yBusCfg.pl (x0_0, x0_1, x0_2) = yBusCfg.pl (c_0, c_1, c_2) ∧ yBusCfg.size (x0_0, x0_1, x0_2) ≤ 1048576) := Hid.intro ⟨hp, hs⟩
  clear hp hs
  have hfm := Fam.snoc (w' := w3) (Fam.nil wN.heap.size wN) hf.nd hf.ge (Nat.le_refl _) (fun b hb => yBusCfg_law.ow_lt hf.ow b hb) hb.size
  obtain ⟨X0, hB⟩ : ∃ B, B = w3.heap.size := ⟨_, rfl⟩
  obtain ⟨w4, hWB⟩ : ∃ X, X = w3.alloc (.cells #[.slice x0_0.p x0_0.l.length x0_0.c, .slice x0_1.p x0_1.l.length x0_1.c, .slice x0_2.p x0_2.l.length x0_2.c] 32) := ⟨_, rfl⟩
  have grb : Below w3.heap.size w3 w4 := by rw [hWB]; exact (Below.refl _ _).alloc (Nat.le_refl _) _
  have bbx : w4.heap[X0]? = some (.cells #[.slice x0_0.p x0_0.l.length x0_0.c, .slice x0_1.p x0_1.l.length x0_1.c, .slice x0_2.p x0_2.l.length x0_2.c] 32 (0, 0)) := by rw [hWB, hB]; exact nw_k _ rfl
  have HSZ : Hid (w4.heap.size = w3.heap.size + 1) := Hid.intro (by rw [hWB]; simp)
  have HWB := Hid.intro hWB
  have HBB := Hid.intro hB
  clear hWB hB
  have hfm2 := Fam.snoc (w' := w4) (f := [X0]) hfm (by simp) (fun b hb => by rw [List.mem_singleton.1 hb, HBB.out]; exact Nat.le_refl _) (hb.size) (fun b hb => by rw [List.mem_singleton.1 hb, HBB.out, HSZ.out]; omega) grb.size
  have HST1 : Hid (S1 wN (x0_0, x0_1, x0_2) X0 w4) := Hid.intro ⟨yBusCfg_law.ow_blw hf.ow grb, bbx, hfm2, hb.trans (grb.mono hb.size)⟩
  clear hfm hfm2 grb bbx hf hb
  have HST := HST1
  clear HST1
  have HIX : Hid (∀ W, S1 wN (x0_0, x0_1, x0_2) X0 W → Calls Try.prog 27 #[.agg #[.slice x0_0.p x0_0.l.length x0_0.c, .slice x0_1.p x0_1.l.length x0_1.c, .slice x0_2.p x0_2.l.length x0_2.c], .agg #[.int .i64 a_0, .int .i64 a_1, .int .i64 a_2], .agg #[.int .i64 b_0, .int .i64 b_1, .int .i64 b_2]] W fun e w' => e = .returned (.bool z) ∧ Below W.heap.size W w') := Hid.intro (fun W h => HIM.out _ W ⟨_, rfl, HPx0.out.1, HPx0.out.2, h.ox0⟩)
  go_wp2_with fail
  rw [← HWB.out, ← HBB.out]
  clear HWB HBB HSZ
  refine wp_region_typed (by kernel_rfl) Gr (fun _ W => Below w4.heap.size w4 W)
    (tab [(25, kIs (.agg #[.slice x0_0.p x0_0.l.length x0_0.c, .slice x0_1.p x0_1.l.length x0_1.c, .slice x0_2.p x0_2.l.length x0_2.c])), (26, kIs (.agg #[.int .i64 a_0, .int .i64 a_1, .int .i64 a_2])), (27, kIs (.agg #[.int .i64 a_0, .int .i64 a_1, .int .i64 a_2])), (28, kIs (.agg #[.int .i64 b_0, .int .i64 b_1, .int .i64 b_2])), (29, kIs (.agg #[.int .i64 b_0, .int .i64 b_1, .int .i64 b_2])), (30, kIs (.bool z)), (10, kIs (.bool z))])
    [25, 26, 27, 28, 29, 30, 10] (by kernel_rfl) (by kernel_rfl) ?_ ?_ ?_ ?_
  · refine tabR_stable ?_
    intro x hx
    simp only [List.mem_cons, List.not_mem_nil, or_false] at hx
    rcases hx with rfl | rfl | rfl | rfl | rfl | rfl | rfl
    all_goals intro w w' v hr hv
    all_goals first | exact hv
  · exact (Below.refl _ _).drew
  · refine ops_cons (gd rfl <| tx_pure rfl rfl (fun _ _ h => h) Gr.refl (fun i ρ W hat hW => ?_)) ?_
    · have bA : W.heap[X0]? = some (.cells #[.slice x0_0.p x0_0.l.length x0_0.c, .slice x0_1.p x0_1.l.length x0_1.c, .slice x0_2.p x0_2.l.length x0_2.c] 32 (0, 0)) := (HST.out.grow hW).bx0
      have k0 : W.cell? ⟨X0, 0, none⟩ = some (.slice x0_0.p x0_0.l.length x0_0.c) := heap_cell (bA) 0
      have k1 : W.cell? ⟨X0, 1, none⟩ = some (.slice x0_1.p x0_1.l.length x0_1.c) := heap_cell (bA) 1
      have k2 : W.cell? ⟨X0, 2, none⟩ = some (.slice x0_2.p x0_2.l.length x0_2.c) := heap_cell (bA) 2
      have e2 := hat.out 9 (by kernel_rfl)
      simp [Act.eval] at e2
      clear bA
      simp only [execOp, e2]; go_simp
    refine ops_cons (gd rfl <| tx_pure rfl rfl (fun _ _ h => h) Gr.refl (fun i ρ W hat hW => ?_)) ?_
    · have bA : W.heap[A1]? = some (.cells #[.int .i64 a_0, .int .i64 a_1, .int .i64 a_2] 59 (0, 0)) := (HOLD.out.grow (HST.out.grow hW).bel).b1
      have k0 : W.cell? ⟨A1, 0, none⟩ = some (.int .i64 a_0) := heap_cell (bA) 0
      have k1 : W.cell? ⟨A1, 1, none⟩ = some (.int .i64 a_1) := heap_cell (bA) 1
      have k2 : W.cell? ⟨A1, 2, none⟩ = some (.int .i64 a_2) := heap_cell (bA) 2
      have e2 := hat.out 4 (by kernel_rfl)
      simp [Act.eval] at e2
      clear bA
      simp only [execOp, e2]; go_simp
    refine ops_cons (gd rfl <| tx_call rfl (fun i ρ W _ hat hW => ?_)) ?_
    · have e1 : ρ (.tmp 26) = _ := hat.dep 26 (by kernel_rfl)
      have hf := hat.fn
      refine ⟨26, #[.agg #[.int .i64 a_0, .int .i64 a_1, .int .i64 a_2]], by simp only [execOp]; go_simp, ?_⟩
      refine (HF1.out W).mono ?_
      rintro e W' ⟨rfl, hb⟩
      exact ⟨_, rfl, hW.trans (hb.mono hW.size), hb, rfl⟩
    refine ops_cons (gd rfl <| tx_pure rfl rfl (fun _ _ h => h) Gr.refl (fun i ρ W hat hW => ?_)) ?_
    · have bA : W.heap[A2]? = some (.cells #[.int .i64 b_0, .int .i64 b_1, .int .i64 b_2] 59 (0, 0)) := (HOLD.out.grow (HST.out.grow hW).bel).b2
      have k0 : W.cell? ⟨A2, 0, none⟩ = some (.int .i64 b_0) := heap_cell (bA) 0
      have k1 : W.cell? ⟨A2, 1, none⟩ = some (.int .i64 b_1) := heap_cell (bA) 1
      have k2 : W.cell? ⟨A2, 2, none⟩ = some (.int .i64 b_2) := heap_cell (bA) 2
      have e2 := hat.out 5 (by kernel_rfl)
      simp [Act.eval] at e2
      clear bA
      simp only [execOp, e2]; go_simp
    refine ops_cons (gd rfl <| tx_call rfl (fun i ρ W _ hat hW => ?_)) ?_
    · have e1 : ρ (.tmp 28) = _ := hat.dep 28 (by kernel_rfl)
      have hf := hat.fn
      refine ⟨26, #[.agg #[.int .i64 b_0, .int .i64 b_1, .int .i64 b_2]], by simp only [execOp]; go_simp, ?_⟩
      refine (HF2.out W).mono ?_
      rintro e W' ⟨rfl, hb⟩
      exact ⟨_, rfl, hW.trans (hb.mono hW.size), hb, rfl⟩
    refine ops_cons (gd rfl <| tx_call rfl (fun i ρ W _ hat hW => ?_)) ?_
    · have hf := hat.fn
      have e0 : ρ (.tmp 25) = _ := hat.dep 25 (by kernel_rfl)
      have e1 : ρ (.tmp 27) = _ := hat.dep 27 (by kernel_rfl)
      have e2 : ρ (.tmp 29) = _ := hat.dep 29 (by kernel_rfl)
      refine ⟨27, #[.agg #[.slice x0_0.p x0_0.l.length x0_0.c, .slice x0_1.p x0_1.l.length x0_1.c, .slice x0_2.p x0_2.l.length x0_2.c], .agg #[.int .i64 a_0, .int .i64 a_1, .int .i64 a_2], .agg #[.int .i64 b_0, .int .i64 b_1, .int .i64 b_2]], by simp only [execOp]; go_simp, ?_⟩
      refine (HIX.out W (HST.out.grow hW)).mono ?_
      rintro e W' ⟨rfl, hb⟩
      exact ⟨_, rfl, hW.trans (hb.mono hW.size), hb, rfl⟩
    refine ops_cons (gd rfl <| tx_pure rfl rfl (fun _ _ h => h) Gr.refl (fun i ρ W hat hW => ?_)) ?_
    · have e1 : ρ (.tmp 30) = _ := hat.dep 30 (by kernel_rfl)
      simp only [execOp, e1]; go_simp
    exact ops_nil
  intro f w5 hb hf
  have ee : f 10 = .bool z := hf 10 (by simp)
  clear hf
  simp only [fill, ee]
  go_simp
  clear ee
  replace HST := Hid.intro (HST.out.grow hb)
  clear hb HIX
  go_wp2_with fail
  refine wp_region_typed (by kernel_rfl) Gr (fun _ W => Below w5.heap.size w5 W)
    (tab [(34, kIs (.agg #[.slice x0_0.p x0_0.l.length x0_0.c, .slice x0_1.p x0_1.l.length x0_1.c, .slice x0_2.p x0_2.l.length x0_2.c])), (35, kIs (.agg #[.slice c_0.p c_0.l.length c_0.c, .slice c_1.p c_1.l.length c_1.c, .slice c_2.p c_2.l.length c_2.c])), (36, kTo yBusCfg (yBusCfg.pl (c_0, c_1, c_2))), (37, kIs (.bool true)), (38, kIs (.bool false))])
    [34, 35, 36, 37, 38] (by kernel_rfl) (by kernel_rfl) ?_ ?_ ?_ ?_
  · refine tabR_stable ?_
    intro x hx
    simp only [List.mem_cons, List.not_mem_nil, or_false] at hx
    rcases hx with rfl | rfl | rfl | rfl | rfl
    all_goals intro w w' v hr hv
    all_goals first | exact hv | exact kTo_gr yBusCfg_law.blk _ _ _ hr hv
  · exact (Below.refl _ _).drew
  · refine ops_cons (gd rfl <| tx_pure rfl rfl (fun _ _ h => h) Gr.refl (fun i ρ W hat hW => ?_)) ?_
    · have bA : W.heap[X0]? = some (.cells #[.slice x0_0.p x0_0.l.length x0_0.c, .slice x0_1.p x0_1.l.length x0_1.c, .slice x0_2.p x0_2.l.length x0_2.c] 32 (0, 0)) := (HST.out.grow hW).bx0
      have k0 : W.cell? ⟨X0, 0, none⟩ = some (.slice x0_0.p x0_0.l.length x0_0.c) := heap_cell (bA) 0
      have k1 : W.cell? ⟨X0, 1, none⟩ = some (.slice x0_1.p x0_1.l.length x0_1.c) := heap_cell (bA) 1
      have k2 : W.cell? ⟨X0, 2, none⟩ = some (.slice x0_2.p x0_2.l.length x0_2.c) := heap_cell (bA) 2
      have e2 := hat.out 9 (by kernel_rfl)
      simp [Act.eval] at e2
      clear bA
      simp only [execOp, e2]; go_simp
    refine ops_cons (gd rfl <| tx_pure rfl rfl (fun _ _ h => h) Gr.refl (fun i ρ W hat hW => ?_)) ?_
    · have bA : W.heap[A0]? = some (.cells #[.slice c_0.p c_0.l.length c_0.c, .slice c_1.p c_1.l.length c_1.c, .slice c_2.p c_2.l.length c_2.c] 26 (0, 0)) := (HOLD.out.grow (HST.out.grow hW).bel).b0
      have k0 : W.cell? ⟨A0, 0, none⟩ = some (.slice c_0.p c_0.l.length c_0.c) := heap_cell (bA) 0
      have k1 : W.cell? ⟨A0, 1, none⟩ = some (.slice c_1.p c_1.l.length c_1.c) := heap_cell (bA) 1
      have k2 : W.cell? ⟨A0, 2, none⟩ = some (.slice c_2.p c_2.l.length c_2.c) := heap_cell (bA) 2
      have e2 := hat.out 3 (by kernel_rfl)
      simp [Act.eval] at e2
      clear bA
      simp only [execOp, e2]; go_simp
    refine ops_cons (gd rfl <| tx_call rfl (fun i ρ W _ hat hW => ?_)) ?_
    · have e1 : ρ (.tmp 35) = _ := hat.dep 35 (by kernel_rfl)
      have hf := hat.fn
      refine ⟨11, #[.agg #[.slice c_0.p c_0.l.length c_0.c, .slice c_1.p c_1.l.length c_1.c, .slice c_2.p c_2.l.length c_2.c]], by simp only [execOp]; go_simp, ?_⟩
      refine (HT0.out W (HOLD.out.grow (HST.out.grow hW).bel)).mono ?_
      rintro e W' ⟨⟨v, rfl, hv⟩, hb⟩
      exact ⟨v, rfl, hW.trans (hb.mono hW.size), hb, hv⟩
    refine ops_cons (gd rfl <| tx_call rfl (fun i ρ W _ hat hW => ?_)) ?_
    · have e1 : ρ (.tmp 34) = _ := hat.dep 34 (by kernel_rfl)
      obtain ⟨⟨u_0, u_1, u_2⟩, e2, u1, _, u2⟩ : kTo yBusCfg (yBusCfg.pl (c_0, c_1, c_2)) W (ρ (.tmp 36)) := hat.dep 36 (by kernel_rfl)
      rw [yBusCfg_val] at e2
      have hf := hat.fn
      refine ⟨13, #[.agg #[.slice x0_0.p x0_0.l.length x0_0.c, .slice x0_1.p x0_1.l.length x0_1.c, .slice x0_2.p x0_2.l.length x0_2.c], .agg #[.slice u_0.p u_0.l.length u_0.c, .slice u_1.p u_1.l.length u_1.c, .slice u_2.p u_2.l.length u_2.c]], by simp only [execOp]; go_simp, ?_⟩
      have hcl := yBusCfg_eq (x0_0, x0_1, x0_2) (u_0, u_1, u_2) W (yBusCfg_law.ow_rd (HST.out.grow hW).ox0) (yBusCfg_law.ow_rd u2) (HPx0.out.1.trans u1.symm)
      refine Calls.mono (show Calls Try.prog 13 #[.agg #[.slice x0_0.p x0_0.l.length x0_0.c, .slice x0_1.p x0_1.l.length x0_1.c, .slice x0_2.p x0_2.l.length x0_2.c], .agg #[.slice u_0.p u_0.l.length u_0.c, .slice u_1.p u_1.l.length u_1.c, .slice u_2.p u_2.l.length u_2.c]] W _ from hcl) ?_
      rintro e W' ⟨rfl, hb⟩
      exact ⟨_, rfl, hW.trans (hb.mono hW.size), hb, rfl⟩
    refine ops_cons (gd rfl <| tx_pure rfl rfl (fun _ _ h => h) Gr.refl (fun i ρ W hat hW => ?_)) ?_
    · have e1 : ρ (.tmp 37) = _ := hat.dep 37 (by kernel_rfl)
      simp only [execOp, e1]; go_simp
    exact ops_nil
  intro f w6 hb hf
  have ee : f 38 = .bool false := hf 38 (by simp)
  replace HST := Hid.intro (HST.out.grow hb)
  clear hf hb
  simp only [fill, ee]
  go_simp
  clear ee
  have hend := (HOLD.out.grow HST.out.bel).bel
  clear HST HOLD
  go_wp2
  go_ret
  exact ⟨rfl, hend⟩

end fnExactTrcApart

end Go.Proofs.Ytgjlkmhbaimjpaa
