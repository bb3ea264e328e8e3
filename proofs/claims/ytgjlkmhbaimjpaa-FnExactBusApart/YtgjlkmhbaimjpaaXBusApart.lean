/-
  The law FnExactBusApart, walked, by kinds.
-/
import Derived.Test.YtgjlkmhbaimjpaaRows
import Derived.Test.YtgjlkmhbaimjpaaFam
import Derived.Test.YtgjlkmhbaimjpaaOpsXM
import Derived.Test.YtgjlkmhbaimjpaaApK
namespace Go.Proofs.Ytgjlkmhbaimjpaa
open Go.RowKit
set_option linter.unusedSimpArgs false
set_option linter.unusedVariables false

namespace fnExactBusApart
structure Old0 (w : World) (c : ((Lst (Int × Int × Int × Bool)) × (Lst Int) × (Lst (Lst (Int × Int × Int × Int × Bool × (Lst Int) × (Lst Int)))))) (A0 : Nat) (W : World) : Prop where
  r0 : yBusCfg.rd W c
  b0 : W.heap[A0]? = some (.cells (yBusCfg.cells c).toArray 26 (0, 0))
  bel : Below w.heap.size w W
theorem Old0.grow {w : World} {c : ((Lst (Int × Int × Int × Bool)) × (Lst Int) × (Lst (Lst (Int × Int × Int × Int × Bool × (Lst Int) × (Lst Int)))))} {A0 : Nat} {W W' : World} (h : Old0 w c A0 W) (hb : Below W.heap.size W W') : Old0 w c A0 W' := ⟨yBusCfg_law.rd_blw h.r0 hb, (hb.block _ (heap_lt h.b0)).trans h.b0, h.bel.trans (hb.mono h.bel.size)⟩
structure S1 (wN : World) (x0 : ((Lst (Int × Int × Int × Bool)) × (Lst Int) × (Lst (Lst (Int × Int × Int × Int × Bool × (Lst Int) × (Lst Int)))))) (X0 : Nat) (W : World) : Prop where
  ox0 : yBusCfg.ow W x0
  bx0 : W.heap[X0]? = some (.cells (yBusCfg.cells x0).toArray 32 (0, 0))
  fam : Fam wN.heap.size W [yBusCfg.foot x0, [X0]]
  bel : Below wN.heap.size wN W
theorem S1.grow {wN : World} {x0 : ((Lst (Int × Int × Int × Bool)) × (Lst Int) × (Lst (Lst (Int × Int × Int × Int × Bool × (Lst Int) × (Lst Int)))))} {X0 : Nat} {W W' : World} (h : S1 wN x0 X0 W) (hb : Below W.heap.size W W') : S1 wN x0 X0 W' := ⟨yBusCfg_law.ow_blw h.ox0 hb, (hb.block _ (heap_lt h.bx0)).trans h.bx0, h.fam.size hb.size, h.bel.trans (hb.mono h.bel.size)⟩

set_option maxRecDepth 100000 in
set_option maxHeartbeats 8000000 in
theorem walk (hI : ReqOkC ∧ ReqSlaveC) (c : ((Lst (Int × Int × Int × Bool)) × (Lst Int) × (Lst (Lst (Int × Int × Int × Int × Bool × (Lst Int) × (Lst Int)))))) (who : Int) (w : World) (hr0 : yBusCfg.rd w c) :
    Calls Try.prog 6 #[yBusCfg.val c, .int .i64 who] w fun e w' => e = .returned (.bool true) ∧ Below w.heap.size w w' := by
  obtain ⟨c_0, c_1, c_2⟩ := c
  have HI := Hid.intro hI
  clear hI
  have HR0 := Hid.intro hr0
  clear hr0
  show Calls Try.prog 6 #[.agg #[.slice c_0.p c_0.l.length c_0.c, .slice c_1.p c_1.l.length c_1.c, .slice c_2.p c_2.l.length c_2.c], .int .i64 who] w _
  have hbl : Below w.heap.size w (w.alloc (.cells #[.slice c_0.p c_0.l.length c_0.c, .slice c_1.p c_1.l.length c_1.c, .slice c_2.p c_2.l.length c_2.c] 26)) := allocs_below [(.cells #[.slice c_0.p c_0.l.length c_0.c, .slice c_1.p c_1.l.length c_1.c, .slice c_2.p c_2.l.length c_2.c] 26)] w
  go_enter Try.func6, Try.ntmps6
  have HCS : Hid (∀ (left : Int) (w : World), yBusCfg.rd w (c_0, c_1, c_2) → 0 ≤ left → left ≤ 1048576 → Calls Try.prog 9 #[.agg #[.slice c_0.p c_0.l.length c_0.c, .slice c_1.p c_1.l.length c_1.c, .slice c_2.p c_2.l.length c_2.c], .int .i64 left] w fun e w' => (∃ z : Int, e = .returned (.int .i64 z) ∧ (z = -1 ∨ (0 ≤ z ∧ z = left - (yBusCfg.size (c_0, c_1, c_2) : Int)))) ∧ Below w.heap.size w w') := Hid.intro (yBusCfg_sz (c_0, c_1, c_2))
  go_wp2_with fail
  refine (HCS.out 1048576 _ (yBusCfg_law.rd_blw HR0.out hbl) (by decide) (by decide)).mono ?_
  rintro e w1 ⟨⟨y0, rfl, hz⟩, hb⟩
  have HOLD : Hid (Old0 w (c_0, c_1, c_2) (w.heap.size) w1) := Hid.intro ⟨yBusCfg_law.rd_blw HR0.out (hbl.trans (hb.mono hbl.size)), (hb.block _ (by simp <;> omega)).trans (allocs_at [(.cells #[.slice c_0.p c_0.l.length c_0.c, .slice c_1.p c_1.l.length c_1.c, .slice c_2.p c_2.l.length c_2.c] 26)] w 0 _ rfl), hbl.trans (hb.mono hbl.size)⟩
  clear hbl
  clear hb
  clear HCS
  rcases hz with rfl | ⟨i0, q0⟩
  · go_wp2
    go_ret
    exact ⟨rfl, HOLD.out.bel⟩
  have n0 : ¬ (y0 < 0) := by omega
  have Q0 := Hid.intro q0
  have l0 : y0 ≤ 1048576 := by omega
  clear q0
  obtain ⟨A0, hA⟩ : ∃ A, A = w.heap.size := ⟨_, rfl⟩
  rw [← hA] at HOLD ⊢
  clear hA
  have HL : Hid (yBusCfg.size (c_0, c_1, c_2) ≤ 1048576) := Hid.intro (by have h0 := Q0.out; omega)
  clear Q0 l0
  obtain ⟨z, hz⟩ : ∃ z, z = busApartP (yBusCfg.pl (c_0, c_1, c_2)) who := ⟨_, rfl⟩
  have HZ := Hid.intro hz
  clear hz
  have HT0 : Hid (∀ W, Old0 w (c_0, c_1, c_2) A0 W → Calls Try.prog 11 #[.agg #[.slice c_0.p c_0.l.length c_0.c, .slice c_1.p c_1.l.length c_1.c, .slice c_2.p c_2.l.length c_2.c]] W fun e w' => (∃ v, e = .returned v ∧ kTo yBusCfg (yBusCfg.pl (c_0, c_1, c_2)) w' v) ∧ Below W.heap.size W w') := Hid.intro (fun W h => yBusCfg_to.kto (c_0, c_1, c_2) W h.r0 HL.out)
  have HX0 : Hid (∀ W, Old0 w (c_0, c_1, c_2) A0 W → Calls Try.prog 11 #[.agg #[.slice c_0.p c_0.l.length c_0.c, .slice c_1.p c_1.l.length c_1.c, .slice c_2.p c_2.l.length c_2.c]] W fun e w' => ∃ a', e = .returned (yBusCfg.val a') ∧ yBusCfg.pl a' = yBusCfg.pl (c_0, c_1, c_2) ∧ yBusCfg.size a' ≤ 1048576 ∧ Fresh yBusCfg W.heap.size w' a' ∧ Below W.heap.size W w') := Hid.intro (fun W h => (yBusCfg_to (c_0, c_1, c_2) W h.r0 HL.out).mono (by rintro e w' ⟨a, h1, h2, h3, h4, h5⟩; exact ⟨a, h1, h2, by rw [h3]; exact HL.out, h4, h5⟩))
  have HSP : Hid (∀ v0 (W : World), kTo yBusCfg (yBusCfg.pl (c_0, c_1, c_2)) W v0 → Calls Try.prog 23 #[v0, .int .i64 who] W fun e w' => e = .returned (.bool z) ∧ Below W.heap.size W w') := by
    refine Hid.intro ?_
    rintro v0 W ⟨t0, rfl, p0, s0, o0⟩
    have h := spec_BusApartK t0 who W (yBusCfg_law.ow_rd o0) s0
    rw [p0, ← HZ.out] at h
    exact h
  have HIM : Hid (∀ v0 (W : World), kTo yBusCfg (yBusCfg.pl (c_0, c_1, c_2)) W v0 → Calls Try.prog 24 #[v0, .int .i64 who] W fun e w' => e = .returned (.bool z) ∧ Below W.heap.size W w') := by
    refine Hid.intro ?_
    rintro v0 W ⟨t0, rfl, p0, s0, o0⟩
    have h := (impl_BusApartK HI.out.1 HI.out.2) t0 who W (yBusCfg_law.ow_rd o0) s0
    rw [p0, ← HZ.out] at h
    exact h
  have bA : w1.heap[A0]? = some (.cells #[.slice c_0.p c_0.l.length c_0.c, .slice c_1.p c_1.l.length c_1.c, .slice c_2.p c_2.l.length c_2.c] 26 (0, 0)) := HOLD.out.b0
  have c0 : w1.cell? ⟨A0, 0, none⟩ = some (.slice c_0.p c_0.l.length c_0.c) := heap_cell (bA) 0
  have c1 : w1.cell? ⟨A0, 1, none⟩ = some (.slice c_1.p c_1.l.length c_1.c) := heap_cell (bA) 1
  have c2 : w1.cell? ⟨A0, 2, none⟩ = some (.slice c_2.p c_2.l.length c_2.c) := heap_cell (bA) 2
  clear bA
  go_wp2_with fail
  refine (HT0.out _ HOLD.out).mono ?_
  rintro e w2 ⟨⟨v0, rfl, hv⟩, hb⟩
  replace HOLD := Hid.intro (HOLD.out.grow hb)
  have HV := Hid.intro hv
  clear hv hb c0 c1 c2
  go_wp2_with fail
  refine (HSP.out v0 _ HV.out).mono ?_
  rintro e w3 ⟨rfl, hb⟩
  replace HOLD := Hid.intro (HOLD.out.grow hb)
  clear hb HV
  obtain ⟨wN, hN⟩ : ∃ W : World, W = w3 := ⟨_, rfl⟩
  rw [← hN] at HOLD ⊢
  clear hN
  have bA : wN.heap[A0]? = some (.cells #[.slice c_0.p c_0.l.length c_0.c, .slice c_1.p c_1.l.length c_1.c, .slice c_2.p c_2.l.length c_2.c] 26 (0, 0)) := HOLD.out.b0
  have c0 : wN.cell? ⟨A0, 0, none⟩ = some (.slice c_0.p c_0.l.length c_0.c) := heap_cell (bA) 0
  have c1 : wN.cell? ⟨A0, 1, none⟩ = some (.slice c_1.p c_1.l.length c_1.c) := heap_cell (bA) 1
  have c2 : wN.cell? ⟨A0, 2, none⟩ = some (.slice c_2.p c_2.l.length c_2.c) := heap_cell (bA) 2
  have hlc := heap_lt bA
  clear bA
  go_wp2_with fail
  refine (HX0.out _ HOLD.out).mono ?_
  rintro e w4 ⟨⟨x0_0, x0_1, x0_2⟩, he, hp, hs, hf, hb⟩
  replace he : e = .returned (.agg #[.slice x0_0.p x0_0.l.length x0_0.c, .slice x0_1.p x0_1.l.length x0_1.c, .slice x0_2.p x0_2.l.length x0_2.c]) := he
  subst he
  clear c0 c1 c2 hlc
  have HPx0 : Hid (yBusCfg.pl (x0_0, x0_1, x0_2) = yBusCfg.pl (c_0, c_1, c_2) ∧ yBusCfg.size (x0_0, x0_1, x0_2) ≤ 1048576) := Hid.intro ⟨hp, hs⟩
  clear hp hs
  have hfm := Fam.snoc (w' := w4) (Fam.nil wN.heap.size wN) hf.nd hf.ge (Nat.le_refl _) (fun b hb => yBusCfg_law.ow_lt hf.ow b hb) hb.size
  obtain ⟨X0, hB⟩ : ∃ B, B = w4.heap.size := ⟨_, rfl⟩
  obtain ⟨w5, hWB⟩ : ∃ X, X = w4.alloc (.cells #[.slice x0_0.p x0_0.l.length x0_0.c, .slice x0_1.p x0_1.l.length x0_1.c, .slice x0_2.p x0_2.l.length x0_2.c] 32) := ⟨_, rfl⟩
  have grb : Below w4.heap.size w4 w5 := by rw [hWB]; exact (Below.refl _ _).alloc (Nat.le_refl _) _
  have bbx : w5.heap[X0]? = some (.cells #[.slice x0_0.p x0_0.l.length x0_0.c, .slice x0_1.p x0_1.l.length x0_1.c, .slice x0_2.p x0_2.l.length x0_2.c] 32 (0, 0)) := by rw [hWB, hB]; exact nw_k _ rfl
  have HSZ : Hid (w5.heap.size = w4.heap.size + 1) := Hid.intro (by rw [hWB]; simp)
  have HWB := Hid.intro hWB
  have HBB := Hid.intro hB
  clear hWB hB
  have hfm2 := Fam.snoc (w' := w5) (f := [X0]) hfm (by simp) (fun b hb => by rw [List.mem_singleton.1 hb, HBB.out]; exact Nat.le_refl _) (hb.size) (fun b hb => by rw [List.mem_singleton.1 hb, HBB.out, HSZ.out]; omega) grb.size
  have HST1 : Hid (S1 wN (x0_0, x0_1, x0_2) X0 w5) := Hid.intro ⟨yBusCfg_law.ow_blw hf.ow grb, bbx, hfm2, hb.trans (grb.mono hb.size)⟩
  clear hfm hfm2 grb bbx hf hb
  have HST := HST1
  clear HST1
  have HIX : Hid (∀ W, S1 wN (x0_0, x0_1, x0_2) X0 W → Calls Try.prog 24 #[.agg #[.slice x0_0.p x0_0.l.length x0_0.c, .slice x0_1.p x0_1.l.length x0_1.c, .slice x0_2.p x0_2.l.length x0_2.c], .int .i64 who] W fun e w' => e = .returned (.bool z) ∧ Below W.heap.size W w') := Hid.intro (fun W h => HIM.out _ W ⟨_, rfl, HPx0.out.1, HPx0.out.2, h.ox0⟩)
  go_wp2_with fail
  rw [← HWB.out, ← HBB.out]
  clear HWB HBB HSZ
  refine (HIX.out _ HST.out).mono ?_
  rintro e w6 ⟨rfl, hb⟩
  replace HST := Hid.intro (HST.out.grow hb)
  clear hb HIX
  go_wp2_with fail
  refine wp_region_typed (by kernel_rfl) Gr (fun _ W => Below w6.heap.size w6 W)
    (tab [(26, kIs (.agg #[.slice x0_0.p x0_0.l.length x0_0.c, .slice x0_1.p x0_1.l.length x0_1.c, .slice x0_2.p x0_2.l.length x0_2.c])), (27, kIs (.agg #[.slice c_0.p c_0.l.length c_0.c, .slice c_1.p c_1.l.length c_1.c, .slice c_2.p c_2.l.length c_2.c])), (28, kTo yBusCfg (yBusCfg.pl (c_0, c_1, c_2))), (29, kIs (.bool true)), (30, kIs (.bool false))])
    [26, 27, 28, 29, 30] (by kernel_rfl) (by kernel_rfl) ?_ ?_ ?_ ?_
  · refine tabR_stable ?_
    intro x hx
    simp only [List.mem_cons, List.not_mem_nil, or_false] at hx
    rcases hx with rfl | rfl | rfl | rfl | rfl
    all_goals intro w w' v hr hv
    all_goals first | exact hv | exact kTo_gr yBusCfg_law.blk _ _ _ hr hv
  · exact (Below.refl _ _).drew
  · refine ops_cons (gd rfl <| tx_pure rfl rfl (fun _ _ h => h) Gr.refl (fun i ρ W hat hW => ?_)) ?_
    · have bA : W.heap[X0]? = some (.cells #[.slice x0_0.p x0_0.l.length x0_0.c, .slice x0_1.p x0_1.l.length x0_1.c, .slice x0_2.p x0_2.l.length x0_2.c] 32 (0, 0)) := (HST.out.grow hW).bx0
      have k0 : W.cell? ⟨X0, 0, none⟩ = some (.slice x0_0.p x0_0.l.length x0_0.c) := heap_cell (bA) 0
      have k1 : W.cell? ⟨X0, 1, none⟩ = some (.slice x0_1.p x0_1.l.length x0_1.c) := heap_cell (bA) 1
      have k2 : W.cell? ⟨X0, 2, none⟩ = some (.slice x0_2.p x0_2.l.length x0_2.c) := heap_cell (bA) 2
      have e2 := hat.out 7 (by kernel_rfl)
      simp [Act.eval] at e2
      clear bA
      simp only [execOp, e2]; go_simp
    refine ops_cons (gd rfl <| tx_pure rfl rfl (fun _ _ h => h) Gr.refl (fun i ρ W hat hW => ?_)) ?_
    · have bA : W.heap[A0]? = some (.cells #[.slice c_0.p c_0.l.length c_0.c, .slice c_1.p c_1.l.length c_1.c, .slice c_2.p c_2.l.length c_2.c] 26 (0, 0)) := (HOLD.out.grow (HST.out.grow hW).bel).b0
      have k0 : W.cell? ⟨A0, 0, none⟩ = some (.slice c_0.p c_0.l.length c_0.c) := heap_cell (bA) 0
      have k1 : W.cell? ⟨A0, 1, none⟩ = some (.slice c_1.p c_1.l.length c_1.c) := heap_cell (bA) 1
      have k2 : W.cell? ⟨A0, 2, none⟩ = some (.slice c_2.p c_2.l.length c_2.c) := heap_cell (bA) 2
      have e2 := hat.out 2 (by kernel_rfl)
      simp [Act.eval] at e2
      clear bA
      simp only [execOp, e2]; go_simp
    refine ops_cons (gd rfl <| tx_call rfl (fun i ρ W _ hat hW => ?_)) ?_
    · have e1 : ρ (.tmp 27) = _ := hat.dep 27 (by kernel_rfl)
      have hf := hat.fn
      refine ⟨11, #[.agg #[.slice c_0.p c_0.l.length c_0.c, .slice c_1.p c_1.l.length c_1.c, .slice c_2.p c_2.l.length c_2.c]], by simp only [execOp]; go_simp, ?_⟩
      refine (HT0.out W (HOLD.out.grow (HST.out.grow hW).bel)).mono ?_
      rintro e W' ⟨⟨v, rfl, hv⟩, hb⟩
      exact ⟨v, rfl, hW.trans (hb.mono hW.size), hb, hv⟩
    refine ops_cons (gd rfl <| tx_call rfl (fun i ρ W _ hat hW => ?_)) ?_
    · have e1 : ρ (.tmp 26) = _ := hat.dep 26 (by kernel_rfl)
      obtain ⟨⟨u_0, u_1, u_2⟩, e2, u1, _, u2⟩ : kTo yBusCfg (yBusCfg.pl (c_0, c_1, c_2)) W (ρ (.tmp 28)) := hat.dep 28 (by kernel_rfl)
      rw [yBusCfg_val] at e2
      have hf := hat.fn
      refine ⟨13, #[.agg #[.slice x0_0.p x0_0.l.length x0_0.c, .slice x0_1.p x0_1.l.length x0_1.c, .slice x0_2.p x0_2.l.length x0_2.c], .agg #[.slice u_0.p u_0.l.length u_0.c, .slice u_1.p u_1.l.length u_1.c, .slice u_2.p u_2.l.length u_2.c]], by simp only [execOp]; go_simp, ?_⟩
      have hcl := yBusCfg_eq (x0_0, x0_1, x0_2) (u_0, u_1, u_2) W (yBusCfg_law.ow_rd (HST.out.grow hW).ox0) (yBusCfg_law.ow_rd u2) (HPx0.out.1.trans u1.symm)
      refine Calls.mono (show Calls Try.prog 13 #[.agg #[.slice x0_0.p x0_0.l.length x0_0.c, .slice x0_1.p x0_1.l.length x0_1.c, .slice x0_2.p x0_2.l.length x0_2.c], .agg #[.slice u_0.p u_0.l.length u_0.c, .slice u_1.p u_1.l.length u_1.c, .slice u_2.p u_2.l.length u_2.c]] W _ from hcl) ?_
      rintro e W' ⟨rfl, hb⟩
      exact ⟨_, rfl, hW.trans (hb.mono hW.size), hb, rfl⟩
    refine ops_cons (gd rfl <| tx_pure rfl rfl (fun _ _ h => h) Gr.refl (fun i ρ W hat hW => ?_)) ?_
    · have e1 : ρ (.tmp 29) = _ := hat.dep 29 (by kernel_rfl)
      simp only [execOp, e1]; go_simp
    exact ops_nil
  intro f w7 hb hf
  have ee : f 30 = .bool false := hf 30 (by simp)
  replace HST := Hid.intro (HST.out.grow hb)
  clear hf hb
  simp only [fill, ee]
  go_simp
  clear ee
  have hend := (HOLD.out.grow HST.out.bel).bel
  clear HST HOLD
  go_wp2
  go_ret
  exact ⟨rfl, hend⟩

end fnExactBusApart

end Go.Proofs.Ytgjlkmhbaimjpaa
