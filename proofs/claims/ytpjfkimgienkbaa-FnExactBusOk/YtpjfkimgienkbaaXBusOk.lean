/-
  The law FnExactBusOk, walked, by kinds.
-/
import Derived.Test.YtpjfkimgienkbaaRows
import Derived.Test.YtpjfkimgienkbaaKndX
import Derived.Test.YtpjfkimgienkbaaOpsXM
import Derived.Test.YtpjfkimgienkbaaBusK
namespace Go.Proofs.Ytpjfkimgienkbaa
open Go.RowKit
set_option linter.unusedSimpArgs false
set_option linter.unusedVariables false

namespace fnExactBusOk
set_option maxRecDepth 100000 in
set_option maxHeartbeats 4000000 in
theorem walk (hI : ReqOkC) (c : ((Lst (Int × Int × Int × Bool)) × (Lst Int) × (Lst (Lst (Int × Int × Int × Int × Bool × (Lst Int) × (Lst Int)))))) (w : World) (hr : yBusCfg.rd w c) :
    Calls Try.prog 5 #[yBusCfg.val c] w fun e w' => e = .returned (.bool true) ∧ Below w.heap.size w w' := by
  obtain ⟨c_0, c_1, c_2⟩ := c
  have HI := Hid.intro hI
  have HR := Hid.intro hr
  clear hI hr
  have hbl : ∀ o, Below w.heap.size w (w.alloc o) := fun o => (Below.refl _ w).alloc (Nat.le_refl _) o
  show Calls Try.prog 5 #[.agg #[.slice c_0.p c_0.l.length c_0.c, .slice c_1.p c_1.l.length c_1.c, .slice c_2.p c_2.l.length c_2.c]] w _
  go_enter Try.func5, Try.ntmps5
  have HCS : Hid (∀ (left : Int) (w : World), yBusCfg.rd w (c_0, c_1, c_2) → 0 ≤ left → left ≤ 1048576 → Calls Try.prog 14 #[.agg #[.slice c_0.p c_0.l.length c_0.c, .slice c_1.p c_1.l.length c_1.c, .slice c_2.p c_2.l.length c_2.c], .int .i64 left] w fun e w' => (∃ z : Int, e = .returned (.int .i64 z) ∧ (z = -1 ∨ (0 ≤ z ∧ z = left - (yBusCfg.size (c_0, c_1, c_2) : Int)))) ∧ Below w.heap.size w w') := Hid.intro (yBusCfg_sz (c_0, c_1, c_2))
  go_wp2_with fail
  refine (HCS.out 1048576 _ (yBusCfg_law.rd_blw HR.out (hbl _)) (by decide) (by decide)).mono ?_
  rintro e w1 ⟨⟨z0, rfl, hz⟩, hb⟩
  have bel0 : Below w.heap.size w w1 := (hbl _).trans (hb.mono (hbl _).size)
  have bA : w1.heap[w.heap.size]? = some (.cells #[.slice c_0.p c_0.l.length c_0.c, .slice c_1.p c_1.l.length c_1.c, .slice c_2.p c_2.l.length c_2.c] 45 (0, 0)) := (hb.block _ (by simp)).trans (nw_k _ rfl)
  clear hb HCS hbl
  rcases hz with rfl | ⟨g0, q0⟩
  · go_wp2
    go_ret
    exact ⟨rfl, bel0⟩
  have n0 : ¬ (z0 < 0) := by omega
  have HL : Hid (yBusCfg.size (c_0, c_1, c_2) ≤ 1048576) := Hid.intro (by omega)
  clear q0
  have HOLD : Hid (∀ W, Below w1.heap.size w1 W → yBusCfg.rd W (c_0, c_1, c_2) ∧ W.heap[w.heap.size]? = some (.cells #[.slice c_0.p c_0.l.length c_0.c, .slice c_1.p c_1.l.length c_1.c, .slice c_2.p c_2.l.length c_2.c] 45 (0, 0)) ∧ Below w.heap.size w W) := Hid.intro (fun W hW => ⟨yBusCfg_law.rd_blw HR.out (bel0.trans (hW.mono bel0.size)), (hW.block _ (heap_lt bA)).trans bA, bel0.trans (hW.mono bel0.size)⟩)
  obtain ⟨z, hz⟩ : ∃ z, z = busOkP (yBusCfg.pl (c_0, c_1, c_2)) := ⟨_, rfl⟩
  have HZ := Hid.intro hz
  clear hz
  have HCT0 : Hid (∀ (W : World), yBusCfg.rd W (c_0, c_1, c_2) → Calls Try.prog 15 #[.agg #[.slice c_0.p c_0.l.length c_0.c, .slice c_1.p c_1.l.length c_1.c, .slice c_2.p c_2.l.length c_2.c]] W fun e w' => ∃ a', e = .returned (yBusCfg.val a') ∧ yBusCfg.pl a' = yBusCfg.pl (c_0, c_1, c_2) ∧ Fresh yBusCfg W.heap.size w' a' ∧ Below W.heap.size W w') := Hid.intro (fun W h => (yBusCfg_to (c_0, c_1, c_2) W h HL.out).mono (by rintro e w' ⟨a, h1, h2, _, h4, h5⟩; exact ⟨a, h1, h2, h4, h5⟩))
  have c0 : w1.cell? ⟨w.heap.size, 0, none⟩ = some (.slice c_0.p c_0.l.length c_0.c) := heap_cell (bA) 0
  have c1 : w1.cell? ⟨w.heap.size, 1, none⟩ = some (.slice c_1.p c_1.l.length c_1.c) := heap_cell (bA) 1
  have c2 : w1.cell? ⟨w.heap.size, 2, none⟩ = some (.slice c_2.p c_2.l.length c_2.c) := heap_cell (bA) 2
  clear bel0
  go_wp2_with fail
  refine (HCT0.out w1 (HOLD.out w1 (Below.refl _ _)).1).mono ?_
  rintro e w2 ⟨⟨t_0, t_1, t_2⟩, he, hp, hf, hb⟩
  rw [yBusCfg_val] at he
  subst he
  have HSP : Hid (Calls Try.prog 8 #[.agg #[.slice t_0.p t_0.l.length t_0.c, .slice t_1.p t_1.l.length t_1.c, .slice t_2.p t_2.l.length t_2.c]] w2 fun e w' => e = .returned (.bool z) ∧ Below w2.heap.size w2 w') := Hid.intro (by have h := spec_BusOk (t_0, t_1, t_2) w2 (yBusCfg_law.ow_rd hf.ow); rw [hp, ← HZ.out] at h; exact h)
  have HB2 := Hid.intro hb
  clear hp hf hb bA c0 c1 c2
  go_wp2_with fail
  refine HSP.out.mono ?_
  rintro e w3 ⟨rfl, hb⟩
  have HB3 := Hid.intro (HB2.out.trans (hb.mono HB2.out.size))
  clear hb HB2 HSP
  have bA := (HOLD.out w3 HB3.out).2.1
  have c0 : w3.cell? ⟨w.heap.size, 0, none⟩ = some (.slice c_0.p c_0.l.length c_0.c) := heap_cell (bA) 0
  have c1 : w3.cell? ⟨w.heap.size, 1, none⟩ = some (.slice c_1.p c_1.l.length c_1.c) := heap_cell (bA) 1
  have c2 : w3.cell? ⟨w.heap.size, 2, none⟩ = some (.slice c_2.p c_2.l.length c_2.c) := heap_cell (bA) 2
  go_wp2_with fail
  refine (HCT0.out w3 (HOLD.out w3 HB3.out).1).mono ?_
  rintro e w4 ⟨⟨x_0, x_1, x_2⟩, he, hp, hf, hb⟩
  rw [yBusCfg_val] at he
  subst he
  clear bA c0 c1 c2
  have gr4 := (Below.refl w4.heap.size w4).alloc (Nat.le_refl _) (.cells #[.slice x_0.p x_0.l.length x_0.c, .slice x_1.p x_1.l.length x_1.c, .slice x_2.p x_2.l.length x_2.c] 27)
  obtain ⟨W4, hW4⟩ : ∃ W, W = w4.alloc (.cells #[.slice x_0.p x_0.l.length x_0.c, .slice x_1.p x_1.l.length x_1.c, .slice x_2.p x_2.l.length x_2.c] 27) := ⟨_, rfl⟩
  rw [← hW4] at gr4
  have HX := Hid.intro (And.intro hp (And.intro (yBusCfg_law.ow_blw hf.ow gr4) (show W4.heap[w4.heap.size]? = some (.cells #[.slice x_0.p x_0.l.length x_0.c, .slice x_1.p x_1.l.length x_1.c, .slice x_2.p x_2.l.length x_2.c] 27 (0, 0)) by rw [hW4]; exact nw_k _ rfl)))
  have HB4 := Hid.intro (HB3.out.trans ((hb.trans (gr4.mono hb.size)).mono HB3.out.size))
  have HSI : Hid (Calls Try.prog 7 #[.agg #[.slice x_0.p x_0.l.length x_0.c, .slice x_1.p x_1.l.length x_1.c, .slice x_2.p x_2.l.length x_2.c]] W4 fun e w' => e = .returned (.bool z) ∧ Below W4.heap.size W4 w') := Hid.intro (by have h := impl_BusOk HI.out (x_0, x_1, x_2) W4 (yBusCfg_law.ow_rd HX.out.2.1); rw [hp, ← HZ.out] at h; exact h)
  have HW4 := Hid.intro hW4
  clear hp hf hb gr4 hW4 HB3
  go_wp2_with fail
  rw [← HW4.out]
  refine HSI.out.mono ?_
  clear HW4
  rintro e w5 ⟨rfl, hb⟩
  have HB5 := Hid.intro (HB4.out.trans (hb.mono HB4.out.size))
  have HX5 : Hid (yBusCfg.pl (x_0, x_1, x_2) = yBusCfg.pl (c_0, c_1, c_2) ∧ yBusCfg.ow w5 (x_0, x_1, x_2) ∧ w5.heap[w4.heap.size]? = some (.cells #[.slice x_0.p x_0.l.length x_0.c, .slice x_1.p x_1.l.length x_1.c, .slice x_2.p x_2.l.length x_2.c] 27 (0, 0))) := Hid.intro ⟨HX.out.1, yBusCfg_law.ow_blw HX.out.2.1 hb, (hb.block _ (heap_lt HX.out.2.2)).trans HX.out.2.2⟩
  clear hb HB4 HSI HX
  have hbb := HX5.out.2.2
  have haa := (HOLD.out w5 HB5.out).2.1
  have hlb := heap_lt hbb
  have hla := heap_lt haa
  obtain ⟨XB, hXB⟩ : ∃ X, X = w4.heap.size := ⟨_, rfl⟩
  obtain ⟨AB, hAB⟩ : ∃ X, X = w.heap.size := ⟨_, rfl⟩
  rw [← hXB] at hbb hlb ⊢
  rw [← hAB] at haa hla ⊢
  clear hXB hAB
  go_wp2_with fail
  refine wp_region_typed (by kernel_rfl) Gr (fun _ W => Below w5.heap.size w5 W)
    (tab [(22, kIs (.agg #[.slice x_0.p x_0.l.length x_0.c, .slice x_1.p x_1.l.length x_1.c, .slice x_2.p x_2.l.length x_2.c])), (23, kIs (.agg #[.slice c_0.p c_0.l.length c_0.c, .slice c_1.p c_1.l.length c_1.c, .slice c_2.p c_2.l.length c_2.c])), (24, kOw yBusCfg (yBusCfg.pl (c_0, c_1, c_2))), (25, kIs (.bool true)), (26, kIs (.bool false))])
    [22, 23, 24, 25, 26] (by kernel_rfl) (by kernel_rfl) ?_ ?_ ?_ ?_
  · refine tabR_stable ?_
    intro x hx
    simp only [List.mem_cons, List.not_mem_nil, or_false] at hx
    rcases hx with rfl | rfl | rfl | rfl | rfl
    all_goals intro w w' v hr hv
    all_goals first | exact hv | exact kOw_gr yBusCfg_law.blk _ _ _ hr hv
  · exact (Below.refl _ _).drew
  · refine ops_cons (gd rfl <| tx_pure rfl rfl (fun _ _ h => h) Gr.refl (fun i ρ W hat hW => ?_)) ?_
    · have bW := (hW.block XB hlb).trans hbb
      have c0 : W.cell? ⟨XB, 0, none⟩ = some (.slice x_0.p x_0.l.length x_0.c) := heap_cell (bW) 0
      have c1 : W.cell? ⟨XB, 1, none⟩ = some (.slice x_1.p x_1.l.length x_1.c) := heap_cell (bW) 1
      have c2 : W.cell? ⟨XB, 2, none⟩ = some (.slice x_2.p x_2.l.length x_2.c) := heap_cell (bW) 2
      have e2 := hat.out 5 (by kernel_rfl)
      simp [Act.eval] at e2
      clear bW hbb haa
      simp only [execOp, e2]; go_simp
    refine ops_cons (gd rfl <| tx_pure rfl rfl (fun _ _ h => h) Gr.refl (fun i ρ W hat hW => ?_)) ?_
    · have bW := (hW.block AB hla).trans haa
      have c0 : W.cell? ⟨AB, 0, none⟩ = some (.slice c_0.p c_0.l.length c_0.c) := heap_cell (bW) 0
      have c1 : W.cell? ⟨AB, 1, none⟩ = some (.slice c_1.p c_1.l.length c_1.c) := heap_cell (bW) 1
      have c2 : W.cell? ⟨AB, 2, none⟩ = some (.slice c_2.p c_2.l.length c_2.c) := heap_cell (bW) 2
      have e2 := hat.out 1 (by kernel_rfl)
      simp [Act.eval] at e2
      clear bW hbb haa
      simp only [execOp, e2]; go_simp
    refine ops_cons (gd rfl <| tx_call rfl (fun i ρ W _ hat hW => ?_)) ?_
    · have e1 : ρ (.tmp 23) = _ := hat.dep 23 (by kernel_rfl)
      have hf := hat.fn
      clear hbb haa
      refine ⟨15, #[.agg #[.slice c_0.p c_0.l.length c_0.c, .slice c_1.p c_1.l.length c_1.c, .slice c_2.p c_2.l.length c_2.c]], by simp only [execOp]; go_simp, ?_⟩
      refine (HCT0.out W (HOLD.out W (HB5.out.trans (hW.mono HB5.out.size))).1).mono ?_
      rintro e W' ⟨a, rfl, hp, hf, hb⟩
      exact ⟨_, rfl, hW.trans (hb.mono hW.size), hb, ⟨a, rfl, hp, hf.ow⟩⟩
    refine ops_cons (gd rfl <| tx_call rfl (fun i ρ W _ hat hW => ?_)) ?_
    · have e1 : ρ (.tmp 22) = _ := hat.dep 22 (by kernel_rfl)
      obtain ⟨⟨u_0, u_1, u_2⟩, e2, u1, u2⟩ : kOw yBusCfg (yBusCfg.pl (c_0, c_1, c_2)) W (ρ (.tmp 24)) := hat.dep 24 (by kernel_rfl)
      rw [yBusCfg_val] at e2
      have hf := hat.fn
      clear hbb haa
      refine ⟨16, #[.agg #[.slice x_0.p x_0.l.length x_0.c, .slice x_1.p x_1.l.length x_1.c, .slice x_2.p x_2.l.length x_2.c], .agg #[.slice u_0.p u_0.l.length u_0.c, .slice u_1.p u_1.l.length u_1.c, .slice u_2.p u_2.l.length u_2.c]], by simp only [execOp]; go_simp, ?_⟩
      have hcl := yBusCfg_eq (x_0, x_1, x_2) (u_0, u_1, u_2) W (yBusCfg_law.rd_blw (yBusCfg_law.ow_rd HX5.out.2.1) hW) (yBusCfg_law.ow_rd u2) (HX5.out.1.trans u1.symm)
      refine Calls.mono (show Calls Try.prog 16 #[.agg #[.slice x_0.p x_0.l.length x_0.c, .slice x_1.p x_1.l.length x_1.c, .slice x_2.p x_2.l.length x_2.c], .agg #[.slice u_0.p u_0.l.length u_0.c, .slice u_1.p u_1.l.length u_1.c, .slice u_2.p u_2.l.length u_2.c]] W _ from hcl) ?_
      rintro e W' ⟨rfl, hb⟩
      exact ⟨_, rfl, hW.trans (hb.mono hW.size), hb, rfl⟩
    refine ops_cons (gd rfl <| tx_pure rfl rfl (fun _ _ h => h) Gr.refl (fun i ρ W hat hW => ?_)) ?_
    · have e1 : ρ (.tmp 25) = _ := hat.dep 25 (by kernel_rfl)
      clear hbb haa
      simp only [execOp, e1]; go_simp
    exact ops_nil
  intro f w6 hb hf
  have ee : f 26 = .bool false := hf 26 (by simp)
  have hend := (HOLD.out w6 (HB5.out.trans (hb.mono HB5.out.size))).2.2
  clear hf hb hbb haa hlb hla HX5 HB5
  simp only [fill, ee]
  go_simp
  clear ee
  go_wp2
  go_ret
  exact ⟨rfl, hend⟩

end fnExactBusOk

end Go.Proofs.Ytpjfkimgienkbaa
