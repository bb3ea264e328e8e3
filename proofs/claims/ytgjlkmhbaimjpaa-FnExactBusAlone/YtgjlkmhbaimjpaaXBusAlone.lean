/-
  The law FnExactBusAlone, walked, by kinds.
-/
import Derived.Test.YtgjlkmhbaimjpaaRows
import Derived.Test.YtgjlkmhbaimjpaaFam
import Derived.Test.YtgjlkmhbaimjpaaOpsXM
import Derived.Test.YtgjlkmhbaimjpaaBalKM
namespace Go.Proofs.Ytgjlkmhbaimjpaa
open Go.RowKit
set_option linter.unusedSimpArgs false
set_option linter.unusedVariables false

namespace fnExactBusAlone
structure Old0 (w : World) (c : ((Lst (Int × Int × Int × Bool)) × (Lst Int) × (Lst (Lst (Int × Int × Int × Int × Bool × (Lst Int) × (Lst Int)))))) (A0 : Nat) (W : World) : Prop where
  r0 : yBusCfg.rd W c
  b0 : W.heap[A0]? = some (.cells (yBusCfg.cells c).toArray 26 (0, 0))
  bel : Below w.heap.size w W
theorem Old0.grow {w : World} {c : ((Lst (Int × Int × Int × Bool)) × (Lst Int) × (Lst (Lst (Int × Int × Int × Int × Bool × (Lst Int) × (Lst Int)))))} {A0 : Nat} {W W' : World} (h : Old0 w c A0 W) (hb : Below W.heap.size W W') : Old0 w c A0 W' := ⟨yBusCfg_law.rd_blw h.r0 hb, (hb.block _ (heap_lt h.b0)).trans h.b0, h.bel.trans (hb.mono h.bel.size)⟩
structure Old (w : World) (c : ((Lst (Int × Int × Int × Bool)) × (Lst Int) × (Lst (Lst (Int × Int × Int × Int × Bool × (Lst Int) × (Lst Int)))))) (A0 : Nat) (m0 : ((Lst (Int × Int × Int × Bool)) × (Lst Int) × (Lst (Lst (Int × Int × Int × Int × Bool × (Lst Int) × (Lst Int)))))) (P0 : Nat) (W : World) : Prop where
  o0 : Old0 w c A0 W
  om0 : yBusCfg.ow W m0
  bm0 : W.heap[P0]? = some (.cells (yBusCfg.cells m0).toArray 32 (0, 0))
theorem Old.grow {w : World} {c : ((Lst (Int × Int × Int × Bool)) × (Lst Int) × (Lst (Lst (Int × Int × Int × Int × Bool × (Lst Int) × (Lst Int)))))} {A0 : Nat} {m0 : ((Lst (Int × Int × Int × Bool)) × (Lst Int) × (Lst (Lst (Int × Int × Int × Int × Bool × (Lst Int) × (Lst Int)))))} {P0 : Nat} {W W' : World} (h : Old w c A0 m0 P0 W) (hb : Below W.heap.size W W') : Old w c A0 m0 P0 W' := ⟨h.o0.grow hb, yBusCfg_law.ow_blw h.om0 hb, (hb.block _ (heap_lt h.bm0)).trans h.bm0⟩
structure S1 (wN : World) (x0 : ((Lst (Int × Int × Int × Bool)) × (Lst Int) × (Lst (Lst (Int × Int × Int × Int × Bool × (Lst Int) × (Lst Int)))))) (X0 : Nat) (W : World) : Prop where
  ox0 : yBusCfg.ow W x0
  bx0 : W.heap[X0]? = some (.cells (yBusCfg.cells x0).toArray 32 (0, 0))
  fam : Fam wN.heap.size W [yBusCfg.foot x0, [X0]]
  bel : Below wN.heap.size wN W
theorem S1.grow {wN : World} {x0 : ((Lst (Int × Int × Int × Bool)) × (Lst Int) × (Lst (Lst (Int × Int × Int × Int × Bool × (Lst Int) × (Lst Int)))))} {X0 : Nat} {W W' : World} (h : S1 wN x0 X0 W) (hb : Below W.heap.size W W') : S1 wN x0 X0 W' := ⟨yBusCfg_law.ow_blw h.ox0 hb, (hb.block _ (heap_lt h.bx0)).trans h.bx0, h.fam.size hb.size, h.bel.trans (hb.mono h.bel.size)⟩
structure S1g (wN : World) (x0 : ((Lst (Int × Int × Int × Bool)) × (Lst Int) × (Lst (Lst (Int × Int × Int × Int × Bool × (Lst Int) × (Lst Int)))))) (g0 : ((Lst (Int × Int × Int × Bool)) × (Lst Int) × (Lst (Lst (Int × Int × Int × Int × Bool × (Lst Int) × (Lst Int)))))) (X0 G0 : Nat) (W : World) : Prop where
  ox0 : yBusCfg.ow W x0
  bx0 : W.heap[X0]? = some (.cells (yBusCfg.cells x0).toArray 32 (0, 0))
  og0 : yBusCfg.ow W g0
  bg0 : W.heap[G0]? = some (.cells (yBusCfg.cells g0).toArray 32 (0, 0))
  fam : Fam wN.heap.size W [yBusCfg.foot x0, [X0], yBusCfg.foot g0, [G0]]
  bel : Below wN.heap.size wN W
theorem S1g.grow {wN : World} {x0 : ((Lst (Int × Int × Int × Bool)) × (Lst Int) × (Lst (Lst (Int × Int × Int × Int × Bool × (Lst Int) × (Lst Int)))))} {g0 : ((Lst (Int × Int × Int × Bool)) × (Lst Int) × (Lst (Lst (Int × Int × Int × Int × Bool × (Lst Int) × (Lst Int)))))} {X0 G0 : Nat} {W W' : World} (h : S1g wN x0 g0 X0 G0 W) (hb : Below W.heap.size W W') : S1g wN x0 g0 X0 G0 W' := ⟨yBusCfg_law.ow_blw h.ox0 hb, (hb.block _ (heap_lt h.bx0)).trans h.bx0, yBusCfg_law.ow_blw h.og0 hb, (hb.block _ (heap_lt h.bg0)).trans h.bg0, h.fam.size hb.size, h.bel.trans (hb.mono h.bel.size)⟩
theorem S1g.mark_x0 {wN : World} {x0 : ((Lst (Int × Int × Int × Bool)) × (Lst Int) × (Lst (Lst (Int × Int × Int × Int × Bool × (Lst Int) × (Lst Int)))))} {g0 : ((Lst (Int × Int × Int × Bool)) × (Lst Int) × (Lst (Lst (Int × Int × Int × Int × Bool × (Lst Int) × (Lst Int)))))} {X0 G0 : Nat} {x0' : ((Lst (Int × Int × Int × Bool)) × (Lst Int) × (Lst (Lst (Int × Int × Int × Int × Bool × (Lst Int) × (Lst Int)))))} {W W' : World} (h : S1g wN x0 g0 X0 G0 W) (hk : Kept (fun b => b ∈ yBusCfg.foot x0) W W') (ho : yBusCfg.ow W' x0') (hf : yBusCfg.foot x0' = yBusCfg.foot x0) (hc : yBusCfg.cells x0' = yBusCfg.cells x0) : S1g wN x0' g0 X0 G0 W' := ⟨ho, by rw [hc]; exact (h.fam.kept hk (i := 0) rfl (fun _ h => h) (j := 1) rfl (by decide) _ (List.mem_singleton.2 rfl)).trans h.bx0, yBusCfg_law.ow_of h.og0 (h.fam.kept hk (i := 0) rfl (fun _ h => h) (j := 2) rfl (by decide)), (h.fam.kept hk (i := 0) rfl (fun _ h => h) (j := 3) rfl (by decide) _ (List.mem_singleton.2 rfl)).trans h.bg0, by rw [hf]; exact h.fam.size hk.size, h.fam.bel h.bel hk (i := 0) rfl (fun _ h => h) h.bel.size⟩
theorem S1g.mark_g0 {wN : World} {x0 : ((Lst (Int × Int × Int × Bool)) × (Lst Int) × (Lst (Lst (Int × Int × Int × Int × Bool × (Lst Int) × (Lst Int)))))} {g0 : ((Lst (Int × Int × Int × Bool)) × (Lst Int) × (Lst (Lst (Int × Int × Int × Int × Bool × (Lst Int) × (Lst Int)))))} {X0 G0 : Nat} {g0' : ((Lst (Int × Int × Int × Bool)) × (Lst Int) × (Lst (Lst (Int × Int × Int × Int × Bool × (Lst Int) × (Lst Int)))))} {W W' : World} (h : S1g wN x0 g0 X0 G0 W) (hk : Kept (fun b => b ∈ yBusCfg.foot g0) W W') (ho : yBusCfg.ow W' g0') (hf : yBusCfg.foot g0' = yBusCfg.foot g0) (hc : yBusCfg.cells g0' = yBusCfg.cells g0) : S1g wN x0 g0' X0 G0 W' := ⟨yBusCfg_law.ow_of h.ox0 (h.fam.kept hk (i := 2) rfl (fun _ h => h) (j := 0) rfl (by decide)), (h.fam.kept hk (i := 2) rfl (fun _ h => h) (j := 1) rfl (by decide) _ (List.mem_singleton.2 rfl)).trans h.bx0, ho, by rw [hc]; exact (h.fam.kept hk (i := 2) rfl (fun _ h => h) (j := 3) rfl (by decide) _ (List.mem_singleton.2 rfl)).trans h.bg0, by rw [hf]; exact h.fam.size hk.size, h.fam.bel h.bel hk (i := 2) rfl (fun _ h => h) h.bel.size⟩

set_option maxRecDepth 100000 in
set_option maxHeartbeats 8000000 in
theorem walk (hI : ReqOkC) (c : ((Lst (Int × Int × Int × Bool)) × (Lst Int) × (Lst (Lst (Int × Int × Int × Int × Bool × (Lst Int) × (Lst Int)))))) (who : Int) (w : World) (hr0 : yBusCfg.rd w c) :
    Calls Try.prog 5 #[yBusCfg.val c, .int .i64 who] w fun e w' => e = .returned (.bool true) ∧ Below w.heap.size w w' := by
  obtain ⟨c_0, c_1, c_2⟩ := c
  have HI := Hid.intro hI
  clear hI
  have HR0 := Hid.intro hr0
  clear hr0
  show Calls Try.prog 5 #[.agg #[.slice c_0.p c_0.l.length c_0.c, .slice c_1.p c_1.l.length c_1.c, .slice c_2.p c_2.l.length c_2.c], .int .i64 who] w _
  have hbl : Below w.heap.size w (w.alloc (.cells #[.slice c_0.p c_0.l.length c_0.c, .slice c_1.p c_1.l.length c_1.c, .slice c_2.p c_2.l.length c_2.c] 26)) := allocs_below [(.cells #[.slice c_0.p c_0.l.length c_0.c, .slice c_1.p c_1.l.length c_1.c, .slice c_2.p c_2.l.length c_2.c] 26)] w
  go_enter Try.func5, Try.ntmps5
  have HCS : Hid (∀ (left : Int) (w : World), yBusCfg.rd w (c_0, c_1, c_2) → 0 ≤ left → left ≤ 1048576 → Calls Try.prog 9 #[.agg #[.slice c_0.p c_0.l.length c_0.c, .slice c_1.p c_1.l.length c_1.c, .slice c_2.p c_2.l.length c_2.c], .int .i64 left] w fun e w' => (∃ z : Int, e = .returned (.int .i64 z) ∧ (z = -1 ∨ (0 ≤ z ∧ z = left - (yBusCfg.size (c_0, c_1, c_2) : Int)))) ∧ Below w.heap.size w w') := Hid.intro (yBusCfg_sz (c_0, c_1, c_2))
  go_wp2_with fail
  refine (HCS.out 1048576 _ (yBusCfg_law.rd_blw HR0.out hbl) (by decide) (by decide)).mono ?_
  rintro e w1 ⟨⟨y0, rfl, hz⟩, hb⟩
  have HOLD : Hid (Old0 w (c_0, c_1, c_2) (w.heap.size) w1) := Hid.intro ⟨yBusCfg_law.rd_blw HR0.out (hbl.trans (hb.mono hbl.size)), (hb.block _ (by simp <;> omega)).trans (allocs_at [(.cells #[.slice c_0.p c_0.l.length c_0.c, .slice c_1.p c_1.l.length c_1.c, .slice c_2.p c_2.l.length c_2.c] 26)] w 0 _ rfl), hbl.trans (hb.mono hbl.size)⟩
  clear hbl
  clear hb
  clear HCS
  rcases hz with rfl | ⟨i0, q0⟩
  · go_wp2
    go_ret
    exact ⟨rfl, HOLD.out.bel⟩
  have n0 : ¬ (y0 < 0) := by omega
  have Q0 := Hid.intro q0
  have l0 : y0 ≤ 1048576 := by omega
  clear q0
  obtain ⟨A0, hA⟩ : ∃ A, A = w.heap.size := ⟨_, rfl⟩
  rw [← hA] at HOLD ⊢
  clear hA
  have HL : Hid (yBusCfg.size (c_0, c_1, c_2) ≤ 1048576) := Hid.intro (by have h0 := Q0.out; omega)
  clear Q0 l0
  obtain ⟨z, hz⟩ : ∃ z, z = busAloneP (yBusCfg.pl (c_0, c_1, c_2)) who := ⟨_, rfl⟩
  have HZ := Hid.intro hz
  clear hz
  have HT0 : Hid (∀ W, Old0 w (c_0, c_1, c_2) A0 W → Calls Try.prog 11 #[.agg #[.slice c_0.p c_0.l.length c_0.c, .slice c_1.p c_1.l.length c_1.c, .slice c_2.p c_2.l.length c_2.c]] W fun e w' => (∃ v, e = .returned v ∧ kTo yBusCfg (yBusCfg.pl (c_0, c_1, c_2)) w' v) ∧ Below W.heap.size W w') := Hid.intro (fun W h => yBusCfg_to.kto (c_0, c_1, c_2) W h.r0 HL.out)
  have HX0 : Hid (∀ W, Old0 w (c_0, c_1, c_2) A0 W → Calls Try.prog 11 #[.agg #[.slice c_0.p c_0.l.length c_0.c, .slice c_1.p c_1.l.length c_1.c, .slice c_2.p c_2.l.length c_2.c]] W fun e w' => ∃ a', e = .returned (yBusCfg.val a') ∧ yBusCfg.pl a' = yBusCfg.pl (c_0, c_1, c_2) ∧ yBusCfg.size a' ≤ 1048576 ∧ Fresh yBusCfg W.heap.size w' a' ∧ Below W.heap.size W w') := Hid.intro (fun W h => (yBusCfg_to (c_0, c_1, c_2) W h.r0 HL.out).mono (by rintro e w' ⟨a, h1, h2, h3, h4, h5⟩; exact ⟨a, h1, h2, by rw [h3]; exact HL.out, h4, h5⟩))
  have HSP : Hid (∀ v0 (W : World), kTo yBusCfg (yBusCfg.pl (c_0, c_1, c_2)) W v0 → Calls Try.prog 19 #[v0, .int .i64 who] W fun e w' => (∃ v, e = .returned v ∧ kOw yBusCfg z w' v) ∧ Below W.heap.size W w') := by
    refine Hid.intro ?_
    rintro v0 W ⟨t0, rfl, p0, s0, o0⟩
    have h := spec_BusAloneK t0 who W (yBusCfg_law.ow_rd o0) s0
    rw [p0, ← HZ.out] at h
    exact h
  have HIM : Hid (∀ v0 (W : World), kTo yBusCfg (yBusCfg.pl (c_0, c_1, c_2)) W v0 → Calls Try.prog 20 #[v0, .int .i64 who] W fun e w' => (∃ v, e = .returned v ∧ kFr yBusCfg z W.heap.size w' v) ∧ Below W.heap.size W w') := by
    refine Hid.intro ?_
    rintro v0 W ⟨t0, rfl, p0, s0, o0⟩
    have h := (impl_BusAloneK HI.out) t0 who W (yBusCfg_law.ow_rd o0) s0
    rw [p0, ← HZ.out] at h
    exact h
  have bA : w1.heap[A0]? = some (.cells #[.slice c_0.p c_0.l.length c_0.c, .slice c_1.p c_1.l.length c_1.c, .slice c_2.p c_2.l.length c_2.c] 26 (0, 0)) := HOLD.out.b0
  have c0 : w1.cell? ⟨A0, 0, none⟩ = some (.slice c_0.p c_0.l.length c_0.c) := heap_cell (bA) 0
  have c1 : w1.cell? ⟨A0, 1, none⟩ = some (.slice c_1.p c_1.l.length c_1.c) := heap_cell (bA) 1
  have c2 : w1.cell? ⟨A0, 2, none⟩ = some (.slice c_2.p c_2.l.length c_2.c) := heap_cell (bA) 2
  clear bA
  go_wp2_with fail
  refine (HT0.out _ HOLD.out).mono ?_
  rintro e w2 ⟨⟨v0, rfl, hv⟩, hb⟩
  replace HOLD := Hid.intro (HOLD.out.grow hb)
  have HV := Hid.intro hv
  clear hv hb c0 c1 c2
  go_wp2_with fail
  refine (HSP.out v0 _ HV.out).mono ?_
  rintro e w3 ⟨⟨v, rfl, hm⟩, hb⟩
  replace HOLD := Hid.intro (HOLD.out.grow hb)
  clear hb HV
  obtain ⟨⟨m0_0, m0_1, m0_2⟩, he, hpm, hom⟩ := hm
  replace he : v = .agg #[.slice m0_0.p m0_0.l.length m0_0.c, .slice m0_1.p m0_1.l.length m0_1.c, .slice m0_2.p m0_2.l.length m0_2.c] := he
  subst he
  have HPM := Hid.intro hpm
  clear hpm
  have bA : w3.heap[A0]? = some (.cells #[.slice c_0.p c_0.l.length c_0.c, .slice c_1.p c_1.l.length c_1.c, .slice c_2.p c_2.l.length c_2.c] 26 (0, 0)) := HOLD.out.b0
  have c0 : w3.cell? ⟨A0, 0, none⟩ = some (.slice c_0.p c_0.l.length c_0.c) := heap_cell (bA) 0
  have c1 : w3.cell? ⟨A0, 1, none⟩ = some (.slice c_1.p c_1.l.length c_1.c) := heap_cell (bA) 1
  have c2 : w3.cell? ⟨A0, 2, none⟩ = some (.slice c_2.p c_2.l.length c_2.c) := heap_cell (bA) 2
  have hlc := heap_lt bA
  clear bA
  obtain ⟨P0, hB⟩ : ∃ B, B = w3.heap.size := ⟨_, rfl⟩
  obtain ⟨wN, hWB⟩ : ∃ X, X = w3.alloc (.cells #[.slice m0_0.p m0_0.l.length m0_0.c, .slice m0_1.p m0_1.l.length m0_1.c, .slice m0_2.p m0_2.l.length m0_2.c] 32) := ⟨_, rfl⟩
  have grb : Below w3.heap.size w3 wN := by rw [hWB]; exact (Below.refl _ _).alloc (Nat.le_refl _) _
  have bbx : wN.heap[P0]? = some (.cells #[.slice m0_0.p m0_0.l.length m0_0.c, .slice m0_1.p m0_1.l.length m0_1.c, .slice m0_2.p m0_2.l.length m0_2.c] 32 (0, 0)) := by rw [hWB, hB]; exact nw_k _ rfl
  have HSZ : Hid (wN.heap.size = w3.heap.size + 1) := Hid.intro (by rw [hWB]; simp)
  have HWB := Hid.intro hWB
  have HBB := Hid.intro hB
  clear hWB hB
  have HOLD1 : Hid (Old w (c_0, c_1, c_2) A0 (m0_0, m0_1, m0_2) P0 wN) := Hid.intro ⟨HOLD.out.grow grb, yBusCfg_law.ow_blw hom grb, bbx⟩
  clear HOLD hom grb bbx
  have HOLD := HOLD1
  clear HOLD1
  go_wp2_with fail
  rw [← HWB.out, ← HBB.out]
  clear HWB HBB HSZ
  refine (HX0.out _ HOLD.out.o0).mono ?_
  rintro e w4 ⟨⟨x0_0, x0_1, x0_2⟩, he, hp, hs, hf, hb⟩
  replace he : e = .returned (.agg #[.slice x0_0.p x0_0.l.length x0_0.c, .slice x0_1.p x0_1.l.length x0_1.c, .slice x0_2.p x0_2.l.length x0_2.c]) := he
  subst he
  clear c0 c1 c2 hlc
  have HPx0 : Hid (yBusCfg.pl (x0_0, x0_1, x0_2) = yBusCfg.pl (c_0, c_1, c_2) ∧ yBusCfg.size (x0_0, x0_1, x0_2) ≤ 1048576) := Hid.intro ⟨hp, hs⟩
  clear hp hs
  have hfm := Fam.snoc (w' := w4) (Fam.nil wN.heap.size wN) hf.nd hf.ge (Nat.le_refl _) (fun b hb => yBusCfg_law.ow_lt hf.ow b hb) hb.size
  obtain ⟨X0, hB⟩ : ∃ B, B = w4.heap.size := ⟨_, rfl⟩
  obtain ⟨w5, hWB⟩ : ∃ X, X = w4.alloc (.cells #[.slice x0_0.p x0_0.l.length x0_0.c, .slice x0_1.p x0_1.l.length x0_1.c, .slice x0_2.p x0_2.l.length x0_2.c] 32) := ⟨_, rfl⟩
  have grb : Below w4.heap.size w4 w5 := by rw [hWB]; exact (Below.refl _ _).alloc (Nat.le_refl _) _
  have bbx : w5.heap[X0]? = some (.cells #[.slice x0_0.p x0_0.l.length x0_0.c, .slice x0_1.p x0_1.l.length x0_1.c, .slice x0_2.p x0_2.l.length x0_2.c] 32 (0, 0)) := by rw [hWB, hB]; exact nw_k _ rfl
  have HSZ : Hid (w5.heap.size = w4.heap.size + 1) := Hid.intro (by rw [hWB]; simp)
  have HWB := Hid.intro hWB
  have HBB := Hid.intro hB
  clear hWB hB
  have hfm2 := Fam.snoc (w' := w5) (f := [X0]) hfm (by simp) (fun b hb => by rw [List.mem_singleton.1 hb, HBB.out]; exact Nat.le_refl _) (hb.size) (fun b hb => by rw [List.mem_singleton.1 hb, HBB.out, HSZ.out]; omega) grb.size
  have HST1 : Hid (S1 wN (x0_0, x0_1, x0_2) X0 w5) := Hid.intro ⟨yBusCfg_law.ow_blw hf.ow grb, bbx, hfm2, hb.trans (grb.mono hb.size)⟩
  clear hfm hfm2 grb bbx hf hb
  have HST := HST1
  clear HST1
  have HIX : Hid (∀ W, S1 wN (x0_0, x0_1, x0_2) X0 W → Calls Try.prog 20 #[.agg #[.slice x0_0.p x0_0.l.length x0_0.c, .slice x0_1.p x0_1.l.length x0_1.c, .slice x0_2.p x0_2.l.length x0_2.c], .int .i64 who] W fun e w' => (∃ v, e = .returned v ∧ kFr yBusCfg z W.heap.size w' v) ∧ Below W.heap.size W w') := Hid.intro (fun W h => HIM.out _ W ⟨_, rfl, HPx0.out.1, HPx0.out.2, h.ox0⟩)
  go_wp2_with fail
  rw [← HWB.out, ← HBB.out]
  clear HWB HBB HSZ
  refine (HIX.out _ HST.out).mono ?_
  rintro e w6 ⟨⟨v, rfl, hm⟩, hb⟩
  obtain ⟨⟨g0_0, g0_1, g0_2⟩, he, hpg, hsg, hf⟩ := hm
  replace he : v = .agg #[.slice g0_0.p g0_0.l.length g0_0.c, .slice g0_1.p g0_1.l.length g0_1.c, .slice g0_2.p g0_2.l.length g0_2.c] := he
  subst he
  have HPG : Hid (yBusCfg.pl (g0_0, g0_1, g0_2) = z ∧ yBusCfg.size (g0_0, g0_1, g0_2) ≤ 1000000000) := Hid.intro ⟨hpg, hsg⟩
  clear hpg hsg HIX
  have hst := HST.out.grow hb
  have hfm := Fam.snoc (w' := w6) HST.out.fam hf.nd hf.ge HST.out.bel.size (fun b hb => yBusCfg_law.ow_lt hf.ow b hb) hb.size
  have bA : w6.heap[P0]? = some (.cells #[.slice m0_0.p m0_0.l.length m0_0.c, .slice m0_1.p m0_1.l.length m0_1.c, .slice m0_2.p m0_2.l.length m0_2.c] 32 (0, 0)) := (HOLD.out.grow hst.bel).bm0
  have d0 : w6.cell? ⟨P0, 0, none⟩ = some (.slice m0_0.p m0_0.l.length m0_0.c) := heap_cell (bA) 0
  have d1 : w6.cell? ⟨P0, 1, none⟩ = some (.slice m0_1.p m0_1.l.length m0_1.c) := heap_cell (bA) 1
  have d2 : w6.cell? ⟨P0, 2, none⟩ = some (.slice m0_2.p m0_2.l.length m0_2.c) := heap_cell (bA) 2
  have hld := heap_lt bA
  clear bA
  obtain ⟨G0, hB⟩ : ∃ B, B = w6.heap.size := ⟨_, rfl⟩
  obtain ⟨w7, hWB⟩ : ∃ X, X = w6.alloc (.cells #[.slice g0_0.p g0_0.l.length g0_0.c, .slice g0_1.p g0_1.l.length g0_1.c, .slice g0_2.p g0_2.l.length g0_2.c] 32) := ⟨_, rfl⟩
  have grb : Below w6.heap.size w6 w7 := by rw [hWB]; exact (Below.refl _ _).alloc (Nat.le_refl _) _
  have bbx : w7.heap[G0]? = some (.cells #[.slice g0_0.p g0_0.l.length g0_0.c, .slice g0_1.p g0_1.l.length g0_1.c, .slice g0_2.p g0_2.l.length g0_2.c] 32 (0, 0)) := by rw [hWB, hB]; exact nw_k _ rfl
  have HSZ : Hid (w7.heap.size = w6.heap.size + 1) := Hid.intro (by rw [hWB]; simp)
  have HWB := Hid.intro hWB
  have HBB := Hid.intro hB
  clear hWB hB
  have hfm2 := Fam.snoc (w' := w7) (f := [G0]) hfm (by simp) (fun b hb => by rw [List.mem_singleton.1 hb, HBB.out]; exact Nat.le_refl _) (hst.bel.size) (fun b hb => by rw [List.mem_singleton.1 hb, HBB.out, HSZ.out]; omega) grb.size
  have HST1 : Hid (S1g wN (x0_0, x0_1, x0_2) (g0_0, g0_1, g0_2) X0 G0 w7) := Hid.intro ⟨yBusCfg_law.ow_blw hst.ox0 grb, (grb.block _ (heap_lt hst.bx0)).trans hst.bx0, yBusCfg_law.ow_blw hf.ow grb, bbx, hfm2, hst.bel.trans (grb.mono hst.bel.size)⟩
  clear hfm hfm2 grb bbx hf hb hst HST
  have HST := HST1
  clear HST1
  have HV : Hid (yBusCfg.vcnt (x0_0, x0_1, x0_2) ≤ 7 * 1048576 ∧ yBusCfg.vcnt (g0_0, g0_1, g0_2) ≤ 7 * 1000000000) := Hid.intro (by
    have h0 := yBusCfg_law.vcnt_le (x0_0, x0_1, x0_2)
    have k0 := HPx0.out.2
    have hg := yBusCfg_law.vcnt_le (g0_0, g0_1, g0_2)
    have kg := HPG.out.2
    omega)
  have HQ : Hid (∀ (w : World), yBusCfg.rd w (g0_0, g0_1, g0_2) → yBusCfg.rd w (m0_0, m0_1, m0_2) → yBusCfg.pl (g0_0, g0_1, g0_2) = yBusCfg.pl (m0_0, m0_1, m0_2) → Calls Try.prog 13 #[.agg #[.slice g0_0.p g0_0.l.length g0_0.c, .slice g0_1.p g0_1.l.length g0_1.c, .slice g0_2.p g0_2.l.length g0_2.c], .agg #[.slice m0_0.p m0_0.l.length m0_0.c, .slice m0_1.p m0_1.l.length m0_1.c, .slice m0_2.p m0_2.l.length m0_2.c]] w fun e w' => e = .returned (.bool true) ∧ Below w.heap.size w w') := Hid.intro (yBusCfg_eq (g0_0, g0_1, g0_2) (m0_0, m0_1, m0_2))
  go_wp2_with fail
  rw [← HWB.out, ← HBB.out]
  clear HWB HBB HSZ
  refine (HQ.out _ (yBusCfg_law.ow_rd HST.out.og0) (yBusCfg_law.ow_rd (HOLD.out.grow HST.out.bel).om0) (HPG.out.1.trans HPM.out.symm)).mono ?_
  rintro e w8 ⟨rfl, hb⟩
  clear HQ d0 d1 d2 hld
  replace HST := Hid.intro (HST.out.grow hb)
  clear hb
  go_wp2_with fail
  refine wp_region_typed (by kernel_rfl) Gr (fun _ W => Below w8.heap.size w8 W)
    (tab [(31, kIs (.agg #[.slice x0_0.p x0_0.l.length x0_0.c, .slice x0_1.p x0_1.l.length x0_1.c, .slice x0_2.p x0_2.l.length x0_2.c])), (32, kIs (.agg #[.slice c_0.p c_0.l.length c_0.c, .slice c_1.p c_1.l.length c_1.c, .slice c_2.p c_2.l.length c_2.c])), (33, kTo yBusCfg (yBusCfg.pl (c_0, c_1, c_2))), (34, kIs (.bool true)), (35, kIs (.bool false))])
    [31, 32, 33, 34, 35] (by kernel_rfl) (by kernel_rfl) ?_ ?_ ?_ ?_
  · refine tabR_stable ?_
    intro x hx
    simp only [List.mem_cons, List.not_mem_nil, or_false] at hx
    rcases hx with rfl | rfl | rfl | rfl | rfl
    all_goals intro w w' v hr hv
    all_goals first | exact hv | exact kTo_gr yBusCfg_law.blk _ _ _ hr hv
  · exact (Below.refl _ _).drew
  · refine ops_cons (gd rfl <| tx_pure rfl rfl (fun _ _ h => h) Gr.refl (fun i ρ W hat hW => ?_)) ?_
    · have bA : W.heap[X0]? = some (.cells #[.slice x0_0.p x0_0.l.length x0_0.c, .slice x0_1.p x0_1.l.length x0_1.c, .slice x0_2.p x0_2.l.length x0_2.c] 32 (0, 0)) := (HST.out.grow hW).bx0
      have k0 : W.cell? ⟨X0, 0, none⟩ = some (.slice x0_0.p x0_0.l.length x0_0.c) := heap_cell (bA) 0
      have k1 : W.cell? ⟨X0, 1, none⟩ = some (.slice x0_1.p x0_1.l.length x0_1.c) := heap_cell (bA) 1
      have k2 : W.cell? ⟨X0, 2, none⟩ = some (.slice x0_2.p x0_2.l.length x0_2.c) := heap_cell (bA) 2
      have e2 := hat.out 7 (by kernel_rfl)
      simp [Act.eval] at e2
      clear bA
      simp only [execOp, e2]; go_simp
    refine ops_cons (gd rfl <| tx_pure rfl rfl (fun _ _ h => h) Gr.refl (fun i ρ W hat hW => ?_)) ?_
    · have bA : W.heap[A0]? = some (.cells #[.slice c_0.p c_0.l.length c_0.c, .slice c_1.p c_1.l.length c_1.c, .slice c_2.p c_2.l.length c_2.c] 26 (0, 0)) := (HOLD.out.grow (HST.out.grow hW).bel).o0.b0
      have k0 : W.cell? ⟨A0, 0, none⟩ = some (.slice c_0.p c_0.l.length c_0.c) := heap_cell (bA) 0
      have k1 : W.cell? ⟨A0, 1, none⟩ = some (.slice c_1.p c_1.l.length c_1.c) := heap_cell (bA) 1
      have k2 : W.cell? ⟨A0, 2, none⟩ = some (.slice c_2.p c_2.l.length c_2.c) := heap_cell (bA) 2
      have e2 := hat.out 2 (by kernel_rfl)
      simp [Act.eval] at e2
      clear bA
      simp only [execOp, e2]; go_simp
    refine ops_cons (gd rfl <| tx_call rfl (fun i ρ W _ hat hW => ?_)) ?_
    · have e1 : ρ (.tmp 32) = _ := hat.dep 32 (by kernel_rfl)
      have hf := hat.fn
      refine ⟨11, #[.agg #[.slice c_0.p c_0.l.length c_0.c, .slice c_1.p c_1.l.length c_1.c, .slice c_2.p c_2.l.length c_2.c]], by simp only [execOp]; go_simp, ?_⟩
      refine (HT0.out W (HOLD.out.grow (HST.out.grow hW).bel).o0).mono ?_
      rintro e W' ⟨⟨v, rfl, hv⟩, hb⟩
      exact ⟨v, rfl, hW.trans (hb.mono hW.size), hb, hv⟩
    refine ops_cons (gd rfl <| tx_call rfl (fun i ρ W _ hat hW => ?_)) ?_
    · have e1 : ρ (.tmp 31) = _ := hat.dep 31 (by kernel_rfl)
      obtain ⟨⟨u_0, u_1, u_2⟩, e2, u1, _, u2⟩ : kTo yBusCfg (yBusCfg.pl (c_0, c_1, c_2)) W (ρ (.tmp 33)) := hat.dep 33 (by kernel_rfl)
      rw [yBusCfg_val] at e2
      have hf := hat.fn
      refine ⟨13, #[.agg #[.slice x0_0.p x0_0.l.length x0_0.c, .slice x0_1.p x0_1.l.length x0_1.c, .slice x0_2.p x0_2.l.length x0_2.c], .agg #[.slice u_0.p u_0.l.length u_0.c, .slice u_1.p u_1.l.length u_1.c, .slice u_2.p u_2.l.length u_2.c]], by simp only [execOp]; go_simp, ?_⟩
      have hcl := yBusCfg_eq (x0_0, x0_1, x0_2) (u_0, u_1, u_2) W (yBusCfg_law.ow_rd (HST.out.grow hW).ox0) (yBusCfg_law.ow_rd u2) (HPx0.out.1.trans u1.symm)
      refine Calls.mono (show Calls Try.prog 13 #[.agg #[.slice x0_0.p x0_0.l.length x0_0.c, .slice x0_1.p x0_1.l.length x0_1.c, .slice x0_2.p x0_2.l.length x0_2.c], .agg #[.slice u_0.p u_0.l.length u_0.c, .slice u_1.p u_1.l.length u_1.c, .slice u_2.p u_2.l.length u_2.c]] W _ from hcl) ?_
      rintro e W' ⟨rfl, hb⟩
      exact ⟨_, rfl, hW.trans (hb.mono hW.size), hb, rfl⟩
    refine ops_cons (gd rfl <| tx_pure rfl rfl (fun _ _ h => h) Gr.refl (fun i ρ W hat hW => ?_)) ?_
    · have e1 : ρ (.tmp 34) = _ := hat.dep 34 (by kernel_rfl)
      simp only [execOp, e1]; go_simp
    exact ops_nil
  intro f w9 hb hf
  have ee : f 35 = .bool false := hf 35 (by simp)
  replace HST := Hid.intro (HST.out.grow hb)
  clear hf hb
  simp only [fill, ee]
  go_simp
  clear ee
  have bA : w9.heap[X0]? = some (.cells #[.slice x0_0.p x0_0.l.length x0_0.c, .slice x0_1.p x0_1.l.length x0_1.c, .slice x0_2.p x0_2.l.length x0_2.c] 32 (0, 0)) := HST.out.bx0
  have c0 : w9.cell? ⟨X0, 0, none⟩ = some (.slice x0_0.p x0_0.l.length x0_0.c) := heap_cell (bA) 0
  have c1 : w9.cell? ⟨X0, 1, none⟩ = some (.slice x0_1.p x0_1.l.length x0_1.c) := heap_cell (bA) 1
  have c2 : w9.cell? ⟨X0, 2, none⟩ = some (.slice x0_2.p x0_2.l.length x0_2.c) := heap_cell (bA) 2
  have hlc := heap_lt bA
  clear bA
  have HCK : Hid (∀ (k : Int) (w : World), yBusCfg.ow w (x0_0, x0_1, x0_2) → (yBusCfg.foot (x0_0, x0_1, x0_2)).Nodup → 0 ≤ k → k + (yBusCfg.vcnt (x0_0, x0_1, x0_2) : Int) ≤ 1000000000000000 → Calls Try.prog 21 #[.agg #[.slice x0_0.p x0_0.l.length x0_0.c, .slice x0_1.p x0_1.l.length x0_1.c, .slice x0_2.p x0_2.l.length x0_2.c], .int .i64 k] w fun e w' => e = .returned (.int .i64 (k + (yBusCfg.vcnt (x0_0, x0_1, x0_2) : Int))) ∧ Kept (fun b => b ∈ yBusCfg.foot (x0_0, x0_1, x0_2)) w w' ∧ ∃ a', yBusCfg.val a' = yBusCfg.val (x0_0, x0_1, x0_2) ∧ yBusCfg.cells a' = yBusCfg.cells (x0_0, x0_1, x0_2) ∧ yBusCfg.foot a' = yBusCfg.foot (x0_0, x0_1, x0_2) ∧ yBusCfg.vcnt a' = yBusCfg.vcnt (x0_0, x0_1, x0_2) ∧ yBusCfg.ow w' a' ∧ yBusCfg.vmkd a' k) := Hid.intro (yBusCfg_mark (x0_0, x0_1, x0_2))
  go_wp2_with fail
  refine (HCK.out _ w9 HST.out.ox0 (HST.out.fam.ndAt (j := 0) rfl) (by first | decide | omega) (by have := HV.out; omega)).mono ?_
  rintro e w10 ⟨rfl, hk, t0, hv0, hc0, hf0, hn0, hw0, hm0⟩
  replace HST := Hid.intro (HST.out.mark_x0 hk hw0 hf0 hc0)
  clear hk hv0 hc0 hf0 hn0 hw0 hm0 HCK c0 c1 c2 hlc
  have hK0 : ¬ (1 + ((yBusCfg.vcnt (x0_0, x0_1, x0_2) : Nat) : Int) < 0) := by omega
  have bA : w10.heap[G0]? = some (.cells #[.slice g0_0.p g0_0.l.length g0_0.c, .slice g0_1.p g0_1.l.length g0_1.c, .slice g0_2.p g0_2.l.length g0_2.c] 32 (0, 0)) := HST.out.bg0
  have c0 : w10.cell? ⟨G0, 0, none⟩ = some (.slice g0_0.p g0_0.l.length g0_0.c) := heap_cell (bA) 0
  have c1 : w10.cell? ⟨G0, 1, none⟩ = some (.slice g0_1.p g0_1.l.length g0_1.c) := heap_cell (bA) 1
  have c2 : w10.cell? ⟨G0, 2, none⟩ = some (.slice g0_2.p g0_2.l.length g0_2.c) := heap_cell (bA) 2
  have hlc := heap_lt bA
  clear bA
  have bA : w10.heap[P0]? = some (.cells #[.slice m0_0.p m0_0.l.length m0_0.c, .slice m0_1.p m0_1.l.length m0_1.c, .slice m0_2.p m0_2.l.length m0_2.c] 32 (0, 0)) := (HOLD.out.grow HST.out.bel).bm0
  have d0 : w10.cell? ⟨P0, 0, none⟩ = some (.slice m0_0.p m0_0.l.length m0_0.c) := heap_cell (bA) 0
  have d1 : w10.cell? ⟨P0, 1, none⟩ = some (.slice m0_1.p m0_1.l.length m0_1.c) := heap_cell (bA) 1
  have d2 : w10.cell? ⟨P0, 2, none⟩ = some (.slice m0_2.p m0_2.l.length m0_2.c) := heap_cell (bA) 2
  have hld := heap_lt bA
  clear bA
  have HQ : Hid (∀ (w : World), yBusCfg.rd w (g0_0, g0_1, g0_2) → yBusCfg.rd w (m0_0, m0_1, m0_2) → yBusCfg.pl (g0_0, g0_1, g0_2) = yBusCfg.pl (m0_0, m0_1, m0_2) → Calls Try.prog 13 #[.agg #[.slice g0_0.p g0_0.l.length g0_0.c, .slice g0_1.p g0_1.l.length g0_1.c, .slice g0_2.p g0_2.l.length g0_2.c], .agg #[.slice m0_0.p m0_0.l.length m0_0.c, .slice m0_1.p m0_1.l.length m0_1.c, .slice m0_2.p m0_2.l.length m0_2.c]] w fun e w' => e = .returned (.bool true) ∧ Below w.heap.size w w') := Hid.intro (yBusCfg_eq (g0_0, g0_1, g0_2) (m0_0, m0_1, m0_2))
  go_wp2_with fail
  refine (HQ.out _ (yBusCfg_law.ow_rd HST.out.og0) (yBusCfg_law.ow_rd (HOLD.out.grow HST.out.bel).om0) (HPG.out.1.trans HPM.out.symm)).mono ?_
  rintro e w11 ⟨rfl, hb⟩
  clear HQ c0 c1 c2 hlc d0 d1 d2 hld
  replace HST := Hid.intro (HST.out.grow hb)
  clear hb
  clear hK0
  have bA : w11.heap[G0]? = some (.cells #[.slice g0_0.p g0_0.l.length g0_0.c, .slice g0_1.p g0_1.l.length g0_1.c, .slice g0_2.p g0_2.l.length g0_2.c] 32 (0, 0)) := HST.out.bg0
  have c0 : w11.cell? ⟨G0, 0, none⟩ = some (.slice g0_0.p g0_0.l.length g0_0.c) := heap_cell (bA) 0
  have c1 : w11.cell? ⟨G0, 1, none⟩ = some (.slice g0_1.p g0_1.l.length g0_1.c) := heap_cell (bA) 1
  have c2 : w11.cell? ⟨G0, 2, none⟩ = some (.slice g0_2.p g0_2.l.length g0_2.c) := heap_cell (bA) 2
  have hlc := heap_lt bA
  clear bA
  have HCK : Hid (∀ (k : Int) (w : World), yBusCfg.ow w (g0_0, g0_1, g0_2) → (yBusCfg.foot (g0_0, g0_1, g0_2)).Nodup → 0 ≤ k → k + (yBusCfg.vcnt (g0_0, g0_1, g0_2) : Int) ≤ 1000000000000000 → Calls Try.prog 21 #[.agg #[.slice g0_0.p g0_0.l.length g0_0.c, .slice g0_1.p g0_1.l.length g0_1.c, .slice g0_2.p g0_2.l.length g0_2.c], .int .i64 k] w fun e w' => e = .returned (.int .i64 (k + (yBusCfg.vcnt (g0_0, g0_1, g0_2) : Int))) ∧ Kept (fun b => b ∈ yBusCfg.foot (g0_0, g0_1, g0_2)) w w' ∧ ∃ a', yBusCfg.val a' = yBusCfg.val (g0_0, g0_1, g0_2) ∧ yBusCfg.cells a' = yBusCfg.cells (g0_0, g0_1, g0_2) ∧ yBusCfg.foot a' = yBusCfg.foot (g0_0, g0_1, g0_2) ∧ yBusCfg.vcnt a' = yBusCfg.vcnt (g0_0, g0_1, g0_2) ∧ yBusCfg.ow w' a' ∧ yBusCfg.vmkd a' k) := Hid.intro (yBusCfg_mark (g0_0, g0_1, g0_2))
  go_wp2_with fail
  refine (HCK.out _ w11 HST.out.og0 (HST.out.fam.ndAt (j := 2) rfl) (by decide) (by have := HV.out; omega)).mono ?_
  rintro e w12 ⟨rfl, hk, ⟨k0_0, k0_1, k0_2⟩, hv0, hc0, hf0, hn0, hw0, hm0⟩
  replace HST := Hid.intro (HST.out.mark_g0 hk hw0 hf0 hc0)
  have HMK := Hid.intro (And.intro hn0 hm0)
  clear hk hv0 hc0 hf0 hn0 hw0 hm0 HCK c0 c1 c2 hlc
  have bA : w12.heap[G0]? = some (.cells #[.slice k0_0.p k0_0.l.length k0_0.c, .slice k0_1.p k0_1.l.length k0_1.c, .slice k0_2.p k0_2.l.length k0_2.c] 32 (0, 0)) := HST.out.bg0
  have c0 : w12.cell? ⟨G0, 0, none⟩ = some (.slice k0_0.p k0_0.l.length k0_0.c) := heap_cell (bA) 0
  have c1 : w12.cell? ⟨G0, 1, none⟩ = some (.slice k0_1.p k0_1.l.length k0_1.c) := heap_cell (bA) 1
  have c2 : w12.cell? ⟨G0, 2, none⟩ = some (.slice k0_2.p k0_2.l.length k0_2.c) := heap_cell (bA) 2
  have hlc := heap_lt bA
  clear bA
  have HCK : Hid (∀ (k : Int) (w : World), yBusCfg.rd w (k0_0, k0_1, k0_2) → yBusCfg.vmkd (k0_0, k0_1, k0_2) k → 0 ≤ k → k + (yBusCfg.vcnt (k0_0, k0_1, k0_2) : Int) ≤ 1000000000000000 → Calls Try.prog 22 #[.agg #[.slice k0_0.p k0_0.l.length k0_0.c, .slice k0_1.p k0_1.l.length k0_1.c, .slice k0_2.p k0_2.l.length k0_2.c], .int .i64 k] w fun e w' => e = .returned (.int .i64 (k + (yBusCfg.vcnt (k0_0, k0_1, k0_2) : Int))) ∧ Below w.heap.size w w') := Hid.intro (yBusCfg_held (k0_0, k0_1, k0_2))
  go_wp2_with fail
  refine (HCK.out _ w12 (yBusCfg_law.ow_rd HST.out.og0) HMK.out.2 (by decide) (by have := HV.out; have := HMK.out.1; omega)).mono ?_
  rintro e w13 ⟨he, hb⟩
  rw [HMK.out.1] at he
  subst he
  replace HST := Hid.intro (HST.out.grow hb)
  clear hb HCK c0 c1 c2 hlc
  have hI1 : ¬ (1 + ((yBusCfg.vcnt (g0_0, g0_1, g0_2) : Nat) : Int) < 0) := by omega
  have bA : w13.heap[A0]? = some (.cells #[.slice c_0.p c_0.l.length c_0.c, .slice c_1.p c_1.l.length c_1.c, .slice c_2.p c_2.l.length c_2.c] 26 (0, 0)) := (HOLD.out.grow HST.out.bel).o0.b0
  have c0 : w13.cell? ⟨A0, 0, none⟩ = some (.slice c_0.p c_0.l.length c_0.c) := heap_cell (bA) 0
  have c1 : w13.cell? ⟨A0, 1, none⟩ = some (.slice c_1.p c_1.l.length c_1.c) := heap_cell (bA) 1
  have c2 : w13.cell? ⟨A0, 2, none⟩ = some (.slice c_2.p c_2.l.length c_2.c) := heap_cell (bA) 2
  clear bA
  go_wp2_with fail
  refine (HT0.out _ (HOLD.out.grow HST.out.bel).o0).mono ?_
  rintro e w14 ⟨⟨v0, rfl, hv⟩, hb⟩
  replace HST := Hid.intro (HST.out.grow hb)
  have HV := Hid.intro hv
  clear hv hb c0 c1 c2
  go_wp2_with fail
  refine (HIM.out v0 _ HV.out).mono ?_
  rintro e w15 ⟨⟨v, rfl, hm⟩, hb⟩
  replace HST := Hid.intro (HST.out.grow hb)
  clear hb HV
  clear hI1
  obtain ⟨⟨h0_0, h0_1, h0_2⟩, he, hph, hsh, hfh⟩ := hm
  replace he : v = .agg #[.slice h0_0.p h0_0.l.length h0_0.c, .slice h0_1.p h0_1.l.length h0_1.c, .slice h0_2.p h0_2.l.length h0_2.c] := he
  subst he
  have bA : w15.heap[P0]? = some (.cells #[.slice m0_0.p m0_0.l.length m0_0.c, .slice m0_1.p m0_1.l.length m0_1.c, .slice m0_2.p m0_2.l.length m0_2.c] 32 (0, 0)) := (HOLD.out.grow HST.out.bel).bm0
  have d0 : w15.cell? ⟨P0, 0, none⟩ = some (.slice m0_0.p m0_0.l.length m0_0.c) := heap_cell (bA) 0
  have d1 : w15.cell? ⟨P0, 1, none⟩ = some (.slice m0_1.p m0_1.l.length m0_1.c) := heap_cell (bA) 1
  have d2 : w15.cell? ⟨P0, 2, none⟩ = some (.slice m0_2.p m0_2.l.length m0_2.c) := heap_cell (bA) 2
  have hld := heap_lt bA
  clear bA
  obtain ⟨H0, hB⟩ : ∃ B, B = w15.heap.size := ⟨_, rfl⟩
  obtain ⟨w16, hWB⟩ : ∃ X, X = w15.alloc (.cells #[.slice h0_0.p h0_0.l.length h0_0.c, .slice h0_1.p h0_1.l.length h0_1.c, .slice h0_2.p h0_2.l.length h0_2.c] 32) := ⟨_, rfl⟩
  have grb : Below w15.heap.size w15 w16 := by rw [hWB]; exact (Below.refl _ _).alloc (Nat.le_refl _) _
  have bbx : w16.heap[H0]? = some (.cells #[.slice h0_0.p h0_0.l.length h0_0.c, .slice h0_1.p h0_1.l.length h0_1.c, .slice h0_2.p h0_2.l.length h0_2.c] 32 (0, 0)) := by rw [hWB, hB]; exact nw_k _ rfl
  have HSZ : Hid (w16.heap.size = w15.heap.size + 1) := Hid.intro (by rw [hWB]; simp)
  have HWB := Hid.intro hWB
  have HBB := Hid.intro hB
  clear hWB hB
  replace HST := Hid.intro (HST.out.grow grb)
  have HH := Hid.intro (And.intro hph (yBusCfg_law.ow_blw hfh.ow grb))
  clear hph hsh hfh grb bbx
  have HQ : Hid (∀ (w : World), yBusCfg.rd w (h0_0, h0_1, h0_2) → yBusCfg.rd w (m0_0, m0_1, m0_2) → yBusCfg.pl (h0_0, h0_1, h0_2) = yBusCfg.pl (m0_0, m0_1, m0_2) → Calls Try.prog 13 #[.agg #[.slice h0_0.p h0_0.l.length h0_0.c, .slice h0_1.p h0_1.l.length h0_1.c, .slice h0_2.p h0_2.l.length h0_2.c], .agg #[.slice m0_0.p m0_0.l.length m0_0.c, .slice m0_1.p m0_1.l.length m0_1.c, .slice m0_2.p m0_2.l.length m0_2.c]] w fun e w' => e = .returned (.bool true) ∧ Below w.heap.size w w') := Hid.intro (yBusCfg_eq (h0_0, h0_1, h0_2) (m0_0, m0_1, m0_2))
  go_wp2_with fail
  rw [← HWB.out, ← HBB.out]
  clear HWB HBB HSZ
  refine (HQ.out _ (yBusCfg_law.ow_rd HH.out.2) (yBusCfg_law.ow_rd (HOLD.out.grow HST.out.bel).om0) (HH.out.1.trans HPM.out.symm)).mono ?_
  rintro e w17 ⟨rfl, hb⟩
  clear HQ d0 d1 d2 hld
  replace HST := Hid.intro (HST.out.grow hb)
  clear hb
  clear HH
  have bA : w17.heap[G0]? = some (.cells #[.slice k0_0.p k0_0.l.length k0_0.c, .slice k0_1.p k0_1.l.length k0_1.c, .slice k0_2.p k0_2.l.length k0_2.c] 32 (0, 0)) := HST.out.bg0
  have c0 : w17.cell? ⟨G0, 0, none⟩ = some (.slice k0_0.p k0_0.l.length k0_0.c) := heap_cell (bA) 0
  have c1 : w17.cell? ⟨G0, 1, none⟩ = some (.slice k0_1.p k0_1.l.length k0_1.c) := heap_cell (bA) 1
  have c2 : w17.cell? ⟨G0, 2, none⟩ = some (.slice k0_2.p k0_2.l.length k0_2.c) := heap_cell (bA) 2
  have hlc := heap_lt bA
  clear bA
  have HCK : Hid (∀ (k : Int) (w : World), yBusCfg.rd w (k0_0, k0_1, k0_2) → yBusCfg.vmkd (k0_0, k0_1, k0_2) k → 0 ≤ k → k + (yBusCfg.vcnt (k0_0, k0_1, k0_2) : Int) ≤ 1000000000000000 → Calls Try.prog 22 #[.agg #[.slice k0_0.p k0_0.l.length k0_0.c, .slice k0_1.p k0_1.l.length k0_1.c, .slice k0_2.p k0_2.l.length k0_2.c], .int .i64 k] w fun e w' => e = .returned (.int .i64 (k + (yBusCfg.vcnt (k0_0, k0_1, k0_2) : Int))) ∧ Below w.heap.size w w') := Hid.intro (yBusCfg_held (k0_0, k0_1, k0_2))
  go_wp2_with fail
  refine (HCK.out _ w17 (yBusCfg_law.ow_rd HST.out.og0) HMK.out.2 (by decide) (by have := HV.out; have := HMK.out.1; omega)).mono ?_
  rintro e w18 ⟨he, hb⟩
  rw [HMK.out.1] at he
  subst he
  replace HST := Hid.intro (HST.out.grow hb)
  clear hb HCK c0 c1 c2 hlc
  have hI2 : ¬ (1 + ((yBusCfg.vcnt (g0_0, g0_1, g0_2) : Nat) : Int) < 0) := by omega
  have hend := (HOLD.out.grow HST.out.bel).o0.bel
  clear HST HOLD
  go_wp2
  go_ret
  exact ⟨rfl, hend⟩

end fnExactBusAlone

end Go.Proofs.Ytgjlkmhbaimjpaa
