/-
  The laws' crReq and crBus, of what is the same.
-/
import Derived.Test.YtlifkfemdknndaaDrawBusLM
import Derived.Test.YtlifkfemdknndaaApSM
import Derived.Test.YtlifkfemdknndaaOpsXM
import Derived.BigQuiet
namespace Go.Proofs.Ytlifkfemdknndaa
open Go.RowKit
set_option linter.unusedSimpArgs false
set_option linter.unusedVariables false

set_option maxRecDepth 100000 in
set_option maxHeartbeats 1000000 in
theorem crInts_eq (p q : Option Addr) (c1 c2 : Nat) (xs : List Int) (w : World) (hp : IntsAt w p xs) (hq : IntsAt w q xs) (h1 : xs.length ≤ c1) (h2 : c1 ≤ 9223372036854775807) (h3 : xs.length ≤ c2) (h4 : c2 ≤ 9223372036854775807) :
    Calls Try.prog 40 #[.slice p xs.length c1, .slice q xs.length c2] w fun e w' => e = .returned (.bool true) ∧ Below w.heap.size w w' := by
  have HP := Hid.intro hp
  have HQ := Hid.intro hq
  clear hp hq
  go_enter Try.func40, Try.ntmps40
  go_wp2
  go_loopw [5] (fun i wr => ∃ k : Nat, k ≤ xs.length ∧ i = .int .i64 k ∧ Below w.heap.size w wr) (fun i _ => xs.length - (intOf i).toNat)
  case atStart => exact ⟨0, Nat.zero_le _, rfl, Below.refl _ _⟩
  case round =>
    obtain ⟨k, hk, rfl, hbl⟩ := hrel
    by_cases hlt : k < xs.length
    · rcases HP.out with hx | ⟨b, off, rfl, hb, hcells⟩
      · subst hx; simp at hlt
      rcases HQ.out with hx' | ⟨b', off', rfl, hb', hcells'⟩
      · subst hx'; simp at hlt
      have hk0 : (0 : Int) ≤ (k : Int) := by omega
      have hk1 : (k : Int) < (xs.length : Int) := by omega
      have hc1 : wr.cell? ⟨b, off + k, none⟩ = some (.int .i64 xs[k]) := (hbl.cell (p := ⟨b, off + k, none⟩) hb).trans (hcells k hlt)
      have hc2 : wr.cell? ⟨b', off' + k, none⟩ = some (.int .i64 xs[k]) := (hbl.cell (p := ⟨b', off' + k, none⟩) hb').trans (hcells' k hlt)
      clear hcells hcells' HP HQ
      go_wp2_with fail
      go_quiet (fail)
      all_goals go_wp2
      all_goals go_roundw
      case rel => exact ⟨k + 1, by omega, by go_num, by first | exact hbl.drew | exact ⟨hbl.os, hbl.tape, hbl.output, hbl.size, hbl.block⟩⟩
      case measure => simp [intOf]; omega
    · have hk' : k = xs.length := by omega
      subst hk'
      go_wp2
      go_ret
      exact ⟨rfl, hbl⟩

set_option maxRecDepth 100000 in
set_option maxHeartbeats 2000000 in
theorem crReq_eq (q q' : QT') (w : World) (h : yReqReq.rd w q) (h' : yReqReq.rd w q') (he : yReqReq.pl q = yReqReq.pl q') :
    Calls Try.prog 41 #[yReqReq.val q, yReqReq.val q'] w fun e w' => e = .returned (.bool true) ∧ Below w.heap.size w w' := by
  obtain ⟨i0, i1, i2, i3, i4, d, l⟩ := q
  obtain ⟨j0, j1, j2, j3, j4, d', l'⟩ := q'
  have e1 : yReqReq.pl (i0, i1, i2, i3, i4, d, l) = (i0, i1, i2, i3, i4, yI.pl d, yI.pl l) := rfl
  have e2 : yReqReq.pl (j0, j1, j2, j3, j4, d', l') = (j0, j1, j2, j3, j4, yI.pl d', yI.pl l') := rfl
  rw [e1, e2, yI_pl, yI_pl, yI_pl, yI_pl] at he
  simp only [Prod.mk.injEq] at he
  obtain ⟨rfl, rfl, rfl, rfl, rfl, hd, hl⟩ := he
  obtain ⟨_, _, _, _, _, g1, g2⟩ := h
  obtain ⟨_, _, _, _, _, g1', g2'⟩ := h'
  obtain ⟨a1, a2, a3⟩ := yI_rd.1 g1
  obtain ⟨b1, b2, b3⟩ := yI_rd.1 g2
  obtain ⟨a1', a2', a3'⟩ := yI_rd.1 g1'
  obtain ⟨b1', b2', b3'⟩ := yI_rd.1 g2'
  simp only at a1 a2 a3 b1 b2 b3 a1' a2' a3' b1' b2' b3'
  rw [← hd] at a1' a3'
  rw [← hl] at b1' b3'
  have hbl : ∀ o o', Below w.heap.size w ((w.alloc o).alloc o') := fun o o' => ((Below.refl _ w).alloc (Nat.le_refl _) o).alloc (by simp) o'
  have HD : Hid (∀ W, Below w.heap.size w W → Calls Try.prog 40 #[.slice d.p d.l.length d.c, .slice d'.p d.l.length d'.c] W fun e w' => e = .returned (.bool true) ∧ Below W.heap.size W w') := Hid.intro (fun W hW => crInts_eq d.p d'.p d.c d'.c d.l W (a3.below hW) (a3'.below hW) a1 a2 a1' a2')
  have HL : Hid (∀ W, Below w.heap.size w W → Calls Try.prog 40 #[.slice l.p l.l.length l.c, .slice l'.p l.l.length l'.c] W fun e w' => e = .returned (.bool true) ∧ Below W.heap.size W w') := Hid.intro (fun W hW => crInts_eq l.p l'.p l.c l'.c l.l W (b3.below hW) (b3'.below hW) b1 b2 b1' b2')
  show Calls Try.prog 41 #[.agg #[.int .i64 i0, .int .i64 i1, .int .i64 i2, .int .i64 i3, .bool i4, .slice d.p d.l.length d.c, .slice l.p l.l.length l.c], .agg #[.int .i64 i0, .int .i64 i1, .int .i64 i2, .int .i64 i3, .bool i4, .slice d'.p d'.l.length d'.c, .slice l'.p l'.l.length l'.c]] w _
  rw [← hd, ← hl]
  clear a1 a2 a3 b1 b2 b3 a1' a2' a3' b1' b2' b3' g1 g2 g1' g2' hd hl e1 e2
  go_enter Try.func41, Try.ntmps41
  go_wp2_with fail
  refine (HD.out _ (hbl _ _)).mono ?_
  rintro e w1 ⟨rfl, hb⟩
  have bel : Below w.heap.size w w1 := (hbl _ _).trans (hb.mono (hbl _ _).size)
  have bA : w1.heap[w.heap.size]? = some (.cells #[.int .i64 i0, .int .i64 i1, .int .i64 i2, .int .i64 i3, .bool i4, .slice d.p d.l.length d.c, .slice l.p l.l.length l.c] 40 (0, 0)) := (hb.block _ (by simp <;> omega)).trans ((Below.heap_alloc _ _ _ (by simp)).trans (nw_k _ rfl))
  have bB : w1.heap[w.heap.size + 1]? = some (.cells #[.int .i64 i0, .int .i64 i1, .int .i64 i2, .int .i64 i3, .bool i4, .slice d'.p d.l.length d'.c, .slice l'.p l.l.length l'.c] 40 (0, 0)) := (hb.block _ (by simp)).trans (nw_k _ (by simp))
  have c6 : w1.cell? ⟨w.heap.size, 6, none⟩ = some (.slice l.p l.l.length l.c) := heap_cell bA 6
  have d6 : w1.cell? ⟨w.heap.size + 1, 6, none⟩ = some (.slice l'.p l.l.length l'.c) := heap_cell bB 6
  clear hb hbl bA bB HD
  go_wp2_with fail
  refine (HL.out _ bel).mono ?_
  rintro e w2 ⟨rfl, hb⟩
  have bel2 := bel.trans (hb.mono bel.size)
  clear hb bel HL
  go_wp2
  go_ret
  exact ⟨rfl, bel2⟩

theorem rngs_at {w : World} {p : Option Addr} {cap : Nat} {l : List (Int × Int × Int × Bool)} (h : yMapRangeS.rd w ⟨p, cap, l⟩) {k : Nat} (hk : k < l.length) : ∃ b off, p = some ⟨b, off, none⟩ ∧ b < w.heap.size ∧ ∀ i v, (yMapRange.cells l[k])[i]? = some v → w.cell? ⟨b, off + k * 4 + i, none⟩ = some v := by
  obtain ⟨_, _, h3, _⟩ := h
  rcases h3 with h3 | ⟨b, off, e, hlt, hc⟩
  · have h3 : l = [] := h3
    rw [h3] at hk; simp at hk
  · exact ⟨b, off, e, hlt, fun i v hv => hc k hk i v hv⟩

theorem progs_of {w : World} {a : Lst (Lst QT')} (h : yReqReqSS.rd w a) {b off : Nat} (hp : a.p = some ⟨b, off, none⟩) {k : Nat} (hk : k < a.l.length) : b < w.heap.size ∧ w.cell? ⟨b, off + k, none⟩ = some (.slice a.l[k].p a.l[k].l.length a.l[k].c) ∧ yReqReqS.rd w a.l[k] := by
  obtain ⟨b', off', e, h1, h2, h3⟩ := progs_at h hk
  rw [hp] at e
  cases e
  exact ⟨h1, h2, h3⟩

set_option maxRecDepth 100000 in
set_option maxHeartbeats 8000000 in
theorem crBus_eq (m m' : Lst (Int × Int × Int × Bool)) (la la' : Lst Int) (ps ps' : Lst (Lst QT')) (w : World) (h : yBusCfg.rd w (m, la, ps)) (h' : yBusCfg.rd w (m', la', ps')) (he : yBusCfg.pl (m, la, ps) = yBusCfg.pl (m', la', ps')) :
    Calls Try.prog 13 #[yBusCfg.val (m, la, ps), yBusCfg.val (m', la', ps')] w fun e w' => e = .returned (.bool true) ∧ Below w.heap.size w w' := by
  have e1 : yBusCfg.pl (m, la, ps) = (yMapRangeS.pl m, yI.pl la, yReqReqSS.pl ps) := rfl
  have e2 : yBusCfg.pl (m', la', ps') = (yMapRangeS.pl m', yI.pl la', yReqReqSS.pl ps') := rfl
  rw [e1, e2, yI_pl, yI_pl] at he
  simp only [Prod.mk.injEq] at he
  obtain ⟨hm, hl, hp⟩ := he
  have hm2 : m.l = m'.l := by
    have h1 : yMapRangeS.pl m = m.l := List.map_id _
    have h2 : yMapRangeS.pl m' = m'.l := List.map_id _
    rw [← h1, ← h2]; exact hm
  have hpl : ps.l.length = ps'.l.length := by
    have h1 : (yReqReqSS.pl ps).length = ps.l.length := List.length_map ..
    have h2 : (yReqReqSS.pl ps').length = ps'.l.length := List.length_map ..
    rw [← h1, ← h2, hp]
  have HA := Hid.intro h
  have HB := Hid.intro h'
  have HP := Hid.intro hp
  have HM := Hid.intro hm2
  have HPL := Hid.intro hpl
  obtain ⟨a1, a2, a3⟩ := yI_rd.1 h.2.1
  obtain ⟨a1', a2', a3'⟩ := yI_rd.1 h'.2.1
  simp only at a1 a2 a3 a1' a2' a3'
  rw [← hl] at a1' a3'
  have HL : Hid (∀ W, Below w.heap.size w W → Calls Try.prog 40 #[.slice la.p la.l.length la.c, .slice la'.p la.l.length la'.c] W fun e w' => e = .returned (.bool true) ∧ Below W.heap.size W w') := Hid.intro (fun W hW => crInts_eq la.p la'.p la.c la'.c la.l W (a3.below hW) (a3'.below hW) a1 a2 a1' a2')
  have hmc : m.l.length ≤ m.c ∧ m.c ≤ 9223372036854775807 := ⟨h.1.1, h.1.2.1⟩
  have hpc : ps.l.length ≤ ps.c ∧ ps.c ≤ 9223372036854775807 := ⟨h.2.2.1, h.2.2.2.1⟩
  have hmx : m.l.length ≤ 9223372036854775807 := by omega
  have hpx : ps.l.length ≤ 9223372036854775807 := by omega
  have hbl : ∀ o o', Below w.heap.size w ((w.alloc o).alloc o') := fun o o' => ((Below.refl _ w).alloc (Nat.le_refl _) o).alloc (by simp) o'
  show Calls Try.prog 13 #[.agg #[.slice m.p m.l.length m.c, .slice la.p la.l.length la.c, .slice ps.p ps.l.length ps.c], .agg #[.slice m'.p m'.l.length m'.c, .slice la'.p la'.l.length la'.c, .slice ps'.p ps'.l.length ps'.c]] w _
  rw [← hm2, ← hl, ← hpl]
  clear a1 a2 a3 a1' a2' a3' h h' hm hp hm2 hpl hl e1 e2 hmc hpc
  go_enter Try.func13, Try.ntmps13
  go_wp2_with fail
  refine (HL.out _ (hbl _ _)).mono ?_
  rintro e w1 ⟨rfl, hb⟩
  have bel : Below w.heap.size w w1 := (hbl _ _).trans (hb.mono (hbl _ _).size)
  have bA : w1.heap[w.heap.size]? = some (.cells #[.slice m.p m.l.length m.c, .slice la.p la.l.length la.c, .slice ps.p ps.l.length ps.c] 27 (0, 0)) := (hb.block _ (by simp <;> omega)).trans ((Below.heap_alloc _ _ _ (by simp)).trans (nw_k _ rfl))
  have bB : w1.heap[w.heap.size + 1]? = some (.cells #[.slice m'.p m.l.length m'.c, .slice la'.p la.l.length la'.c, .slice ps'.p ps.l.length ps'.c] 27 (0, 0)) := (hb.block _ (by simp)).trans (nw_k _ (by simp))
  obtain ⟨A, hAe⟩ : ∃ A, A = w.heap.size := ⟨_, rfl⟩
  obtain ⟨B, hBe⟩ : ∃ B, B = w.heap.size + 1 := ⟨_, rfl⟩
  rw [← hAe] at bA
  rw [← hBe] at bB
  have cA2 : w1.cell? ⟨A, 2, none⟩ = some (.slice ps.p ps.l.length ps.c) := heap_cell bA 2
  have cB2 : w1.cell? ⟨B, 2, none⟩ = some (.slice ps'.p ps.l.length ps'.c) := heap_cell bB 2
  have HBA := Hid.intro bA
  have HBB := Hid.intro bB
  have HBL := Hid.intro bel
  rw [← hBe, ← hAe]
  clear hb hbl HL bA bB bel hAe hBe
  go_wp2
  clear cA2 cB2
  go_loopw [5] (fun i wr => ∃ k : Nat, k ≤ m.l.length ∧ i = .int .i64 k ∧ Below w1.heap.size w1 wr) (fun i _ => m.l.length - (intOf i).toNat)
  case atStart => exact ⟨0, Nat.zero_le _, rfl, Below.refl _ _⟩
  case round =>
    obtain ⟨k, hk, rfl, hbl⟩ := hrel
    have bA := (hbl.block _ (heap_lt HBA.out)).trans HBA.out
    have bB := (hbl.block _ (heap_lt HBB.out)).trans HBB.out
    have cA0 : wr.cell? ⟨A, 0, none⟩ = some (.slice m.p m.l.length m.c) := heap_cell bA 0
    have cB0 : wr.cell? ⟨B, 0, none⟩ = some (.slice m'.p m.l.length m'.c) := heap_cell bB 0
    have cA2 : wr.cell? ⟨A, 2, none⟩ = some (.slice ps.p ps.l.length ps.c) := heap_cell bA 2
    have cB2 : wr.cell? ⟨B, 2, none⟩ = some (.slice ps'.p ps.l.length ps'.c) := heap_cell bB 2
    have hlA := heap_lt bA
    have hlB := heap_lt bB
    clear bA bB
    by_cases hlt : k < m.l.length
    · have hk0 : (0 : Int) ≤ (k : Int) := by omega
      have hkl : (k : Int) < (m.l.length : Int) := by omega
      have hbw := HBL.out.trans (hbl.mono HBL.out.size)
      obtain ⟨bm, om, hpm, hbm, hcm⟩ := rngs_at (yBusCfg_law.rd_blw HA.out hbw).1 hlt
      have hlt' : k < m'.l.length := by rw [← HM.out]; exact hlt
      obtain ⟨bm', om', hpm', hbm', hcm'⟩ := rngs_at (yBusCfg_law.rd_blw HB.out hbw).1 hlt'
      have hqe : m'.l[k] = m.l[k] := by
        have : m'.l[k]? = m.l[k]? := by rw [HM.out]
        simpa [hlt, hlt'] using this
      rw [hqe] at hcm'
      generalize m.l[k] = q at hcm hcm'
      obtain ⟨q0, q1, q2, q3⟩ := q
      rw [hpm] at cA0
      rw [hpm'] at cB0
      have c0 : wr.cell? ⟨bm, om + k * 4, none⟩ = some (.int .i64 q0) := hcm 0 _ rfl
      have c1 : wr.cell? ⟨bm, om + k * 4 + 1, none⟩ = some (.int .i64 q1) := hcm 1 _ rfl
      have c2 : wr.cell? ⟨bm, om + k * 4 + 2, none⟩ = some (.int .i64 q2) := hcm 2 _ rfl
      have c3 : wr.cell? ⟨bm, om + k * 4 + 3, none⟩ = some (.bool q3) := hcm 3 _ rfl
      have d0 : wr.cell? ⟨bm', om' + k * 4, none⟩ = some (.int .i64 q0) := hcm' 0 _ rfl
      have d1 : wr.cell? ⟨bm', om' + k * 4 + 1, none⟩ = some (.int .i64 q1) := hcm' 1 _ rfl
      have d2 : wr.cell? ⟨bm', om' + k * 4 + 2, none⟩ = some (.int .i64 q2) := hcm' 2 _ rfl
      have d3 : wr.cell? ⟨bm', om' + k * 4 + 3, none⟩ = some (.bool q3) := hcm' 3 _ rfl
      have HBW := Hid.intro hbl
      clear hcm hcm' hqe hlt' hbw hbl hpm hpm'
      go_wp2_with fail
      go_quiet (fail)
      all_goals go_wp2
      all_goals go_roundw
      case rel => exact ⟨k + 1, by omega, by go_num, by first | exact HBW.out.drew | exact ⟨HBW.out.os, HBW.out.tape, HBW.out.output, HBW.out.size, HBW.out.block⟩⟩
      case measure => simp [intOf]; omega
    · have hkl : ¬ ((k : Int) < (m.l.length : Int)) := by omega
      have HBW := Hid.intro hbl
      have HRA : Hid (∀ W, Below w1.heap.size w1 W → yReqReqSS.rd W ps) := Hid.intro (fun W hW => (yBusCfg_law.rd_blw HA.out (HBL.out.trans (hW.mono HBL.out.size))).2.2)
      have HRB : Hid (∀ W, Below w1.heap.size w1 W → yReqReqSS.rd W ps') := Hid.intro (fun W hW => (yBusCfg_law.rd_blw HB.out (HBL.out.trans (hW.mono HBL.out.size))).2.2)
      clear hbl
      go_wp2
      clear cA0 cB0 cA2 cB2 hlA hlB hkl
      go_loopw [6] (fun i wr => ∃ k : Nat, k ≤ ps.l.length ∧ i = .int .i64 k ∧ Below w1.heap.size w1 wr) (fun i _ => ps.l.length - (intOf i).toNat)
      case atStart => exact ⟨0, Nat.zero_le _, rfl, HBW.out⟩
      case round =>
        clear HBW
        obtain ⟨k, hk, rfl, hbl⟩ := hrel
        have bA := (hbl.block _ (heap_lt HBA.out)).trans HBA.out
        have bB := (hbl.block _ (heap_lt HBB.out)).trans HBB.out
        have cA2 : wr.cell? ⟨A, 2, none⟩ = some (.slice ps.p ps.l.length ps.c) := heap_cell bA 2
        have cB2 : wr.cell? ⟨B, 2, none⟩ = some (.slice ps'.p ps.l.length ps'.c) := heap_cell bB 2
        have hlA := heap_lt bA
        have hlB := heap_lt bB
        clear bA bB
        by_cases hkt : k < ps.l.length
        rotate_left
        · have hkn : ¬ ((k : Int) < (ps.l.length : Int)) := by omega
          have HB3 := Hid.intro (HBL.out.trans (hbl.mono HBL.out.size))
          clear hbl
          go_wp2
          go_ret
          exact ⟨rfl, HB3.out⟩
        have hkl : (k : Int) < (ps.l.length : Int) := by omega
        have hk0 : (0 : Int) ≤ (k : Int) := by omega
        have hkt' : k < ps'.l.length := by rw [← HPL.out]; exact hkt
        obtain ⟨bs, os, hps, hbs, cK, _⟩ := progs_at (HRA.out wr hbl) hkt
        obtain ⟨bs', os', hps', hbs', cK', _⟩ := progs_at (HRB.out wr hbl) hkt'
        have HRK : Hid (∀ W, Below w1.heap.size w1 W → bs < W.heap.size ∧ W.cell? ⟨bs, os + k, none⟩ = some (.slice ps.l[k].p ps.l[k].l.length ps.l[k].c) ∧ yReqReqS.rd W ps.l[k]) := Hid.intro (fun W hW => progs_of (HRA.out W hW) hps hkt)
        have HRK' : Hid (∀ W, Below w1.heap.size w1 W → bs' < W.heap.size ∧ W.cell? ⟨bs', os' + k, none⟩ = some (.slice ps'.l[k].p ps'.l[k].l.length ps'.l[k].c) ∧ yReqReqS.rd W ps'.l[k]) := Hid.intro (fun W hW => progs_of (HRB.out W hW) hps' hkt')
        have hpk : yReqReqS.pl ps.l[k] = yReqReqS.pl ps'.l[k] := by
          have h1 : (yReqReqSS.pl ps)[k]? = (yReqReqSS.pl ps')[k]? := by rw [HP.out]
          have h2 : (ps.l.map yReqReqS.pl)[k]? = (ps'.l.map yReqReqS.pl)[k]? := h1
          simpa [hkt, hkt'] using h2
        generalize ps.l[k] = a at cK HRK hpk
        generalize ps'.l[k] = a' at cK' HRK' hpk
        obtain ⟨pk, ck, lk⟩ := a
        obtain ⟨pk', ck', lk'⟩ := a'
        have hpk : lk.map yReqReq.pl = lk'.map yReqReq.pl := hpk
        have hll : lk.length = lk'.length := by
          have h1 : (lk.map yReqReq.pl).length = (lk'.map yReqReq.pl).length := by rw [hpk]
          simpa using h1
        simp only at cK cK'
        rw [← hll] at cK'
        rw [hps] at cA2
        rw [hps'] at cB2
        have HPK := Hid.intro hpk
        have HLL := Hid.intro hll
        have HPS := Hid.intro hps
        have HPS' := Hid.intro hps'
        have HBW := Hid.intro hbl
        have hkx : lk.length ≤ 9223372036854775807 := by
          have h1 := (HRK.out wr hbl).2.2.1
          have h2 := (HRK.out wr hbl).2.2.2.1
          simp only at h1 h2
          omega
        clear hpk hll hps hps' hbl
        go_wp2_with fail
        go_quiet (fail)
        all_goals go_wp2
        clear cA2 cB2 cK cK' hlA hlB hbs hbs'
        go_loopw [7] (fun i wr => ∃ j : Nat, j ≤ lk.length ∧ i = .int .i64 j ∧ Below w1.heap.size w1 wr) (fun i _ => lk.length - (intOf i).toNat)
        case atStart => exact ⟨0, Nat.zero_le _, rfl, by first | exact HBW.out | exact HBW.out.drew | exact ⟨HBW.out.os, HBW.out.tape, HBW.out.output, HBW.out.size, HBW.out.block⟩⟩
        case round =>
          clear HBW
          obtain ⟨j, hj, rfl, hbl⟩ := hrel
          have hrk := HRK.out wr hbl
          have hrk' := HRK'.out wr hbl
          have hbs := hrk.1
          have hbs' := hrk'.1
          have cK : wr.cell? ⟨bs, os + k, none⟩ = some (.slice pk lk.length ck) := hrk.2.1
          have cK' : wr.cell? ⟨bs', os' + k, none⟩ = some (.slice pk' lk'.length ck') := hrk'.2.1
          rw [← HLL.out] at cK'
          have bA := (hbl.block _ (heap_lt HBA.out)).trans HBA.out
          have bB := (hbl.block _ (heap_lt HBB.out)).trans HBB.out
          have cA2 : wr.cell? ⟨A, 2, none⟩ = some (.slice ps.p ps.l.length ps.c) := heap_cell bA 2
          have cB2 : wr.cell? ⟨B, 2, none⟩ = some (.slice ps'.p ps.l.length ps'.c) := heap_cell bB 2
          rw [HPS.out] at cA2
          rw [HPS'.out] at cB2
          have hlA := heap_lt bA
          have hlB := heap_lt bB
          clear bA bB
          by_cases hjt : j < lk.length
          rotate_left
          · have hjn : ¬ ((j : Int) < (lk.length : Int)) := by omega
            have HB3 := Hid.intro hbl
            clear hrk hrk' hbl
            go_wp2
            go_roundw
            case rel => exact ⟨k + 1, by omega, by go_num, HB3.out⟩
            case measure => simp [intOf]; omega
          have hjl : (j : Int) < (lk.length : Int) := by omega
          have hj0 : (0 : Int) ≤ (j : Int) := by omega
          have hjt' : j < lk'.length := by rw [← HLL.out]; exact hjt
          obtain ⟨bk, ok, hpk, hbk, hcq, hrq⟩ := reqs_at hrk.2.2 hjt
          obtain ⟨bk', ok', hpk', hbk', hcr, hrr⟩ := reqs_at hrk'.2.2 hjt'
          simp only at hpk hpk' hcq hcr hrq hrr
          rw [hpk] at cK
          rw [hpk'] at cK'
          have hqr : yReqReq.pl lk[j] = yReqReq.pl lk'[j] := by
            have h1 : (lk.map yReqReq.pl)[j]? = (lk'.map yReqReq.pl)[j]? := by rw [HPK.out]
            simpa [hjt, hjt'] using h1
          generalize lk[j] = q at hcq hrq hqr
          generalize lk'[j] = r at hcr hrr hqr
          have HC0 : Hid (∀ W, Below wr.heap.size wr W → Calls Try.prog 41 #[yReqReq.val q, yReqReq.val r] W fun e w' => e = .returned (.bool true) ∧ Below W.heap.size W w') := Hid.intro (fun W hW => crReq_eq q r W (yReqReq_law.rd_blw hrq hW) (yReqReq_law.rd_blw hrr hW) hqr)
          obtain ⟨i0, i1, i2, i3, i4, d, e⟩ := q
          obtain ⟨j0, j1, j2, j3, j4, d', e'⟩ := r
          have e1 : yReqReq.pl (i0, i1, i2, i3, i4, d, e) = (i0, i1, i2, i3, i4, yI.pl d, yI.pl e) := rfl
          have e2 : yReqReq.pl (j0, j1, j2, j3, j4, d', e') = (j0, j1, j2, j3, j4, yI.pl d', yI.pl e') := rfl
          rw [e1, e2] at hqr
          simp only [Prod.mk.injEq] at hqr
          obtain ⟨rfl, rfl, rfl, rfl, rfl, _, _⟩ := hqr
          have HCR : Hid (∀ W, Below wr.heap.size wr W → Calls Try.prog 41 #[.agg #[.int .i64 i0, .int .i64 i1, .int .i64 i2, .int .i64 i3, .bool i4, .slice d.p d.l.length d.c, .slice e.p e.l.length e.c], .agg #[.int .i64 i0, .int .i64 i1, .int .i64 i2, .int .i64 i3, .bool i4, .slice d'.p d'.l.length d'.c, .slice e'.p e'.l.length e'.c]] W fun e w' => e = .returned (.bool true) ∧ Below W.heap.size W w') := HC0
          have cq0 : wr.cell? ⟨bk, ok + j * 7, none⟩ = some (.int .i64 i0) := hcq 0 _ rfl
          have cq1 : wr.cell? ⟨bk, ok + j * 7 + 1, none⟩ = some (.int .i64 i1) := hcq 1 _ rfl
          have cq2 : wr.cell? ⟨bk, ok + j * 7 + 2, none⟩ = some (.int .i64 i2) := hcq 2 _ rfl
          have cq3 : wr.cell? ⟨bk, ok + j * 7 + 3, none⟩ = some (.int .i64 i3) := hcq 3 _ rfl
          have cq4 : wr.cell? ⟨bk, ok + j * 7 + 4, none⟩ = some (.bool i4) := hcq 4 _ rfl
          have cq5 : wr.cell? ⟨bk, ok + j * 7 + 5, none⟩ = some (.slice d.p d.l.length d.c) := hcq 5 _ rfl
          have cq6 : wr.cell? ⟨bk, ok + j * 7 + 6, none⟩ = some (.slice e.p e.l.length e.c) := hcq 6 _ rfl
          have cr0 : wr.cell? ⟨bk', ok' + j * 7, none⟩ = some (.int .i64 i0) := hcr 0 _ rfl
          have cr1 : wr.cell? ⟨bk', ok' + j * 7 + 1, none⟩ = some (.int .i64 i1) := hcr 1 _ rfl
          have cr2 : wr.cell? ⟨bk', ok' + j * 7 + 2, none⟩ = some (.int .i64 i2) := hcr 2 _ rfl
          have cr3 : wr.cell? ⟨bk', ok' + j * 7 + 3, none⟩ = some (.int .i64 i3) := hcr 3 _ rfl
          have cr4 : wr.cell? ⟨bk', ok' + j * 7 + 4, none⟩ = some (.bool i4) := hcr 4 _ rfl
          have cr5 : wr.cell? ⟨bk', ok' + j * 7 + 5, none⟩ = some (.slice d'.p d'.l.length d'.c) := hcr 5 _ rfl
          have cr6 : wr.cell? ⟨bk', ok' + j * 7 + 6, none⟩ = some (.slice e'.p e'.l.length e'.c) := hcr 6 _ rfl
          have HB3 := Hid.intro hbl
          clear hcq hcr hrq hrr hrk hrk' hbl HC0 e1 e2 hpk hpk'
          go_wp2_with fail
          refine wp_region_typed (by kernel_rfl) Gr (fun _ W => Below wr.heap.size wr W)
            (tab [(80, kIs (.pointer (some ⟨A, 2, none⟩))), (81, kIs (.slice (some ⟨bs, os, none⟩) ps.l.length ps.c)), (82, kIs (.int .i64 (k : Int))), (83, kIs (.pointer (some ⟨bs, os + k, none⟩))), (84, kIs (.slice (some ⟨bk, ok, none⟩) lk.length ck)), (85, kIs (.int .i64 (j : Int))), (86, kIs (.pointer (some ⟨bk, ok + j * 7, none⟩))), (87, kIs (.agg #[.int .i64 i0, .int .i64 i1, .int .i64 i2, .int .i64 i3, .bool i4, .slice d.p d.l.length d.c, .slice e.p e.l.length e.c])), (88, kIs (.pointer (some ⟨B, 2, none⟩))), (89, kIs (.slice (some ⟨bs', os', none⟩) ps.l.length ps'.c)), (90, kIs (.int .i64 (k : Int))), (91, kIs (.pointer (some ⟨bs', os' + k, none⟩))), (92, kIs (.slice (some ⟨bk', ok', none⟩) lk.length ck')), (93, kIs (.int .i64 (j : Int))), (94, kIs (.pointer (some ⟨bk', ok' + j * 7, none⟩))), (95, kIs (.agg #[.int .i64 i0, .int .i64 i1, .int .i64 i2, .int .i64 i3, .bool i4, .slice d'.p d'.l.length d'.c, .slice e'.p e'.l.length e'.c])), (96, kIs (.bool true)), (97, kIs (.bool false))])
            [80, 81, 82, 83, 84, 85, 86, 87, 88, 89, 90, 91, 92, 93, 94, 95, 96, 97] (by kernel_rfl) (by kernel_rfl) ?_ ?_ ?_ ?_
          · refine tabR_stable ?_
            intro x hx
            simp only [List.mem_cons, List.not_mem_nil, or_false] at hx
            rcases hx with rfl | rfl | rfl | rfl | rfl | rfl | rfl | rfl | rfl | rfl | rfl | rfl | rfl | rfl | rfl | rfl | rfl | rfl
            all_goals intro w w' v hr hv
            all_goals first | exact hv
          · exact (Below.refl _ _).drew
          · refine ops_cons (gd rfl <| tx_pure rfl rfl (fun _ _ h => h) Gr.refl (fun ix ρ W hat hW => ?_)) ?_
            · have e0 := hat.out 2 (by kernel_rfl)
              simp [Act.eval] at e0
              simp only [execOp, e0]; go_simp
            refine ops_cons (gd rfl <| tx_pure rfl rfl (fun _ _ h => h) Gr.refl (fun ix ρ W hat hW => ?_)) ?_
            · have e0 : ρ (.tmp 80) = _ := hat.dep 80 (by kernel_rfl)
              have c0 : W.cell? ⟨A, 2, none⟩ = some (.slice (some ⟨bs, os, none⟩) ps.l.length ps.c) := (hW.cell (p := ⟨A, 2, none⟩) hlA).trans cA2
              simp only [execOp, e0]; go_simp
            refine ops_cons (gd rfl <| tx_pure rfl rfl (fun _ _ h => h) Gr.refl (fun ix ρ W hat hW => ?_)) ?_
            · have e0 := hat.out 6 (by kernel_rfl)
              simp [Act.eval] at e0
              simp only [execOp, e0]; go_simp
            refine ops_cons (gd rfl <| tx_pure rfl rfl (fun _ _ h => h) Gr.refl (fun ix ρ W hat hW => ?_)) ?_
            · have e0 : ρ (.tmp 81) = _ := hat.dep 81 (by kernel_rfl)
              have e1 : ρ (.tmp 82) = _ := hat.dep 82 (by kernel_rfl)
              have u0 : (0 : Int) ≤ (k : Int) := by omega
              have u1 : (k : Int) < (ps.l.length : Int) := hkl
              simp only [execOp, e0, e1]; go_simp
            refine ops_cons (gd rfl <| tx_pure rfl rfl (fun _ _ h => h) Gr.refl (fun ix ρ W hat hW => ?_)) ?_
            · have e0 : ρ (.tmp 83) = _ := hat.dep 83 (by kernel_rfl)
              have c0 : W.cell? ⟨bs, os + k, none⟩ = some (.slice (some ⟨bk, ok, none⟩) lk.length ck) := (hW.cell (p := ⟨bs, os + k, none⟩) hbs).trans cK
              simp only [execOp, e0]; go_simp
            refine ops_cons (gd rfl <| tx_pure rfl rfl (fun _ _ h => h) Gr.refl (fun ix ρ W hat hW => ?_)) ?_
            · have e0 := hat.out 7 (by kernel_rfl)
              simp [Act.eval] at e0
              simp only [execOp, e0]; go_simp
            refine ops_cons (gd rfl <| tx_pure rfl rfl (fun _ _ h => h) Gr.refl (fun ix ρ W hat hW => ?_)) ?_
            · have e0 : ρ (.tmp 84) = _ := hat.dep 84 (by kernel_rfl)
              have e1 : ρ (.tmp 85) = _ := hat.dep 85 (by kernel_rfl)
              have u0 : (0 : Int) ≤ (j : Int) := by omega
              have u1 : (j : Int) < (lk.length : Int) := hjl
              simp only [execOp, e0, e1]; go_simp
            refine ops_cons (gd rfl <| tx_pure rfl rfl (fun _ _ h => h) Gr.refl (fun ix ρ W hat hW => ?_)) ?_
            · have e0 : ρ (.tmp 86) = _ := hat.dep 86 (by kernel_rfl)
              have c0 : W.cell? ⟨bk, ok + j * 7, none⟩ = some (.int .i64 i0) := (hW.cell (p := ⟨bk, ok + j * 7, none⟩) hbk).trans cq0
              have c1 : W.cell? ⟨bk, ok + j * 7 + 1, none⟩ = some (.int .i64 i1) := (hW.cell (p := ⟨bk, ok + j * 7 + 1, none⟩) hbk).trans cq1
              have c2 : W.cell? ⟨bk, ok + j * 7 + 2, none⟩ = some (.int .i64 i2) := (hW.cell (p := ⟨bk, ok + j * 7 + 2, none⟩) hbk).trans cq2
              have c3 : W.cell? ⟨bk, ok + j * 7 + 3, none⟩ = some (.int .i64 i3) := (hW.cell (p := ⟨bk, ok + j * 7 + 3, none⟩) hbk).trans cq3
              have c4 : W.cell? ⟨bk, ok + j * 7 + 4, none⟩ = some (.bool i4) := (hW.cell (p := ⟨bk, ok + j * 7 + 4, none⟩) hbk).trans cq4
              have c5 : W.cell? ⟨bk, ok + j * 7 + 5, none⟩ = some (.slice d.p d.l.length d.c) := (hW.cell (p := ⟨bk, ok + j * 7 + 5, none⟩) hbk).trans cq5
              have c6 : W.cell? ⟨bk, ok + j * 7 + 6, none⟩ = some (.slice e.p e.l.length e.c) := (hW.cell (p := ⟨bk, ok + j * 7 + 6, none⟩) hbk).trans cq6
              simp only [execOp, e0]; go_simp
            refine ops_cons (gd rfl <| tx_pure rfl rfl (fun _ _ h => h) Gr.refl (fun ix ρ W hat hW => ?_)) ?_
            · have e0 := hat.out 3 (by kernel_rfl)
              simp [Act.eval] at e0
              simp only [execOp, e0]; go_simp
            refine ops_cons (gd rfl <| tx_pure rfl rfl (fun _ _ h => h) Gr.refl (fun ix ρ W hat hW => ?_)) ?_
            · have e0 : ρ (.tmp 88) = _ := hat.dep 88 (by kernel_rfl)
              have c0 : W.cell? ⟨B, 2, none⟩ = some (.slice (some ⟨bs', os', none⟩) ps.l.length ps'.c) := (hW.cell (p := ⟨B, 2, none⟩) hlB).trans cB2
              simp only [execOp, e0]; go_simp
            refine ops_cons (gd rfl <| tx_pure rfl rfl (fun _ _ h => h) Gr.refl (fun ix ρ W hat hW => ?_)) ?_
            · have e0 := hat.out 6 (by kernel_rfl)
              simp [Act.eval] at e0
              simp only [execOp, e0]; go_simp
            refine ops_cons (gd rfl <| tx_pure rfl rfl (fun _ _ h => h) Gr.refl (fun ix ρ W hat hW => ?_)) ?_
            · have e0 : ρ (.tmp 89) = _ := hat.dep 89 (by kernel_rfl)
              have e1 : ρ (.tmp 90) = _ := hat.dep 90 (by kernel_rfl)
              have u0 : (0 : Int) ≤ (k : Int) := by omega
              have u1 : (k : Int) < (ps.l.length : Int) := hkl
              simp only [execOp, e0, e1]; go_simp
            refine ops_cons (gd rfl <| tx_pure rfl rfl (fun _ _ h => h) Gr.refl (fun ix ρ W hat hW => ?_)) ?_
            · have e0 : ρ (.tmp 91) = _ := hat.dep 91 (by kernel_rfl)
              have c0 : W.cell? ⟨bs', os' + k, none⟩ = some (.slice (some ⟨bk', ok', none⟩) lk.length ck') := (hW.cell (p := ⟨bs', os' + k, none⟩) hbs').trans cK'
              simp only [execOp, e0]; go_simp
            refine ops_cons (gd rfl <| tx_pure rfl rfl (fun _ _ h => h) Gr.refl (fun ix ρ W hat hW => ?_)) ?_
            · have e0 := hat.out 7 (by kernel_rfl)
              simp [Act.eval] at e0
              simp only [execOp, e0]; go_simp
            refine ops_cons (gd rfl <| tx_pure rfl rfl (fun _ _ h => h) Gr.refl (fun ix ρ W hat hW => ?_)) ?_
            · have e0 : ρ (.tmp 92) = _ := hat.dep 92 (by kernel_rfl)
              have e1 : ρ (.tmp 93) = _ := hat.dep 93 (by kernel_rfl)
              have u0 : (0 : Int) ≤ (j : Int) := by omega
              have u1 : (j : Int) < (lk.length : Int) := hjl
              simp only [execOp, e0, e1]; go_simp
            refine ops_cons (gd rfl <| tx_pure rfl rfl (fun _ _ h => h) Gr.refl (fun ix ρ W hat hW => ?_)) ?_
            · have e0 : ρ (.tmp 94) = _ := hat.dep 94 (by kernel_rfl)
              have c0 : W.cell? ⟨bk', ok' + j * 7, none⟩ = some (.int .i64 i0) := (hW.cell (p := ⟨bk', ok' + j * 7, none⟩) hbk').trans cr0
              have c1 : W.cell? ⟨bk', ok' + j * 7 + 1, none⟩ = some (.int .i64 i1) := (hW.cell (p := ⟨bk', ok' + j * 7 + 1, none⟩) hbk').trans cr1
              have c2 : W.cell? ⟨bk', ok' + j * 7 + 2, none⟩ = some (.int .i64 i2) := (hW.cell (p := ⟨bk', ok' + j * 7 + 2, none⟩) hbk').trans cr2
              have c3 : W.cell? ⟨bk', ok' + j * 7 + 3, none⟩ = some (.int .i64 i3) := (hW.cell (p := ⟨bk', ok' + j * 7 + 3, none⟩) hbk').trans cr3
              have c4 : W.cell? ⟨bk', ok' + j * 7 + 4, none⟩ = some (.bool i4) := (hW.cell (p := ⟨bk', ok' + j * 7 + 4, none⟩) hbk').trans cr4
              have c5 : W.cell? ⟨bk', ok' + j * 7 + 5, none⟩ = some (.slice d'.p d'.l.length d'.c) := (hW.cell (p := ⟨bk', ok' + j * 7 + 5, none⟩) hbk').trans cr5
              have c6 : W.cell? ⟨bk', ok' + j * 7 + 6, none⟩ = some (.slice e'.p e'.l.length e'.c) := (hW.cell (p := ⟨bk', ok' + j * 7 + 6, none⟩) hbk').trans cr6
              simp only [execOp, e0]; go_simp
            refine ops_cons (gd rfl <| tx_call rfl (fun ix ρ W _ hat hW => ?_)) ?_
            · have hf := hat.fn
              have e0 : ρ (.tmp 87) = _ := hat.dep 87 (by kernel_rfl)
              have e1 : ρ (.tmp 95) = _ := hat.dep 95 (by kernel_rfl)
              refine ⟨41, #[.agg #[.int .i64 i0, .int .i64 i1, .int .i64 i2, .int .i64 i3, .bool i4, .slice d.p d.l.length d.c, .slice e.p e.l.length e.c], .agg #[.int .i64 i0, .int .i64 i1, .int .i64 i2, .int .i64 i3, .bool i4, .slice d'.p d'.l.length d'.c, .slice e'.p e'.l.length e'.c]], by simp only [execOp]; go_simp, ?_⟩
              refine (HCR.out W hW).mono ?_
              rintro e W' ⟨rfl, hb⟩
              exact ⟨_, rfl, hW.trans (hb.mono hW.size), hb, rfl⟩
            refine ops_cons (gd rfl <| tx_pure rfl rfl (fun _ _ h => h) Gr.refl (fun ix ρ W hat hW => ?_)) ?_
            · have e0 : ρ (.tmp 96) = _ := hat.dep 96 (by kernel_rfl)
              simp only [execOp, e0]; go_simp
            exact ops_nil
          intro f w9 hb hf
          have ee97 : f 97 = .bool false := hf 97 (by simp)
          clear hf
          simp only [fill, ee97]
          go_simp
          clear ee97
          have HB9 := Hid.intro (HB3.out.trans (hb.mono HB3.out.size))
          clear hb
          go_wp2
          go_roundw
          case rel => exact ⟨j + 1, by omega, by go_num, by first | exact HB9.out | exact HB9.out.drew⟩
          case measure => simp [intOf]; omega

end Go.Proofs.Ytlifkfemdknndaa
