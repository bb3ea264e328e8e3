/-
  Proved: of all who ask on a bus just one is left. At every code (a row of bytes of any length) the law answers true and leaves its argument as it was. No condition.
-/
import Derived.Test.YtlifkfemdknndaaCrBus
import Derived.Test.YtlifkfemdknndaaApI
import Derived.Test.YtlifkfemdknndaaBalKM
import Derived.Test.YtlifkfemdknndaaRows
import Derived.Test.YtlifkfemdknndaaLawB
import Derived.Test.YtlifkfemdknndaaImplUM
/-
  The law FnBusAlone, walked.
-/
namespace Go.Proofs.Ytlifkfemdknndaa
open Go.RowKit
set_option linter.unusedSimpArgs false
set_option linter.unusedVariables false

theorem crOkA_any (w : World) : Calls Try.prog 10 #[] w fun e w' => e = .returned (.bool true) ∧ w' = w := by
  go_enter Try.func10, Try.ntmps10
  go_wp2
  go_ret
  exact ⟨rfl, rfl⟩

theorem yBusCfg_blk : KBlk yBusCfg := yBusCfg_law.blk

theorem crBus_k (c c' : ((Lst (Int × Int × Int × Bool)) × (Lst Int) × (Lst (Lst (Int × Int × Int × Int × Bool × (Lst Int) × (Lst Int)))))) (w : World) (h : yBusCfg.rd w c) (h' : yBusCfg.rd w c') (he : yBusCfg.pl c = yBusCfg.pl c') :
    Calls Try.prog 13 #[yBusCfg.val c, yBusCfg.val c'] w fun e w' => e = .returned (.bool true) ∧ Below w.heap.size w w' := by
  obtain ⟨m, la, ps⟩ := c
  obtain ⟨m', la', ps'⟩ := c'
  exact crBus_eq m m' la la' ps ps' w h h' he

/-- a bus on which one asks alone is one -/
theorem alone_ok {z : ((List (Int × Int × Int × Bool)) × (List Int) × (List (List (Int × Int × Int × Int × Bool × (List Int) × (List Int)))))} {n : Nat} (h : busOkP z = true) : busOkP (aloneB z n) = true := by
  unfold busOkP at h ⊢
  simp only [Bool.and_eq_true, decide_eq_true_eq] at h ⊢
  refine ⟨h.1, h.2.1, h.2.2.1, rfl, ?_⟩
  have h5 := h.2.2.2.2
  unfold progsB at h5 ⊢
  rw [List.all_eq_true] at h5 ⊢
  have key : ∀ k : Nat, (decide ((if k = n then z.2.2.getD n [] else []).length ≤ 12) && progOkB ((if k = n then z.2.2.getD n [] else []).map reqOf)) = true := by
    intro k
    by_cases e : k = n
    · rw [if_pos e]
      by_cases hl : n < z.2.2.length
      · have e2 : z.2.2.getD n [] = z.2.2[n] := by simp [hl]
        rw [e2]; exact h5 _ (List.getElem_mem hl)
      · have e2 : z.2.2.getD n [] = [] := by simp [List.getD, List.getElem?_eq_none (Nat.le_of_not_lt hl)]
        rw [e2]; rfl
    · rw [if_neg e]; rfl
  intro x hx
  have hx : x ∈ [0, 1, 2].map (fun k => if k = n then z.2.2.getD n [] else []) := hx
  obtain ⟨k, _, rfl⟩ := List.mem_map.1 hx
  exact key k
/-- and once more it is the same -/
theorem alone_twice (z : ((List (Int × Int × Int × Bool)) × (List Int) × (List (List (Int × Int × Int × Int × Bool × (List Int) × (List Int)))))) {n : Nat} (hn : n < 3) : aloneB (aloneB z n) n = aloneB z n := by
  have e : (aloneB z n).2.2.getD n [] = z.2.2.getD n [] := by
    rcases (show n = 0 ∨ n = 1 ∨ n = 2 by omega) with rfl | rfl | rfl <;> rfl
  show (z.1, z.2.1, [0, 1, 2].map (fun k => if k = n then (aloneB z n).2.2.getD n [] else [])) = _
  rw [e]; rfl
/-- it is apart -/
theorem alone_apart (z : ((List (Int × Int × Int × Bool)) × (List Int) × (List (List (Int × Int × Int × Int × Bool × (List Int) × (List Int)))))) {n : Nat} (hn : n < 3) : apartB (aloneB z n) n = true := by
  unfold apartB
  rw [List.all_eq_true]
  intro k hk
  unfold apartK
  by_cases e : k = n
  · subst e; simp
  · have hs : slvs (aloneB z n) k = [] := by
      have h1 : (aloneB z n).2.2.getD k [] = [] := by
        simp only [List.mem_cons, List.not_mem_nil, or_false] at hk
        rcases hk with rfl | rfl | rfl <;> rcases (show n = 0 ∨ n = 1 ∨ n = 2 by omega) with rfl | rfl | rfl <;> first | rfl | exact absurd rfl e
      unfold slvs; rw [h1]; rfl
    rw [hs]; simp
/-- how much each asks -/
theorem alone_len {px ps : Lst (Lst QT')} {n : Nat} (h : px.l.map yReqReqS.pl = [0, 1, 2].map (fun k => if k = n then (ps.l.map yReqReqS.pl).getD n [] else [])) {k : Nat} (hk : k < 3) (h1 : k < px.l.length) (h2 : k < ps.l.length) : px.l[k].l.length = if k = n then ps.l[k].l.length else 0 := by
  have e : (px.l.map yReqReqS.pl)[k]? = ([0, 1, 2].map (fun k => if k = n then (ps.l.map yReqReqS.pl).getD n [] else []))[k]? := by rw [h]
  have e1 : (px.l.map yReqReqS.pl)[k]? = some (px.l[k].l.map yReqReq.pl) := by
    rw [List.getElem?_map, List.getElem?_eq_getElem h1]; rfl
  have e2 : ([0, 1, 2].map (fun k => if k = n then (ps.l.map yReqReqS.pl).getD n [] else []))[k]? = some (if k = n then (ps.l.map yReqReqS.pl).getD n [] else []) := by
    rcases (show k = 0 ∨ k = 1 ∨ k = 2 by omega) with rfl | rfl | rfl <;> rfl
  rw [e1, e2] at e
  have e := Option.some.inj e
  have e3 : (px.l[k].l.map yReqReq.pl).length = (if k = n then (ps.l.map yReqReqS.pl).getD n [] else []).length := by rw [e]
  rw [List.length_map] at e3
  rw [e3]
  by_cases hkn : k = n
  · subst hkn
    rw [if_pos rfl, if_pos rfl]
    have e4 : (ps.l.map yReqReqS.pl).getD k [] = ps.l[k].l.map yReqReq.pl := by
      rw [List.getD_eq_getElem?_getD, List.getElem?_map, List.getElem?_eq_getElem h2]; rfl
    rw [e4, List.length_map]
  · rw [if_neg hkn, if_neg hkn]; rfl

set_option maxRecDepth 100000 in
set_option maxHeartbeats 8000000 in
theorem walkC_FnBusAlone (hI : ReqOkC) (a : Option Addr) (len cap : Nat) (w : World) (hc : len ≤ cap) (hm : cap ≤ 9223372036854775807) (hb : Bytes w w.heap.size a len) :
    Calls Try.prog 4 #[.slice a len cap] w fun e w' => e = .returned (.bool true) ∧ Below w.heap.size w w' := by
  have HI := Hid.intro hI
  clear hI
  by_cases hl : 1048576 < len
  · have hI1 : (1048576 : Int) < (len : Int) := by omega
    go_enter Try.func4, Try.ntmps4
    go_wp2
    go_ret
    exact ⟨rfl, Below.refl _ _⟩
  have hI1 : ¬ ((1048576 : Int) < (len : Int)) := by omega
  have HD := Hid.intro (drawBusAlone_any a len cap w hc hm hb)
  clear hb
  go_enter Try.func4, Try.ntmps4
  go_wp2_with fail
  refine HD.out.mono ?_
  rintro e w1 ⟨m, la, ps, who, rfl, hw0, hw3, hrd, hsz, hbel⟩
  rw [yBusCfg_val]
  clear HD
  have hsz : yBusCfg.size (m, la, ps) ≤ 1048576 := Nat.le_trans hsz.size (by omega)
  have HW := Hid.intro (And.intro hw0 hw3)
  obtain ⟨C, hCe⟩ : ∃ C, C = w1.heap.size := ⟨_, rfl⟩
  obtain ⟨w2, hw2⟩ : ∃ w2, w2 = w1.alloc (.cells #[.slice m.p m.l.length m.c, .slice la.p la.l.length la.c, .slice ps.p ps.l.length ps.c] 27) := ⟨_, rfl⟩
  have hg2 := below_nw w1 (.cells #[.slice m.p m.l.length m.c, .slice la.p la.l.length la.c, .slice ps.p ps.l.length ps.c] 27)
  have hC2 : w2.heap[C]? = some (.cells #[.slice m.p m.l.length m.c, .slice la.p la.l.length la.c, .slice ps.p ps.l.length ps.c] 27 (0, 0)) := by rw [hw2, hCe]; exact nw_k _ rfl
  rw [← hw2] at hg2
  obtain ⟨z, hz⟩ : ∃ z, z = yBusCfg.pl (m, la, ps) := ⟨_, rfl⟩
  obtain ⟨zz, hzz⟩ : ∃ zz, zz = busAloneP z who := ⟨_, rfl⟩
  have HRD : Hid (∀ W, Below w2.heap.size w2 W → yBusCfg.rd W (m, la, ps) ∧ W.heap[C]? = some (.cells #[.slice m.p m.l.length m.c, .slice la.p la.l.length la.c, .slice ps.p ps.l.length ps.c] 27 (0, 0)) ∧ Below w.heap.size w W) := Hid.intro (fun W hW => ⟨yBusCfg_law.rd_blw (yBusCfg_law.rd_blw hrd hg2) hW, (hW.block C (heap_lt hC2)).trans hC2, (hbel.trans (hg2.mono hbel.size)).trans (hW.mono (Nat.le_trans hbel.size hg2.size))⟩)
  have HAI : Hid (Calls Try.prog 12 #[.agg #[.slice m.p m.l.length m.c, .slice la.p la.l.length la.c, .slice ps.p ps.l.length ps.c], .int .i64 who] w2 fun e w' => ∃ a', e = .returned (yBusCfg.val a') ∧ yBusCfg.pl a' = zz ∧ yBusCfg.size a' ≤ 1048576 ∧ yBusCfg.rd w' a' ∧ Below w2.heap.size w2 w') := Hid.intro (by
    rw [hzz, hz]
    refine (impl_BusAlone HI.out (m, la, ps) who w2 (HRD.out w2 (Below.refl _ _)).1 hsz).mono ?_
    rintro e w' ⟨a', h1, h2, h3, h4, h5⟩
    exact ⟨a', h1, h2, h3, yBusCfg_law.ow_rd h4.ow, h5⟩)
  have HAS0 : Hid (∀ W, Below w2.heap.size w2 W → Calls Try.prog 14 #[.agg #[.slice m.p m.l.length m.c, .slice la.p la.l.length la.c, .slice ps.p ps.l.length ps.c], .int .i64 who] W fun e w' => (∃ v, e = .returned v ∧ kOw yBusCfg zz w' v) ∧ Below W.heap.size W w') := Hid.intro (fun W hW => by rw [hzz, hz]; exact spec_BusAloneK (m, la, ps) who W (HRD.out W hW).1 hsz)
  have HBS : Hid (∀ W, Below w2.heap.size w2 W → Calls Try.prog 9 #[.agg #[.slice m.p m.l.length m.c, .slice la.p la.l.length la.c, .slice ps.p ps.l.length ps.c]] W fun e w' => e = .returned (.bool (busOkP z)) ∧ Below W.heap.size W w') := Hid.intro (fun W hW => by rw [hz]; exact spec_BusOk (m, la, ps) W (HRD.out W hW).1)
  have HZ := Hid.intro hz
  have HZZ := Hid.intro hzz
  have c0 : w2.cell? ⟨C, 0, none⟩ = some (.slice m.p m.l.length m.c) := heap_cell hC2 0
  have c1 : w2.cell? ⟨C, 1, none⟩ = some (.slice la.p la.l.length la.c) := heap_cell hC2 1
  have c2 : w2.cell? ⟨C, 2, none⟩ = some (.slice ps.p ps.l.length ps.c) := heap_cell hC2 2
  clear hrd hbel hg2 hz hzz hsz hw0 hw3 c0 c1 c2
  go_wp2_with fail
  rw [← hw2, ← hCe]
  clear hw2 hCe hC2
  refine HAI.out.mono ?_
  rintro e w3 ⟨x, rfl, hxp, hxs, hxr, hb3⟩
  obtain ⟨mx, lx, px⟩ := x
  rw [yBusCfg_val]
  clear HAI
  obtain ⟨X, hXe⟩ : ∃ X, X = w3.heap.size := ⟨_, rfl⟩
  obtain ⟨w4, hw4⟩ : ∃ w4, w4 = w3.alloc (.cells #[.slice mx.p mx.l.length mx.c, .slice lx.p lx.l.length lx.c, .slice px.p px.l.length px.c] 27) := ⟨_, rfl⟩
  have hg4 := below_nw w3 (.cells #[.slice mx.p mx.l.length mx.c, .slice lx.p lx.l.length lx.c, .slice px.p px.l.length px.c] 27)
  have hX4 : w4.heap[X]? = some (.cells #[.slice mx.p mx.l.length mx.c, .slice lx.p lx.l.length lx.c, .slice px.p px.l.length px.c] 27 (0, 0)) := by rw [hw4, hXe]; exact nw_k _ rfl
  rw [← hw4] at hg4
  have hb4 : Below w2.heap.size w2 w4 := hb3.trans (hg4.mono hb3.size)
  have HXR : Hid (∀ W, Below w4.heap.size w4 W → yBusCfg.rd W (mx, lx, px) ∧ W.heap[X]? = some (.cells #[.slice mx.p mx.l.length mx.c, .slice lx.p lx.l.length lx.c, .slice px.p px.l.length px.c] 27 (0, 0))) := Hid.intro (fun W hW => ⟨yBusCfg_law.rd_blw (yBusCfg_law.rd_blw hxr hg4) hW, (hW.block X (heap_lt hX4)).trans hX4⟩)
  have HB4 : Hid (∀ W, Below w4.heap.size w4 W → Below w2.heap.size w2 W) := Hid.intro (fun W hW => hb4.trans (hW.mono hb4.size))
  have HXP := Hid.intro hxp
  have HXS := Hid.intro hxs
  have HAS : Hid (∀ W, Below w4.heap.size w4 W → Calls Try.prog 14 #[.agg #[.slice m.p m.l.length m.c, .slice la.p la.l.length la.c, .slice ps.p ps.l.length ps.c], .int .i64 who] W fun e w' => (∃ v, e = .returned v ∧ kOw yBusCfg zz w' v) ∧ Below W.heap.size W w') := Hid.intro (fun W hW => HAS0.out W (HB4.out W hW))
  have HCB : Hid (∀ W v, Below w4.heap.size w4 W → kOw yBusCfg zz W v → Calls Try.prog 13 #[.agg #[.slice mx.p mx.l.length mx.c, .slice lx.p lx.l.length lx.c, .slice px.p px.l.length px.c], v] W fun e w' => e = .returned (.bool true) ∧ Below W.heap.size W w') := Hid.intro (by
    rintro W v hW ⟨a', rfl, h1, h2⟩
    exact crBus_k (mx, lx, px) a' W (HXR.out W hW).1 (yBusCfg_law.ow_rd h2) (HXP.out.trans h1.symm))
  have HC4 := Hid.intro (HRD.out w4 hb4).2.1
  have cC0 : w4.cell? ⟨C, 0, none⟩ = some (.slice m.p m.l.length m.c) := heap_cell (HC4.out) 0
  have cC1 : w4.cell? ⟨C, 1, none⟩ = some (.slice la.p la.l.length la.c) := heap_cell (HC4.out) 1
  have cC2 : w4.cell? ⟨C, 2, none⟩ = some (.slice ps.p ps.l.length ps.c) := heap_cell (HC4.out) 2
  have hlC := heap_lt (HC4.out)
  have cX0 : w4.cell? ⟨X, 0, none⟩ = some (.slice mx.p mx.l.length mx.c) := heap_cell (hX4) 0
  have cX1 : w4.cell? ⟨X, 1, none⟩ = some (.slice lx.p lx.l.length lx.c) := heap_cell (hX4) 1
  have cX2 : w4.cell? ⟨X, 2, none⟩ = some (.slice px.p px.l.length px.c) := heap_cell (hX4) 2
  have hlX := heap_lt (hX4)
  clear hxp hxs hxr hb3 hg4 hX4 HAS0 hb4 HC4
  go_wp2_with fail
  rw [← hw4, ← hXe]
  clear hw4 hXe
  go_wp2_with fail
  refine wp_region_typed (by kernel_rfl) Gr (fun _ W => Below w4.heap.size w4 W)
    (tab [(19, kIs (.agg #[.slice mx.p mx.l.length mx.c, .slice lx.p lx.l.length lx.c, .slice px.p px.l.length px.c])), (20, kIs (.agg #[.slice m.p m.l.length m.c, .slice la.p la.l.length la.c, .slice ps.p ps.l.length ps.c])), (21, kIs (.int .i64 who)), (22, (kOw yBusCfg zz)), (23, kIs (.bool true)), (24, kIs (.bool false))])
    [19, 20, 21, 22, 23, 24] (by kernel_rfl) (by kernel_rfl) ?_ ?_ ?_ ?_
  · refine tabR_stable ?_
    intro x hx
    simp only [List.mem_cons, List.not_mem_nil, or_false] at hx
    rcases hx with rfl | rfl | rfl | rfl | rfl | rfl
    all_goals intro w w' v hr hv
    all_goals first | exact hv | exact kOw_gr yBusCfg_blk _ _ _ hr hv
  · exact (Below.refl _ _).drew
  · refine ops_cons (gd rfl <| tx_pure rfl rfl (fun _ _ h => h) Gr.refl (fun ix ρ W hat hW => ?_)) ?_
    · have e0 := hat.out 5 (by kernel_rfl)
      simp [Act.eval] at e0
      have c0 : W.cell? ⟨X, 0, none⟩ = some (.slice mx.p mx.l.length mx.c) := (hW.cell (p := ⟨X, 0, none⟩) hlX).trans cX0
      have c1 : W.cell? ⟨X, 1, none⟩ = some (.slice lx.p lx.l.length lx.c) := (hW.cell (p := ⟨X, 1, none⟩) hlX).trans cX1
      have c2 : W.cell? ⟨X, 2, none⟩ = some (.slice px.p px.l.length px.c) := (hW.cell (p := ⟨X, 2, none⟩) hlX).trans cX2
      simp only [execOp, e0]; go_simp
    refine ops_cons (gd rfl <| tx_pure rfl rfl (fun _ _ h => h) Gr.refl (fun ix ρ W hat hW => ?_)) ?_
    · have e0 := hat.out 3 (by kernel_rfl)
      simp [Act.eval] at e0
      have c0 : W.cell? ⟨C, 0, none⟩ = some (.slice m.p m.l.length m.c) := (hW.cell (p := ⟨C, 0, none⟩) hlC).trans cC0
      have c1 : W.cell? ⟨C, 1, none⟩ = some (.slice la.p la.l.length la.c) := (hW.cell (p := ⟨C, 1, none⟩) hlC).trans cC1
      have c2 : W.cell? ⟨C, 2, none⟩ = some (.slice ps.p ps.l.length ps.c) := (hW.cell (p := ⟨C, 2, none⟩) hlC).trans cC2
      simp only [execOp, e0]; go_simp
    refine ops_cons (gd rfl <| tx_pure rfl rfl (fun _ _ h => h) Gr.refl (fun ix ρ W hat hW => ?_)) ?_
    · have e0 := hat.out 4 (by kernel_rfl)
      simp [Act.eval] at e0
      simp only [execOp, e0]; go_simp
    refine ops_cons (gd rfl <| tx_call rfl (fun ix ρ W _ hat hW => ?_)) ?_
    · have hf := hat.fn
      have e0 : ρ (.tmp 20) = _ := hat.dep 20 (by kernel_rfl)
      have e1 : ρ (.tmp 21) = _ := hat.dep 21 (by kernel_rfl)
      refine ⟨14, #[.agg #[.slice m.p m.l.length m.c, .slice la.p la.l.length la.c, .slice ps.p ps.l.length ps.c], .int .i64 who], by simp only [execOp]; go_simp, ?_⟩
      refine (HAS.out W hW).mono ?_
      rintro e W' ⟨⟨v, rfl, hv⟩, hb⟩
      exact ⟨_, rfl, hW.trans (hb.mono hW.size), hb, hv⟩
    refine ops_cons (gd rfl <| tx_call rfl (fun ix ρ W _ hat hW => ?_)) ?_
    · have hf := hat.fn
      have e0 : ρ (.tmp 19) = _ := hat.dep 19 (by kernel_rfl)
      have q1 : (kOw yBusCfg zz) W (ρ (.tmp 22)) := hat.dep 22 (by kernel_rfl)
      obtain ⟨u1, e1⟩ : ∃ v, ρ (.tmp 22) = v := ⟨_, rfl⟩
      rw [e1] at q1
      have QH1 := Hid.intro q1
      clear q1
      refine ⟨13, #[.agg #[.slice mx.p mx.l.length mx.c, .slice lx.p lx.l.length lx.c, .slice px.p px.l.length px.c], u1], by simp only [execOp]; go_simp, ?_⟩
      refine (HCB.out W _ hW QH1.out).mono ?_
      rintro e W' ⟨rfl, hb⟩
      exact ⟨_, rfl, hW.trans (hb.mono hW.size), hb, rfl⟩
    refine ops_cons (gd rfl <| tx_pure rfl rfl (fun _ _ h => h) Gr.refl (fun ix ρ W hat hW => ?_)) ?_
    · have e0 : ρ (.tmp 23) = _ := hat.dep 23 (by kernel_rfl)
      simp only [execOp, e0]; go_simp
    exact ops_nil
  intro f w5 hb hf
  have ee24 : f 24 = .bool false := hf 24 (by simp)
  clear hf
  simp only [fill, ee24]
  go_simp
  clear ee24
  have HB5 := Hid.intro (HB4.out _ hb)
  have hb5 := hb
  have d0 : w5.cell? ⟨C, 0, none⟩ = _ := (hb5.cell (p := ⟨C, 0, none⟩) hlC).trans cC0
  have d1 : w5.cell? ⟨C, 1, none⟩ = _ := (hb5.cell (p := ⟨C, 1, none⟩) hlC).trans cC1
  have d2 : w5.cell? ⟨C, 2, none⟩ = _ := (hb5.cell (p := ⟨C, 2, none⟩) hlC).trans cC2
  have HH5 := Hid.intro hb5
  clear hb hb5 HAS HCB cX0 cX1 cX2 hlX hlC
  go_wp2_with fail
  refine (HBS.out _ HB5.out).mono ?_
  rintro e w6 ⟨rfl, hb6⟩
  have hb46 := HH5.out.trans (hb6.mono HH5.out.size)
  have HXW : Hid (∀ W, Below w6.heap.size w6 W → yBusCfg.rd W (mx, lx, px) ∧ W.heap[X]? = some (.cells #[.slice mx.p mx.l.length mx.c, .slice lx.p lx.l.length lx.c, .slice px.p px.l.length px.c] 27 (0, 0)) ∧ yBusCfg.rd W (m, la, ps) ∧ W.heap[C]? = some (.cells #[.slice m.p m.l.length m.c, .slice la.p la.l.length la.c, .slice ps.p ps.l.length ps.c] 27 (0, 0)) ∧ Below w.heap.size w W) := Hid.intro (fun W hW => by
    have h4 := hb46.trans (hW.mono hb46.size)
    obtain ⟨h1, h2⟩ := HXR.out W h4
    obtain ⟨h5, h6, h7⟩ := HRD.out W (HB4.out W h4)
    exact ⟨h1, h2, h5, h6, h7⟩)
  clear hb6 hb46 HXR HRD HB4 HH5 HB5 HBS cC0 cC1 cC2
  by_cases hok : ¬ (busOkP z = true ∧ 0 ≤ who ∧ who ≤ 2)
  · have hz0 : zz = ([], [], []) := by
      rw [HZZ.out]; unfold busAloneP
      rw [if_neg (by simpa [inB] using hok)]
    have hp0 : px.l.length = 0 := by
      have h1 : (yBusCfg.pl (mx, lx, px)).2.2.length = 0 := by rw [HXP.out, hz0]; rfl
      have h2 : (yBusCfg.pl (mx, lx, px)).2.2.length = px.l.length := List.length_map ..
      omega
    have cX2 : w6.cell? ⟨X, 2, none⟩ = some (.slice px.p 0 px.c) := by rw [← hp0]; exact heap_cell (HXW.out w6 (Below.refl _ _)).2.1 2
    have hend := (HXW.out w6 (Below.refl _ _)).2.2.2.2
    have hww := HW.out
    cases hbz : busOkP z
    · clear HXW HXP HXS HZ HZZ hok hz0
      go_wp2_with (go_at_call 10; refine (crOkA_any _).mono ?_; rintro e w' ⟨rfl, hw⟩; replace hw := hw.symm; subst hw)
      go_ret
      exact ⟨rfl, hend⟩
    rcases (show who = -1 ∨ who = 3 by have h9 := hww.1; have h8 := hww.2; rcases Classical.em (0 ≤ who ∧ who ≤ 2) with h | h; exact absurd ⟨hbz, h⟩ hok; omega) with h | h
    all_goals
      subst h
      clear HXW HXP HXS HZ HZZ hok hz0 hww HW
      go_wp2_with (go_at_call 10; refine (crOkA_any _).mono ?_; rintro e w' ⟨rfl, hw⟩; replace hw := hw.symm; subst hw)
      go_ret
      exact ⟨rfl, hend⟩
  have hok : busOkP z = true ∧ 0 ≤ who ∧ who ≤ 2 := Classical.not_not.1 hok
  obtain ⟨hbz, hw0, hw2⟩ := hok
  rw [hbz]
  obtain ⟨n, hn⟩ : ∃ n : Nat, n = who.toNat := ⟨_, rfl⟩
  have hnw : who = (n : Int) := by omega
  have hn3 : n < 3 := by omega
  have hza : zz = aloneB z n := by
    rw [HZZ.out, hn]; unfold busAloneP
    rw [if_pos (by simp [inB, hbz]; omega)]
  have HZA := Hid.intro hza
  have HBZ := Hid.intro hbz
  have hpm : px.l.map yReqReqS.pl = [0, 1, 2].map (fun k => if k = n then (ps.l.map yReqReqS.pl).getD n [] else []) := by
    have h1 : (yBusCfg.pl (mx, lx, px)).2.2 = (aloneB (yBusCfg.pl (m, la, ps)) n).2.2 := by rw [HXP.out, hza, HZ.out]
    exact h1
  have hp3 : px.l.length = 3 := by
    have h1 : (px.l.map yReqReqS.pl).length = 3 := by rw [hpm]; rfl
    rw [List.length_map] at h1; exact h1
  have hs3 : ps.l.length = 3 := busOk_three (m := m) (la := la) (by rw [← HZ.out]; exact hbz)
  have HP3 := Hid.intro (And.intro hp3 (And.intro hs3 hpm))
  have hw0' : ¬ (who < 0) := by omega
  have hw3' : ¬ (3 ≤ who) := by omega
  have HWN := Hid.intro (And.intro hn3 hnw)
  clear hza hpm hp3 hs3 hn hnw hbz hn3
  go_wp2
  go_loopw [6] (fun i wr => ∃ k : Nat, k ≤ 3 ∧ i = .int .i64 k ∧ Below w6.heap.size w6 wr) (fun i _ => 3 - (intOf i).toNat)
  case atStart => exact ⟨0, Nat.zero_le _, rfl, Below.refl _ _⟩
  case round =>
    obtain ⟨k, hk, rfl, hbl⟩ := hrel
    obtain ⟨hx1, hx2, hx3, hx4, hx5⟩ := HXW.out wr hbl
    have cX0 : wr.cell? ⟨X, 0, none⟩ = some (.slice mx.p mx.l.length mx.c) := heap_cell hx2 0
    have cX1 : wr.cell? ⟨X, 1, none⟩ = some (.slice lx.p lx.l.length lx.c) := heap_cell hx2 1
    have cX2 : wr.cell? ⟨X, 2, none⟩ = some (.slice px.p px.l.length px.c) := heap_cell hx2 2
    have cC2 : wr.cell? ⟨C, 2, none⟩ = some (.slice ps.p ps.l.length ps.c) := heap_cell hx4 2
    have hlX := heap_lt hx2
    by_cases hlt : k < 3
    · have hkl : (k : Int) < 3 := by omega
      have hk0 : (0 : Int) ≤ (k : Int) := by omega
      obtain ⟨hp3, hs3, hpm⟩ := HP3.out
      obtain ⟨hn3, hnw⟩ := HWN.out
      have hkx : k < px.l.length := by omega
      have hks : k < ps.l.length := by omega
      have hkxI : (k : Int) < (px.l.length : Int) := by omega
      have hksI : (k : Int) < (ps.l.length : Int) := by omega
      obtain ⟨bx, ox, hpx, hbx, cxk, _⟩ := progs_at hx1.2.2 hkx
      obtain ⟨bs, os, hps, hbs, csk, _⟩ := progs_at hx3.2.2 hks
      rw [hpx] at cX2
      rw [hps] at cC2
      have hln := alone_len hpm hlt hkx hks
      have HBL := Hid.intro hbl
      by_cases hkn : k = n
      · rw [if_pos hkn] at hln
        rw [hln] at cxk
        generalize ps.l[k].l.length = L at cxk csk
        clear hx1 hx2 hx3 hx4 hx5 hpm hln hbl hp3 hs3
        subst hkn
        subst hnw
        go_wp2
        go_roundw
        case rel => exact ⟨k + 1, by omega, by go_num, HBL.out⟩
        case measure => simp [intOf]; omega
      · rw [if_neg hkn] at hln
        rw [hln] at cxk
        have hkw : ¬ ((k : Int) = who) := by omega
        clear hx1 hx2 hx3 hx4 hx5 hpm hln hnw hbl hp3 hs3 csk
        go_wp2
        go_roundw
        case rel => exact ⟨k + 1, by omega, by go_num, HBL.out⟩
        case measure => simp [intOf]; omega
    · have hkl : ¬ ((k : Int) < 3) := by omega
      have HWR : Hid (∀ W, Below wr.heap.size wr W → yBusCfg.rd W (mx, lx, px) ∧ Below w.heap.size w W) := Hid.intro (fun W hW => by
        obtain ⟨h1, _, _, _, h5⟩ := HXW.out W (hbl.trans (hW.mono hbl.size))
        exact ⟨h1, h5⟩)
      obtain ⟨hn3, hnw⟩ := HWN.out
      have hpx : yBusCfg.pl (mx, lx, px) = aloneB z n := by rw [HXP.out, HZA.out]
      have hin : inB who 0 2 = true := inB_t ⟨hw0, hw2⟩
      have hwn : who.toNat = n := by omega
      have HBX : Hid (∀ W, Below wr.heap.size wr W → Calls Try.prog 8 #[.agg #[.slice mx.p mx.l.length mx.c, .slice lx.p lx.l.length lx.c, .slice px.p px.l.length px.c]] W fun e w' => e = .returned (.bool true) ∧ Below W.heap.size W w') := Hid.intro (fun W hW => by
        have h9 := impl_BusOk HI.out (mx, lx, px) W (HWR.out W hW).1
        rw [hpx, alone_ok HBZ.out] at h9
        exact h9)
      have HBA : Hid (∀ W, Below wr.heap.size wr W → Calls Try.prog 12 #[.agg #[.slice mx.p mx.l.length mx.c, .slice lx.p lx.l.length lx.c, .slice px.p px.l.length px.c], .int .i64 who] W fun e w' => (∃ v, e = .returned v ∧ kOw yBusCfg zz w' v) ∧ Below W.heap.size W w') := Hid.intro (fun W hW => by
        refine (impl_BusAlone HI.out (mx, lx, px) who W (HWR.out W hW).1 HXS.out).mono ?_
        rintro e w' ⟨a', rfl, h2, h3, h4, h5⟩
        refine ⟨⟨_, rfl, a', rfl, ?_, h4.ow⟩, h5⟩
        rw [h2, hpx]; unfold busAloneP
        rw [if_pos (by rw [alone_ok HBZ.out, hin]; rfl), hwn, alone_twice z hn3, HZA.out])
      have HCX : Hid (∀ W v, Below wr.heap.size wr W → kOw yBusCfg zz W v → Calls Try.prog 13 #[v, .agg #[.slice mx.p mx.l.length mx.c, .slice lx.p lx.l.length lx.c, .slice px.p px.l.length px.c]] W fun e w' => e = .returned (.bool true) ∧ Below W.heap.size W w') := Hid.intro (by
        rintro W v hW ⟨a', rfl, h1, h2⟩
        exact crBus_k a' (mx, lx, px) W (yBusCfg_law.ow_rd h2) (HWR.out W hW).1 (h1.trans HXP.out.symm))
      have HAP : Hid (∀ W, Below wr.heap.size wr W → Calls Try.prog 15 #[.agg #[.slice mx.p mx.l.length mx.c, .slice lx.p lx.l.length lx.c, .slice px.p px.l.length px.c], .int .i64 who] W fun e w' => e = .returned (.bool true) ∧ Below W.heap.size W w') := Hid.intro (fun W hW => by
        have h9 := impl_BusApart HI.out impl_ReqSlave (mx, lx, px) who W (HWR.out W hW).1
        have e9 : busApartP (yBusCfg.pl (mx, lx, px)) who = true := by
          rw [hpx]; unfold busApartP
          rw [alone_ok HBZ.out, hin, hwn, alone_apart z hn3]; rfl
        rw [e9] at h9
        exact h9)
      clear hx1 hx2 hx3 hx4 hx5 cC2 hbl hpx hin hwn hnw hn3
      go_wp2_with fail
      refine wp_region_typed (by kernel_rfl) Gr (fun _ W => Below wr.heap.size wr W)
        (tab [(64, kIs (.agg #[.slice mx.p mx.l.length mx.c, .slice lx.p lx.l.length lx.c, .slice px.p px.l.length px.c])), (65, kIs (.bool true)), (66, kIs (.bool true)), (67, kIs (.agg #[.slice mx.p mx.l.length mx.c, .slice lx.p lx.l.length lx.c, .slice px.p px.l.length px.c])), (68, kIs (.int .i64 who)), (69, (kOw yBusCfg zz)), (70, kIs (.agg #[.slice mx.p mx.l.length mx.c, .slice lx.p lx.l.length lx.c, .slice px.p px.l.length px.c])), (71, kIs (.bool true)), (72, kIs (.bool true)), (73, kIs (.bool true)), (74, kIs (.agg #[.slice mx.p mx.l.length mx.c, .slice lx.p lx.l.length lx.c, .slice px.p px.l.length px.c])), (75, kIs (.int .i64 who)), (76, kIs (.bool true)), (77, kIs (.bool true)), (2, kIs (.bool true))])
        [64, 65, 66, 67, 68, 69, 70, 71, 72, 73, 74, 75, 76, 77, 2] (by kernel_rfl) (by kernel_rfl) ?_ ?_ ?_ ?_
      · refine tabR_stable ?_
        intro x hx
        simp only [List.mem_cons, List.not_mem_nil, or_false] at hx
        rcases hx with rfl | rfl | rfl | rfl | rfl | rfl | rfl | rfl | rfl | rfl | rfl | rfl | rfl | rfl | rfl
        all_goals intro w w' v hr hv
        all_goals first | exact hv | exact kOw_gr yBusCfg_blk _ _ _ hr hv
      · exact (Below.refl _ _).drew
      · refine ops_cons (gd rfl <| tx_pure rfl rfl (fun _ _ h => h) Gr.refl (fun ix ρ W hat hW => ?_)) ?_
        · have e0 := hat.out 5 (by kernel_rfl)
          simp [Act.eval] at e0
          have c0 : W.cell? ⟨X, 0, none⟩ = some (.slice mx.p mx.l.length mx.c) := (hW.cell (p := ⟨X, 0, none⟩) hlX).trans cX0
          have c1 : W.cell? ⟨X, 1, none⟩ = some (.slice lx.p lx.l.length lx.c) := (hW.cell (p := ⟨X, 1, none⟩) hlX).trans cX1
          have c2 : W.cell? ⟨X, 2, none⟩ = some (.slice px.p px.l.length px.c) := (hW.cell (p := ⟨X, 2, none⟩) hlX).trans cX2
          simp only [execOp, e0]; go_simp
        refine ops_cons (gd rfl <| tx_call rfl (fun ix ρ W _ hat hW => ?_)) ?_
        · have hf := hat.fn
          have e0 : ρ (.tmp 64) = _ := hat.dep 64 (by kernel_rfl)
          refine ⟨8, #[.agg #[.slice mx.p mx.l.length mx.c, .slice lx.p lx.l.length lx.c, .slice px.p px.l.length px.c]], by simp only [execOp]; go_simp, ?_⟩
          refine (HBX.out W hW).mono ?_
          rintro e W' ⟨rfl, hb⟩
          exact ⟨_, rfl, hW.trans (hb.mono hW.size), hb, rfl⟩
        refine ops_cons (gd rfl <| tx_pure rfl rfl (fun _ _ h => h) Gr.refl (fun ix ρ W hat hW => ?_)) ?_
        · have e0 : ρ (.tmp 65) = _ := hat.dep 65 (by kernel_rfl)
          simp only [execOp, e0]; go_simp
        refine ops_cons (gdG 2 true rfl _ rfl 66 rfl rfl (by kernel_rfl) <| tx_pure rfl rfl (fun _ _ h => h) Gr.refl (fun ix ρ W hat hW => ?_)) ?_
        · have e0 := hat.out 5 (by kernel_rfl)
          simp [Act.eval] at e0
          have c0 : W.cell? ⟨X, 0, none⟩ = some (.slice mx.p mx.l.length mx.c) := (hW.cell (p := ⟨X, 0, none⟩) hlX).trans cX0
          have c1 : W.cell? ⟨X, 1, none⟩ = some (.slice lx.p lx.l.length lx.c) := (hW.cell (p := ⟨X, 1, none⟩) hlX).trans cX1
          have c2 : W.cell? ⟨X, 2, none⟩ = some (.slice px.p px.l.length px.c) := (hW.cell (p := ⟨X, 2, none⟩) hlX).trans cX2
          simp only [execOp, e0]; go_simp
        refine ops_cons (gdG 2 true rfl _ rfl 66 rfl rfl (by kernel_rfl) <| tx_pure rfl rfl (fun _ _ h => h) Gr.refl (fun ix ρ W hat hW => ?_)) ?_
        · have e0 := hat.out 4 (by kernel_rfl)
          simp [Act.eval] at e0
          simp only [execOp, e0]; go_simp
        refine ops_cons (gdG 2 true rfl _ rfl 66 rfl rfl (by kernel_rfl) <| tx_call rfl (fun ix ρ W _ hat hW => ?_)) ?_
        · have hf := hat.fn
          have e0 : ρ (.tmp 67) = _ := hat.dep 67 (by kernel_rfl)
          have e1 : ρ (.tmp 68) = _ := hat.dep 68 (by kernel_rfl)
          refine ⟨12, #[.agg #[.slice mx.p mx.l.length mx.c, .slice lx.p lx.l.length lx.c, .slice px.p px.l.length px.c], .int .i64 who], by simp only [execOp]; go_simp, ?_⟩
          refine (HBA.out W hW).mono ?_
          rintro e W' ⟨⟨v, rfl, hv⟩, hb⟩
          exact ⟨_, rfl, hW.trans (hb.mono hW.size), hb, hv⟩
        refine ops_cons (gdG 2 true rfl _ rfl 66 rfl rfl (by kernel_rfl) <| tx_pure rfl rfl (fun _ _ h => h) Gr.refl (fun ix ρ W hat hW => ?_)) ?_
        · have e0 := hat.out 5 (by kernel_rfl)
          simp [Act.eval] at e0
          have c0 : W.cell? ⟨X, 0, none⟩ = some (.slice mx.p mx.l.length mx.c) := (hW.cell (p := ⟨X, 0, none⟩) hlX).trans cX0
          have c1 : W.cell? ⟨X, 1, none⟩ = some (.slice lx.p lx.l.length lx.c) := (hW.cell (p := ⟨X, 1, none⟩) hlX).trans cX1
          have c2 : W.cell? ⟨X, 2, none⟩ = some (.slice px.p px.l.length px.c) := (hW.cell (p := ⟨X, 2, none⟩) hlX).trans cX2
          simp only [execOp, e0]; go_simp
        refine ops_cons (gdG 2 true rfl _ rfl 66 rfl rfl (by kernel_rfl) <| tx_call rfl (fun ix ρ W _ hat hW => ?_)) ?_
        · have hf := hat.fn
          have q0 : (kOw yBusCfg zz) W (ρ (.tmp 69)) := hat.dep 69 (by kernel_rfl)
          obtain ⟨u0, e0⟩ : ∃ v, ρ (.tmp 69) = v := ⟨_, rfl⟩
          rw [e0] at q0
          have QH0 := Hid.intro q0
          clear q0
          have e1 : ρ (.tmp 70) = _ := hat.dep 70 (by kernel_rfl)
          refine ⟨13, #[u0, .agg #[.slice mx.p mx.l.length mx.c, .slice lx.p lx.l.length lx.c, .slice px.p px.l.length px.c]], by simp only [execOp]; go_simp, ?_⟩
          refine (HCX.out W _ hW QH0.out).mono ?_
          rintro e W' ⟨rfl, hb⟩
          exact ⟨_, rfl, hW.trans (hb.mono hW.size), hb, rfl⟩
        refine ops_cons (gd rfl <| tx_pure rfl rfl (fun _ _ h => h) Gr.refl (fun ix ρ W hat hW => ?_)) ?_
        · have hc := hat.con
          have e0 : ρ (.tmp 66) = _ := hat.dep 66 (by kernel_rfl)
          have e1 : ρ (.tmp 71) = _ := hat.dep 71 (by kernel_rfl)
          simp only [execOp, e0, e1]; go_simp
        refine ops_cons (gd rfl <| tx_pure rfl rfl (fun _ _ h => h) Gr.refl (fun ix ρ W hat hW => ?_)) ?_
        · have e0 : ρ (.tmp 72) = _ := hat.dep 72 (by kernel_rfl)
          simp only [execOp, e0]; go_simp
        refine ops_cons (gdG 9 true rfl _ rfl 73 rfl rfl (by kernel_rfl) <| tx_pure rfl rfl (fun _ _ h => h) Gr.refl (fun ix ρ W hat hW => ?_)) ?_
        · have e0 := hat.out 5 (by kernel_rfl)
          simp [Act.eval] at e0
          have c0 : W.cell? ⟨X, 0, none⟩ = some (.slice mx.p mx.l.length mx.c) := (hW.cell (p := ⟨X, 0, none⟩) hlX).trans cX0
          have c1 : W.cell? ⟨X, 1, none⟩ = some (.slice lx.p lx.l.length lx.c) := (hW.cell (p := ⟨X, 1, none⟩) hlX).trans cX1
          have c2 : W.cell? ⟨X, 2, none⟩ = some (.slice px.p px.l.length px.c) := (hW.cell (p := ⟨X, 2, none⟩) hlX).trans cX2
          simp only [execOp, e0]; go_simp
        refine ops_cons (gdG 9 true rfl _ rfl 73 rfl rfl (by kernel_rfl) <| tx_pure rfl rfl (fun _ _ h => h) Gr.refl (fun ix ρ W hat hW => ?_)) ?_
        · have e0 := hat.out 4 (by kernel_rfl)
          simp [Act.eval] at e0
          simp only [execOp, e0]; go_simp
        refine ops_cons (gdG 9 true rfl _ rfl 73 rfl rfl (by kernel_rfl) <| tx_call rfl (fun ix ρ W _ hat hW => ?_)) ?_
        · have hf := hat.fn
          have e0 : ρ (.tmp 74) = _ := hat.dep 74 (by kernel_rfl)
          have e1 : ρ (.tmp 75) = _ := hat.dep 75 (by kernel_rfl)
          refine ⟨15, #[.agg #[.slice mx.p mx.l.length mx.c, .slice lx.p lx.l.length lx.c, .slice px.p px.l.length px.c], .int .i64 who], by simp only [execOp]; go_simp, ?_⟩
          refine (HAP.out W hW).mono ?_
          rintro e W' ⟨rfl, hb⟩
          exact ⟨_, rfl, hW.trans (hb.mono hW.size), hb, rfl⟩
        refine ops_cons (gd rfl <| tx_pure rfl rfl (fun _ _ h => h) Gr.refl (fun ix ρ W hat hW => ?_)) ?_
        · have hc := hat.con
          have e0 : ρ (.tmp 73) = _ := hat.dep 73 (by kernel_rfl)
          have e1 : ρ (.tmp 76) = _ := hat.dep 76 (by kernel_rfl)
          simp only [execOp, e0, e1]; go_simp
        refine ops_cons (gd rfl <| tx_pure rfl rfl (fun _ _ h => h) Gr.refl (fun ix ρ W hat hW => ?_)) ?_
        · have e0 : ρ (.tmp 77) = _ := hat.dep 77 (by kernel_rfl)
          simp only [execOp, e0]; go_simp
        exact ops_nil
      intro f w9 hb hf
      have ee2 : f 2 = .bool true := hf 2 (by simp)
      clear hf
      simp only [fill, ee2]
      go_simp
      clear ee2
      have hend := (HWR.out _ hb).2
      clear hb HBX HBA HCX HAP HWR
      go_wp2
      go_ret
      exact ⟨rfl, hend⟩

end Go.Proofs.Ytlifkfemdknndaa

/-
  Proved: the law FnBusAlone: of all who ask on a bus just one is left. At every code (a row of bytes of any length) the law answers true and leaves its argument as it was. No condition.
-/
namespace Go.Proofs.Ytlifkfemdknndaa.fnBusAlone
open Go.ChangeShapes Go.WideShapes Go.ChangeAt Go.RowKit
set_option linter.unusedVariables false
set_option linter.unusedSimpArgs false

set_option maxRecDepth 100000 in
theorem lifted (hI : ReqOkC) (os : Os) (started : os.Started) (H : Type) (enc : TypeId × Value → H) :
    ReturnsInHanded {} Try.checked os 4 .any (Rows.fnBusAloneSpec.pre6 enc Try.prog Try.f4 Rows.fnBusAloneRow.domain false) (Rows.fnBusAloneSpec.post enc Try.prog Try.f4 false true false false) := by
  refine returnsInHanded_of_change (C := Try.checked) ownB started (by kernel_rfl) Try.func4
    (ChangeSpec.witness6 (enc := enc) (C := Try.checked) false ⟨#[], #[.slice none 0 0], []⟩ 8 (by kernel_rfl) (by kernel_rfl) (by kernel_rfl) (by kernel_rfl)) ?_
  intro W base args ds gs before hval0 hW hcnd _
  have hval : ∀ (j : Nat) t v, Try.f4.params[j]? = some t → args[j]? = some v → Value.okWide Try.prog W .any base t v := hval0
  have hW' := hW
  obtain ⟨p, q, hA0, hV, rfl, hfz, hnd⟩ := hW
  have hA : DataW.TrodAll enc Try.prog W 0 (fun _ => true) true Try.f4.params.toList args.toList ds p := hA0
  rw [Try.params4] at hA hval
  obtain ⟨v0, vs0, d0, ds0, p0, q0, hargs, rfl, rfl, h0, r0⟩ := trodAll_cons hA
  obtain ⟨rfl, rfl, rfl⟩ := trodAll_nil r0
  obtain rfl : args = #[v0] := by cases args; simp_all
  obtain ⟨rfl, rfl⟩ := trodVars_none hV
  obtain ⟨a0, len0, cap0, rfl⟩ := okWide_slice Try.underlying22 (hval 0 22 v0 rfl rfl)
  have k0 := h0
  have lt0 : ∀ x ∈ p0, x.block < W.heap.size := by obtain ⟨m, hm⟩ := k0; exact DataW.trod_lt m _ _ _ hm
  obtain ⟨hx, hc, hm⟩ := open_bytes h0
  clear hA0 hval0
  refine (walkC_FnBusAlone hI a0 len0 cap0 W hc hm hx).mono fun e W' ⟨he, bel⟩ => ?_
  subst he
  exact ⟨_, rfl, _, _, _, [], _, [], hW', trodAll_mk1 (shut_bool Try.underlying4 _), (trodAll_cons_mk (Below.trod laidOutC (by kernel_rfl) (of_decide_eq_true (by kernel_rfl)) k0 bel lt0) trodAll_mk0), rfl, bel.frame _, fun h => by cases h⟩

theorem over (hI : ReqOkC) : Rows.fnBusAloneRow.holds Try.pinned (OpenSpec.ofChange Rows.fnBusAloneSpec) :=
  OpenClaim.holds_of_wide 4 Try.f4 rfl rfl rfl rfl rfl rfl rfl ⟨rfl, rfl, rfl, rfl, rfl⟩ rfl rfl rfl rfl rfl (by kernel_rfl) Try.func4 (by kernel_rfl)
    (of_decide_eq_true (by kernel_rfl)) (by unfold Func.isWrapper; first | (rw [if_pos (by decide +kernel)]; kernel_rfl) | (rw [if_neg (by decide +kernel)]; exact ⟨rfl, rfl⟩))
    (fun os started H enc _ => lifted hI os started H enc)

theorem proved_of (hI : ReqOkC) : Rows.FnBusAloneSaid := over hI
end Go.Proofs.Ytlifkfemdknndaa.fnBusAlone

namespace Go.Proofs.Ytlifkfemdknndaa.fnBusAlone

theorem proved : Rows.FnBusAloneSaid := proved_of impl_ReqOk
end Go.Proofs.Ytlifkfemdknndaa.fnBusAlone
