/-
  BusAlone of both sides, by kinds.
-/
import Derived.Test.YtlifkfemdknndaaBalIM
/-
  BusAlone of the model.
-/
namespace Go.Proofs.Ytlifkfemdknndaa
open Go.RowKit
set_option linter.unusedSimpArgs false
set_option linter.unusedVariables false

theorem wpList_copyE {ops : Array Oper} {rest : List Oper} {o : Oper} {a : Act} {Q : Exit → Act → World → Prop} {w : World} {S X : Operand} {p0 p : Option Addr} {c : Nat} (ys : List Int) (hg : o.guard = none)
    (ho : o.op = .call { callee := .builtin .append, args := #[S, X], argTypes := #[24, 24] })
    (hs : a.eval S = .slice p0 0 0) (hE : Empt w p0) (hx : a.eval X = .slice p ys.length c) (hY : IntsAt w p ys) (hlen : ys.length ≤ 2000000)
    (h : ∀ p' c' w', yI.ow w' ⟨p', c', ys⟩ → Gr w w' → wpList Try.prog ops Q rest (a.put o.dst (.slice p' ys.length c')) w') : wpList Try.prog ops Q (o :: rest) a w := by
  refine wpList_plain hg (fun K hK => ?_)
  obtain ⟨⟨p', c', l'⟩, w', r1, r2, r3, _, r5⟩ := run_copyI (ρ := a.eval) ho hs hE hx hY hlen
  simp only at r2
  subst r2
  unfold Oper.wp
  rw [r1]
  exact hK _ _ (h p' c' w' r3.ow r5)

theorem box_cells {w : World} {n j : Nat} {T : TypeId} {vs : List Value} {v : Value} (h : n = w.heap.size) (hv : vs[j]? = some v) : (w.alloc (.cells vs.toArray T)).cell? ⟨n, j, none⟩ = some v := by
  rw [heap_cell (nw_k _ h) j]; simpa using hv

def kEmpM : World → Value → Prop := fun w v => ∃ g, v = .slice (some ⟨g, 0, none⟩) 0 0 ∧ w.heap[g]? = some (.cells #[] 70 (0, 0))
theorem kEmpM_gr {w w' : World} {v : Value} (hg : Gr w w') (h : kEmpM w v) : kEmpM w' v := by obtain ⟨g, e, h1⟩ := h; exact ⟨g, e, hg.cells h1⟩
def kOwM (ys : List (Int × Int × Int × Bool)) : World → Value → Prop := fun w v => ∃ p c, v = .slice p ys.length c ∧ yMapRangeS.ow w ⟨p, c, ys⟩
theorem kOwM_gr {ys : List (Int × Int × Int × Bool)} {w w' : World} {v : Value} (hg : Gr w w') (h : kOwM ys w v) : kOwM ys w' v := by obtain ⟨p, c, e, h1⟩ := h; exact ⟨p, c, e, yMapRangeS_law.ow_blw h1 hg⟩
def kOwI (ys : List Int) : World → Value → Prop := fun w v => ∃ p c, v = .slice p ys.length c ∧ yI.ow w ⟨p, c, ys⟩
theorem kOwI_gr {ys : List Int} {w w' : World} {v : Value} (hg : Gr w w') (h : kOwI ys w v) : kOwI ys w' v := by obtain ⟨p, c, e, h1⟩ := h; exact ⟨p, c, e, yI_law.ow_blw h1 hg⟩
def kBalN (ms : List (Int × Int × Int × Bool)) (ls : List Int) : World → Value → Prop := fun w v => ∃ p c p' c', v = .agg #[.slice p ms.length c, .slice p' ls.length c', .slice none 0 0] ∧ yMapRangeS.ow w ⟨p, c, ms⟩ ∧ yI.ow w ⟨p', c', ls⟩
theorem kBalN_gr {ms : List (Int × Int × Int × Bool)} {ls : List Int} {w w' : World} {v : Value} (hg : Gr w w') (h : kBalN ms ls w v) : kBalN ms ls w' v := by obtain ⟨p, c, p', c', e, h1, h2⟩ := h; exact ⟨p, c, p', c', e, yMapRangeS_law.ow_blw h1 hg, yI_law.ow_blw h2 hg⟩
def kVX (M : Nat) : World → Value → Prop := fun w v => ∃ X, v = .pointer (some ⟨X, 0, none⟩) ∧ w.heap[X]? = some (.cells #[.slice none 0 0, .slice none 0 0, .slice none 0 0] 27 (0, 0)) ∧ M ≤ X
theorem kVX_gr {M : Nat} {w w' : World} {v : Value} (hg : Gr w w') (h : kVX M w v) : kVX M w' v := by obtain ⟨b, e, h1, h2⟩ := h; exact ⟨b, e, hg.cells h1, h2⟩

/-- a bus of the model in the making -/
structure AlS (ms : List (Int × Int × Int × Bool)) (ls : List Int) (z : ((List (Int × Int × Int × Bool)) × (List Int) × (List (List (Int × Int × Int × Int × Bool × (List Int) × (List Int)))))) (n : Nat) (cA : Array Value) (w wr : World) (X k : Nat) (pm : Option Addr) (cm : Nat) (pl : Option Addr) (cl : Nat) (pp : Option Addr) (cp : Nat) (zs : List (Lst (Int × Int × Int × Int × Bool × (Lst Int) × (Lst Int)))) : Prop where
  hX : wr.heap[X]? = some (.cells #[.slice pm ms.length cm, .slice pl ls.length cl, .slice pp zs.length cp] 27 (0, 0))
  hR : wr.heap[w.heap.size + 1]? = some (.cells #[.slice none 0 0, .slice none 0 0, .slice none 0 0] 27 (0, 0))
  hA : wr.heap[w.heap.size]? = some (.cells cA 27 (0, 0))
  om : yMapRangeS.ow wr ⟨pm, cm, ms⟩
  ol : yI.ow wr ⟨pl, cl, ls⟩
  row : RowN 31 1 wr pp cp zs.length (zs.flatMap yReqReqS.cells)
  ow : ∀ x ∈ zs, yReqReqS.ow wr x
  pls : zs.map yReqReqS.pl = ([0, 1, 2].take k).map (fun i => if i = n then z.2.2.getD n [] else [])
  len : zs.length = k
  bel : Below w.heap.size w wr
  ge : ∀ b, pp = some ⟨b, 0, none⟩ → w.heap.size ≤ b
  ltX : w.heap.size + 1 < X
theorem AlS.grow {ms : List (Int × Int × Int × Bool)} {ls : List Int} {z : ((List (Int × Int × Int × Bool)) × (List Int) × (List (List (Int × Int × Int × Int × Bool × (List Int) × (List Int)))))} {n : Nat} {cA : Array Value} {w wr wr' : World} {X k : Nat} {pm : Option Addr} {cm : Nat} {pl : Option Addr} {cl : Nat} {pp : Option Addr} {cp : Nat} {zs : List (Lst (Int × Int × Int × Int × Bool × (Lst Int) × (Lst Int)))} (h : AlS ms ls z n cA w wr X k pm cm pl cl pp cp zs) (hb : Below wr.heap.size wr wr') : AlS ms ls z n cA w wr' X k pm cm pl cl pp cp zs :=
  ⟨(hb.block _ (heap_lt h.hX)).trans h.hX, (hb.block _ (heap_lt h.hR)).trans h.hR, (hb.block _ (heap_lt h.hA)).trans h.hA, yMapRangeS_law.ow_blw h.om hb, yI_law.ow_blw h.ol hb, h.row.of (fun b _ hl => hb.block b hl), fun x hx => yReqReqS_law.ow_blw (h.ow x hx) hb, h.pls, h.len, h.bel.trans (hb.mono h.bel.size), h.ge, h.ltX⟩
/-- only blocks of one type turn -/
theorem kt_of_row {E s : Nat} {w w' : World} {p : Option Addr} {cap n : Nat} {cs : List Value} (h : RowN E s w p cap n cs) (hk : Kept (fun k => p = some ⟨k, 0, none⟩) w w') : KT E w w' :=
  ⟨hk.os, hk.tape, hk.output, hk.size, fun k o ho hne => by
    have hlt : k < w.heap.size := by
      rcases Nat.lt_or_ge k w.heap.size with h | h
      · exact h
      · rw [Array.getElem?_eq_none (by omega)] at ho; cases ho
    refine (hk.block k hlt (fun e => ?_)).trans ho
    rcases h with ⟨e0, _⟩ | ⟨g, e0, hO, _⟩
    · rw [e0] at e; cases e
    · rw [e0] at e
      cases e
      obtain ⟨cur, h1, _⟩ := hO
      rw [h1] at ho
      injection ho with ho
      exact hne cur (0, 0) ho.symm⟩
theorem AlS.app {ms : List (Int × Int × Int × Bool)} {ls : List Int} {z : ((List (Int × Int × Int × Bool)) × (List Int) × (List (List (Int × Int × Int × Int × Bool × (List Int) × (List Int)))))} {n : Nat} {cA : Array Value} {w wr w' : World} {X k : Nat} {pm : Option Addr} {cm : Nat} {pl : Option Addr} {cl : Nat} {pp : Option Addr} {cp : Nat} {zs : List (Lst (Int × Int × Int × Int × Bool × (Lst Int) × (Lst Int)))} (h : AlS ms ls z n cA w wr X k pm cm pl cl pp cp zs) {a : (Lst (Int × Int × Int × Int × Bool × (Lst Int) × (Lst Int)))} (ha : yReqReqS.ow wr a) {g' c' : Nat}
    (hO : ORow 31 1 w' g' c' (zs.length + 1) ((zs ++ [a]).flatMap yReqReqS.cells)) (hc : c' ≤ maxLen) (hor : pp = some ⟨g', 0, none⟩ ∨ wr.heap.size ≤ g') (hk : Kept (fun b => pp = some ⟨b, 0, none⟩) wr w') (hk3 : k < 3) (hpa : yReqReqS.pl a = if k = n then z.2.2.getD n [] else []) :
    AlS ms ls z n cA w (w'.setCell ⟨X, 2, none⟩ (.slice (some ⟨g', 0, none⟩) (zs.length + 1) c')) X (k + 1) pm cm pl cl (some ⟨g', 0, none⟩) c' (zs ++ [a]) := by
  have hT := kt_of_row h.row hk
  have hX' := hT.cells h.hX (by decide)
  have hR' := hT.cells h.hR (by decide)
  have hA' := hT.cells h.hA (by decide)
  have hTX := KT.set (i := 2) hX' (.slice (some ⟨g', 0, none⟩) (zs.length + 1) c')
  have hXg : X ≠ g' := fun e => by
    obtain ⟨cur, h1, _⟩ := hO
    rw [← e, hX'] at h1
    injection h1 with h1
    injection h1 with _ h1
    exact absurd h1 (by decide)
  have hx := h.ltX
  have hge : w.heap.size ≤ g' := by
    rcases hor with h1 | h1
    · exact h.ge g' h1
    · exact Nat.le_trans h.bel.size h1
  have hbel : Below w.heap.size w w' := ⟨hk.os.trans h.bel.os, hk.tape.trans h.bel.tape, hk.output.trans h.bel.output, Nat.le_trans h.bel.size hk.size, fun b hlt => (hk.block b (Nat.lt_of_lt_of_le hlt h.bel.size) (fun hd => by have := h.ge b hd; omega)).trans (h.bel.block b hlt)⟩
  have own : ∀ x : (Lst (Int × Int × Int × Int × Bool × (Lst Int) × (Lst Int))), yReqReqS.ow wr x → yReqReqS.ow (w'.setCell ⟨X, 2, none⟩ (.slice (some ⟨g', 0, none⟩) (zs.length + 1) c')) x := fun x hx => yReqReqS_law.kt (yReqReqS_law.kt hx hT (by decide)) hTX (by decide)
  refine ⟨?_, (heap_set_ne (by omega)).trans hR', (heap_set_ne (by omega)).trans hA', yMapRangeS_law.kt (yMapRangeS_law.kt h.om hT (by decide)) hTX (by decide), yI_law.kt (yI_law.kt h.ol hT (by decide)) hTX (by decide), .inr ⟨g', rfl, ?_, hc⟩, ?_, ?_, by simp [h.len], hbel.setCell (p := ⟨X, 2, none⟩) (by show w.heap.size ≤ X; omega) _, fun b e => by cases e; exact hge, h.ltX⟩
  · have := heap_set hX' 2 (.slice (some ⟨g', 0, none⟩) (zs.length + 1) c')
    simpa using this
  · rw [show (zs ++ [a]).length = zs.length + 1 by simp]
    exact hO.of (heap_set_ne (fun e => hXg e.symm))
  · intro x hx
    rcases List.mem_append.1 hx with hx | hx
    · exact own x (h.ow x hx)
    · have : x = a := by simpa using hx
      subst this; exact own x ha
  · have e : ([0, 1, 2].take (k + 1)).map (fun i => if i = n then z.2.2.getD n [] else []) = ([0, 1, 2].take k).map (fun i => if i = n then z.2.2.getD n [] else []) ++ [if k = n then z.2.2.getD n [] else []] := by
      rcases k with _ | _ | _ | k
      · rfl
      · rfl
      · rfl
      · omega
    rw [e, List.map_append, h.pls]
    simp [hpa]

/-- what one asks, copied so far -/
structure InA (l : List (Int × Int × Int × Int × Bool × (Lst Int) × (Lst Int))) (wS wr : World) (j g cap : Nat) (ys : List (Int × Int × Int × Int × Bool × (Lst Int) × (Lst Int))) : Prop where
  bel : Below wS.heap.size wS wr
  row : RowN 40 7 wr (some ⟨g, 0, none⟩) cap ys.length (ys.flatMap yReqReq.cells)
  ge : wS.heap.size ≤ g
  ow : ∀ y ∈ ys, yReqReq.ow wr y
  pls : ys.map yReqReq.pl = (l.take j).map yReqReq.pl
  len : ys.length = j
theorem InA.own {l : List (Int × Int × Int × Int × Bool × (Lst Int) × (Lst Int))} {wS wr : World} {j g cap : Nat} {ys : List (Int × Int × Int × Int × Bool × (Lst Int) × (Lst Int))} (h : InA l wS wr j g cap ys) : yReqReqS.ow wr ⟨some ⟨g, 0, none⟩, cap, ys⟩ := by
  rcases h.row with ⟨e, _⟩ | ⟨g1, e, hO, hc⟩
  · cases e
  · cases e
    exact ⟨by obtain ⟨_, _, _, h, _⟩ := hO; exact h, by unfold maxLen at hc; exact hc, .inr ⟨g, rfl, hO⟩, h.ow⟩
theorem InA.step {l : List (Int × Int × Int × Int × Bool × (Lst Int) × (Lst Int))} {wS wr wD w3 : World} {j g cap g' cap' : Nat} {ys : List (Int × Int × Int × Int × Bool × (Lst Int) × (Lst Int))} (h : InA l wS wr j g cap ys) (hb : Below wr.heap.size wr wD) {q : (Int × Int × Int × Int × Bool × (Lst Int) × (Lst Int))} (hq : yReqReq.ow wD q) (hj : j < l.length) (hp : yReqReq.pl q = yReqReq.pl l[j])
    (hO : ORow 40 7 w3 g' cap' (ys.length + 1) ((ys ++ [q]).flatMap yReqReq.cells)) (hc : cap' ≤ maxLen) (hor : (some ⟨g, 0, none⟩ : Option Addr) = some ⟨g', 0, none⟩ ∨ wD.heap.size ≤ g') (hk : Kept (fun b => (some ⟨g, 0, none⟩ : Option Addr) = some ⟨b, 0, none⟩) wD w3) : InA l wS w3 (j + 1) g' cap' (ys ++ [q]) := by
  have hT := kt_of_row (h.row.of (fun b _ hl => hb.block b hl)) hk
  have own : ∀ x : (Int × Int × Int × Int × Bool × (Lst Int) × (Lst Int)), yReqReq.ow wD x → yReqReq.ow w3 x := fun x hx => yReqReq_law.kt hx hT (by decide)
  refine ⟨old_keptK h.bel hb hk (fun x e => by cases e; exact h.ge) h.bel.size, .inr ⟨g', rfl, by rw [show (ys ++ [q]).length = ys.length + 1 by simp]; exact hO, hc⟩, ?_, ?_, ?_, by simp [h.len]⟩
  · have h1 := h.bel.size
    have h2 := hb.size
    have h3 := h.ge
    rcases hor with e | e
    · cases e; exact h3
    · omega
  · intro x hx
    rcases List.mem_append.1 hx with hx | hx
    · exact own x (yReqReq_law.ow_blw (h.ow x hx) hb)
    · have : x = q := by simpa using hx
      subst this; exact own x hq
  · rw [List.map_append, h.pls, List.take_succ_eq_append_getElem hj, List.map_append]
    simp [hp]

set_option maxRecDepth 100000 in
set_option maxHeartbeats 8000000 in
theorem spec_BusAlone (c : ((Lst (Int × Int × Int × Bool)) × (Lst Int) × (Lst (Lst (Int × Int × Int × Int × Bool × (Lst Int) × (Lst Int)))))) (who : Int) (w : World) (h : yBusCfg.rd w c) (hs : yBusCfg.size c ≤ 1048576) :
    Calls Try.prog 14 #[yBusCfg.val c, .int .i64 who] w fun e w' => ∃ a', e = .returned (yBusCfg.val a') ∧ yBusCfg.pl a' = busAloneP (yBusCfg.pl c) who ∧ yBusCfg.ow w' a' ∧ Below w.heap.size w w' := by
  obtain ⟨m, la, ps⟩ := c
  have hs' : yMapRangeS.size m + (yI.size la + yReqReqSS.size ps) ≤ 1048576 := hs
  have hm2 : m.l.length ≤ 2000000 := by
    have : yMapRangeS.size m = m.l.length + (m.l.map yMapRange.size).sum := rfl
    omega
  have hl2 : la.l.length ≤ 2000000 := by have := yI_size la; omega
  have HSZ := Hid.intro (And.intro hs' (And.intro hm2 hl2))
  have hbl : ∀ o o', Below w.heap.size w ((w.alloc o).alloc o') := fun o o' => ((Below.refl _ w).alloc (Nat.le_refl _) o).alloc (by simp) o'
  have HR := Hid.intro h
  obtain ⟨z, hz⟩ : ∃ z, z = yBusCfg.pl (m, la, ps) := ⟨_, rfl⟩
  have HBO : Hid (∀ W, Below w.heap.size w W → Calls Try.prog 9 #[.agg #[.slice m.p m.l.length m.c, .slice la.p la.l.length la.c, .slice ps.p ps.l.length ps.c]] W fun e w' => e = .returned (.bool (busOkP z)) ∧ Below W.heap.size W w') := Hid.intro (fun W hW => by rw [hz]; exact spec_BusOk (m, la, ps) W (yBusCfg_law.rd_blw h hW))
  have HZ := Hid.intro hz
  rw [← hz]
  clear h hz hs hs' hm2 hl2
  show Calls Try.prog 14 #[.agg #[.slice m.p m.l.length m.c, .slice la.p la.l.length la.c, .slice ps.p ps.l.length ps.c], .int .i64 who] w _
  go_enter Try.func14, Try.ntmps14
  go_wp2_with fail
  refine (HBO.out _ (hbl _ _)).mono ?_
  rintro e w1 ⟨rfl, hb⟩
  have bel : Below w.heap.size w w1 := (hbl _ _).trans (hb.mono (hbl _ _).size)
  have bA : w1.heap[w.heap.size]? = some (.cells #[.slice m.p m.l.length m.c, .slice la.p la.l.length la.c, .slice ps.p ps.l.length ps.c] 27 (0, 0)) := (hb.block _ (by simp <;> omega)).trans ((Below.heap_alloc _ _ _ (by simp)).trans (nw_k _ rfl))
  have bR : w1.heap[w.heap.size + 1]? = some (.cells #[.slice none 0 0, .slice none 0 0, .slice none 0 0] 27 (0, 0)) := (hb.block _ (by simp)).trans (nw_k _ (by simp))
  clear hb HBO hbl
  have HEM : Hid (∀ W : World, Below w.heap.size w W → busAloneP z who = ([], [], []) → ∃ a', (Ending.returned (.agg #[.slice none 0 0, .slice none 0 0, .slice none 0 0]) : Ending) = .returned (yBusCfg.val a') ∧ yBusCfg.pl a' = busAloneP z who ∧ yBusCfg.ow W a' ∧ Below w.heap.size w W) := Hid.intro (fun W hW e =>
    ⟨yBusCfg.zero, rfl, by rw [e]; rfl, yBusCfg_law.zow W, hW⟩)
  have r0 : w1.cell? ⟨w.heap.size + 1, 0, none⟩ = some (.slice none 0 0) := heap_cell bR 0
  have r1 : w1.cell? ⟨w.heap.size + 1, 1, none⟩ = some (.slice none 0 0) := heap_cell bR 1
  have r2 : w1.cell? ⟨w.heap.size + 1, 2, none⟩ = some (.slice none 0 0) := heap_cell bR 2
  have g0 : w1.frozen? ⟨w.heap.size + 1, 0, none⟩ = false := heap_free bR 0
  have g1 : w1.frozen? ⟨w.heap.size + 1, 1, none⟩ = false := heap_free bR 1
  have g2 : w1.frozen? ⟨w.heap.size + 1, 2, none⟩ = false := heap_free bR 2
  have hzf := heap_set (heap_set (heap_set bR 0 (.slice none 0 0)) 1 (.slice none 0 0)) 2 (.slice none 0 0)
  have s0 := heap_cell hzf 0
  have s1 := heap_cell hzf 1
  have s2 := heap_cell hzf 2
  simp at s0 s1 s2
  have HBZ : Hid (Below w.heap.size w (((w1.setCell ⟨w.heap.size + 1, 0, none⟩ (.slice none 0 0)).setCell ⟨w.heap.size + 1, 1, none⟩ (.slice none 0 0)).setCell ⟨w.heap.size + 1, 2, none⟩ (.slice none 0 0))) := Hid.intro (((bel.setCell (p := ⟨w.heap.size + 1, 0, none⟩) (by simp) _).setCell (p := ⟨w.heap.size + 1, 1, none⟩) (by simp) _).setCell (p := ⟨w.heap.size + 1, 2, none⟩) (by simp) _)
  have HBEL := Hid.intro bel
  clear hzf bel
  cases hok : busOkP z
  · have HE : Hid (busAloneP z who = ([], [], [])) := Hid.intro (by unfold busAloneP; rw [hok]; rfl)
    clear bA bR
    go_wp2
    refine bodyPost_ret (v := .agg #[.slice none 0 0, .slice none 0 0, .slice none 0 0]) (by simp [results, Try.results14, go_sem, s0, s1, s2]) rfl (HEM.out _ HBZ.out HE.out)
  cases hin : inB who 0 2
  · have HE : Hid (busAloneP z who = ([], [], [])) := Hid.intro (by unfold busAloneP; rw [hok, hin]; rfl)
    clear bA bR
    go_wp2_with (go_at_call 42; refine (in_any _ _ _ _).mono ?_; rintro e w' ⟨rfl, hw⟩; replace hw := hw.symm; subst hw)
    all_goals refine bodyPost_ret (v := .agg #[.slice none 0 0, .slice none 0 0, .slice none 0 0]) (by simp [results, Try.results14, go_sem, s0, s1, s2]) rfl (HEM.out _ HBZ.out HE.out)
  have hwho : 0 ≤ who ∧ who ≤ 2 := by simpa [inB] using hin
  obtain ⟨n, rfl⟩ : ∃ n : Nat, who = (n : Int) := ⟨who.toNat, by omega⟩
  have HE : Hid (busAloneP z (n : Int) = aloneB z n) := Hid.intro (by unfold busAloneP; rw [hok, hin]; rfl)
  have hn3 : n < 3 := by omega
  have hps3 : ps.l.length = 3 := by
    have h1 := progs_three hok
    rw [HZ.out] at h1
    have h2 : (yBusCfg.pl (m, la, ps)).2.2.length = ps.l.length := List.length_map ..
    omega
  obtain ⟨bs, os, hp⟩ : ∃ bs os, ps.p = some ⟨bs, os, none⟩ := by
    obtain ⟨b, off, e, _⟩ := progs_at (yBusCfg_law.rd_blw HR.out HBEL.out).2.2 (k := 0) (by show 0 < ps.l.length; omega)
    exact ⟨b, off, e⟩
  obtain ⟨psp, psc, psl⟩ := ps
  simp only at hp hps3 bA ⊢
  subst hp
  have H33 := Hid.intro hps3
  have HMR : Hid (∀ W, Below w.heap.size w W → yMapRangeS.rd W m ∧ yI.rd W la) := Hid.intro (fun W hW => ⟨(yBusCfg_law.rd_blw HR.out hW).1, (yBusCfg_law.rd_blw HR.out hW).2.1⟩)
  have HBA := Hid.intro bA
  have HBR := Hid.intro bR
  have hlR := heap_lt bR
  clear bA bR hps3 s0 s1 s2 r0 r1 r2 g0 g1 g2 hwho HEM HBZ
  go_wp2_with (first | (go_at_call 42; refine (in_any _ _ _ _).mono ?_; rintro e w' ⟨rfl, hw⟩; replace hw := hw.symm; subst hw) | fail)
  refine wp_region_then (by kernel_rfl) Gr (fun _ W => Below w1.heap.size w1 W)
    (tab [(19, kEmpM), (20, kIs (.pointer (some ⟨w.heap.size, 0, none⟩))), (21, kIs (.slice m.p m.l.length m.c)), (22, kOwM m.l), (23, kEmp), (24, kIs (.pointer (some ⟨w.heap.size, 1, none⟩))), (25, kIs (.slice la.p la.l.length la.c)), (26, kOwI la.l), (27, kBalN m.l la.l), (5, kVX w1.heap.size)])
    10 _ [19, 20, 21, 22, 23, 24, 25, 26, 27, 5] rfl rfl (by kernel_rfl) (by kernel_rfl) rfl (by kernel_rfl) ?_ ?_ ?_ ?_
  · refine tabR_stable ?_
    intro x hx
    simp only [List.mem_cons, List.not_mem_nil, or_false] at hx
    rcases hx with rfl | rfl | rfl | rfl | rfl | rfl | rfl | rfl | rfl | rfl
    all_goals intro w w' v hr hv
    all_goals first | exact hv | exact kEmpM_gr hr hv | exact kOwM_gr hr hv | exact kEmp_gr hr hv | exact kOwI_gr hr hv | exact kBalN_gr hr hv | exact kVX_gr hr hv
  · exact (Below.refl _ _).drew
  · have fa : ∀ (W : World), Below w1.heap.size w1 W → W.cell? ⟨w.heap.size, 0, none⟩ = some (.slice m.p m.l.length m.c) ∧ W.cell? ⟨w.heap.size, 1, none⟩ = some (.slice la.p la.l.length la.c) := fun W hW => by
      have hx := (hW.block w.heap.size (heap_lt HBA.out)).trans HBA.out
      exact ⟨heap_cell hx 0, heap_cell hx 1⟩
    refine ops_cons (gd rfl <| tx_val rfl (fun i ρ W _ hat hW => ?_)) ?_
    · exact ⟨.slice (some ⟨W.heap.size, 0, none⟩) 0 0, W.alloc (.cells #[] 70), by simp only [execOp]; go_simp, hW.trans ((nw_below W _).mono hW.size), nw_below W _, ⟨W.heap.size, rfl, nw_k _ rfl⟩⟩
    refine ops_cons (gd rfl <| tx_pure rfl rfl (fun _ _ h => h) Gr.refl (fun i ρ W hat hW => ?_)) ?_
    · have e2 := hat.out 2 (by kernel_rfl)
      simp [Act.eval] at e2
      simp only [execOp, e2]; go_simp
    refine ops_cons (gd rfl <| tx_pure rfl rfl (fun _ _ h => h) Gr.refl (fun i ρ W hat hW => ?_)) ?_
    · have e2 : ρ (.tmp 20) = _ := hat.dep 20 (by kernel_rfl)
      have c0 := (fa W hW).1
      simp only [execOp, e2]; go_simp
    refine ops_cons (gd rfl <| tx_val rfl (fun i ρ W _ hat hW => ?_)) ?_
    · obtain ⟨g, e1, hE⟩ : kEmpM W (ρ (.tmp 19)) := hat.dep 19 (by kernel_rfl)
      have e2 : ρ (.tmp 21) = _ := hat.dep 21 (by kernel_rfl)
      obtain ⟨i0, hi, hz0, hz1, hz2⟩ := info_parts Try.infoMapRangeS
      refine tv_copyK (E := 70) (z := .agg #[.int .i64 0, .int .i64 0, .int .i64 0, .bool false]) yMapRange_law rng_flat rng_foot Try.underlying23 hi hz0 hz1 hz2 rfl (by decide) (S := .tmp 19) (X := .tmp 21) rfl e1 (.inr ⟨g, rfl, hE⟩) e2 (HMR.out W (HBEL.out.trans (hW.mono HBEL.out.size))).1 HSZ.out.2.1 (fun p' c' W' h1 h2 => ?_)
      exact ⟨hW.trans (h2.mono hW.size), h2, ⟨p', c', rfl, h1.1⟩⟩
    refine ops_cons (gd rfl <| tx_val rfl (fun i ρ W _ hat hW => ?_)) ?_
    · exact ⟨.slice (some ⟨W.heap.size, 0, none⟩) 0 0, W.alloc (.cells #[] 3), by simp only [execOp]; go_simp, hW.trans ((nw_below W _).mono hW.size), nw_below W _, ⟨W.heap.size, rfl, nw_k _ rfl⟩⟩
    refine ops_cons (gd rfl <| tx_pure rfl rfl (fun _ _ h => h) Gr.refl (fun i ρ W hat hW => ?_)) ?_
    · have e2 := hat.out 2 (by kernel_rfl)
      simp [Act.eval] at e2
      simp only [execOp, e2]; go_simp
    refine ops_cons (gd rfl <| tx_pure rfl rfl (fun _ _ h => h) Gr.refl (fun i ρ W hat hW => ?_)) ?_
    · have e2 : ρ (.tmp 24) = _ := hat.dep 24 (by kernel_rfl)
      have c0 := (fa W hW).2
      simp only [execOp, e2]; go_simp
    refine ops_cons (gd rfl <| tx_val rfl (fun i ρ W _ hat hW => ?_)) ?_
    · obtain ⟨g, e1, hE⟩ : kEmp W (ρ (.tmp 23)) := hat.dep 23 (by kernel_rfl)
      have e2 : ρ (.tmp 25) = _ := hat.dep 25 (by kernel_rfl)
      refine tv_copyI (S := .tmp 23) (X := .tmp 25) rfl e1 (.inr ⟨g, rfl, hE⟩) e2 (yI_rd.1 (HMR.out W (HBEL.out.trans (hW.mono HBEL.out.size))).2).2.2 HSZ.out.2.2 (fun p' c' W' h1 h2 => ?_)
      exact ⟨hW.trans (h2.mono hW.size), h2, ⟨p', c', rfl, h1.1⟩⟩
    refine ops_cons (gd rfl <| tx_val rfl (fun i ρ W _ hat hW => ?_)) ?_
    · obtain ⟨p1, c1, e1, h1⟩ : kOwM m.l W (ρ (.tmp 22)) := hat.dep 22 (by kernel_rfl)
      obtain ⟨p2, c2, e2, h2⟩ : kOwI la.l W (ρ (.tmp 26)) := hat.dep 26 (by kernel_rfl)
      exact ⟨.agg #[.slice p1 m.l.length c1, .slice p2 la.l.length c2, .slice none 0 0], W, by simp only [execOp, e1, e2]; go_simp, hW, Gr.refl _, ⟨p1, c1, p2, c2, rfl, h1, h2⟩⟩
    refine ops_cons (gd rfl <| tx_val rfl (fun i ρ W _ hat hW => ?_)) ?_
    · exact ⟨.pointer (some ⟨W.heap.size, 0, none⟩), W.alloc (.cells #[.slice none 0 0, .slice none 0 0, .slice none 0 0] 27), by simp only [execOp]; go_simp, hW.trans ((nw_below W _).mono hW.size), nw_below W _, ⟨W.heap.size, rfl, nw_k _ rfl, hW.size⟩⟩
    exact ops_nil
  · intro f W hW hf
    obtain ⟨pm, cm, pl, cl, e27, h1, h2⟩ : kBalN m.l la.l W (f 27) := hf 27 (by simp)
    obtain ⟨X, e5, hX, hMX⟩ : kVX w1.heap.size W (f 5) := hf 5 (by simp)
    clear hf
    have hTX : KT 27 W (((W.setCell ⟨X, 0, none⟩ (.slice pm m.l.length cm)).setCell ⟨X, 1, none⟩ (.slice pl la.l.length cl)).setCell ⟨X, 2, none⟩ (.slice none 0 0)) := by
      have a1 := KT.set (i := 0) hX (.slice pm m.l.length cm)
      have a2 := KT.set (i := 1) (heap_set hX 0 (.slice pm m.l.length cm)) (.slice pl la.l.length cl)
      have a3 := KT.set (i := 2) (heap_set (heap_set hX 0 (.slice pm m.l.length cm)) 1 (.slice pl la.l.length cl)) (.slice none 0 0)
      exact (a1.trans a2).trans a3
    have hne : ∀ x, x ≠ X → (((W.setCell ⟨X, 0, none⟩ (.slice pm m.l.length cm)).setCell ⟨X, 1, none⟩ (.slice pl la.l.length cl)).setCell ⟨X, 2, none⟩ (.slice none 0 0)).heap[x]? = W.heap[x]? := fun x hx => (heap_set_ne hx).trans ((heap_set_ne hx).trans (heap_set_ne hx))
    have HS0 : Hid (AlS m.l la.l z n #[.slice m.p m.l.length m.c, .slice la.p la.l.length la.c, .slice (some ⟨bs, os, none⟩) psl.length psc] w (((W.setCell ⟨X, 0, none⟩ (.slice pm m.l.length cm)).setCell ⟨X, 1, none⟩ (.slice pl la.l.length cl)).setCell ⟨X, 2, none⟩ (.slice none 0 0)) X 0 pm cm pl cl none 0 []) := Hid.intro (by
      have hX2 := heap_set (heap_set (heap_set hX 0 (.slice pm m.l.length cm)) 1 (.slice pl la.l.length cl)) 2 (.slice none 0 0)
      refine ⟨by simpa using hX2, (hne _ (by omega)).trans ((hW.block _ hlR).trans HBR.out), (hne _ (by omega)).trans ((hW.block _ (heap_lt HBA.out)).trans HBA.out), yMapRangeS_law.kt h1 hTX (by decide), yI_law.kt h2 hTX (by decide), .inl ⟨rfl, rfl, rfl, rfl⟩, (fun x hx => by simp at hx), rfl, rfl, ?_, (fun b e => by cases e), by omega⟩
      exact (((HBEL.out.trans (hW.mono HBEL.out.size)).setCell (p := ⟨X, 0, none⟩) (by show w.heap.size ≤ X; omega) _).setCell (p := ⟨X, 1, none⟩) (by show w.heap.size ≤ X; omega) _).setCell (p := ⟨X, 2, none⟩) (by show w.heap.size ≤ X; omega) _)
    have x0 : W.cell? ⟨X, 0, none⟩ = some (.slice none 0 0) := heap_cell hX 0
    have x1 : W.cell? ⟨X, 1, none⟩ = some (.slice none 0 0) := heap_cell hX 1
    have x2 : W.cell? ⟨X, 2, none⟩ = some (.slice none 0 0) := heap_cell hX 2
    have f0 : W.frozen? ⟨X, 0, none⟩ = false := heap_free hX 0
    have f1 : W.frozen? ⟨X, 1, none⟩ = false := heap_free hX 1
    have f2 : W.frozen? ⟨X, 2, none⟩ = false := heap_free hX 2
    clear hTX hne hX h1 h2 hW hMX hlR
    simp only [fill, e27, e5]
    go_simp
    go_wp2
    clear x0 x1 x2 f0 f1 f2
    go_loopw [6] (fun i wr => ∃ (k : Nat) (pp : Option Addr) (cp : Nat) (zs : List (Lst (Int × Int × Int × Int × Bool × (Lst Int) × (Lst Int)))), k ≤ 3 ∧ i = .int .i64 k ∧ Hid (AlS m.l la.l z n #[.slice m.p m.l.length m.c, .slice la.p la.l.length la.c, .slice (some ⟨bs, os, none⟩) psl.length psc] w wr X k pm cm pl cl pp cp zs)) (fun i _ => 3 - (intOf i).toNat)
    case atStart => exact ⟨0, none, 0, [], Nat.zero_le _, rfl, HS0⟩
    case round =>
      clear HS0
      obtain ⟨k, pp, cp, zs, hk, rfl, HS⟩ := hrel
      by_cases hlt : k < 3
      rotate_left
      · have hk3 : k = 3 := by omega
        have hkI : ¬ ((k : Int) < 3) := by omega
        have hXT := HS.out.hX
        have x0 : wr.cell? ⟨X, 0, none⟩ = some (.slice pm m.l.length cm) := heap_cell hXT 0
        have x1 : wr.cell? ⟨X, 1, none⟩ = some (.slice pl la.l.length cl) := heap_cell hXT 1
        have x2 : wr.cell? ⟨X, 2, none⟩ = some (.slice pp zs.length cp) := heap_cell hXT 2
        have bR' := HS.out.hR
        have r0 : wr.cell? ⟨w.heap.size + 1, 0, none⟩ = some (.slice none 0 0) := heap_cell bR' 0
        have r1 : wr.cell? ⟨w.heap.size + 1, 1, none⟩ = some (.slice none 0 0) := heap_cell bR' 1
        have r2 : wr.cell? ⟨w.heap.size + 1, 2, none⟩ = some (.slice none 0 0) := heap_cell bR' 2
        have g0 : wr.frozen? ⟨w.heap.size + 1, 0, none⟩ = false := heap_free bR' 0
        have g1 : wr.frozen? ⟨w.heap.size + 1, 1, none⟩ = false := heap_free bR' 1
        have g2 : wr.frozen? ⟨w.heap.size + 1, 2, none⟩ = false := heap_free bR' 2
        have hf := heap_set (heap_set (heap_set bR' 0 (.slice pm m.l.length cm)) 1 (.slice pl la.l.length cl)) 2 (.slice pp zs.length cp)
        have s0 := heap_cell hf 0
        have s1 := heap_cell hf 1
        have s2 := heap_cell hf 2
        simp at s0 s1 s2
        have hTX : KT 27 wr (((wr.setCell ⟨w.heap.size + 1, 0, none⟩ (.slice pm m.l.length cm)).setCell ⟨w.heap.size + 1, 1, none⟩ (.slice pl la.l.length cl)).setCell ⟨w.heap.size + 1, 2, none⟩ (.slice pp zs.length cp)) := by
          have a1 := KT.set (i := 0) bR' (.slice pm m.l.length cm)
          have a2 := KT.set (i := 1) (heap_set bR' 0 (.slice pm m.l.length cm)) (.slice pl la.l.length cl)
          have a3 := KT.set (i := 2) (heap_set (heap_set bR' 0 (.slice pm m.l.length cm)) 1 (.slice pl la.l.length cl)) (.slice pp zs.length cp)
          exact (a1.trans a2).trans a3
        have HFIN : Hid (yBusCfg.ow (((wr.setCell ⟨w.heap.size + 1, 0, none⟩ (.slice pm m.l.length cm)).setCell ⟨w.heap.size + 1, 1, none⟩ (.slice pl la.l.length cl)).setCell ⟨w.heap.size + 1, 2, none⟩ (.slice pp zs.length cp)) ((⟨pm, cm, m.l⟩, ⟨pl, cl, la.l⟩, ⟨pp, cp, zs⟩) : ((Lst (Int × Int × Int × Bool)) × (Lst Int) × (Lst (Lst (Int × Int × Int × Int × Bool × (Lst Int) × (Lst Int))))))) := Hid.intro (yBusCfg_law.kt (K := yBusCfg) (a := ((⟨pm, cm, m.l⟩, ⟨pl, cl, la.l⟩, ⟨pp, cp, zs⟩) : ((Lst (Int × Int × Int × Bool)) × (Lst Int) × (Lst (Lst (Int × Int × Int × Int × Bool × (Lst Int) × (Lst Int))))))) ⟨HS.out.om, HS.out.ol, by
          rcases HS.out.row with ⟨e, e1, e2, _⟩ | ⟨g, e, hO, hc⟩
          · have hz0 : zs = [] := List.length_eq_zero_iff.1 e2
            subst hz0
            subst e1
            exact ⟨Nat.le_refl _, by simp, .inl rfl, fun _ h => by simp at h⟩
          · exact ⟨by obtain ⟨_, _, _, h, _⟩ := hO; exact h, by unfold maxLen at hc; exact hc, .inr ⟨g, e, hO⟩, HS.out.ow⟩⟩ hTX (by decide))
        have HPL : Hid (yBusCfg.pl ((⟨pm, cm, m.l⟩, ⟨pl, cl, la.l⟩, ⟨pp, cp, zs⟩) : ((Lst (Int × Int × Int × Bool)) × (Lst Int) × (Lst (Lst (Int × Int × Int × Int × Bool × (Lst Int) × (Lst Int)))))) = busAloneP z (n : Int)) := Hid.intro (by
          rw [HE.out]
          have e1 : yBusCfg.pl ((⟨pm, cm, m.l⟩, ⟨pl, cl, la.l⟩, ⟨pp, cp, zs⟩) : ((Lst (Int × Int × Int × Bool)) × (Lst Int) × (Lst (Lst (Int × Int × Int × Int × Bool × (Lst Int) × (Lst Int)))))) = (yMapRangeS.pl m, yI.pl la, zs.map yReqReqS.pl) := rfl
          rw [e1, HS.out.pls, hk3]
          unfold aloneB
          rw [HZ.out]
          rfl)
        have HBF : Hid (Below w.heap.size w (((wr.setCell ⟨w.heap.size + 1, 0, none⟩ (.slice pm m.l.length cm)).setCell ⟨w.heap.size + 1, 1, none⟩ (.slice pl la.l.length cl)).setCell ⟨w.heap.size + 1, 2, none⟩ (.slice pp zs.length cp))) := Hid.intro (((HS.out.bel.setCell (p := ⟨w.heap.size + 1, 0, none⟩) (by simp) _).setCell (p := ⟨w.heap.size + 1, 1, none⟩) (by simp) _).setCell (p := ⟨w.heap.size + 1, 2, none⟩) (by simp) _)
        clear hf hTX hXT bR' HS hin hok
        go_wp2
        refine bodyPost_ret (v := .agg #[.slice pm m.l.length cm, .slice pl la.l.length cl, .slice pp zs.length cp]) (by simp [results, Try.results14, go_sem, s0, s1, s2]) rfl (by first | exact ⟨((⟨pm, cm, m.l⟩, ⟨pl, cl, la.l⟩, ⟨pp, cp, zs⟩) : ((Lst (Int × Int × Int × Bool)) × (Lst Int) × (Lst (Lst (Int × Int × Int × Int × Bool × (Lst Int) × (Lst Int)))))), rfl, HPL.out, HFIN.out, HBF.out⟩ | exact ⟨⟨pm, cm, m.l⟩, ⟨pl, cl, la.l⟩, ⟨pp, cp, zs⟩, rfl, HPL.out, HFIN.out, HBF.out⟩)
      have hk0 : (0 : Int) ≤ (k : Int) := by omega
      have hk1 : (k : Int) < 3 := by omega
      have hgS : Below wr.heap.size wr (wr.alloc (.cells #[] 40)) := (Below.refl _ _).alloc (Nat.le_refl _) _
      have HSG := Hid.intro (HS.out.grow hgS)
      obtain ⟨j0, hj0, jz0, jz1, jz2⟩ := info_parts Try.infoReqReqSS
      have HJ := Hid.intro (And.intro hj0 (And.intro jz0 (And.intro jz1 jz2)))
      clear hj0 jz0 jz1 jz2 hgS
      have HRO : Hid (ORow 40 7 (wr.alloc (.cells #[] 40)) wr.heap.size 0 0 []) := Hid.intro ⟨#[], nw_k _ rfl, rfl, Nat.le_refl _, rfl, rfl⟩
      by_cases hkn : k = n
      rotate_left
      · have hki : ¬ ((k : Int) = (n : Int)) := by omega
        have HOWN : Hid (yReqReqS.ow (wr.alloc (.cells #[] 40)) (⟨some ⟨wr.heap.size, 0, none⟩, 0, []⟩ : (Lst (Int × Int × Int × Int × Bool × (Lst Int) × (Lst Int))))) := Hid.intro ⟨Nat.le_refl _, by simp, .inl rfl, fun _ h => by simp at h⟩
        have HPA : Hid (yReqReqS.pl (⟨some ⟨wr.heap.size, 0, none⟩, 0, []⟩ : (Lst (Int × Int × Int × Int × Bool × (Lst Int) × (Lst Int)))) = if k = n then z.2.2.getD n [] else []) := Hid.intro (by rw [if_neg hkn]; rfl)
        obtain ⟨wT, hwT⟩ : ∃ wT, wT = wr.alloc (.cells #[] 40) := ⟨_, rfl⟩
        obtain ⟨gT, hgT⟩ : ∃ gT, gT = wr.heap.size := ⟨_, rfl⟩
        clear HRO HS
        have HS := HSG
        clear HSG
        go_wp2
        rw [← hwT, ← hgT] at HOWN
        rw [← hwT] at HS
        rw [← hgT] at HPA
        try rw [← hwT]
        try rw [← hgT]
        clear hwT hgT
        go_loopw [8, 7] (fun i t wr' => i = .int .i64 0 ∧ t = .slice (some ⟨gT, 0, none⟩) 0 0 ∧ wr' = wT) (fun _ _ _ => 0)
        case atStart => exact ⟨rfl, rfl, rfl⟩
        case round =>
          obtain ⟨rfl, rfl, rfl⟩ := hrel
          have hXT := HS.out.hX
          have x2 : wr.cell? ⟨X, 2, none⟩ = some (.slice pp zs.length cp) := heap_cell hXT 2
          have hgU : Below wr.heap.size wr (wr.alloc (.cells #[.slice (some ⟨gT, 0, none⟩) 0 0] 31)) := (Below.refl _ _).alloc (Nat.le_refl _) _
          have HSU := Hid.intro (HS.out.grow hgU)
          have HOU := Hid.intro (yReqReqS_law.ow_blw HOWN.out hgU)
          have HYD : Hid (∀ (j : Nat) (v : Value), (yReqReqS.cells (⟨some ⟨gT, 0, none⟩, 0, []⟩ : (Lst (Int × Int × Int × Int × Bool × (Lst Int) × (Lst Int)))))[j]? = some v → (wr.alloc (.cells #[.slice (some ⟨gT, 0, none⟩) 0 0] 31)).cell? ⟨wr.heap.size, j, none⟩ = some v) := Hid.intro (fun j v hv => by
            have hb : (wr.alloc (.cells #[.slice (some ⟨gT, 0, none⟩) 0 0] 31)).heap[wr.heap.size]? = some (.cells #[.slice (some ⟨gT, 0, none⟩) 0 0] 31 (0, 0)) := nw_k _ rfl
            rw [heap_cell hb j]
            have hv' : ([.slice (some ⟨gT, 0, none⟩) 0 0] : List Value)[j]? = some v := hv
            simpa using hv')
          have hzl : zs.length ≤ 2000000 := by have := HSU.out.len; omega
          have hlX := heap_lt hXT
          clear hXT hgU HS HOWN
          go_wp2_with (at_builtin; refine wpList_appK (z := .slice none 0 0) yReqReqS_law Try.underlying25 HJ.out.1 HJ.out.2.1 HJ.out.2.2.1 HJ.out.2.2.2 rfl (by decide) zs (⟨some ⟨gT, 0, none⟩, 0, []⟩ : (Lst (Int × Int × Int × Int × Bool × (Lst Int) × (Lst Int)))) rfl rfl rfl rfl HSU.out.row rfl HYD.out hzl ?_; intro g5 c5' w5 hO hcap hor hkp; have hX5 := (kt_of_row HSU.out.row hkp).cells HSU.out.hX (by decide); have x5 : w5.cell? ⟨X, 2, none⟩ = some (.slice pp zs.length cp) := heap_cell hX5 2; have f5 : w5.frozen? ⟨X, 2, none⟩ = false := heap_free hX5 2; have H5 := Hid.intro (And.intro hO (And.intro hcap (And.intro hor hkp))); clear hO hcap hor hkp hX5 HYD x2)
          have HS5 := Hid.intro (HSU.out.app HOU.out H5.out.1 H5.out.2.1 H5.out.2.2.1 H5.out.2.2.2 hlt HPA.out)
          clear H5 HSU HOU x5 f5 HPA
          go_roundw
          case rel => exact ⟨k + 1, some ⟨g5, 0, none⟩, c5', zs ++ [(⟨some ⟨gT, 0, none⟩, 0, []⟩ : (Lst (Int × Int × Int × Int × Bool × (Lst Int) × (Lst Int))))], by omega, by go_num, HS5⟩
          case measure => simp [intOf]; omega

      · subst hkn
        clear HSG
        obtain ⟨wS, hwS⟩ : ∃ wS, wS = wr := ⟨_, rfl⟩
        subst hwS
        have hps3 := H33.out
        have hnl : k < psl.length := by omega
        have hkl : (k : Int) < (psl.length : Int) := by omega
        have HPN : Hid (z.2.2.getD k [] = yReqReqS.pl psl[k]) := Hid.intro (by
          have : z.2.2 = psl.map yReqReqS.pl := by rw [HZ.out]; rfl
          rw [this, List.getD_eq_getElem?_getD, List.getElem?_map, List.getElem?_eq_getElem hnl]
          rfl)
        have HSN : Hid (yReqReqS.size psl[k] ≤ 1048576) := Hid.intro (by
          have h1 := size_le yReqReqS hnl
          have h2 : yReqReqSS.size ⟨some ⟨bs, os, none⟩, psc, psl⟩ = psl.length + (psl.map yReqReqS.size).sum := rfl
          have h3 := HSZ.out.1
          rw [h2] at h3
          omega)
        have HKN : Hid (∀ W, Below w.heap.size w W → bs < W.heap.size ∧ W.cell? ⟨bs, os + k, none⟩ = some (.slice psl[k].p psl[k].l.length psl[k].c) ∧ yReqReqS.rd W psl[k]) := Hid.intro (fun W hW => row_of (yBusCfg_law.rd_blw HR.out hW).2.2 rfl hnl)
        generalize psl[k] = q0 at HPN HSN HKN
        obtain ⟨pq, cq, l⟩ := q0
        have hcq1 : l.length ≤ cq := (HKN.out w (Below.refl _ _)).2.2.1
        have hcq2 : cq ≤ 9223372036854775807 := (HKN.out w (Below.refl _ _)).2.2.2.1
        have hll : l.length + (l.map yReqReq.size).sum ≤ 1048576 := HSN.out
        have HLL := Hid.intro hll
        have hll1 : l.length ≤ 1048576 := by omega
        clear hnl hps3 hll
        have HN0 : Hid (InA l wS (wS.alloc (.cells #[] 40)) 0 wS.heap.size 0 []) := Hid.intro ⟨nw_below _ _, .inr ⟨wS.heap.size, rfl, HRO.out, by unfold maxLen; omega⟩, Nat.le_refl _, (fun y hy => by simp at hy), rfl, rfl⟩
        obtain ⟨i0, hi, hz0, hz1, hz2⟩ := info_parts Try.infoReqReqS
        have HI := Hid.intro (And.intro hi (And.intro hz0 (And.intro hz1 hz2)))
        clear HRO hi hz0 hz1 hz2
        go_wp2
        go_loopw [8, 7] (fun i t wr' => ∃ (j g cap : Nat) (ys : List (Int × Int × Int × Int × Bool × (Lst Int) × (Lst Int))), j ≤ l.length ∧ i = .int .i64 j ∧ t = .slice (some ⟨g, 0, none⟩) ys.length cap ∧ Hid (InA l wS wr' j g cap ys)) (fun i _ _ => l.length - (intOf i).toNat)
        case atStart => exact ⟨0, wS.heap.size, 0, [], Nat.zero_le _, rfl, rfl, HN0⟩
        case round =>
          clear HN0
          obtain ⟨j, g, cap, ys, hj, rfl, rfl, HN⟩ := hrel
          have hwb := HS.out.bel.trans (HN.out.bel.mono HS.out.bel.size)
          have hkn := HKN.out wr hwb
          have hbs := hkn.1
          have cK : wr.cell? ⟨bs, os + k, none⟩ = some (.slice pq l.length cq) := hkn.2.1
          have hAw := (HN.out.bel.block _ (heap_lt HS.out.hA)).trans HS.out.hA
          have cA2 : wr.cell? ⟨w.heap.size, 2, none⟩ = some (.slice (some ⟨bs, os, none⟩) psl.length psc) := heap_cell hAw 2
          have hlA := heap_lt hAw
          clear hAw hwb
          by_cases hjt : j < l.length
          rotate_left
          · have hjn : ¬ ((j : Int) < (l.length : Int)) := by omega
            have HOWN := Hid.intro HN.out.own
            have HPA : Hid (yReqReqS.pl (⟨some ⟨g, 0, none⟩, cap, ys⟩ : (Lst (Int × Int × Int × Int × Bool × (Lst Int) × (Lst Int)))) = if k = k then z.2.2.getD k [] else []) := Hid.intro (by rw [if_pos rfl, HPN.out]; show ys.map yReqReq.pl = l.map yReqReq.pl; rw [HN.out.pls, List.take_of_length_le (by omega)])
            have HSG := Hid.intro (HS.out.grow HN.out.bel)
            clear hkn HN HS
            have HS := HSG
            clear HSG
            have hXT := HS.out.hX
            have x2 : wr.cell? ⟨X, 2, none⟩ = some (.slice pp zs.length cp) := heap_cell hXT 2
            have hgU : Below wr.heap.size wr (wr.alloc (.cells #[.slice (some ⟨g, 0, none⟩) ys.length cap] 31)) := (Below.refl _ _).alloc (Nat.le_refl _) _
            have HSU := Hid.intro (HS.out.grow hgU)
            have HOU := Hid.intro (yReqReqS_law.ow_blw HOWN.out hgU)
            have HYD : Hid (∀ (j : Nat) (v : Value), (yReqReqS.cells (⟨some ⟨g, 0, none⟩, cap, ys⟩ : (Lst (Int × Int × Int × Int × Bool × (Lst Int) × (Lst Int)))))[j]? = some v → (wr.alloc (.cells #[.slice (some ⟨g, 0, none⟩) ys.length cap] 31)).cell? ⟨wr.heap.size, j, none⟩ = some v) := Hid.intro (fun j v hv => by
              have hb : (wr.alloc (.cells #[.slice (some ⟨g, 0, none⟩) ys.length cap] 31)).heap[wr.heap.size]? = some (.cells #[.slice (some ⟨g, 0, none⟩) ys.length cap] 31 (0, 0)) := nw_k _ rfl
              rw [heap_cell hb j]
              have hv' : ([.slice (some ⟨g, 0, none⟩) ys.length cap] : List Value)[j]? = some v := hv
              simpa using hv')
            have hzl : zs.length ≤ 2000000 := by have := HSU.out.len; omega
            have hlX := heap_lt hXT
            clear hXT hgU HS HOWN
            go_wp2_with (at_builtin; refine wpList_appK (z := .slice none 0 0) yReqReqS_law Try.underlying25 HJ.out.1 HJ.out.2.1 HJ.out.2.2.1 HJ.out.2.2.2 rfl (by decide) zs (⟨some ⟨g, 0, none⟩, cap, ys⟩ : (Lst (Int × Int × Int × Int × Bool × (Lst Int) × (Lst Int)))) rfl rfl rfl rfl HSU.out.row rfl HYD.out hzl ?_; intro g5 c5' w5 hO hcap hor hkp; have hX5 := (kt_of_row HSU.out.row hkp).cells HSU.out.hX (by decide); have x5 : w5.cell? ⟨X, 2, none⟩ = some (.slice pp zs.length cp) := heap_cell hX5 2; have f5 : w5.frozen? ⟨X, 2, none⟩ = false := heap_free hX5 2; have H5 := Hid.intro (And.intro hO (And.intro hcap (And.intro hor hkp))); clear hO hcap hor hkp hX5 HYD x2)
            have HS5 := Hid.intro (HSU.out.app HOU.out H5.out.1 H5.out.2.1 H5.out.2.2.1 H5.out.2.2.2 hlt HPA.out)
            clear H5 HSU HOU x5 f5 HPA
            go_roundw
            case rel => exact ⟨k + 1, some ⟨g5, 0, none⟩, c5', zs ++ [(⟨some ⟨g, 0, none⟩, cap, ys⟩ : (Lst (Int × Int × Int × Int × Bool × (Lst Int) × (Lst Int))))], by omega, by go_num, HS5⟩
            case measure => simp [intOf]; omega
          have hjl : (j : Int) < (l.length : Int) := by omega
          have hj0 : (0 : Int) ≤ (j : Int) := by omega
          obtain ⟨bq, oq, hpq, hbq, hcq, hrq⟩ := reqs_at hkn.2.2 hjt
          simp only at hpq
          subst hpq
          have hqs : yReqReq.size l[j] ≤ 1048576 := by have := size_le yReqReq hjt; have := HLL.out; omega
          obtain ⟨q, hqe⟩ : ∃ q, q = l[j] := ⟨_, rfl⟩
          simp only at hcq hrq
          rw [← hqe] at hcq hrq hqs
          have HQE := Hid.intro hqe
          clear hqe hkn
          obtain ⟨q_0, q_1, q_2, q_3, q_4, q_5, q_6⟩ := q
          have c0 : wr.cell? ⟨bq, oq + j * 7, none⟩ = some (.int .i64 q_0) := hcq 0 _ rfl
          have c1 : wr.cell? ⟨bq, oq + j * 7 + 1, none⟩ = some (.int .i64 q_1) := hcq 1 _ rfl
          have c2 : wr.cell? ⟨bq, oq + j * 7 + 2, none⟩ = some (.int .i64 q_2) := hcq 2 _ rfl
          have c3 : wr.cell? ⟨bq, oq + j * 7 + 3, none⟩ = some (.int .i64 q_3) := hcq 3 _ rfl
          have c4 : wr.cell? ⟨bq, oq + j * 7 + 4, none⟩ = some (.bool q_4) := hcq 4 _ rfl
          have c5 : wr.cell? ⟨bq, oq + j * 7 + 5, none⟩ = some (.slice q_5.p q_5.l.length q_5.c) := hcq 5 _ rfl
          have c6 : wr.cell? ⟨bq, oq + j * 7 + 6, none⟩ = some (.slice q_6.p q_6.l.length q_6.c) := hcq 6 _ rfl
          obtain ⟨_, _, _, _, _, v5, v6⟩ := hrq
          have hd5 := (yI_rd.1 (show yI.rd wr q_5 from v5)).2.2
          have hd6 := (yI_rd.1 (show yI.rd wr q_6 from v6)).2.2
          have hdl : q_5.l.length ≤ 2000000 ∧ q_6.l.length ≤ 2000000 := by
            have h1 : yReqReq.size (q_0, q_1, q_2, q_3, q_4, q_5, q_6) = 0 + (0 + (0 + (0 + (0 + (yI.size q_5 + yI.size q_6))))) := rfl
            rw [h1, yI_size, yI_size] at hqs
            omega
          have gr0 : Below wr.heap.size wr ((wr.alloc (.cells #[.int .i64 q_0, .int .i64 q_1, .int .i64 q_2, .int .i64 q_3, .bool q_4, .slice q_5.p q_5.l.length q_5.c, .slice q_6.p q_6.l.length q_6.c] 40)).alloc (.cells #[] 3)) := ((Below.refl _ _).alloc (Nat.le_refl _) _).alloc (by simp) _
          have HEA : Hid (((wr.alloc (.cells #[.int .i64 q_0, .int .i64 q_1, .int .i64 q_2, .int .i64 q_3, .bool q_4, .slice q_5.p q_5.l.length q_5.c, .slice q_6.p q_6.l.length q_6.c] 40)).alloc (.cells #[] 3)).heap[wr.heap.size + 1]? = some (.cells #[] 3 (0, 0))) := Hid.intro (nw_k _ (by simp))
          have HDA := Hid.intro (And.intro (hd5.below gr0) hdl.1)
          have HDC := Hid.intro (And.intro hd6 hdl.2)
          have HG0 := Hid.intro gr0
          have hyl : ys.length ≤ 2000000 := by have := HN.out.len; omega
          clear hd5 hd6 hdl gr0 v5 v6 hcq hqs
          go_wp2_with (first | (at_builtin; refine wpList_copyE (p0 := some ⟨wr.heap.size + 1, 0, none⟩) q_5.l rfl rfl rfl (.inr ⟨_, rfl, HEA.out⟩) rfl HDA.out.1 HDA.out.2 ?_; intro p5 c5 w1 hF hg; have bJ : w1.heap[wr.heap.size]? = some (.cells #[.int .i64 q_0, .int .i64 q_1, .int .i64 q_2, .int .i64 q_3, .bool q_4, .slice q_5.p q_5.l.length q_5.c, .slice q_6.p q_6.l.length q_6.c] 40 (0, 0)) := (hg.block _ (by simp; omega)).trans ((Below.heap_alloc _ _ _ (by simp)).trans (nw_k _ rfl)); have bJ1 : (w1.setCell ⟨wr.heap.size, 5, none⟩ (.slice p5 q_5.l.length c5)).heap[wr.heap.size]? = some (.cells #[.int .i64 q_0, .int .i64 q_1, .int .i64 q_2, .int .i64 q_3, .bool q_4, .slice p5 q_5.l.length c5, .slice q_6.p q_6.l.length q_6.c] 40 (0, 0)) := heap_set bJ 5 _; have j5f : w1.frozen? ⟨wr.heap.size, 5, none⟩ = false := heap_free bJ 5; have j5 : w1.cell? ⟨wr.heap.size, 5, none⟩ = some (.slice q_5.p q_5.l.length q_5.c) := heap_cell bJ 5; have j6 : w1.cell? ⟨wr.heap.size, 6, none⟩ = some (.slice q_6.p q_6.l.length q_6.c) := heap_cell bJ 6; have jl : wr.heap.size < w1.heap.size := heap_lt bJ; have hb1 : Below wr.heap.size wr ((w1.setCell ⟨wr.heap.size, 5, none⟩ (.slice p5 q_5.l.length c5)).alloc (.cells #[] 3)) := ((HG0.out.trans (hg.mono (by simp <;> omega))).setCell (p := ⟨wr.heap.size, 5, none⟩) (Nat.le_refl _) _).alloc (by simp; omega) _; have HEB : Hid (((w1.setCell ⟨wr.heap.size, 5, none⟩ (.slice p5 q_5.l.length c5)).alloc (.cells #[] 3)).heap[w1.heap.size]? = some (.cells #[] 3 (0, 0))) := Hid.intro (nw_k _ (by simp)); have HDB := Hid.intro (And.intro (HDC.out.1.below hb1) HDC.out.2); have HA := Hid.intro (And.intro hF (And.intro bJ (And.intro bJ1 hb1))); clear HDA HEA hF hg bJ bJ1 hb1) | (at_builtin; refine wpList_copyE (p0 := some ⟨w1.heap.size, 0, none⟩) q_6.l rfl rfl rfl (.inr ⟨_, rfl, HEB.out⟩) rfl HDB.out.1 HDB.out.2 ?_; intro p6 c6 w2 hF hg; have bJ : w2.heap[wr.heap.size]? = some (.cells #[.int .i64 q_0, .int .i64 q_1, .int .i64 q_2, .int .i64 q_3, .bool q_4, .slice p5 q_5.l.length c5, .slice q_6.p q_6.l.length q_6.c] 40 (0, 0)) := (hg.block _ (by simp; omega)).trans ((Below.heap_alloc _ _ _ (by simp; omega)).trans HA.out.2.2.1); have bJ2 : (w2.setCell ⟨wr.heap.size, 6, none⟩ (.slice p6 q_6.l.length c6)).heap[wr.heap.size]? = some (.cells #[.int .i64 q_0, .int .i64 q_1, .int .i64 q_2, .int .i64 q_3, .bool q_4, .slice p5 q_5.l.length c5, .slice p6 q_6.l.length c6] 40 (0, 0)) := heap_set bJ 6 _; have k0 : w2.cell? ⟨wr.heap.size, 0, none⟩ = some (.int .i64 q_0) := heap_cell bJ 0; have k1 : w2.cell? ⟨wr.heap.size, 1, none⟩ = some (.int .i64 q_1) := heap_cell bJ 1; have k2 : w2.cell? ⟨wr.heap.size, 2, none⟩ = some (.int .i64 q_2) := heap_cell bJ 2; have k3 : w2.cell? ⟨wr.heap.size, 3, none⟩ = some (.int .i64 q_3) := heap_cell bJ 3; have k4 : w2.cell? ⟨wr.heap.size, 4, none⟩ = some (.bool q_4) := heap_cell bJ 4; have k5 : w2.cell? ⟨wr.heap.size, 5, none⟩ = some (.slice p5 q_5.l.length c5) := heap_cell bJ 5; have k6 : w2.cell? ⟨wr.heap.size, 6, none⟩ = some (.slice q_6.p q_6.l.length q_6.c) := heap_cell bJ 6; have k6f : w2.frozen? ⟨wr.heap.size, 6, none⟩ = false := heap_free bJ 6; have hs1 : wr.heap.size ≤ ((w1.setCell ⟨wr.heap.size, 5, none⟩ (.slice p5 q_5.l.length c5)).alloc (.cells #[] 3)).heap.size := HA.out.2.2.2.size; have jl2 : wr.heap.size < w2.heap.size := heap_lt bJ; have hb2 : Below wr.heap.size wr ((w2.setCell ⟨wr.heap.size, 6, none⟩ (.slice p6 q_6.l.length c6)).alloc (.cells #[.int .i64 q_0, .int .i64 q_1, .int .i64 q_2, .int .i64 q_3, .bool q_4, .slice p5 q_5.l.length c5, .slice p6 q_6.l.length c6] 40)) := ((HA.out.2.2.2.trans (hg.mono hs1)).setCell (p := ⟨wr.heap.size, 6, none⟩) (Nat.le_refl _) _).alloc (by simp; omega) _; have HYC : Hid (∀ (j : Nat) (v : Value), (yReqReq.cells ((q_0, q_1, q_2, q_3, q_4, (⟨p5, c5, q_5.l⟩ : Lst Int), (⟨p6, c6, q_6.l⟩ : Lst Int)) : (Int × Int × Int × Int × Bool × (Lst Int) × (Lst Int))))[j]? = some v → ((w2.setCell ⟨wr.heap.size, 6, none⟩ (.slice p6 q_6.l.length c6)).alloc (.cells #[.int .i64 q_0, .int .i64 q_1, .int .i64 q_2, .int .i64 q_3, .bool q_4, .slice p5 q_5.l.length c5, .slice p6 q_6.l.length c6] 40)).cell? ⟨w2.heap.size, j, none⟩ = some v) := Hid.intro (fun j v hv => box_cells (vs := yReqReq.cells ((q_0, q_1, q_2, q_3, q_4, (⟨p5, c5, q_5.l⟩ : Lst Int), (⟨p6, c6, q_6.l⟩ : Lst Int)) : (Int × Int × Int × Int × Bool × (Lst Int) × (Lst Int)))) (by simp) hv); have HROW := Hid.intro (HN.out.row.of (fun x e hx => hb2.block x hx)); have HH := Hid.intro (And.intro hF (And.intro bJ (And.intro hb2 hg))); clear HDB HEB hF hg bJ bJ2 hb2 hs1 j5 j6 j5f) | (at_builtin; refine wpList_appK (z := .agg #[.int .i64 0, .int .i64 0, .int .i64 0, .int .i64 0, .bool false, .slice none 0 0, .slice none 0 0]) yReqReq_law Try.underlying31 HI.out.1 HI.out.2.1 HI.out.2.2.1 HI.out.2.2.2 rfl (by decide) ys ((q_0, q_1, q_2, q_3, q_4, (⟨p5, c5, q_5.l⟩ : Lst Int), (⟨p6, c6, q_6.l⟩ : Lst Int)) : (Int × Int × Int × Int × Bool × (Lst Int) × (Lst Int))) rfl rfl rfl rfl HROW.out rfl HYC.out hyl ?_; intro g' cap' w3 hO hcap hor hkp; have H3 := Hid.intro (And.intro hO (And.intro hcap (And.intro hor hkp))); clear hO hcap hor hkp HROW HYC))
          have HN2 := Hid.intro (HN.out.step HH.out.2.2.1 (q := ((q_0, q_1, q_2, q_3, q_4, (⟨p5, c5, q_5.l⟩ : Lst Int), (⟨p6, c6, q_6.l⟩ : Lst Int)) : (Int × Int × Int × Int × Bool × (Lst Int) × (Lst Int)))) ⟨trivial, trivial, trivial, trivial, trivial, yI_law.ow_blw (yI_law.kt (yI_law.ow_blw (yI_law.ow_blw (yI_law.kt HA.out.1 (KT.set HA.out.2.1 _) (by decide)) (nw_below _ _)) HH.out.2.2.2) (KT.set HH.out.2.1 _) (by decide)) (nw_below _ _), yI_law.ow_blw (yI_law.kt HH.out.1 (KT.set HH.out.2.1 _) (by decide)) (nw_below _ _)⟩ hjt (by rw [← HQE.out]; rfl) H3.out.1 H3.out.2.1 H3.out.2.2.1 H3.out.2.2.2)
          clear HH HA H3 HN HS
          go_roundw
          case rel => exact ⟨j + 1, g', cap', ys ++ [((q_0, q_1, q_2, q_3, q_4, (⟨p5, c5, q_5.l⟩ : Lst Int), (⟨p6, c6, q_6.l⟩ : Lst Int)) : (Int × Int × Int × Int × Bool × (Lst Int) × (Lst Int)))], by omega, by go_num, by simp, HN2⟩
          case measure => simp [intOf]; omega

end Go.Proofs.Ytlifkfemdknndaa

namespace Go.Proofs.Ytlifkfemdknndaa
open Go.RowKit
theorem spec_BusAloneK (c : ((Lst (Int × Int × Int × Bool)) × (Lst Int) × (Lst (Lst (Int × Int × Int × Int × Bool × (Lst Int) × (Lst Int)))))) (who : Int) (w : World) (h : yBusCfg.rd w c) (hs : yBusCfg.size c ≤ 1048576) :
    Calls Try.prog 14 #[yBusCfg.val c, .int .i64 who] w fun e w' => (∃ v, e = .returned v ∧ kOw yBusCfg (busAloneP (yBusCfg.pl c) who) w' v) ∧ Below w.heap.size w w' := (spec_BusAlone c who w h hs).mono (by
  rintro e w' ⟨a', rfl, h1, h2, h3⟩; exact ⟨⟨_, rfl, a', rfl, h1, h2⟩, h3⟩)
theorem impl_BusAloneK (HI : ReqOkC) (c : ((Lst (Int × Int × Int × Bool)) × (Lst Int) × (Lst (Lst (Int × Int × Int × Int × Bool × (Lst Int) × (Lst Int)))))) (who : Int) (w : World) (h : yBusCfg.rd w c) (hs : yBusCfg.size c ≤ 1048576) :
    Calls Try.prog 12 #[yBusCfg.val c, .int .i64 who] w fun e w' => (∃ v, e = .returned v ∧ kFr yBusCfg (busAloneP (yBusCfg.pl c) who) w.heap.size w' v) ∧ Below w.heap.size w w' := (impl_BusAlone HI c who w h hs).mono (by
  rintro e w' ⟨a', rfl, h1, h2, h3, h4⟩; exact ⟨⟨_, rfl, a', rfl, h1, by omega, h3⟩, h4⟩)
end Go.Proofs.Ytlifkfemdknndaa
