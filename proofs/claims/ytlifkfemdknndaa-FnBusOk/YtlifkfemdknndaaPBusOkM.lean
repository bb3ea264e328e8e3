/-
  Proved: a bus with less asked is a bus. At every code (a row of bytes of any length) the law answers true and leaves its argument as it was. No condition.
-/
import Derived.Test.YtlifkfemdknndaaDrawBusLM
import Derived.Test.YtlifkfemdknndaaKndGM
import Derived.Test.YtlifkfemdknndaaApSM
import Derived.Test.YtlifkfemdknndaaRows
import Derived.Test.YtlifkfemdknndaaLawB
import Derived.Test.YtlifkfemdknndaaImplUM
/-
  The law FnBusOk, walked.
-/
namespace Go.Proofs.Ytlifkfemdknndaa
open Go.RowKit
set_option linter.unusedSimpArgs false
set_option linter.unusedVariables false

theorem crOkB_any (w : World) : Calls Try.prog 10 #[] w fun e w' => e = .returned (.bool true) ∧ w' = w := by
  go_enter Try.func10, Try.ntmps10
  go_wp2
  go_ret
  exact ⟨rfl, rfl⟩

/-- without the last -/
def preQ (x : (Lst QT')) : (Lst QT') := ⟨x.p, x.c, x.l.take (x.l.length - 1)⟩
theorem pre_rd {w : World} {x : (Lst QT')} (h : yReqReqS.rd w x) {n : Nat} : yReqReqS.rd w ⟨x.p, x.c, x.l.take n⟩ := by
  obtain ⟨h1, h2, h3, h4⟩ := h
  refine ⟨by simp; omega, h2, ?_, fun q hq => h4 q (List.mem_of_mem_take hq)⟩
  rcases h3 with h3 | ⟨b, off, e, hlt, hc⟩
  · left; show x.l.take n = []; rw [h3]; simp
  · refine .inr ⟨b, off, e, hlt, fun k hk j v hv => ?_⟩
    have hk' : k < x.l.length := by have : k < (x.l.take n).length := hk; simp at this; omega
    refine hc k hk' j v ?_
    have e1 : (x.l.take n)[k]'hk = x.l[k] := by simp
    rw [← e1]; exact hv
theorem all_takeD {α : Type} {p : α → Bool} {l : List α} (n : Nat) (h : l.all p = true) : (l.take n).all p = true := by
  rw [List.all_eq_true] at h ⊢
  exact fun x hx => h x (List.mem_of_mem_take hx)
/-- a bus of which each asks less is one -/
theorem busX {z : ((List (Int × Int × Int × Bool)) × (List Int) × (List (List (Int × Int × Int × Int × Bool × (List Int) × (List Int)))))} (h : busOkP z = true) : busOkP (z.1, z.2.1, z.2.2.map (fun l => l.take (l.length - 1))) = true := by
  unfold busOkP at h ⊢
  simp only [Bool.and_eq_true, decide_eq_true_eq, List.length_map] at h ⊢
  refine ⟨h.1, h.2.1, h.2.2.1, h.2.2.2.1, ?_⟩
  have h5 := h.2.2.2.2
  unfold progsB at h5 ⊢
  rw [List.all_eq_true] at h5 ⊢
  intro x hx
  obtain ⟨y, hy, rfl⟩ := List.mem_map.1 hx
  have h6 := h5 y hy
  simp only [Bool.and_eq_true, decide_eq_true_eq] at h6 ⊢
  refine ⟨by simp; omega, ?_⟩
  unfold progOkB at h6 ⊢
  rw [List.map_take]
  exact all_takeD _ h6.2
theorem busY (a : List (Int × Int × Int × Bool)) (xs : List Int) (b : List (List (Int × Int × Int × Int × Bool × List Int × List Int))) : busOkP (a, 4 :: xs, b) = false := by
  unfold busOkP
  have : allIn (4 :: xs) 0 3 = false := by simp [allIn, inB]
  rw [this]; simp
theorem busZ {z : ((List (Int × Int × Int × Bool)) × (List Int) × (List (List (Int × Int × Int × Int × Bool × (List Int) × (List Int)))))} (h : busOkP z = true) : z.2.1.length = 4 ∧ z.2.2.length = 3 := by
  unfold busOkP at h
  simp only [Bool.and_eq_true, decide_eq_true_eq] at h
  exact ⟨h.2.1, h.2.2.2.1⟩

def kLit4 : World → Value → Prop := fun w v => ∃ g, v = .slice (some ⟨g, 0, none⟩) 1 1 ∧ w.heap[g]? = some (.cells #[.int .i64 4] 3 (0, 0))
theorem kLit4_gr {w w' : World} {v : Value} (hg : Gr w w') (h : kLit4 w v) : kLit4 w' v := by obtain ⟨g, e, h1⟩ := h; exact ⟨g, e, hg.cells h1⟩
def kRd4 (xs : List Int) : World → Value → Prop := fun w v => ∃ p c, v = .slice p 4 c ∧ yI.rd w ⟨p, c, 4 :: xs⟩
theorem kRd4_gr {xs : List Int} {w w' : World} {v : Value} (hg : Gr w w') (h : kRd4 xs w v) : kRd4 xs w' v := by obtain ⟨p, c, e, h1⟩ := h; exact ⟨p, c, e, yI_law.rd_blw h1 hg⟩
def kAg4 (m : Lst (Int × Int × Int × Bool)) (xs : List Int) (u : Value) : World → Value → Prop := fun w v => ∃ p c, v = .agg #[.slice m.p m.l.length m.c, .slice p 4 c, u] ∧ yI.rd w ⟨p, c, 4 :: xs⟩
theorem kAg4_gr {m : Lst (Int × Int × Int × Bool)} {xs : List Int} {u : Value} {w w' : World} {v : Value} (hg : Gr w w') (h : kAg4 m xs u w v) : kAg4 m xs u w' v := by obtain ⟨p, c, e, h1⟩ := h; exact ⟨p, c, e, yI_law.rd_blw h1 hg⟩
def kVY (M : Nat) : World → Value → Prop := fun w v => ∃ X, v = .pointer (some ⟨X, 0, none⟩) ∧ w.heap[X]? = some (.cells #[.slice none 0 0, .slice none 0 0, .slice none 0 0] 27 (0, 0)) ∧ M ≤ X
theorem kVY_gr {M : Nat} {w w' : World} {v : Value} (hg : Gr w w') (h : kVY M w v) : kVY M w' v := by obtain ⟨b, e, h1, h2⟩ := h; exact ⟨b, e, hg.cells h1, h2⟩
theorem tv_lit4 {P : Value → World → Prop} {ρ : Operand → Value} {o : Oper} {w : World} {s x g c b off : Nat} {ys : List Int}
    (ho : o.op = .call { callee := .builtin .append, args := #[.tmp s, .tmp x], argTypes := #[24, 24] })
    (hs : ρ (.tmp s) = .slice (some ⟨g, 0, none⟩) 1 1) (hE : w.heap[g]? = some (.cells #[.int .i64 4] 3 (0, 0))) (hx : ρ (.tmp x) = .slice (some ⟨b, off, none⟩) 3 c) (hY : IntsAt w (some ⟨b, off, none⟩) ys) (hlen : ys.length = 3)
    (hP : ∀ p' c' w', yI.rd w' ⟨p', c', 4 :: ys⟩ → Gr w w' → P (.slice p' 4 c') w') : ∃ v w', (execOp ρ o).run Try.prog w = .ok (.value v) w' ∧ P v w' := by
  obtain ⟨i0, hi, hz0, hz1, hz2⟩ := info_parts Try.infoInt
  have hadd : ∀ (b off j : Nat), (⟨b, off, none⟩ : Addr).add j = ⟨b, off + j, none⟩ := fun b off j => by unfold Addr.add; split <;> simp_all
  obtain ⟨v', w', hrun, r1, r2⟩ := run_append_arg_grows (P := Try.prog) w 24 o.type 3 i0 _ 1 8 Try.underlying24 hi hz0 hz1 hz2 rfl (by omega) ⟨g, 0, none⟩ 1 1 [.int .i64 4] rfl (fun j u hj => by
      have : j = 0 := by
        have := (List.getElem?_eq_some_iff.1 hj).1
        simp at this; omega
      subst this
      simp at hj
      rw [hadd, ← hj]; exact heap_cell hE 0) ⟨b, off, none⟩ 3 c (ys.map (Value.int .i64)) (by simp [hlen]) (fun j u hj => by
      have hlt : j < ys.length := by have := (List.getElem?_eq_some_iff.1 hj).1; simpa using this
      rcases hY with h | ⟨b', off', e, h2, h3⟩
      · subst h; simp at hlt
      · cases e
        rw [hadd, h3 j hlt]
        simpa [hlt] using hj) (by omega) (by unfold maxLen; omega) (by omega)
  obtain ⟨hlen', hn | ⟨g', cap', cur', hv, k1, k2, k3, k4, k5, k6⟩⟩ := r1
  · omega
  subst hv
  have hG : Gr w w' := ⟨r2.os, r2.tape, r2.output, r2.size, fun z hz => r2.block z hz (by simp)⟩
  refine ⟨.slice (some ⟨g', 0, none⟩) 4 cap', w', ?_, hP _ _ _ (ints_own (xs := 4 :: ys) ⟨cur', k2, k5, by simp [hlen]; omega, by simp, by simpa [hlen] using k6⟩ k4) hG⟩
  unfold execOp
  simp only [ho, resolve, invoke, builtin, Sem.run_bind, Sem.run_pure, Result.andThen_ok, List.map_toArray, List.map_cons, List.map_nil, hs, hx, hrun]

/-- a bus with less, so far -/
structure XS (m : Lst (Int × Int × Int × Bool)) (la : Lst Int) (ps : Lst (Lst QT')) (w4 wr : World) (X k : Nat) (pp : Option Addr) (cp : Nat) : Prop where
  bel : Below w4.heap.size w4 wr
  hX : wr.heap[X]? = some (.cells #[.slice m.p m.l.length m.c, .slice la.p la.l.length la.c, .slice pp k cp] 27 (0, 0))
  row : RowN 31 1 wr pp cp k (((ps.l.take k).map preQ).flatMap yReqReqS.cells)
  ppM : ∀ g, pp = some ⟨g, 0, none⟩ → X < g ∧ g < wr.heap.size
  XM : w4.heap.size ≤ X
theorem XS.step {m : Lst (Int × Int × Int × Bool)} {la : Lst Int} {ps : Lst (Lst QT')} {w4 wr W : World} {X k : Nat} {pp : Option Addr} {cp : Nat} (h : XS m la ps w4 wr X k pp cp) (hk : k < ps.l.length) (hkp : Kept (fun b => pp = some ⟨b, 0, none⟩) wr W) {g' c' : Nat} (hO : ORow 31 1 W g' c' (k + 1) (((ps.l.take (k + 1)).map preQ).flatMap yReqReqS.cells)) (hc : c' ≤ maxLen) (hor : pp = some ⟨g', 0, none⟩ ∨ wr.heap.size ≤ g') :
    XS m la ps w4 (W.setCell ⟨X, 2, none⟩ (.slice (some ⟨g', 0, none⟩) (k + 1) c')) X (k + 1) (some ⟨g', 0, none⟩) c' := by
  have hX := heap_lt h.hX
  have hXM := h.XM
  have hX' := (hkp.block X hX (fun e => by have := (h.ppM X e).1; omega)).trans h.hX
  have hg : X < g' := by
    rcases hor with e | e
    · exact (h.ppM g' e).1
    · omega
  have hb : Below w4.heap.size w4 W := ⟨hkp.os.trans h.bel.os, hkp.tape.trans h.bel.tape, hkp.output.trans h.bel.output, Nat.le_trans h.bel.size hkp.size, fun b hb => (hkp.block b (Nat.lt_of_lt_of_le hb h.bel.size) (fun e => by have := (h.ppM b e).1; omega)).trans (h.bel.block b hb)⟩
  refine ⟨hb.setCell (p := ⟨X, 2, none⟩) hXM _, ?_, .inr ⟨g', rfl, hO.of (heap_set_ne (by omega)), hc⟩, fun g e => by cases e; exact ⟨hg, by simpa using hO.lt⟩, hXM⟩
  have := heap_set hX' 2 (.slice (some ⟨g', 0, none⟩) (k + 1) c')
  simpa using this

set_option maxRecDepth 100000 in
set_option maxHeartbeats 8000000 in
theorem walkC_FnBusOk (hI : ReqOkC) (a : Option Addr) (len cap : Nat) (w : World) (hc : len ≤ cap) (hm : cap ≤ 9223372036854775807) (hb : Bytes w w.heap.size a len) :
    Calls Try.prog 3 #[.slice a len cap] w fun e w' => e = .returned (.bool true) ∧ Below w.heap.size w w' := by
  have HI := Hid.intro hI
  clear hI
  by_cases hl : 1048576 < len
  · have hI1 : (1048576 : Int) < (len : Int) := by omega
    go_enter Try.func3, Try.ntmps3
    go_wp2
    go_ret
    exact ⟨rfl, Below.refl _ _⟩
  have hI1 : ¬ ((1048576 : Int) < (len : Int)) := by omega
  have HD := Hid.intro (drawBusOk_any a len cap w hc hm hb)
  clear hb
  go_enter Try.func3, Try.ntmps3
  go_wp2_with fail
  refine HD.out.mono ?_
  rintro e w1 ⟨m, la, ps, rfl, hrd, hsz, hbel⟩
  rw [yBusCfg_val]
  clear HD
  obtain ⟨C, hCe⟩ : ∃ C, C = w1.heap.size := ⟨_, rfl⟩
  obtain ⟨w2, hw2⟩ : ∃ w2, w2 = w1.alloc (.cells #[.slice m.p m.l.length m.c, .slice la.p la.l.length la.c, .slice ps.p ps.l.length ps.c] 27) := ⟨_, rfl⟩
  have hg2 := below_nw w1 (.cells #[.slice m.p m.l.length m.c, .slice la.p la.l.length la.c, .slice ps.p ps.l.length ps.c] 27)
  have hC2 : w2.heap[C]? = some (.cells #[.slice m.p m.l.length m.c, .slice la.p la.l.length la.c, .slice ps.p ps.l.length ps.c] 27 (0, 0)) := by rw [hw2, hCe]; exact nw_k _ rfl
  rw [← hw2] at hg2
  obtain ⟨z, hz⟩ : ∃ z, z = yBusCfg.pl (m, la, ps) := ⟨_, rfl⟩
  have HRD : Hid (∀ W, Below w2.heap.size w2 W → yBusCfg.rd W (m, la, ps) ∧ W.heap[C]? = some (.cells #[.slice m.p m.l.length m.c, .slice la.p la.l.length la.c, .slice ps.p ps.l.length ps.c] 27 (0, 0)) ∧ Below w.heap.size w W) := Hid.intro (fun W hW => ⟨yBusCfg_law.rd_blw (yBusCfg_law.rd_blw hrd hg2) hW, (hW.block C (heap_lt hC2)).trans hC2, (hbel.trans (hg2.mono hbel.size)).trans (hW.mono (Nat.le_trans hbel.size hg2.size))⟩)
  have HBI : Hid (∀ W, Below w2.heap.size w2 W → Calls Try.prog 8 #[.agg #[.slice m.p m.l.length m.c, .slice la.p la.l.length la.c, .slice ps.p ps.l.length ps.c]] W fun e w' => e = .returned (.bool (busOkP z)) ∧ Below W.heap.size W w') := Hid.intro (fun W hW => by rw [hz]; exact impl_BusOk HI.out (m, la, ps) W (HRD.out W hW).1)
  have HBS : Hid (∀ W, Below w2.heap.size w2 W → Calls Try.prog 9 #[.agg #[.slice m.p m.l.length m.c, .slice la.p la.l.length la.c, .slice ps.p ps.l.length ps.c]] W fun e w' => e = .returned (.bool (busOkP z)) ∧ Below W.heap.size W w') := Hid.intro (fun W hW => by rw [hz]; exact spec_BusOk (m, la, ps) W (HRD.out W hW).1)
  have HZ := Hid.intro hz
  clear hrd hbel hg2 hz hsz
  go_wp2_with fail
  rw [← hw2, ← hCe]
  clear hw2 hCe
  refine (HBI.out _ (Below.refl _ _)).mono ?_
  rintro e w3 ⟨rfl, hb3⟩
  have c30 : w3.cell? ⟨C, 0, none⟩ = some (.slice m.p m.l.length m.c) := heap_cell (HRD.out w3 hb3).2.1 0
  have c31 : w3.cell? ⟨C, 1, none⟩ = some (.slice la.p la.l.length la.c) := heap_cell (HRD.out w3 hb3).2.1 1
  have c32 : w3.cell? ⟨C, 2, none⟩ = some (.slice ps.p ps.l.length ps.c) := heap_cell (HRD.out w3 hb3).2.1 2
  have HB3 := Hid.intro hb3
  clear hb3 hC2
  go_wp2_with fail
  refine (HBS.out _ HB3.out).mono ?_
  rintro e w4 ⟨rfl, hb4⟩
  have HB4 := Hid.intro (HB3.out.trans (hb4.mono HB3.out.size))
  clear hb4 c30 c31 c32 HB3 HBS
  cases hok : busOkP z
  · have hend := (HRD.out w4 HB4.out).2.2
    clear HRD HBI HB4 HZ
    go_wp2_with (go_at_call 10; refine (crOkB_any _).mono ?_; rintro e w' ⟨rfl, hw⟩; replace hw := hw.symm; subst hw)
    go_ret
    exact ⟨rfl, hend⟩
  have hbz := busZ hok
  have hl4 : la.l.length = 4 := by
    have h1 := hbz.1
    rw [HZ.out] at h1
    have h2 : (yBusCfg.pl (m, la, ps)).2.1 = yI.pl la := rfl
    rw [h2, yI_pl] at h1; exact h1
  have hp3 : ps.l.length = 3 := by
    have h1 := hbz.2
    rw [HZ.out] at h1
    have h2 : (yBusCfg.pl (m, la, ps)).2.2.length = ps.l.length := List.length_map ..
    omega
  obtain ⟨bs, os, hbs⟩ : ∃ bs os, ps.p = some ⟨bs, os, none⟩ := by
    obtain ⟨b, off, e, _⟩ := progs_at (HRD.out w4 HB4.out).1.2.2 (k := 0) (by show 0 < ps.l.length; omega)
    exact ⟨b, off, e⟩
  obtain ⟨bl, ol, hbl⟩ : ∃ bl ol, la.p = some ⟨bl, ol, none⟩ := by
    rcases (HRD.out w4 HB4.out).1.2.1.2.2.1 with h | ⟨b, off, e, _⟩
    · have h : la.l = [] := h
      rw [h] at hl4; simp at hl4
    · exact ⟨b, off, e⟩
  have H43 := Hid.intro (And.intro hl4 (And.intro hp3 (And.intro hbs hbl)))
  have HBZ := Hid.intro hok
  have hC4 := (HRD.out w4 HB4.out).2.1
  have c0 : w4.cell? ⟨C, 0, none⟩ = some (.slice m.p m.l.length m.c) := heap_cell hC4 0
  have c1 : w4.cell? ⟨C, 1, none⟩ = some (.slice la.p la.l.length la.c) := heap_cell hC4 1
  clear hbz hl4 hp3 hbs hbl hC4
  have HX0 : Hid (XS m la ps w4 (w4.alloc (.cells #[.slice m.p m.l.length m.c, .slice la.p la.l.length la.c, .slice none 0 0] 27)) w4.heap.size 0 none 0) := Hid.intro ⟨below_nw _ _, nw_k _ rfl, .inl ⟨rfl, rfl, rfl, rfl⟩, (fun g e => by cases e), Nat.le_refl _⟩
  obtain ⟨X, hXe⟩ : ∃ X, X = w4.heap.size := ⟨_, rfl⟩
  rw [← hXe] at HX0
  go_wp2_with fail
  rw [← hXe]
  clear c0 c1 hXe
  generalize w4.alloc (.cells #[.slice m.p m.l.length m.c, .slice la.p la.l.length la.c, .slice none 0 0] 27) = w5 at HX0 ⊢
  go_loopw [6] (fun i wr => ∃ (k : Nat) (pp : Option Addr) (cp : Nat), k ≤ 3 ∧ i = .int .i64 k ∧ Hid (XS m la ps w4 wr X k pp cp)) (fun i _ => 3 - (intOf i).toNat)
  case atStart => exact ⟨0, none, 0, Nat.zero_le _, rfl, HX0⟩
  case round =>
    clear HX0
    obtain ⟨k, pp, cp, hk, rfl, HXS⟩ := hrel
    have hR := HRD.out wr (HB4.out.trans (HXS.out.bel.mono HB4.out.size))
    have hCw := hR.2.1
    have hps : ps.p = some ⟨bs, os, none⟩ := H43.out.2.2.1
    have cC0 : wr.cell? ⟨C, 0, none⟩ = some (.slice m.p m.l.length m.c) := heap_cell hCw 0
    have cC1 : wr.cell? ⟨C, 1, none⟩ = some (.slice la.p la.l.length la.c) := heap_cell hCw 1
    have cC2 : wr.cell? ⟨C, 2, none⟩ = some (.slice (some ⟨bs, os, none⟩) ps.l.length ps.c) := by rw [← hps]; exact heap_cell hCw 2
    by_cases hlt : k < 3
    · have hk0 : (0 : Int) ≤ (k : Int) := by omega
      have hk1 : (k : Int) < 3 := by omega
      have hp3 := H43.out.2.1
      have hkl : k < ps.l.length := by omega
      have hkL : (k : Int) < (ps.l.length : Int) := by omega
      have hrow := row_of (p := ps.p) (cap := ps.c) (l := ps.l) hR.1.2.2 hps hkl
      have hpre : preQ ps.l[k] = (⟨ps.l[k].p, ps.l[k].c, ps.l[k].l.take (ps.l[k].l.length - 1)⟩ : (Lst QT')) := rfl
      have htk : (ps.l.take (k + 1)).map preQ = (ps.l.take k).map preQ ++ [preQ ps.l[k]] := by rw [List.take_succ_eq_append_getElem hkl, List.map_append]; rfl
      have hKX : ∀ W, Kept (fun b => pp = some ⟨b, 0, none⟩) wr W → W.heap[X]? = some (.cells #[.slice m.p m.l.length m.c, .slice la.p la.l.length la.c, .slice pp k cp] 27 (0, 0)) := fun W hW => (hW.block X (heap_lt HXS.out.hX) (fun e => by have := (HXS.out.ppM X e).1; omega)).trans HXS.out.hX
      have hKO : ∀ W, Kept (fun b => pp = some ⟨b, 0, none⟩) wr W → ∀ c, c < w4.heap.size → W.heap[c]? = wr.heap[c]? := fun W hW c hc => hW.block c (Nat.lt_of_lt_of_le hc HXS.out.bel.size) (fun e => by have := (HXS.out.ppM c e).1; have := HXS.out.XM; omega)
      have hC4 := heap_lt (HRD.out w4 HB4.out).2.1
      have hb4 : bs < w4.heap.size := (row_of (p := ps.p) (cap := ps.c) (l := ps.l) (HRD.out w4 HB4.out).1.2.2 hps hkl).1
      have hck1 : ps.l[k].l.length ≤ ps.l[k].c := hrow.2.2.1
      have hck2 : ps.l[k].c ≤ 9223372036854775807 := hrow.2.2.2.1
      have hckk := hrow.2.1
      generalize ps.l[k] = q at hckk hpre htk hck1 hck2
      obtain ⟨pk, ck, lk⟩ := q
      simp only at hckk hpre hck1 hck2
      obtain ⟨nk, hnk, hnk1⟩ : ∃ nk : Nat, nk = lk.length - 1 ∧ (if (1 : Int) < (lk.length : Int) then (lk.length : Int) - 1 else 0) = (nk : Int) := by
        by_cases h1 : 1 < lk.length
        · exact ⟨lk.length - 1, rfl, by rw [if_pos (by omega)]; omega⟩
        · exact ⟨lk.length - 1, rfl, by rw [if_neg (by omega)]; omega⟩
      rw [← hnk] at hpre
      have hnkN : nk ≤ ck := by omega
      have hnkl : (lk.take nk).length = nk := by simp; omega
      have HCL : Hid (yReqReqS.cells (⟨pk, ck, lk.take nk⟩ : (Lst QT')) = [.slice pk nk ck]) := Hid.intro (by
        show [Value.slice pk (lk.take nk).length ck] = _
        rw [hnkl])
      have HTK : Hid ((ps.l.take (k + 1)).map preQ = (ps.l.take k).map preQ ++ [(⟨pk, ck, lk.take nk⟩ : (Lst QT'))]) := Hid.intro (by rw [htk, hpre])
      have hnkc : (nk : Int) ≤ (ck : Int) := by omega
      have hnk0 : (0 : Int) ≤ (nk : Int) := by omega
      clear hnk
      have HCC : Hid (∀ W, Kept (fun b => pp = some ⟨b, 0, none⟩) wr W → W.cell? ⟨C, 0, none⟩ = some (.slice m.p m.l.length m.c) ∧ W.cell? ⟨C, 1, none⟩ = some (.slice la.p la.l.length la.c) ∧ W.cell? ⟨C, 2, none⟩ = some (.slice (some ⟨bs, os, none⟩) ps.l.length ps.c) ∧ W.cell? ⟨X, 2, none⟩ = some (.slice pp k cp) ∧ W.cell? ⟨bs, os + k, none⟩ = some (.slice pk lk.length ck)) := Hid.intro (fun W hW => by
        have h1 := (hKO W hW C hC4).trans hCw
        exact ⟨heap_cell h1 0, heap_cell h1 1, by rw [← hps]; exact heap_cell h1 2, heap_cell (hKX W hW) 2, (World.cell?_of_block (w := wr) (a := ⟨bs, os + k, none⟩) (hKO W hW bs hb4)).trans hckk⟩)
      obtain ⟨k0, hi0, kz0, kz1, kz2⟩ := info_parts Try.infoReqReqSS
      have HIS := Hid.intro (And.intro hi0 (And.intro kz0 (And.intro kz1 kz2)))
      have hPA : ∀ g, pp = some ⟨g, 0, none⟩ → g < wr.heap.size := fun g e => (HXS.out.ppM g e).2
      have HKX := Hid.intro hKX
      have hkl' := Hid.intro hkl
      clear hi0 kz0 kz1 kz2 hR hCw cC0 cC1 hckk htk hpre hrow hKX hKO hC4 hb4 hnkl hkl
      clear hps hp3
      go_wp2_with fail
      refine wp_region_then (by kernel_rfl) (R0 pp wr.heap.size 31 1 k (fun _ cs => cs = ((ps.l.take k).map preQ ++ [(⟨pk, ck, lk.take nk⟩ : (Lst QT'))]).flatMap yReqReqS.cells)) (C0 pp cp 31 1 k (((ps.l.take k).map preQ).flatMap yReqReqS.cells) wr)
        (tab [(34, kIs (.pointer (some ⟨X, 2, none⟩))), (35, kIs (.slice pp k cp)), (36, kIs (.pointer (some ⟨C, 2, none⟩))), (37, kIs (.slice (some ⟨bs, os, none⟩) ps.l.length ps.c)), (38, kIs (.int .i64 (k : Int))), (39, kIs (.pointer (some ⟨bs, os + k, none⟩))), (40, kIs (.slice pk lk.length ck)), (41, kIs (.pointer (some ⟨C, 2, none⟩))), (42, kIs (.slice (some ⟨bs, os, none⟩) ps.l.length ps.c)), (43, kIs (.int .i64 (k : Int))), (44, kIs (.pointer (some ⟨bs, os + k, none⟩))), (45, kIs (.slice pk lk.length ck)), (46, kIs (.int .i64 (lk.length : Int))), (47, kIs (.int .i64 ((lk.length : Int) - 1))), (48, kIs (.int .i64 (nk : Int))), (49, kIs (.slice pk nk ck)), (50, kNw yReqReqS wr.heap.size (fun _ cs => cs = ((ps.l.take k).map preQ ++ [(⟨pk, ck, lk.take nk⟩ : (Lst QT'))]).flatMap yReqReqS.cells) ((ps.l.take k).map preQ)), (51, kAp pp wr.heap.size 31 1 k (fun _ cs => cs = ((ps.l.take k).map preQ ++ [(⟨pk, ck, lk.take nk⟩ : (Lst QT'))]).flatMap yReqReqS.cells)), (52, kIs (.pointer (some ⟨X, 2, none⟩)))])
        19 _ [34, 35, 36, 37, 38, 39, 40, 41, 42, 43, 44, 45, 46, 47, 48, 49, 50, 51, 52] rfl rfl (by kernel_rfl) (by kernel_rfl) rfl (by kernel_rfl) ?_ ?_ ?_ ?_
      · refine tabR_stable ?_
        intro x hx
        simp only [List.mem_cons, List.not_mem_nil, or_false] at hx
        rcases hx with rfl | rfl | rfl | rfl | rfl | rfl | rfl | rfl | rfl | rfl | rfl | rfl | rfl | rfl | rfl | rfl | rfl | rfl | rfl
        all_goals intro w w' v hr hv
        all_goals first | exact hv | exact kNw_r0 (SU.const _ _) hr hv | exact kAp_r0 (SU.const _ _) hr hv
      · exact ⟨Kept.drew _ _, HXS.out.row.of (fun b _ hl => (Below.refl _ wr).drew.block b hl)⟩
      · refine ops_cons (gd rfl <| tx_pure rfl rfl (fun _ _ h => h) R0.refl (fun i ρ W hat hW => ?_)) ?_
        · have e5 := hat.out 5 (by kernel_rfl)
          simp [Act.eval] at e5
          simp only [execOp, e5]; go_simp
        refine ops_cons (gd rfl <| tx_pure rfl rfl (fun _ _ h => h) R0.refl (fun i ρ W hat hW => ?_)) ?_
        · have e34 : ρ (.tmp 34) = _ := hat.dep 34 (by kernel_rfl)
          obtain ⟨c0, c1, c2, cX, ckk⟩ := HCC.out W hW.1
          simp only [execOp, e34]; go_simp
        refine ops_cons (gd rfl <| tx_pure rfl rfl (fun _ _ h => h) R0.refl (fun i ρ W hat hW => ?_)) ?_
        · have e3 := hat.out 3 (by kernel_rfl)
          simp [Act.eval] at e3
          simp only [execOp, e3]; go_simp
        refine ops_cons (gd rfl <| tx_pure rfl rfl (fun _ _ h => h) R0.refl (fun i ρ W hat hW => ?_)) ?_
        · have e36 : ρ (.tmp 36) = _ := hat.dep 36 (by kernel_rfl)
          obtain ⟨c0, c1, c2, cX, ckk⟩ := HCC.out W hW.1
          simp only [execOp, e36]; go_simp
        refine ops_cons (gd rfl <| tx_pure rfl rfl (fun _ _ h => h) R0.refl (fun i ρ W hat hW => ?_)) ?_
        · have e6 := hat.out 6 (by kernel_rfl)
          simp [Act.eval] at e6
          simp only [execOp, e6]; go_simp
        refine ops_cons (gd rfl <| tx_pure rfl rfl (fun _ _ h => h) R0.refl (fun i ρ W hat hW => ?_)) ?_
        · have e37 : ρ (.tmp 37) = _ := hat.dep 37 (by kernel_rfl)
          have e38 : ρ (.tmp 38) = _ := hat.dep 38 (by kernel_rfl)
          simp only [execOp, e37, e38]; go_simp
        refine ops_cons (gd rfl <| tx_pure rfl rfl (fun _ _ h => h) R0.refl (fun i ρ W hat hW => ?_)) ?_
        · have e39 : ρ (.tmp 39) = _ := hat.dep 39 (by kernel_rfl)
          obtain ⟨c0, c1, c2, cX, ckk⟩ := HCC.out W hW.1
          simp only [execOp, e39]; go_simp
        refine ops_cons (gd rfl <| tx_pure rfl rfl (fun _ _ h => h) R0.refl (fun i ρ W hat hW => ?_)) ?_
        · have e3 := hat.out 3 (by kernel_rfl)
          simp [Act.eval] at e3
          simp only [execOp, e3]; go_simp
        refine ops_cons (gd rfl <| tx_pure rfl rfl (fun _ _ h => h) R0.refl (fun i ρ W hat hW => ?_)) ?_
        · have e41 : ρ (.tmp 41) = _ := hat.dep 41 (by kernel_rfl)
          obtain ⟨c0, c1, c2, cX, ckk⟩ := HCC.out W hW.1
          simp only [execOp, e41]; go_simp
        refine ops_cons (gd rfl <| tx_pure rfl rfl (fun _ _ h => h) R0.refl (fun i ρ W hat hW => ?_)) ?_
        · have e6 := hat.out 6 (by kernel_rfl)
          simp [Act.eval] at e6
          simp only [execOp, e6]; go_simp
        refine ops_cons (gd rfl <| tx_pure rfl rfl (fun _ _ h => h) R0.refl (fun i ρ W hat hW => ?_)) ?_
        · have e42 : ρ (.tmp 42) = _ := hat.dep 42 (by kernel_rfl)
          have e43 : ρ (.tmp 43) = _ := hat.dep 43 (by kernel_rfl)
          simp only [execOp, e42, e43]; go_simp
        refine ops_cons (gd rfl <| tx_pure rfl rfl (fun _ _ h => h) R0.refl (fun i ρ W hat hW => ?_)) ?_
        · have e44 : ρ (.tmp 44) = _ := hat.dep 44 (by kernel_rfl)
          obtain ⟨c0, c1, c2, cX, ckk⟩ := HCC.out W hW.1
          simp only [execOp, e44]; go_simp
        refine ops_cons (gd rfl <| tx_pure rfl rfl (fun _ _ h => h) R0.refl (fun i ρ W hat hW => ?_)) ?_
        · have e45 : ρ (.tmp 45) = _ := hat.dep 45 (by kernel_rfl)
          simp only [execOp, e45]; go_simp
        refine ops_cons (gd rfl <| tx_pure rfl rfl (fun _ _ h => h) R0.refl (fun i ρ W hat hW => ?_)) ?_
        · have e46 : ρ (.tmp 46) = _ := hat.dep 46 (by kernel_rfl)
          have hcn := hat.con
          simp only [execOp, e46]; go_simp
          exact wrapI (by omega) (by omega)
        refine ops_cons (gd rfl <| tx_pure rfl rfl (fun _ _ h => h) R0.refl (fun i ρ W hat hW => ?_)) ?_
        · have e47 : ρ (.tmp 47) = _ := hat.dep 47 (by kernel_rfl)
          have hcn := hat.con
          simp only [execOp, e47]; go_simp
        refine ops_cons (gd rfl <| tx_pure rfl rfl (fun _ _ h => h) R0.refl (fun i ρ W hat hW => ?_)) ?_
        · have e40 : ρ (.tmp 40) = _ := hat.dep 40 (by kernel_rfl)
          have e48 : ρ (.tmp 48) = _ := hat.dep 48 (by kernel_rfl)
          simp only [execOp, e40, e48]; go_simp
        refine ops_cons (gd rfl <| tx_val rfl (fun i ρ W _ hat hW => ?_)) ?_
        · have e49 : ρ (.tmp 49) = _ := hat.dep 49 (by kernel_rfl)
          have hg := below_nw W (.cells #[.slice pk nk ck] 31)
          exact ⟨.slice (some ⟨W.heap.size, 0, none⟩) 1 1, W.alloc (.cells #[.slice pk nk ck] 31), by simp only [execOp, e49]; go_simp, hW.gr hg, R0.gr (SU.const _ _) hg, ⟨W.heap.size, (⟨pk, ck, lk.take nk⟩ : (Lst QT')), rfl, hW.1.size, by simp, fun j u hj => box_cellsD (vs := [.slice pk nk ck]) rfl (by rw [← HCL.out]; exact hj), rfl⟩⟩
        refine ops_cons (gd rfl <| c0_app (K := yReqReqS) yReqReqS_law Try.underlying25 HIS.out.1 HIS.out.2.1 HIS.out.2.2.1 HIS.out.2.2.2 rfl (by decide) ((ps.l.take k).map preQ) (SU.const _ _) hPA (by simp; omega) (by omega) rfl rfl (by kernel_rfl) (by kernel_rfl) rfl rfl rfl) ?_
        refine ops_cons (gd rfl <| tx_pure rfl rfl (fun _ _ h => h) R0.refl (fun i ρ W hat hW => ?_)) ?_
        · have e5 := hat.out 5 (by kernel_rfl)
          simp [Act.eval] at e5
          simp only [execOp, e5]; go_simp
        exact ops_nil
      · intro f W hW hf
        obtain ⟨g', c', cs, e51, rfl, hO, hcc, hor⟩ : kAp pp wr.heap.size 31 1 k (fun _ cs => cs = ((ps.l.take k).map preQ ++ [(⟨pk, ck, lk.take nk⟩ : (Lst QT'))]).flatMap yReqReqS.cells) W (f 51) := hf 51 (by simp)
        have e52 : f 52 = .pointer (some ⟨X, 2, none⟩) := hf 52 (by simp)
        clear hf
        have HX2 := Hid.intro (HXS.out.step hkl'.out hW.1 (by rw [HTK.out]; exact hO) hcc hor)
        have cc : W.cell? ⟨X, 2, none⟩ = some (.slice pp k cp) := heap_cell (HKX.out W hW.1) 2
        have dd : W.frozen? ⟨X, 2, none⟩ = false := heap_free (HKX.out W hW.1) 2
        clear hPA HKX HCC HTK HXS hW hO hor HCL HIS hkl'
        simp only [fill, e51, e52]
        go_simp
        go_wp2
        go_roundw
        case rel => exact ⟨k + 1, some ⟨g', 0, none⟩, c', by omega, by go_num, HX2⟩
        case measure => simp [intOf]; omega
    · have HK3 : Hid (k = 3) := Hid.intro (by omega)
      have hp3 := H43.out.2.1
      have hl4 := H43.out.1
      have hlp : la.p = some ⟨bl, ol, none⟩ := H43.out.2.2.2
      have HPS3 : Hid ((k : Int) = 3 ∧ ps.l.length = 3) := Hid.intro ⟨by omega, hp3⟩
      have hkI : ¬ ((k : Int) < (ps.l.length : Int)) := by omega
      clear hlt hk
      have hlac : 4 ≤ la.c := by have h9 : la.l.length ≤ la.c := hR.1.2.1.1; omega
      have hlcI : (1 : Int) ≤ (la.c : Int) := by omega
      have hlc0 : ¬ (la.c = 1) := by omega
      have hlc1 : ¬ (la.c ≤ 1) := by omega
      have HLC := Hid.intro hlac
      have HCY : Hid (∀ W, Below wr.heap.size wr W → W.cell? ⟨C, 0, none⟩ = some (.slice m.p m.l.length m.c) ∧ W.cell? ⟨C, 1, none⟩ = some (.slice (some ⟨bl, ol, none⟩) 4 la.c) ∧ W.cell? ⟨C, 2, none⟩ = some (.slice (some ⟨bs, os, none⟩) ps.l.length ps.c)) := Hid.intro (fun W hW => by
        have h1 := (hW.block C (heap_lt hCw)).trans hCw
        exact ⟨heap_cell h1 0, by rw [← hlp, ← hl4]; exact heap_cell h1 1, by rw [← hps]; exact heap_cell h1 2⟩)
      have HT3 : Hid (∀ W, Below wr.heap.size wr W → IntsAt W (some ⟨bl, ol + 1, none⟩) la.l.tail) := Hid.intro (fun W hW => by
        have h1 := (yI_rd.1 (yBusCfg_law.rd_blw hR.1 hW).2.1).2.2
        rcases h1 with h1 | ⟨b, off, e, hlt2, hcc⟩
        · have h1 : la.l = [] := h1
          rw [h1] at hl4; simp at hl4
        · have e : la.p = some ⟨b, off, none⟩ := e
          rw [hlp] at e
          cases e
          refine .inr ⟨bl, ol + 1, rfl, hlt2, fun j hj => ?_⟩
          have hj1 : j + 1 < la.l.length := by simp at hj; omega
          have := hcc (j + 1) hj1
          rw [show ol + 1 + j = ol + (j + 1) by omega, this]
          simp)
      have HT4 : Hid (la.l.tail.length = 3) := Hid.intro (by simp [hl4])
      have HRW := Hid.intro hR
      have HWB : Hid (Below w2.heap.size w2 wr) := Hid.intro (HB4.out.trans (HXS.out.bel.mono HB4.out.size))
      clear hR hCw hp3 hl4 hlac hlp hps cC0 cC1
      go_wp2_with fail
      refine wp_region_then (by kernel_rfl) Gr (fun _ W => Below wr.heap.size wr W)
        (tab [(53, kIs (.pointer (some ⟨C, 0, none⟩))), (54, kIs (.slice m.p m.l.length m.c)), (55, kLit4), (56, kIs (.pointer (some ⟨C, 1, none⟩))), (57, kIs (.slice (some ⟨bl, ol, none⟩) 4 la.c)), (58, kIs (.slice (some ⟨bl, ol + 1, none⟩) 3 (la.c - 1))), (59, kRd4 la.l.tail), (60, kIs (.pointer (some ⟨C, 2, none⟩))), (61, kIs (.slice (some ⟨bs, os, none⟩) ps.l.length ps.c)), (62, kAg4 m la.l.tail (.slice (some ⟨bs, os, none⟩) ps.l.length ps.c)), (7, kVY wr.heap.size)])
        11 _ [53, 54, 55, 56, 57, 58, 59, 60, 61, 62, 7] rfl rfl (by kernel_rfl) (by kernel_rfl) rfl (by kernel_rfl) ?_ ?_ ?_ ?_
      · refine tabR_stable ?_
        intro x hx
        simp only [List.mem_cons, List.not_mem_nil, or_false] at hx
        rcases hx with rfl | rfl | rfl | rfl | rfl | rfl | rfl | rfl | rfl | rfl | rfl
        all_goals intro w w' v hr hv
        all_goals first | exact hv | exact kLit4_gr hr hv | exact kRd4_gr hr hv | exact kAg4_gr hr hv | exact kVY_gr hr hv
      · exact (Below.refl _ _).drew
      · refine ops_cons (gd rfl <| tx_pure rfl rfl (fun _ _ h => h) Gr.refl (fun i ρ W hat hW => ?_)) ?_
        · have e3 := hat.out 3 (by kernel_rfl)
          simp [Act.eval] at e3
          simp only [execOp, e3]; go_simp
        refine ops_cons (gd rfl <| tx_pure rfl rfl (fun _ _ h => h) Gr.refl (fun i ρ W hat hW => ?_)) ?_
        · have e53 : ρ (.tmp 53) = _ := hat.dep 53 (by kernel_rfl)
          obtain ⟨c0, c1, c2⟩ := HCY.out W hW
          simp only [execOp, e53]; go_simp
        refine ops_cons (gd rfl <| tx_val rfl (fun i ρ W _ hat hW => ?_)) ?_
        · have hcn := hat.con
          have hg := below_nw W (.cells #[.int .i64 4] 3)
          exact ⟨.slice (some ⟨W.heap.size, 0, none⟩) 1 1, W.alloc (.cells #[.int .i64 4] 3), by simp only [execOp, hcn]; go_simp, hW.trans (hg.mono hW.size), hg, ⟨W.heap.size, rfl, nw_k _ rfl⟩⟩
        refine ops_cons (gd rfl <| tx_pure rfl rfl (fun _ _ h => h) Gr.refl (fun i ρ W hat hW => ?_)) ?_
        · have e3 := hat.out 3 (by kernel_rfl)
          simp [Act.eval] at e3
          simp only [execOp, e3]; go_simp
        refine ops_cons (gd rfl <| tx_pure rfl rfl (fun _ _ h => h) Gr.refl (fun i ρ W hat hW => ?_)) ?_
        · have e56 : ρ (.tmp 56) = _ := hat.dep 56 (by kernel_rfl)
          obtain ⟨c0, c1, c2⟩ := HCY.out W hW
          simp only [execOp, e56]; go_simp
        refine ops_cons (gd rfl <| tx_pure rfl rfl (fun _ _ h => h) Gr.refl (fun i ρ W hat hW => ?_)) ?_
        · have e57 : ρ (.tmp 57) = _ := hat.dep 57 (by kernel_rfl)
          have hcn := hat.con
          simp only [execOp, e57]; go_simp
        refine ops_cons (gd rfl <| tx_val rfl (fun i ρ W _ hat hW => ?_)) ?_
        · obtain ⟨g, e55, hE⟩ : kLit4 W (ρ (.tmp 55)) := hat.dep 55 (by kernel_rfl)
          have e58 : ρ (.tmp 58) = _ := hat.dep 58 (by kernel_rfl)
          exact tv_lit4 (s := 55) (x := 58) rfl e55 hE e58 (HT3.out W hW) HT4.out (fun p' c' W' r2 r3 => ⟨hW.trans (r3.mono hW.size), r3, ⟨p', c', rfl, r2⟩⟩)
        refine ops_cons (gd rfl <| tx_pure rfl rfl (fun _ _ h => h) Gr.refl (fun i ρ W hat hW => ?_)) ?_
        · have e3 := hat.out 3 (by kernel_rfl)
          simp [Act.eval] at e3
          simp only [execOp, e3]; go_simp
        refine ops_cons (gd rfl <| tx_pure rfl rfl (fun _ _ h => h) Gr.refl (fun i ρ W hat hW => ?_)) ?_
        · have e60 : ρ (.tmp 60) = _ := hat.dep 60 (by kernel_rfl)
          obtain ⟨c0, c1, c2⟩ := HCY.out W hW
          simp only [execOp, e60]; go_simp
        refine ops_cons (gd rfl <| tx_val rfl (fun i ρ W _ hat hW => ?_)) ?_
        · have e54 : ρ (.tmp 54) = _ := hat.dep 54 (by kernel_rfl)
          obtain ⟨p1, c1, e59, h59⟩ : kRd4 la.l.tail W (ρ (.tmp 59)) := hat.dep 59 (by kernel_rfl)
          have e61 : ρ (.tmp 61) = _ := hat.dep 61 (by kernel_rfl)
          exact ⟨.agg #[.slice m.p m.l.length m.c, .slice p1 4 c1, .slice (some ⟨bs, os, none⟩) ps.l.length ps.c], W, by simp only [execOp, e54, e59, e61]; go_simp, hW, Gr.refl _, ⟨p1, c1, rfl, h59⟩⟩
        refine ops_cons (gd rfl <| tx_val rfl (fun i ρ W _ hat hW => ?_)) ?_
        · have hg := below_nw W (.cells #[.slice none 0 0, .slice none 0 0, .slice none 0 0] 27)
          exact ⟨.pointer (some ⟨W.heap.size, 0, none⟩), W.alloc (.cells #[.slice none 0 0, .slice none 0 0, .slice none 0 0] 27), by simp only [execOp]; go_simp, hW.trans (hg.mono hW.size), hg, ⟨W.heap.size, rfl, nw_k _ rfl, hW.size⟩⟩
        exact ops_nil
      · intro f W hW hf
        obtain ⟨p1, c1, e62, h59⟩ : kAg4 m la.l.tail (.slice (some ⟨bs, os, none⟩) ps.l.length ps.c) W (f 62) := hf 62 (by simp)
        obtain ⟨Y, e7, hY, hMY⟩ : kVY wr.heap.size W (f 7) := hf 7 (by simp)
        clear hf
        have hXl := heap_lt HXS.out.hX
        have y0 : W.cell? ⟨Y, 0, none⟩ = some (.slice none 0 0) := heap_cell hY 0
        have y1 : W.cell? ⟨Y, 1, none⟩ = some (.slice none 0 0) := heap_cell hY 1
        have y2 : W.cell? ⟨Y, 2, none⟩ = some (.slice none 0 0) := heap_cell hY 2
        have f0 : W.frozen? ⟨Y, 0, none⟩ = false := heap_free hY 0
        have f1 : W.frozen? ⟨Y, 1, none⟩ = false := heap_free hY 1
        have f2 : W.frozen? ⟨Y, 2, none⟩ = false := heap_free hY 2
        have hYs := heap_set (heap_set (heap_set hY 0 (.slice m.p m.l.length m.c)) 1 (.slice p1 4 c1)) 2 (.slice (some ⟨bs, os, none⟩) ps.l.length ps.c)
        have hne : ∀ x, x ≠ Y → (((W.setCell ⟨Y, 0, none⟩ (.slice m.p m.l.length m.c)).setCell ⟨Y, 1, none⟩ (.slice p1 4 c1)).setCell ⟨Y, 2, none⟩ (.slice (some ⟨bs, os, none⟩) ps.l.length ps.c)).heap[x]? = W.heap[x]? := fun x hx => (heap_set_ne hx).trans ((heap_set_ne hx).trans (heap_set_ne hx))
        have hYb : Below wr.heap.size wr (((W.setCell ⟨Y, 0, none⟩ (.slice m.p m.l.length m.c)).setCell ⟨Y, 1, none⟩ (.slice p1 4 c1)).setCell ⟨Y, 2, none⟩ (.slice (some ⟨bs, os, none⟩) ps.l.length ps.c)) := ((hW.setCell (p := ⟨Y, 0, none⟩) hMY _).setCell (p := ⟨Y, 1, none⟩) hMY _).setCell (p := ⟨Y, 2, none⟩) hMY _
        obtain ⟨W3, hW3⟩ : ∃ W3, W3 = (((W.setCell ⟨Y, 0, none⟩ (.slice m.p m.l.length m.c)).setCell ⟨Y, 1, none⟩ (.slice p1 4 c1)).setCell ⟨Y, 2, none⟩ (.slice (some ⟨bs, os, none⟩) ps.l.length ps.c)) := ⟨_, rfl⟩
        have HYI : Hid (yI.rd W3 ⟨p1, c1, 4 :: la.l.tail⟩) := Hid.intro (by
          rw [hW3]
          refine rdI.of h59 (by simp) (fun c hc => hne c (fun e => ?_))
          obtain ⟨h1, h2, h3⟩ := yI_rd.1 h59
          rw [yI_foot] at hc
          obtain ⟨_, y, e1, e2⟩ := blk_mem hc
          rcases h3 with h3 | ⟨b9, off, e9, hlt9, hcc⟩
          · cases h3
          · have e1 : p1 = some y := e1
            have e9 : p1 = some ⟨b9, off, none⟩ := e9
            rw [e9] at e1; cases e1; simp only at e2
            have h0 := hcc 0 (by simp)
            rw [e2, e, heap_cell hY] at h0
            have hlt3 : off + 0 < 3 := (Array.getElem?_eq_some_iff.1 h0).1
            rcases (show off + 0 = 0 ∨ off + 0 = 1 ∨ off + 0 = 2 by omega) with e0 | e0 | e0 <;> rw [e0] at h0 <;> cases h0)
        have hYb3 : Below wr.heap.size wr W3 := by rw [hW3]; exact hYb
        have hY3 : W3.heap[Y]? = some (.cells #[.slice m.p m.l.length m.c, .slice p1 4 c1, .slice (some ⟨bs, os, none⟩) ps.l.length ps.c] 27 (0, 0)) := by rw [hW3]; simpa using hYs
        have hX3 : W3.heap[X]? = some (.cells #[.slice m.p m.l.length m.c, .slice la.p la.l.length la.c, .slice pp k cp] 27 (0, 0)) := (hYb3.block X hXl).trans HXS.out.hX
        have HBX : Hid (Calls Try.prog 8 #[.agg #[.slice m.p m.l.length m.c, .slice la.p la.l.length la.c, .slice pp k cp]] W3 fun e w' => e = .returned (.bool true) ∧ Below W3.heap.size W3 w') := Hid.intro (by
          obtain ⟨z1, z2, z3⟩ := yBusCfg_law.rd_blw HRW.out.1 hYb3
          have hk3' : k = 3 := HK3.out
          have htk : ps.l.take k = ps.l := List.take_of_length_le (by have := HPS3.out.2; omega)
          have hxs : ((ps.l.take k).map preQ).length = k := by simp; have := HPS3.out.2; omega
          have hrd3 : yReqReqSS.rd W3 ⟨pp, cp, (ps.l.take k).map preQ⟩ := by
            rcases HXS.out.row with ⟨_, _, e, _⟩ | ⟨g, e, hO, hc⟩
            · omega
            · rw [e]
              refine row_rd (K := yReqReqS) yReqReqS_law (by rw [hxs]; exact hO.of (hYb3.block g hO.lt)) hc (fun x hx => ?_)
              obtain ⟨y, hy, rfl⟩ := List.mem_map.1 hx
              exact pre_rd (z3.2.2.2 y (List.mem_of_mem_take hy))
          have h9 := impl_BusOk HI.out (m, la, (⟨pp, cp, (ps.l.take k).map preQ⟩ : Lst (Lst QT'))) W3 ⟨z1, z2, hrd3⟩
          have e9 : yBusCfg.val (m, la, (⟨pp, cp, (ps.l.take k).map preQ⟩ : Lst (Lst QT'))) = .agg #[.slice m.p m.l.length m.c, .slice la.p la.l.length la.c, .slice pp k cp] := by
            rw [yBusCfg_val]
            simp only [hxs]
          rw [e9] at h9
          have ez : busOkP (yBusCfg.pl (m, la, (⟨pp, cp, (ps.l.take k).map preQ⟩ : Lst (Lst QT')))) = true := by
            have h10 := busX HBZ.out
            rw [HZ.out] at h10
            have e10 : yBusCfg.pl (m, la, (⟨pp, cp, (ps.l.take k).map preQ⟩ : Lst (Lst QT'))) = ((yBusCfg.pl (m, la, ps)).1, (yBusCfg.pl (m, la, ps)).2.1, (yBusCfg.pl (m, la, ps)).2.2.map (fun l => l.take (l.length - 1))) := by
              show (yMapRangeS.pl m, yI.pl la, ((ps.l.take k).map preQ).map yReqReqS.pl) = (yMapRangeS.pl m, yI.pl la, (ps.l.map yReqReqS.pl).map (fun l => l.take (l.length - 1)))
              rw [htk, List.map_map, List.map_map]
              congr 2
              refine List.map_congr_left (fun x _ => ?_)
              show (x.l.take (x.l.length - 1)).map yReqReq.pl = (x.l.map yReqReq.pl).take ((x.l.map yReqReq.pl).length - 1)
              rw [List.length_map, List.map_take]
            rw [e10]; exact h10
          rw [ez] at h9
          exact h9)
        have x0 : W3.cell? ⟨X, 0, none⟩ = some (.slice m.p m.l.length m.c) := heap_cell hX3 0
        have x1 : W3.cell? ⟨X, 1, none⟩ = some (.slice la.p la.l.length la.c) := heap_cell hX3 1
        have x2 : W3.cell? ⟨X, 2, none⟩ = some (.slice pp k cp) := heap_cell hX3 2
        rw [hW3] at x0 x1 x2
        have HYB := Hid.intro hYb3
        have HY3 := Hid.intro hY3
        clear hYs hne hYb hX3 hYb3 hY3 hY hW h59 hMY
        simp only [fill, e62, e7]
        go_simp
        go_wp2_with fail
        rw [← hW3]
        clear hW3 y0 y1 y2 f0 f1 f2
        refine HBX.out.mono ?_
        rintro e W4 ⟨rfl, hb9⟩
        have hY4 := (hb9.block Y (heap_lt HY3.out)).trans HY3.out
        have y0 : W4.cell? ⟨Y, 0, none⟩ = some (.slice m.p m.l.length m.c) := heap_cell hY4 0
        have y1 : W4.cell? ⟨Y, 1, none⟩ = some (.slice p1 4 c1) := heap_cell hY4 1
        have y2 : W4.cell? ⟨Y, 2, none⟩ = some (.slice (some ⟨bs, os, none⟩) ps.l.length ps.c) := heap_cell hY4 2
        have HBY : Hid (Calls Try.prog 8 #[.agg #[.slice m.p m.l.length m.c, .slice p1 4 c1, .slice (some ⟨bs, os, none⟩) ps.l.length ps.c]] W4 fun e w' => e = .returned (.bool false) ∧ Below W4.heap.size W4 w') := Hid.intro (by
          have hb4 := HYB.out.trans (hb9.mono HYB.out.size)
          obtain ⟨z1, z2, z3⟩ := yBusCfg_law.rd_blw HRW.out.1 hb4
          have h9 := impl_BusOk HI.out (m, (⟨p1, c1, 4 :: la.l.tail⟩ : Lst Int), ps) W4 ⟨z1, yI_law.rd_blw HYI.out hb9, z3⟩
          have e9 : yBusCfg.val (m, (⟨p1, c1, 4 :: la.l.tail⟩ : Lst Int), ps) = .agg #[.slice m.p m.l.length m.c, .slice p1 4 c1, .slice (some ⟨bs, os, none⟩) ps.l.length ps.c] := by
            rw [yBusCfg_val, H43.out.2.2.1]
            simp only [List.length_cons, HT4.out]
          rw [e9] at h9
          have ez : busOkP (yBusCfg.pl (m, (⟨p1, c1, 4 :: la.l.tail⟩ : Lst Int), ps)) = false := by
            have e10 : yBusCfg.pl (m, (⟨p1, c1, 4 :: la.l.tail⟩ : Lst Int), ps) = (yMapRangeS.pl m, 4 :: la.l.tail, yReqReqSS.pl ps) := by
              show (yMapRangeS.pl m, yI.pl ⟨p1, c1, 4 :: la.l.tail⟩, yReqReqSS.pl ps) = _
              rw [yI_pl]
            rw [e10]; exact busY _ _ _
          rw [ez] at h9
          exact h9)
        have HEND : Hid (∀ W, Below W4.heap.size W4 W → Below w.heap.size w W) := Hid.intro (fun W hW => by
          have h1 := HYB.out.trans (hb9.mono HYB.out.size)
          exact (HRD.out W ((HWB.out.trans (h1.mono HWB.out.size)).trans (hW.mono (Nat.le_trans HWB.out.size h1.size)))).2.2)
        clear hb9 hY4 HBX HY3 HYB HYI HRW HCY HT3 HT4 HXS H43 HZ HBZ HRD HB4 HPS3 HLC HWB x0 x1 x2
        go_wp2_with fail
        refine HBY.out.mono ?_
        rintro e W5 ⟨rfl, hb5⟩
        have hend := HEND.out W5 hb5
        clear HBY HEND hb5 y0 y1 y2
        go_wp2
        go_ret
        exact ⟨rfl, hend⟩

end Go.Proofs.Ytlifkfemdknndaa

/-
  Proved: the law FnBusOk: a bus with less asked is a bus. At every code (a row of bytes of any length) the law answers true and leaves its argument as it was. No condition.
-/
namespace Go.Proofs.Ytlifkfemdknndaa.fnBusOk
open Go.ChangeShapes Go.WideShapes Go.ChangeAt Go.RowKit
set_option linter.unusedVariables false
set_option linter.unusedSimpArgs false

set_option maxRecDepth 100000 in
theorem lifted (hI : ReqOkC) (os : Os) (started : os.Started) (H : Type) (enc : TypeId × Value → H) :
    ReturnsInHanded {} Try.checked os 3 .any (Rows.fnBusOkSpec.pre6 enc Try.prog Try.f3 Rows.fnBusOkRow.domain false) (Rows.fnBusOkSpec.post enc Try.prog Try.f3 false true false false) := by
  refine returnsInHanded_of_change (C := Try.checked) ownB started (by kernel_rfl) Try.func3
    (ChangeSpec.witness6 (enc := enc) (C := Try.checked) false ⟨#[], #[.slice none 0 0], []⟩ 8 (by kernel_rfl) (by kernel_rfl) (by kernel_rfl) (by kernel_rfl)) ?_
  intro W base args ds gs before hval0 hW hcnd _
  have hval : ∀ (j : Nat) t v, Try.f3.params[j]? = some t → args[j]? = some v → Value.okWide Try.prog W .any base t v := hval0
  have hW' := hW
  obtain ⟨p, q, hA0, hV, rfl, hfz, hnd⟩ := hW
  have hA : DataW.TrodAll enc Try.prog W 0 (fun _ => true) true Try.f3.params.toList args.toList ds p := hA0
  rw [Try.params3] at hA hval
  obtain ⟨v0, vs0, d0, ds0, p0, q0, hargs, rfl, rfl, h0, r0⟩ := trodAll_cons hA
  obtain ⟨rfl, rfl, rfl⟩ := trodAll_nil r0
  obtain rfl : args = #[v0] := by cases args; simp_all
  obtain ⟨rfl, rfl⟩ := trodVars_none hV
  obtain ⟨a0, len0, cap0, rfl⟩ := okWide_slice Try.underlying22 (hval 0 22 v0 rfl rfl)
  have k0 := h0
  have lt0 : ∀ x ∈ p0, x.block < W.heap.size := by obtain ⟨m, hm⟩ := k0; exact DataW.trod_lt m _ _ _ hm
  obtain ⟨hx, hc, hm⟩ := open_bytes h0
  clear hA0 hval0
  refine (walkC_FnBusOk hI a0 len0 cap0 W hc hm hx).mono fun e W' ⟨he, bel⟩ => ?_
  subst he
  exact ⟨_, rfl, _, _, _, [], _, [], hW', trodAll_mk1 (shut_bool Try.underlying4 _), (trodAll_cons_mk (Below.trod laidOutC (by kernel_rfl) (of_decide_eq_true (by kernel_rfl)) k0 bel lt0) trodAll_mk0), rfl, bel.frame _, fun h => by cases h⟩

theorem over (hI : ReqOkC) : Rows.fnBusOkRow.holds Try.pinned (OpenSpec.ofChange Rows.fnBusOkSpec) :=
  OpenClaim.holds_of_wide 3 Try.f3 rfl rfl rfl rfl rfl rfl rfl ⟨rfl, rfl, rfl, rfl, rfl⟩ rfl rfl rfl rfl rfl (by kernel_rfl) Try.func3 (by kernel_rfl)
    (of_decide_eq_true (by kernel_rfl)) (by unfold Func.isWrapper; first | (rw [if_pos (by decide +kernel)]; kernel_rfl) | (rw [if_neg (by decide +kernel)]; exact ⟨rfl, rfl⟩))
    (fun os started H enc _ => lifted hI os started H enc)

theorem proved_of (hI : ReqOkC) : Rows.FnBusOkSaid := over hI
end Go.Proofs.Ytlifkfemdknndaa.fnBusOk

namespace Go.Proofs.Ytlifkfemdknndaa.fnBusOk

theorem proved : Rows.FnBusOkSaid := proved_of impl_ReqOk
end Go.Proofs.Ytlifkfemdknndaa.fnBusOk
